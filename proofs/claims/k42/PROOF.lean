import PyProof.Rows.All
import Wide.All
import OpenK.AllK
import Wide.FinOn
import Lean
import PyProof.EqAt
import PyProof.EqKinds
import PyProof.TupleCall
import PySem.Challenge.RW_acre_k42_rings_by_left_turns
open PySem renaming wpAny_bind→kA,Value→kB,Shared→kC,wpAny_pure→kF,Program→kq,mainGlobals→kx,World→pX,Around→pj,tupleKind→uW,mem_of_lookup→uh,starEach→ui,wpAny_holding→uq,plainId_quiet→QN,wpAny_mono→QQ,tupleKind_room_in1→QY,codeAny_builtin→Qb,argBest→Qg,rawInt→Qo,sysModules→Qr,bootBuiltins→Qy,wpAny_truthy_bool→Qz,wpAny_rule→UE,wpAny_seqItems→UM,wpAny_tryCatch→UN,wpAny_typeNameOfWhole_keyiter→UO,compareOp→UQ,wpAny_newObj_type→UR,FuncData→UZ,wpAny_call_entry→Ue,wpAny_passesOwn→Ul,wpAny_letGo→Us,wpAny_dictEntries→Ut,wpAny_newList→Uz,wpAny_typeNameOf_keyiter→vA,wpAny_isInstance→vJ,wpAny_Call_Name_kw→vS,wpAny_updateSeq→vZ,codeAny→vk,Builtin→vo,backTo→vv,keywordEach→vw,Fin→jC,wpAny_forIn_list→jE,wpAny_specialOf→jS,sliceBounds→jV,Paired→jZ,foldedSetIterable→jc,binaryOp→jd,richCompare_meets_room→jg,tupleKeyHash→jj,wpAny_notOrdered_dict→jt,wpAny_isOneOf_keyiter→jw,isSubtype_tuple_tuple→jx,assignEach→jy,behindInMarks→hZ,wpAny_standAt→gC,compEnvC→gH,richCompare→gJ,wpAny_execs_nil→gQ,letOwnedTupleGo→gT,seqItems?→gz,backToKw→AD,NameKind→AE,wpAny_fieldsOf→AK,wpAny_tupleItemsOf→AL,wpAny_pyIter_list→AY,sizeLine_eq→AZ,Keyword→Aa,wpAny_Call_method→Ad,attributeBase→Ai,wpAny_attempt→Ak,Arguments→Ao,DictEntry→At,wpAny_callSpecial?_slot→Aw,builtinsNs→BC,codeAny_mono→BD,call_meets→BH,wpAny_Assign_Subscript→BJ,call_meetsIn→BK,isInstance→BN,wpAny_loadPart'→BV,size_of_entries→BX,wpAny_dictEpoch→BY,wpAny_isTrue_Compare1→Be,intBits_le_iff→Bo,wpAny_newFunctionEnv→Bp,wpAny_newTuple→Bq,wpAny_of_eq→Bu,dictSetDefault→Bv,wpAny_updateDictKeys→Bw,swapsWith→CF,callerA→CG,valueAt→CH,wpAny_dictFind_heap→CI,assignInOrder→CM,Spec→CQ,closureFor→CS,PyData→CT,wpAny_setItem_heap→CV,call_function_tree→Ca,wpAny_assign_Name→Cd,BindsTo→Cf,bindArgs→Cg,getItem→Ch,slot_list_getitem→Ci,storedH→Co,wpAny_eqBool_int→Cy,wpAny_execs_cons→Cz,pyNext→DA,Result→DB,wpAny_Dict_empty→DI,eqIsQuiet→DJ,pairTrees_length→DO,storedH_new→DU,entryOfKey→Df,wpAny_Name→Dg,bindName→Dh,call→Dk,checkCount→Dm,cellsFrom→EI
open List renaming getElem?_eq_some_iff→kD,getElem?_eq_getElem→kI,length_append→kK,length_map→kL,getD_eq_getElem?_getD→kR,mem_cons_of_mem→kT,mem_singleton→kU,mem_append→kW,take_of_length_le→kX,length_take→kY,mem_append_right→kh,map_cons→ki,length_drop→kj,mem_map→km,mem_of_getElem?→ko,mem_cons→pF,append_assoc→pL,nodup_iff_pairwise_ne→pM,mem_iff_getElem→pN,mem_range→pO,getElem?_map→pS,mem_iff_getElem?→pW,size_toArray→pZ,getElem?_append_right→pd,length_singleton→pg,getElem?_append_left→po,range→uB,take_add_one→uC,length_cons→uD,take_append_drop→uE,mem_cons_self→uJ,map_append→uL,length_range→uO,mem_append_left→uP,getElem?_eq_none→uS,append_nil→uT,toArray→uX,pairwise_map→uc,getElem_drop→ud,lookup_cons→uj,getElem_take→uk,getElem?_toArray→ut,pairwise_singleton→uw,take_zero→uz,drop_eq_getElem_cons→QF,getElem_mem→QP,perm_append_comm→QU,find?_cons→Qa,map_nil→Qe,mem_reverse→Qh,mem_of_mem_take→Qw,flatMap_cons→UA,pairwise_iff_getElem→UC,Nodup→UG,filter_append→UH,drop_drop→UL,nodup_append→US,getElem?_cons_zero→UU,mem_filter→UV,nil_append→UY,map_congr_left→Ua,map_map→Ud,cons_append→Uf,getElem?_drop→Uh,map→Uj,length_replicate→Uk,mem_of_mem_drop→Uv,getElem?_take_of_lt→Uy,drop_zero→vE,not_mem_nil→vF,nodup_nil→vG,getElem?_cons_succ→vL,getElem?_set_self→vQ,drop_of_length_le→vV,range_succ→vd,getElem?_set_ne→vt,getElem?_range→jJ,flatMap_append→jK,nodup_cons→jQ,length_nil→jR,filter_cons_of_pos→jY,reverse_perm→jk,drop_take→jl,take_succ_eq_append_getElem→jm,drop_eq_nil_of_le→jn,ext_getElem?→jq,filter_cons→hX,eq_nil_of_length_eq_zero→gM,of_mem_zip→gX,idxOf_cons→gh,filterMap_cons→gq,replicate→AF,zip_cons_cons→AH,take_take→AN,pairwise_cons→AQ,getElem?_take→AR,length→Ab,take_sublist→Ac,getElem?_inj→Af,any_cons→Al,getElem_inj→Am,getElem?_replicate→An,ext_getElem→Ap,mem_flatten→BA,filter_cons_of_neg→BB,forIn_cons→BS,length_filter_le→Bm,drop_eq_nil_iff→Bt,reverse_reverse→CA,reverse_append→CL,map_take→CP,reverse_cons→Cj,drop_sublist→Cr,flatten_cons→Cv,map_snd_zip→DE,take_append→DM,flatMap_nil→DQ,length_set→Db,forIn_nil→Dp,map_drop→EF
open PyProof.Rows renaming wpS_pure→kG,wpS_bind→kH,Keyed→ke,seqObj→pI,pendingOf→pQ,listItems_at→uI,wpS_forRange→uN,SortSt→uZ,wpS_modify→uf,setArr→ur,SortKind→QM,wpS_mono→Qj,listUpdate_at→UJ,get?_update_seq→Um,mirror_perm→Ur,failedOf→vC,IntsAre→vm,seqEpoch_at→vz,wpS_get→jT,keyKind'→gI,getElem?_mirror_all→gr,callWith_type1→gt,assignInOrder_cons→AB,wpS_lift→AO,AllBare→AX,envOfC→BE,subscriptTail_builtinR→BG,entry_list_sort→BU,getElem?_bubble→BZ,slot_list_sort→Br,gallopOf→Bz,subscriptTail→CN,setPending→CZ,assignInOrder_nil→Ce,plain_sorted→Ck,entry_sorted→Cl,collect_list→Cm,wpAny_notIn_heap→DH,bubble_perm→DR,kind_sorted→DS,list_sort_plain→DW,Subscript_→Di,size_push'→Dl,keyLt'→Dn,oneType'→Dq
open Nat renaming le_refl→kJ,lt_of_lt_of_le→pG,le_trans→pV,zero_le→pY,ne_of_lt→uH,lt_of_le_of_lt→ul,le_of_lt→uv,min_eq_left→Qd,le_of_eq→Qp,lt_or_eq_of_le→Qu,le_succ→Qv,pow_le_pow_right→Uq,lt_or_ge→Uu,lt_irrefl→Ux,add_assoc→vB,ne_of_gt→vR,add_sub_cancel→vW,lt_succ_self→jF,succ_le_succ→jH,lt_succ_of_lt→jh,lt_trichotomy→ji,sub_self→jp,succ_pos→gu,gcd_dvd_right→Ag,gcd_dvd_left→Ay,mod_eq_of_lt→Az,add_zero→BQ,zero_lt_one→Ba,not_lt_zero→Bb,not_lt→CU,mod_lt→Cb,lt_trans→Cp,gcd_mul_right→Ct,zero_add→Cu,le_max_right→DN,mul_lt_mul''→DP,min_le_left→DY,le_antisymm→Da,mod_add_mod→Dc,dvd_trans→EB,reduceAdd→EC,reduceSub→ED,sub_zero→EK,le_zero→ER,pow_add→ET,one_mul→EU,gcd→Ed
open PySem.W renaming Frag→kM,fnOf→kO,codeIn→pE,keepIn→pH,nsIn→pR,mg_of→pU,mg_none_of→UI,kat_cons→vD,kat_yes→vY,kat_no→AI,methodObj→AW,tabIn→Aj,cellsFrom_some→BF,OpenLaw→BW,kat_snds→DF,kat_kind→DG,kat_run→DX,kat_nil→DZ,kat_lt→Do,WalkO→Dy
open PySem.Heap renaming get?_push_of_some→kN,get?_push_size→pJ,lt_size→pK,get?_update_other→QJ,get?_update_ne→Qk,get?_update_self→Qn,SameBut→Uo,size_push→jf,size_update→Aq
open PySem.Value renaming ref→kZ,none→uA,int→UP,type→vq,isStrOf→Dx,str→EG,isInt→EO,bool→Ea
open Array renaming length_toList→kc,toList_append→ku,getD_eq_getD_getElem?→pC,getElem_toList→uM,getElem?_eq_getElem→uV,toList_reverse→QZ,getElem_mem→Qm,getElem?_toList→UD,getD→UF,toList_inj→jD,size_extract→jU,perm_iff_toList_perm→AG,forIn_toList→AM,toList_push→Ae,getElem_extract→Bj,mem_toList_iff→By,toList_modify→CK,toList_zip→DL
open Bool renaming false_eq_true→kz,false_ne_true→pf,eq_iff_iff→UX,not_true→vf,eq_false_iff→jr,not_eq_true'→Cq,and_false→Dj,not_false→Dr,false_or→Dz,true_or→EJ
open Or renaming inl→pB,inr→jz
open PySem.F renaming plainAttrs_list→pD,slot_list_append→uF,type_list_append→uG,slot_dict_keyiterator_next→Qt,plain_min_loop→Qx,plain_max_loop→vI,slot_tuple_hash→vK,slot_list_index→vO,type_list_index→vP,slot_tuple_eq→vh,args_dict_keyiterator_next_1→jI,entry_dict_keyiterator_next→jM,slot_list_extend→jN,type_list_extend→jO,plainAttrs_dict→jW,slot_dict_get→js,slot_list_lt→gO,slot_dict_setdefault→gY,args_tuple_lt_2→Ar,args_dict_get_3→Au,entry_max_loop→Av,entry_min_loop→Ax,entry_tuple_lt→BI,entry_dict_get→BL,slot_dict_iter→BM,args_list_lt_2→BP,slot_tuple_lt→Bf,entry_list_lt→Bh,slot_dict_pop→Bk
open LawfulBEq renaming eq_of_beq→pP
open PySem.Obj renaming mapSeq→pT,data_mapDictKeys→jB,isFreed_of_dict→CJ,data_mapFields→CY,mapFields→EA
open PySem.PassesOwn renaming never→pz
open Option.some renaming inj→uK,injEq→vn
open PySem.PyData renaming canLayAll0→uQ,depthAll→uU,eqvAll→QD,eqv→Qs,canLay0→UK,int→vT,depth→vU,tuple→Cn
open PySem.MeetsSeq3 renaming plain_eq_loop→uR,entry_eq_loop→UT
open PySem.Around renaming under_plainId→uY,frames_deeper→Bn
open Prod renaming ext→ue,fst→Dv,snd→EV
open List.Perm renaming append_left→ug,trans→gc
open PySem.NameKind renaming free→QB,cell→CO
open Option renaming map_some→QL,map_eq_some_iff→Qf,isSome_map→vp,isSome_iff_exists→Ah,getD_none→DC,none→EQ
open PySem.Builtin.Builtins renaming bindParams→QV
open Int renaming fdiv_eq_ediv_of_nonneg→QX,toNat_natCast→Ql,eq_of_mul_eq_mul_right→Ui,zero_add→Uw,natAbs_mul→vM,mul_le_mul_of_nonneg_right→vN,le_of_lt→vX,mul_comm→jG,mul_pos→jX,mul_ediv_mul_of_pos_left→gf,mul_lt_mul_of_pos_right→gv,fmod_eq_emod_of_nonneg→AC,ofNat_dvd_left→AS,emod_lt_of_pos→AT,lt_of_mul_lt_mul_left→AV,zero_mul→BR,emod_nonneg→Bd,fmod_add_mul_fdiv→Bl,mul_zero→Cw,mul_eq_zero→Dd,mul_le_mul→Dt,mul_nonneg→Dw,add_assoc→EE,le_trans→EL,add_zero→EN,le_refl→ES,add_mul→EW,one_mul→EX,mul_neg→EY,neg_mul→EZ
open PySem.Builtin.Tuple renaming tupleHashOf→Qi
open PySem.Str renaming ofString→Qq
open PySem.Heap.SameBut renaming update→UB
open False renaming elim→UW
open PySem.Calls renaming callWith_builtin→Ub,spliced_cons→Ug,evalArgs_plain→vx,spliced_nil→je,Name_function_global→AA,call_function_entry→AU
open PySem.SeqAt renaming shaped→Uc
open ToString renaming toString→vH
open List.cons renaming injEq→vc
open PySem.Paired renaming length→ve,snoc→DT
open Prod.mk renaming injEq→vg
open True renaming intro→jA
open PySem.Builtin.List renaming listTooLong→jL
open Ne renaming symm→jP
open PyProof.Rows.SortSt renaming mk'→hV
open PySem.Data renaming fields→gE,cell→EH
open PySem.Builtin.Dict_items renaming ownsTuple→gZ
open PySem.Builtin.Dict renaming keyAndDefault→AJ,showsAll→Bg,takeOut→CB
open PySem.W.Looks renaming ld→As
open PySem.AutoSeq1 renaming sub_list_list→BO
open StateT renaming run_pure→BT
open Array.Perm renaming refl→Bc
open List.Pairwise renaming sublist→Bi
open Sum renaming inl→CC,inr→CD
open LawfulMonad renaming pure_bind→DD
open ForInStep renaming yield→DV
open Iff renaming rfl→De
open Nat.succ renaming inj→EM
open PUnit renaming unit→Eb
open PySem.Walks renaming list→Ec
local macro_rules
  | `(tactic| omega) => `(tactic| lia)
set_option Elab.async false
set_option linter.all false
set_option maxRecDepth 100000
set_option maxHeartbeats 4000000
namespace L2
open PySem PySem.Spec PyProof.Rows
abbrev Key:=Sum Int Str
def zmt:Key->kB->Bool
 |.inl k,v=>EO k v
 |.inr x,v=>Dx x v
def keyH(w:pX):Key->Int
 |.inl k=>hashInt k
 |.inr x=>hashStr w x
theorem zba:∀{k:Key}{v:kB},zmt k v=true->(∃i t,k=CC i/\v=UP i t)∨(∃x t,k=CD x/\v=EG x t)
 |.inl i,v,h=>by
  obtain⟨t,e⟩:=Value.isInt_shape (k:=i) (v:=v) h;exact .inl ⟨i,t,rfl,e⟩
 |.inr x,v,h=>by
  obtain⟨t,e⟩:=Value.isStrOf_shape (x:=x) (v:=v) h;exact .inr ⟨x,t,rfl,e⟩
theorem zop(i:Int)(t:Tok):zmt (.inl i) (.int i t)=true:=by simp[zmt,EO]
theorem zon(x:Str)(t:Tok):zmt (.inr x) (.str x t)=true:=by simp[zmt,Dx]
theorem key_ll(a b:Int):decide ((CC a:Key)=CC b)=(a==b):=by
 by_cases e:a=b
 ·subst e;simp
 ·have h:¬(CC a:Key)=CC b:=fun q=>e (Sum.inl.inj q);rw[decide_eq_false h];exact(beq_eq_false_iff_ne.mpr e).symm
theorem key_rr(a b:Str):decide ((CD a:Key)=CD b)=decide (a=b):=by
 by_cases e:a=b
 ·subst e;simp
 ·have h:¬(CD a:Key)=CD b:=fun q=>e (Sum.inr.inj q);rw[decide_eq_false h,decide_eq_false e]
theorem key_lr(a:Int)(b:Str):decide ((CC a:Key)=CD b)=false:=decide_eq_false (fun q=>nomatch q)
theorem key_rl(a:Str)(b:Int):decide ((CD a:Key)=CC b)=false:=decide_eq_false (fun q=>nomatch q)
def zac(prog:kq)(w:pX):PySem.KeyKind prog w Key where
 is:=zmt
 hash:=keyH w
 inj:=fun v a b ha hb=>by
  rcases zba ha with⟨i,t,rfl,rfl⟩|⟨x,t,rfl,rfl⟩
  ·rcases zba hb with⟨j,u,rfl,e⟩|⟨y,u,rfl,e⟩
   ·injection e with e1 _;rw[e1]
   ·exact nomatch e
  ·rcases zba hb with⟨j,u,rfl,e⟩|⟨y,u,rfl,e⟩
   ·exact nomatch e
   ·injection e with e1 _;rw[e1]
 byValue:=fun k v h=>by
  rcases zba h with⟨i,t,rfl,rfl⟩|⟨x,t,rfl,rfl⟩<;>rfl
 pyHash:=fun hv h=>by
  rcases zba hv with⟨i,t,rfl,rfl⟩|⟨x,t,rfl,rfl⟩
  ·exact wpAny_pyHash_int h
  ·exact wpAny_pyHash_str h
 eqBool:=fun hu hv h=>by
  rcases zba hu with⟨i,t,rfl,rfl⟩|⟨x,t,rfl,rfl⟩
  ·rcases zba hv with⟨j,u,rfl,rfl⟩|⟨y,u,rfl,rfl⟩
   ·rw[key_ll] at h;exact Cy h
   ·rw[key_lr] at h;exact SeqAt.EqAt.int_str i t y u _ _ _ _ h
  ·rcases zba hv with⟨j,u,rfl,rfl⟩|⟨y,u,rfl,rfl⟩
   ·rw[key_rl] at h;exact SeqAt.EqAt.str_int x t j u _ _ _ _ h
   ·rw[key_rr] at h;exact wpAny_eqBool_str h
 «strs»:=fun k x t v h=>by
  rcases zba h with⟨i,u,rfl,e⟩|⟨y,u,rfl,e⟩
  ·exact nomatch e
  ·injection e with e1 _
   subst e1
   cases v<;>rfl
theorem zkj(prog:kq)(w:pX)(i:Int)(t:Tok):(zac prog w).is (.inl i) (.int i t)=true:=zop i t
theorem zk9(prog:kq)(w:pX)(x:Str)(t:Tok):(zac prog w).is (.inr x) (.str x t)=true:=zon x t
inductive V where
 |non|bl (b:Bool)|int (i:Int)|str (x:Str)|byt (b:Array UInt8)|flt (b:UInt64)|ref (a:Addr)|ty (n:String)
 deriving DecidableEq
def RelV:V->kB->Prop
 |.non,u=>u=uA
 |.bl b,u=>u=Ea b
 |.int i,u=>∃t,u=UP i t
 |.str x,u=>∃t,u=EG x t
 |.byt b,u=>∃t,u=Value.bytes b t
 |.flt b,u=>∃t,u=Value.float b t
 |.ref a,u=>u=kZ a
 |.ty n,u=>u=vq n
abbrev Vals:List V->List kB->Prop:=jZ RelV
theorem Vals.length{xs:List V}{us:List kB}(r:Vals xs us):xs.length=us.length:=ve r
theorem Vals.get:∀{xs:List V}{us:List kB}{i:Nat}{x:V},Vals xs us->xs[i]?=some x->∃u,us[i]?=some u/\RelV x u
 |_,_,_,_,.nil,e=>by simp at e
 |_,_,0,_,.cons r _,e=>by simp at e;subst e;exact⟨_,rfl,r⟩
 |_,_,i+1,x,.cons _ t,e=>by
  obtain⟨u,h1,h2⟩:=Vals.get (i:=i) (x:=x) t (by simpa using e)
  exact⟨u,by simpa using h1,h2⟩
theorem Vals.append:∀{xs ys:List V}{us ws:List kB},Vals xs us->Vals ys ws->Vals (xs++ys) (us++ws)
 |_,_,_,_,.nil,s=>s
 |_,_,_,_,.cons r t,s=>.cons r (Vals.append t s)
theorem Vals.take:∀{xs:List V}{us:List kB}(n:Nat),Vals xs us->Vals (xs.take n) (us.take n)
 |_,_,0,_=>.nil
 |_,_,_+1,.nil=>.nil
 |_,_,n+1,.cons r t=>.cons r (Vals.take n t)
theorem Vals.drop:∀{xs:List V}{us:List kB}(n:Nat),Vals xs us->Vals (xs.drop n) (us.drop n)
 |_,_,0,r=>r
 |_,_,_+1,.nil=>.nil
 |_,_,n+1,.cons _ t=>Vals.drop n t
def RelO:Option V->Option kB->Prop
 |some v,some u=>RelV v u
 |none,none=>True
 |_,_=>False
def KV{κ:Type}:List (κ×V)->List (κ×kB)->Prop:=jZ fun(p:κ×V)(q:κ×kB)=>p.1=q.1/\RelV p.2 q.2
def kV:Key->V
 |.inl i=>.int i
 |.inr x=>.str x
inductive HO where
 /--a list-/
 |lst (xs:List V)
 /--a tuple (never changes)-/
 |tup (xs:List V)
 /--a dict whose keys are ints and texts;one whose keys are tuples of ints and texts (the empty one is both)-/
 |dK (kvs:List (Key×V))|dT (kvs:List (List Key×V))
 /--a set of ints:its members,its size-/
 |set (S:Int->Bool) (n:Nat)
 /--an instance of the class at C,its dict at dx,its attributes-/
 |ins (C dx:Addr) (fs:List (Str×V))
 /--the dict of the instance at x-/
 |own (x:Addr)
 /--the dict of an exception-/
 |xd (fs:List (Str×V))
 /--a bound method,f of x-/
 |met (f x:Addr)
 /--a range object lo,lo+1,.. below hi-/
 |rng (lo hi:Int)
 /--a thing that is known to the object (the script;a dict while a loop walks it):read,never written while it is so-/
 |frz (o:Obj) (u:HO)
 /--a code object's table-/
 |tbl (ps:Array kB)
 /--any other thing,by what is true of its one object (a def of one's own:SetO a S n:=HO.ext fun h=>..)-/
 |ext (φ:Heap->Prop)
abbrev Hp:=Addr->Option HO
def upd(H:Hp)(a:Addr)(o:HO):Hp:=fun b=>if b=a then some o else H b
theorem upd_same{H:Hp}{a:Addr}{o:HO}:upd H a o a=some o:=by unfold upd;rw[if_pos rfl]
theorem za6{H:Hp}{a b:Addr}{o:HO}(h:b≠a):upd H a o b=H b:=by unfold upd;rw[if_neg h]
theorem upd_upd{H:Hp}{a:Addr}{o u:HO}:upd (upd H a o) a u=upd H a u:=by
 funext b;unfold upd;split<;>rfl
theorem zn5{H:Hp}{a b:Addr}{o u:HO}(h:H a=some o)(h':H b=some u)(d:o≠u):a≠b:=by
 intro e;subst e;rw[h] at h';exact d (uK h')
theorem zax{H:Hp}{a b:Addr}{o:HO}(h:H a=some o)(h':H b=none):a≠b:=by
 intro e;subst e;rw[h] at h';cases h'
section
variable(P:kq)(w:pX)
def zdf(H:Hp)(h:Heap)(a:Addr):HO->Prop
 |.lst xs=>xs.length<=sizeLine/\∃(its:List kB)(n:Nat),Vals xs its/\h.get? a=some {cls:=.type "list",data:=.seq its.toArray n}
 |.tup xs=>xs.length<=sizeLine/\∃its:List kB,Vals xs its/\IsTup h a its.toArray
 |.dK kvs=>kvs.length<=sizeLine/\(a==Qr)=false/\∃vs,KV kvs vs/\h.DictOf (zac P w) a vs
 |.dT kvs=>kvs.length<=sizeLine/\(a==Qr)=false/\∃xs:List (List Key×Addr×kB),
   jZ (fun(p:List Key×V)(q:List Key×Addr×kB)=>p.1=q.1/\H q.2.1=some (.tup (p.1.map kV))/\RelV p.2 q.2.2) kvs xs/\
   ∃o es ep,h.get? a=some o/\o.ExactDict/\o.data=.dict es ep/\es.toList=xs.map (Df (uW (zac P w)))/\(xs.map (·.1)).Nodup
 |.set S n=>h.SetOf (intKind P w) a S n
 |.ins C dx fs=>H dx=some (.own a)/\fs.length<=1000/\dx≠a/\h.get? a=some (PySem.W.instObj C dx)/\
   ∃mA,h.Ns1 dx mA/\(∀f,RelO (fs.lookup f) (mA f))/\PySem.Within mA (fs.map (·.1))
 |.own _=>∃o,h.get? a=some o
 |.xd fs=>∃mA,h.Ns1 a mA/\∀f,RelO (fs.lookup f) (mA f)
 |.rng lo hi=>∃t u v,h.get? a=some {cls:=.type "range",data:=.fields #[.int lo t,.int hi u,.int 1 v]}
 |.frz o u=>h.get? a=some o/\zdf H h a u
 |.tbl ps=>h.get? a=some {cls:=.none,data:=.fields ps}
 |.met f x=>h.get? a=some (AW (.ref f) (.ref x))
 |.ext φ=>φ h/\(∃o,h.get? a=some o)/\∀h1 h2:Heap,φ h1->(∀o,h1.get? a=some o->h2.get? a=some o)->φ h2
def HOk(H:Hp)(h:Heap):Prop:=∀a o,H a=some o->zdf P w H h a o
end
section
variable{P:kq}{w:pX}{H H':Hp}{h h':Heap}{a:Addr}{o:HO}
theorem zdf.lt(x:zdf P w H h a o):a<h.objs.size:=by
 cases o with
 |lst xs=>obtain⟨_,_,_,_,e⟩:=x;exact pK e
 |tup xs=>obtain⟨_,_,_,p⟩:=x;exact p.lt
 |dK kvs=>obtain⟨_,_,_,_,o,_,_,e,_⟩:=x;exact pK e
 |dT kvs=>obtain⟨_,_,_,_,o,_,_,e,_⟩:=x;exact pK e
 |set S n=>obtain⟨o,_,_,_,e,_⟩:=x;exact pK e
 |ins C dx fs=>obtain⟨_,_,_,e,_⟩:=x;exact pK e
 |own y=>obtain⟨_,e⟩:=x;exact pK e
 |xd fs=>obtain⟨_,⟨_,_,_,e,_⟩,_⟩:=x;exact pK e
 |rng lo hi=>obtain⟨_,_,_,e⟩:=x;exact pK e
 |frz ob u=>obtain⟨e,_⟩:=x;exact pK e
 |tbl ps=>exact pK (show h.get? a=some _ from x)
 |met f y=>exact pK (show h.get? a=some _ from x)
 |ext φ=>obtain⟨_,⟨_,e⟩,_⟩:=x;exact pK e
theorem Paired.mapP{α β:Type}{F G:α->β->Prop}:∀{l₁:List α}{l₂:List β},jZ F l₁ l₂->(∀a b,F a b->G a b)->jZ G l₁ l₂
 |_,_,.nil,_=>.nil
 |_,_,.cons r t,f=>.cons (f _ _ r) (Paired.mapP t f)
theorem zdf.stay(x:zdf P w H h a o)(k:∀b u,(b=a∨H b=some (.own a))->h.get? b=some u->h'.get? b=some u)
  (ho:∀b,H b=some (.own a)->H' b=some (.own a))(ht:∀b xs,H b=some (.tup xs)->H' b=some (.tup xs)):zdf P w H' h' a o:=by
 induction o with
 |lst xs=>obtain⟨z,its,n,r,e⟩:=x;exact⟨z,its,n,r,k _ _ (.inl rfl) e⟩
 |tup xs=>obtain⟨z,its,r,ob,e,c⟩:=x;exact⟨z,its,r,ob,k _ _ (.inl rfl) e,c⟩
 |dK kvs=>obtain⟨z,y,vs,r,ob,es,ep,e,c⟩:=x;exact⟨z,y,vs,r,ob,es,ep,k _ _ (.inl rfl) e,c⟩
 |dT kvs=>
  obtain⟨z,y,xs,r,ob,es,ep,e,c⟩:=x;exact⟨z,y,xs,Paired.mapP r fun p q z=>⟨z.1,ht _ _ z.2.1,z.2.2⟩,ob,es,ep,k _ _ (.inl rfl) e,c⟩
 |set S n=>obtain⟨ob,es,ep,t,e,c⟩:=x;exact⟨ob,es,ep,t,k _ _ (.inl rfl) e,c⟩
 |ins C dx fs=>
  obtain⟨d,z,ne,e,mA,⟨od,es,ep,e2,c⟩,r⟩:=x;exact⟨ho _ d,z,ne,k _ _ (.inl rfl) e,mA,⟨od,es,ep,k _ _ (.inr d) e2,c⟩,r⟩
 |own y=>obtain⟨ob,e⟩:=x;exact⟨ob,k _ _ (.inl rfl) e⟩
 |xd fs=>obtain⟨mA,⟨od,es,ep,e,c⟩,r⟩:=x;exact⟨mA,⟨od,es,ep,k _ _ (.inl rfl) e,c⟩,r⟩
 |rng lo hi=>obtain⟨t,u,v,e⟩:=x;exact⟨t,u,v,k _ _ (.inl rfl) e⟩
 |frz ob u ih=>obtain⟨e,q⟩:=x;exact⟨k _ _ (.inl rfl) e,ih q⟩
 |tbl ps=>
  have e:h.get? a=some {cls:=.none,data:=.fields ps}:=x;show h'.get? a=some {cls:=.none,data:=.fields ps};exact k a _ (.inl rfl) e
 |met f y=>
  have e:h.get? a=some (AW (.ref f) (.ref y)):=x;show h'.get? a=some (AW (.ref f) (.ref y));exact k a _ (.inl rfl) e
 |ext φ=>obtain⟨p,⟨o,e⟩,st⟩:=x;exact⟨st _ _ p fun o q=>k _ _ (.inl rfl) q,⟨o,k _ _ (.inl rfl) e⟩,st⟩
theorem HOk.lt(x:HOk P w H h)(e:H a=some o):a<h.objs.size:=(x a o e).lt
theorem HOk.fresh(x:HOk P w H h)(e:h.objs.size<=a):H a=none:=by
 cases q:H a with
 |none=>rfl
 |some u=>exact absurd (pG (x.lt q) e) (Ux _)
theorem HOk.kept(x:HOk P w H h)(k:∀b u,h.get? b=some u->h'.get? b=some u):HOk P w H h':=fun a o e=>
 (x a o e).stay (fun b u _ q=>k b u q) (fun _ q=>q) fun _ _ q=>q
theorem HOk.laid(x:HOk P w H h)(k:∀b u,h.get? b=some u->h'.get? b=some u)(hp:h.objs.size<=a)(new:zdf P w (upd H a o) h' a o):HOk P w (upd H a o) h':=fun b u e=>by
 have hn:=x.fresh hp
 by_cases hb:b=a
 ·subst hb;rw[upd_same] at e;cases e;exact new
 ·rw[za6 hb] at e;exact(x b u e).stay (fun c v _ q=>k c v q) (fun c q=>by rw[za6 (zax q hn)];exact q) fun c xs q=>by rw[za6 (zax q hn)];exact q
end
def Rd(H:Hp)(a:Addr)(u:HO):Prop:=H a=some u∨∃o,H a=some (.frz o u)
theorem Rd.ok{P:kq}{w:pX}{H:Hp}{h:Heap}{a:Addr}{u:HO}(r:Rd H a u)(x:HOk P w H h):zdf P w H h a u:=by
 rcases r with r|⟨o,r⟩
 ·exact x a u r
 ·obtain⟨_,q⟩:=x a _ r;exact q
def Mut:Option HO->Prop
 |some (.lst _)=>True
 |some (.dK _)=>True
 |some (.dT _)=>True
 |some (.set _ _)=>True
 |some (.ins _ _ _)=>True
 |some (.ext _)=>True
 |_=>False
section
variable{P:kq}{w:pX}{H:Hp}{h h':Heap}{x e:Addr}{o':HO}
theorem HOk.write(ok:HOk P w H h)(mu:Mut (H x))(he:e=x∨H e=some (.own x))(k:∀b u,b≠e->h.get? b=some u->h'.get? b=some u)(heo:∃u,h'.get? e=some u)
  (new:zdf P w (upd H x o') h' x o'):HOk P w (upd H x o') h':=fun b u q=>by
 have nown:∀c y,H c=some (.own y)->c≠x:=fun c y r z=>by subst z;rw[r] at mu;exact mu
 have ntup:∀c xs,H c=some (.tup xs)->c≠x:=fun c xs r z=>by subst z;rw[r] at mu;exact mu
 by_cases hb:b=x
 ·subst hb;rw[upd_same] at q;cases q;exact new
 ·rw[za6 hb] at q
  by_cases hbe:b=e
  ·have q':H b=some (.own x):=by
    rcases he with z|z
    ·exact absurd (hbe.trans z) hb
    ·rw[hbe];exact z
   rw[q] at q';cases q';obtain⟨v,hv⟩:=heo;exact⟨v,by rw[hbe];exact hv⟩
  ·refine(ok b u q).stay (fun c v hc r=>k c v ?_ r) (fun c r=>by rw[za6 (nown c b r)];exact r) fun c xs r=>by rw[za6 (ntup c xs r)];exact r
   rcases hc with rfl|hc
   ·exact hbe
   ·rintro rfl;rcases he with z|z
    ·exact nown c b hc z
    ·rw[hc] at z;cases z;exact hb rfl
end
structure Un(fs ex:List Addr)(H H':Hp)(h h':Heap):Prop where
 keep:∀b o,h.get? b=some o->H b=none->b∉fs->b∉ex->h'.get? b=some o
 slot:∀b o,h.get? b=some o->H b=none->b∈fs->b∉ex->∃sl,h'.get? b=some {o with slots:=sl}
 free:∀b o,h.get? b=some o->H b=none->b∉ex->H' b=none
 there:∀b o,h.get? b=some o->b∉ex->∃o',h'.get? b=some o'
 tups:∀b xs,H b=some (.tup xs)->H' b=some (.tup xs)
 frzs:∀b o u,H b=some (.frz o u)->H' b=some (.frz o u)
 tbls:∀b ps,H b=some (.tbl ps)->∃more,H' b=some (.tbl (ps++more))
section
variable{fs fs' ex ex':List Addr}{H H1 H2:Hp}{h h1 h2 h':Heap}{a x e:Addr}{o:HO}
theorem Un.any(u:Un fs ex H H1 h h1){b:Addr}{ob:Obj}(q:h.get? b=some ob)(n:H b=none)(hx:b∉ex):∃sl,h1.get? b=some {ob with slots:=sl}:=by
 by_cases hb:b∈fs
 ·exact u.slot b ob q n hb hx
 ·exact⟨ob.slots,u.keep b ob q n hb hx⟩
theorem Un.kept(k:∀b u,h.get? b=some u->h'.get? b=some u):Un fs ex H H h h':=
 ⟨fun b ob q _ _ _=>k b ob q,fun b ob q _ _ _=>⟨ob.slots,k b ob q⟩,fun _ _ _ n _=>n,fun b ob q _=>⟨ob,k b ob q⟩,fun _ _ q=>q,fun _ _ _ q=>q,fun _ ps q=>⟨#[],by rw[q];simp⟩⟩
theorem Un.refl:Un fs ex H H h h:=Un.kept fun _ _ q=>q
theorem Un.laid(k:∀b u,h.get? b=some u->h'.get? b=some u)(hp:h.objs.size<=a)(hn:H a=none):Un fs ex H (upd H a o) h h' where
 keep:=fun b u q _ _ _=>k b u q
 slot:=fun b u q _ _ _=>⟨u.slots,k b u q⟩
 free:=fun b u q n _=>by rw[za6 (uH (pG (pK q) hp))];exact n
 there:=fun b u q _=>⟨u,k b u q⟩
 tups:=fun b xs q=>by rw[za6 (zax q hn)];exact q
 frzs:=fun b u xs q=>by rw[za6 (zax q hn)];exact q
 tbls:=fun b ps q=>⟨#[],by rw[za6 (zax q hn),q];simp⟩
theorem Un.write(mu:Mut (H x))(he:e=x∨H e=some (.own x))(k:∀b u,b≠e->h.get? b=some u->h'.get? b=some u)(heo:∃u,h'.get? e=some u):Un fs ex H (upd H x o) h h':=by
 have hx:∀b,H b=none->b≠x:=fun b n z=>by subst z;rw[n] at mu;exact mu
 have hb:∀b,H b=none->b≠e:=fun b n z=>by
  subst z;rcases he with r|r
  ·exact hx b n r
  ·rw[n] at r;cases r
 have hm:∀b u,H b=some u->¬Mut (some u)->b≠x:=fun b u q nm z=>by subst z;rw[q] at mu;exact nm mu
 refine⟨fun b u q n _ _=>k b u (hb b n) q,fun b u q n _ _=>⟨u.slots,k b u (hb b n) q⟩,fun b u q n _=>by rw[za6 (hx b n)];exact n,fun b u q _=>?_,
  fun b xs q=>by rw[za6 (hm b _ q fun z=>z)];exact q,fun b u xs q=>by rw[za6 (hm b _ q fun z=>z)];exact q,fun b ps q=>⟨#[],by rw[za6 (hm b _ q fun z=>z),q];simp⟩⟩
 by_cases hbe:b=e
 ·subst hbe;exact heo
 ·exact⟨u,k b u hbe q⟩
end
def trk(h:Heap)(H:Hp):List Addr:=(uB h.objs.size).filter fun a=>(H a).isSome
def hidT(h:Heap)(H:Hp):Heap:=PySem.W.hideAll h (trk h H)
theorem zn9(h:Heap)(H:Hp):(hidT h H).objs.size=h.objs.size:=PySem.W.hideAll_size _ _
theorem hidT_get{h:Heap}{H:Hp}{b:Addr}{o:Obj}(e:h.get? b=some o)(n:H b=none):(hidT h H).get? b=some o:=
 PySem.W.hideAll_get _ e fun hm=>by
  have q:(H b).isSome=true:=(UV.mp hm).2;rw[n] at q;simp at q
theorem of_hidT{h:Heap}{H:Hp}{b:Addr}{o:Obj}(e:(hidT h H).get? b=some o):h.get? b=some o/\H b=none:=by
 have e':h.get? b=some o:=PySem.W.of_hideAll (trk h H) e;refine⟨e',?_⟩
 cases q:H b with
 |none=>rfl
 |some x=>
  have hm:b∈trk h H:=UV.mpr ⟨pO.mpr (pK e'),by simp[q]⟩
  have z:(hidT h H).get? b=none:=PySem.W.hideAll_none (trk h H) hm;rw[z] at e;cases e
def allNews(g h:Heap)(L:Addr):List (Addr×Obj):=(uB h.objs.size).filterMap fun a=>if a=L∨(g.get? a).isSome=true then none else(h.get? a).map fun o=>(a,o)
def rest(g h:Heap)(L d:Addr):List (Addr×Obj):=(allNews g h L).filter fun p=>decide (p.1≠d)
structure Mod(K:kM)(mg:Str->Option kB)(base:Heap):Prop where
 kin:K.In base
 glob:base.Ns kx mg
 blt:∃mb,base.Ns BC mb/\∀x:Str,x≠"__name__"->mb x=Qy x
 nolimit:base.NoLimit
structure Cx where
 prog:kq
 w:pX
 K:kM
 mg:Str->Option kB
 base:Heap
 A:pj
 N:List Str
 s₀:kC
 H₀:Hp
 env:Env
 outer:List Env
 stack:List Env
 ex:List Addr
 fn:Str->Bool
 calm:Bool
 pn:List (Addr×Obj)
 xe:kB->kC->Prop
def frs(l:List Env):List Addr:=l.filterMap (·.frame)
abbrev Cx.fs(X:Cx):List Addr:=frs X.outer
def Vis(sc:Scope)(x:Str):Prop:=sc.names.lookup x=some .local∨sc.names.lookup x=some .cell∨sc.names.lookup x=some .free
def Loc(sc:Scope)(x:Str):Prop:=sc.names.lookup x=some .local∨sc.names.lookup x=some .cell
def Look(env:Env)(h:Heap)(m:Str->Option kB)(x:Str)(u:kB):Prop:=
 (env.kindOf x=some .local/\m x=some u)∨((env.kindOf x=some .cell∨env.kindOf x=some .free)/\∃c,env.cells.lookup x=some c/\h.IsCell c (some u))
structure Cx.Ok(X:Cx):Prop where
 mod:Mod X.K X.mg X.base
 kind:X.env.scope.kind=.function
 glob:X.env.globals=kx
 blt:X.env.builtins=BC
 above:X.s₀.heap.objs.size<=X.env.locals
 inj:∀x y c,X.env.cells.lookup x=some c->X.env.cells.lookup y=some c->x=y
 has:∀x,(X.env.kindOf x=some .cell∨X.env.kindOf x=some .free)->∃c,X.env.cells.lookup x=some c
 cab:∀x c,X.fn x=true->X.env.cells.lookup x=some c->X.s₀.heap.objs.size<=c
 hd:X.calm=true->X.A.handled=none
 frames:X.A.frames=some X.stack
 stk:X.stack=X.outer∨(X.stack=X.env::X.outer/\X.env.frame=some X.env.locals)
 exf:∀b∈X.ex,b≠X.env.locals/\∀x c,X.env.cells.lookup x=some c->c≠b
 bs:∀b o,X.base.get? b=some o->X.s₀.heap.get? b=some o/\X.H₀ b=none
 bsz:X.base.objs.size<=X.s₀.heap.objs.size
 noex:∀b o,X.base.get? b=some o->b∉X.ex
 exfs:∀b∈X.ex,b∉X.fs
 funs:X.s₀.heap.FunFrames X.base X.outer
 frf:∀b∈X.fs,X.H₀ b=none
structure Inv(X:Cx)(pins:List (Addr×Obj))(σ:List (Option V))(H:Hp)(s:kC):Prop where
 ok:X.Ok
 os:s.os=X.s₀.os
 bare:AX s.gens
 base:Un X.fs X.ex X.H₀ H X.s₀.heap s.heap
 loc:∃m,s.heap.Ns X.env.locals m/\∀(i:Nat)(x:Str)(v:V),X.N[i]?=some x->σ[i]?=some (some v)->Vis X.env.scope x->∃u,RelV v u/\Look X.env s.heap m x u
 cell:∀x c,X.env.cells.lookup x=some c->∃v,s.heap.IsCell c v
 free:H X.env.locals=none
 freeC:∀x c,X.env.cells.lookup x=some c->H c=none
 pin:∀p∈X.pn++pins,s.heap.get? p.1=some p.2/\H p.1=none/\p.1≠X.env.locals/\p.1∉X.fs/\∀v,p.2.data≠.cell v
 hok:HOk X.prog X.w H s.heap
 len:σ.length=X.N.length
section
variable{X:Cx}{pins:List (Addr×Obj)}{σ:List (Option V)}{H H':Hp}{s:kC}{h':Heap}
theorem Cx.Ok.nofr(ok:X.Ok){b:Addr}{o:Obj}(e:X.base.get? b=some o):b∉X.fs:=fun hb=>by
 have:=(ok.funs.mem hb).1;rw[e] at this;cases this
theorem Inv.bs(I:Inv X pins σ H s):∀b o,X.base.get? b=some o->s.heap.get? b=some o/\H b=none:=fun b o e=>
 ⟨I.base.keep b o (I.ok.bs b o e).1 (I.ok.bs b o e).2 (I.ok.nofr e) (I.ok.noex b o e),I.base.free b o (I.ok.bs b o e).1 (I.ok.bs b o e).2 (I.ok.noex b o e)⟩
theorem Inv.bk(I:Inv X pins σ H s):∀b o,X.base.get? b=some o->s.heap.get? b=some o:=fun b o e=>(I.bs b o e).1
theorem Inv.mod(I:Inv X pins σ H s):Mod X.K X.mg X.base:=I.ok.mod
theorem Inv.kIn(I:Inv X pins σ H s):X.K.In s.heap:=I.ok.mod.kin.keeps I.bk
theorem Inv.nolimit(I:Inv X pins σ H s):s.heap.NoLimit:=I.ok.mod.nolimit.keeps I.bk
theorem Inv.lt(I:Inv X pins σ H s):X.env.locals<s.heap.objs.size:=let⟨_,hn,_⟩:=I.loc;hn.lt
theorem Inv.sz(I:Inv X pins σ H s):X.s₀.heap.objs.size<=s.heap.objs.size:=pV I.ok.above (uv I.lt)
theorem Inv.nofs(I:Inv X pins σ H s){a:Addr}(h:s.heap.objs.size<=a):a∉X.fs:=fun hb=>by
 obtain⟨_,o,ho,_⟩:=I.ok.funs.mem hb;exact absurd (pG (pK ho) (pV I.sz h)) (Ux _)
theorem Inv.cne(I:Inv X pins σ H s):∀x c,X.env.cells.lookup x=some c->c≠X.env.locals:=fun x c e z=>by
 obtain⟨v,o,ho,hd⟩:=I.cell x c e;obtain⟨m,⟨o',es,ep,ho',hd',_⟩,_⟩:=I.loc;rw[z,ho'] at ho;cases ho;rw[hd'] at hd;cases hd
theorem Inv.funs(I:Inv X pins σ H s):s.heap.FunFrames X.base X.outer:=by
 have all:∀(l:List Env),(∀b∈frs l,b∈X.fs)->X.s₀.heap.FunFrames X.base l->s.heap.FunFrames X.base l:=by
  intro l
  induction l with
  |nil=>intro _ _;trivial
  |cons env r ih=>
   intro hs hl;obtain⟨hk,⟨L,o,hf,hn,ho,hd⟩,hr⟩:=hl;have hL:L∈X.fs:=hs L (by unfold frs;rw[gq,hf];exact uJ)
   obtain⟨sl,e⟩:=I.base.slot L o ho (I.ok.frf L hL) hL fun z=>I.ok.exfs L z hL;exact⟨hk,⟨L,_,hf,hn,e,hd⟩,ih (fun b hb=>hs b (by unfold frs;rw[gq,hf];exact kT _ hb)) hr⟩
 exact all X.outer (fun _ hb=>hb) I.ok.funs
theorem Inv.stack(I:Inv X pins σ H s):s.heap.FunFrames X.base X.stack:=by
 rcases I.ok.stk with e|⟨e,hf⟩
 ·rw[e];exact I.funs
 ·rw[e];obtain⟨m,hn,_⟩:=I.loc;refine .cons (by rw[I.ok.kind];decide) hf hn ?_ I.funs
  exact Heap.get?_none_of_le (pV I.ok.bsz I.ok.above)
theorem Inv.stkSub(I:Inv X pins σ H s):∀b∈frs X.stack,b∈X.env.locals::X.fs:=fun b hb=>by
 rcases I.ok.stk with e|⟨e,hf⟩
 ·rw[e] at hb;exact kT _ hb
 ·rw[e] at hb;unfold frs at hb;rw[gq,hf] at hb;exact hb
theorem Inv.stkFree(I:Inv X pins σ H s):∀b∈frs X.stack,H b=none:=fun b hb=>by
 rcases pF.mp (I.stkSub b hb) with e|hb
 ·rw[e];exact I.free
 ·obtain⟨_,o,ho,_⟩:=I.ok.funs.mem hb;exact I.base.free b o ho (I.ok.frf b hb) fun z=>I.ok.exfs b z hb
theorem Inv.step{g':Array GenState}{t':Nat}{d':Drawn}{ch:List Addr}(I:Inv X pins σ H s)
  (hch:∀b∈ch,(b∈X.ex∨X.s₀.heap.objs.size<=b)/\b≠X.env.locals/\(∀x c,X.env.cells.lookup x=some c->c≠b)/\∀p∈X.pn++pins,p.1≠b)
  (keep:∀b o,b≠X.env.locals->b∉X.fs->b∉ch->s.heap.get? b=some o->H b=none->h'.get? b=some o)
  (slot:∀b o,b≠X.env.locals->b∈X.fs->b∉ch->s.heap.get? b=some o->H b=none->∃sl,h'.get? b=some {o with slots:=sl})(free:∀b o,b∉ch->s.heap.get? b=some o->H b=none->H' b=none)
  (there:∀b o,b∉ch->s.heap.get? b=some o->∃o',h'.get? b=some o')
  (tups:∀b xs,H b=some (.tup xs)->H' b=some (.tup xs)) (frzs:∀b o u,H b=some (.frz o u)->H' b=some (.frz o u)) (tbls:∀b ps,H b=some (.tbl ps)->∃more,H' b=some (.tbl (ps++more)))
  (ns:∀m,s.heap.Ns X.env.locals m->h'.Ns X.env.locals m) (hok:HOk X.prog X.w H' h') (hg:AX g'):
  Inv X pins σ H' {s with heap:=h',gens:=g',drawn:=d',toks:=t'}:=by
 have neL:∀b o,X.s₀.heap.get? b=some o->b≠X.env.locals:=fun b o e=>uH (pG (pK e) I.ok.above);have neC:∀b o,X.s₀.heap.get? b=some o->b∉X.ex->b∉ch:=fun b o e hx hb=>by
  rcases(hch b hb).1 with z|z
  ·exact hx z
  ·exact absurd (pG (pK e) z) (Ux _)
 have cellK:∀x c,X.env.cells.lookup x=some c->∀v,s.heap.IsCell c v->h'.IsCell c v:=fun x c e v⟨o,ho,hd⟩=>by
  have nch:c∉ch:=fun z=>(hch c z).2.2.1 x c e rfl
  by_cases hc:c∈X.fs
  ·obtain⟨sl,q⟩:=slot c o (I.cne x c e) hc nch ho (I.freeC x c e);exact⟨_,q,hd⟩
  ·exact⟨o,keep c o (I.cne x c e) hc nch ho (I.freeC x c e),hd⟩
 refine⟨I.ok,I.os,hg,⟨fun b o e n hb hx=>?_,fun b o e n hb hx=>?_,fun b o e n hx=>?_,fun b o e hx=>?_,fun b xs e=>tups b xs (I.base.tups b xs e),fun b o xs e=>frzs b o xs (I.base.frzs b o xs e),fun b ps e=>?_⟩,?_,fun x c e=>?_,?_,fun x c e=>?_,fun p hp=>?_,hok,I.len⟩
 ·exact keep b o (neL b o e) hb (neC b o e hx) (I.base.keep b o e n hb hx) (I.base.free b o e n hx)
 ·obtain⟨sl,e1⟩:=I.base.slot b o e n hb hx;obtain⟨sl',e2⟩:=slot b _ (neL b o e) hb (neC b o e hx) e1 (I.base.free b o e n hx);exact⟨sl',e2⟩
 ·obtain⟨o',e1⟩:=I.base.there b o e hx;exact free b o' (neC b o e hx) e1 (I.base.free b o e n hx)
 ·obtain⟨o',e1⟩:=I.base.there b o e hx;exact there b o' (neC b o e hx) e1
 ·obtain⟨m1,e1⟩:=I.base.tbls b ps e;obtain⟨m2,e2⟩:=tbls b _ e1;exact⟨m1++m2,by rw[e2,Array.append_assoc]⟩
 ·obtain⟨m,hn,hl⟩:=I.loc;refine⟨m,ns m hn,fun i x v e1 e2 e3=>?_⟩;obtain⟨u,r,l⟩:=hl i x v e1 e2 e3;refine⟨u,r,?_⟩;rcases l with l|⟨k,c,e,z⟩
  ·exact .inl l
  ·exact .inr ⟨k,c,e,cellK x c e _ z⟩
 ·obtain⟨v,z⟩:=I.cell x c e;exact⟨v,cellK x c e v z⟩
 ·obtain⟨m,⟨o,_,_,ho,_⟩,_⟩:=I.loc;exact free _ o (fun z=>(hch _ z).2.1 rfl) ho I.free
 ·obtain⟨v,o,ho,hd⟩:=I.cell x c e;exact free c o (fun z=>(hch c z).2.2.1 x c e rfl) ho (I.freeC x c e)
 ·obtain⟨e,n,ne,nf,d⟩:=I.pin p hp;have nch:p.1∉ch:=fun z=>(hch p.1 z).2.2.2 p hp rfl;exact⟨keep p.1 p.2 ne nf nch e n,free p.1 p.2 nch e n,ne,nf,d⟩
theorem Inv.un{t':Nat}(I:Inv X pins σ H s)(u:Un X.fs [] H H' s.heap h')(hok:HOk X.prog X.w H' h'):Inv X pins σ H' {s with heap:=h',toks:=t'}:=by
 obtain⟨m,⟨o,es,ep,ho,r⟩,_⟩:=id I.loc;obtain⟨sl,hL⟩:=u.any ho I.free (by simp)
 exact I.step (g':=s.gens) (d':=s.drawn) (ch:=[]) (fun _ z=>nomatch z) (fun b o _ hb _ e n=>u.keep b o e n hb (by simp)) (fun b o _ hb _ e n=>u.slot b o e n hb (by simp)) (fun b o _ e n=>u.free b o e n (by simp)) (fun b o _ e=>u.there b o e (by simp)) u.tups u.frzs u.tbls (fun m' hm=>by
  obtain⟨o',es',ep',ho',r'⟩:=hm;rw[ho] at ho';cases ho';exact⟨_,es',ep',hL,r'⟩) hok I.bare
theorem Inv.call{g':Array GenState}{t':Nat}{d':Drawn}{ch:List Addr}(I:Inv X pins σ H s)(u:Un (frs X.stack) ch H H' s.heap h')(hok:HOk X.prog X.w H' h')(hg:AX g')
  (hch:∀b∈ch,(b∈X.ex∨X.s₀.heap.objs.size<=b)/\b≠X.env.locals/\(∀x c,X.env.cells.lookup x=some c->c≠b)/\∀p∈X.pn++pins,p.1≠b):
  Inv X pins σ H' {s with heap:=h',gens:=g',drawn:=d',toks:=t'}:=by
 obtain⟨m,⟨o,es,ep,ho,r⟩,_⟩:=id I.loc;obtain⟨sl,hL⟩:=u.any ho I.free fun z=>(hch _ z).2.1 rfl;exact I.step (ch:=ch) hch (fun b o hL hb hc e n=>u.keep b o e n (fun z=>(pF.mp (I.stkSub b z)).elim hL hb) hc) (fun b o _ _ hc e n=>u.any e n hc) (fun b o hc e n=>u.free b o e n hc) (fun b o hc e=>u.there b o e hc) u.tups u.frzs u.tbls (fun m' hm=>by
  obtain⟨o',es',ep',ho',r'⟩:=hm;rw[ho] at ho';cases ho';exact⟨_,es',ep',hL,r'⟩) hok hg
theorem Inv.turned{t':Nat}{it:Addr}(I:Inv X pins σ H s)(k:∀b o,b≠it->s.heap.get? b=some o->h'.get? b=some o)(hn:H it=none)(hL:it≠X.env.locals)
  (h1:it∈X.ex∨X.s₀.heap.objs.size<=it)(h2:∀x c,X.env.cells.lookup x=some c->c≠it)(h3:∀p∈X.pn++pins,p.1≠it):Inv X pins σ H {s with heap:=h',toks:=t'}:=by
 have nit:∀b u,H b=some u->b≠it:=fun b u e z=>by rw[z,hn] at e;cases e
 refine I.step (g':=s.gens) (d':=s.drawn) (ch:=[it]) (fun b hb=>?_) (fun b o _ _ hc e _=>k b o (fun z=>hc (by simp[z])) e) (fun b o _ _ hc e _=>⟨o.slots,k b o (fun z=>hc (by simp[z])) e⟩) (fun _ _ _ _ n=>n)
  (fun b o hc e=>⟨o,k b o (fun z=>hc (by simp[z])) e⟩) (fun _ _ e=>e) (fun _ _ _ e=>e) (fun b ps e=>⟨#[],by rw[e];simp⟩) (fun m hm=>?_) (fun b u e=>?_) I.bare
 ·have e:b=it:=by simpa using hb
  subst e;exact⟨h1,hL,h2,h3⟩
 ·obtain⟨o,es,ep,ho,r⟩:=hm;exact⟨o,es,ep,k _ o (jP hL) ho,r⟩
 ·refine(I.hok b u e).stay (fun c v hc q=>k c v ?_ q) (fun _ q=>q) fun _ _ q=>q;rcases hc with z|z
  ·rw[z];exact nit b u e
  ·exact nit c _ z
theorem Inv.tok(I:Inv X pins σ H s)(t:Nat):Inv X pins σ H {s with toks:=t}:=I.un (h':=s.heap) (t':=t) Un.refl I.hok
theorem Inv.kept{t':Nat}(I:Inv X pins σ H s)(k:∀b u,s.heap.get? b=some u->h'.get? b=some u):Inv X pins σ H {s with heap:=h',toks:=t'}:=I.un (Un.kept k) (I.hok.kept k)
theorem Inv.laid{a:Addr}{o:HO}{t':Nat}(I:Inv X pins σ H s)(k:∀b u,s.heap.get? b=some u->h'.get? b=some u)(hp:s.heap.objs.size<=a)(new:zdf X.prog X.w (upd H a o) h' a o):
  Inv X pins σ (upd H a o) {s with heap:=h',toks:=t'}:=I.un (Un.laid k hp (I.hok.fresh hp)) (I.hok.laid k hp new)
theorem Inv.write{x e:Addr}{o:HO}{t':Nat}(I:Inv X pins σ H s)(mu:Mut (H x))(he:e=x∨H e=some (.own x))(k:∀b u,b≠e->s.heap.get? b=some u->h'.get? b=some u)(heo:∃u,h'.get? e=some u)
  (new:zdf X.prog X.w (upd H x o) h' x o):Inv X pins σ (upd H x o) {s with heap:=h',toks:=t'}:=I.un (Un.write mu he k heo) (I.hok.write mu he k heo new)
theorem Inv.pins_of{pins':List (Addr×Obj)}(I:Inv X pins σ H s)(h:∀p∈pins',s.heap.get? p.1=some p.2/\H p.1=none/\p.1≠X.env.locals/\p.1∉X.fs/\∀v,p.2.data≠.cell v):Inv X pins' σ H s:=
 ⟨I.ok,I.os,I.bare,I.base,I.loc,I.cell,I.free,I.freeC,fun p hp=>(kW.mp hp).elim (fun z=>I.pin p (uP _ z)) (h p),I.hok,I.len⟩
theorem zlb{N:List Str}(hN:N.Nodup){i j:Nat}{x:Str}(a:N[i]?=some x)(b:N[j]?=some x):i=j:=by
 obtain⟨h1,e1⟩:=kD.mp a;obtain⟨h2,e2⟩:=kD.mp b;exact(Am hN).mp (e1.trans e2.symm)
theorem znq{M:Model}{A:pj}{E:kB->kC->Prop}{i:Nat}{x:Str}{v:V}{u:kB}{Q:Unit->kC->Prop}(I:Inv X pins σ H s)(hN:X.N.Nodup)(hi:X.N[i]?=some x)(hx:Loc X.env.scope x)(r:RelV v u)
  (h:∀s',Inv X pins (σ.set i (some v)) H s'->(∃a,Uo a s.heap s'.heap/\(a=X.env.locals∨X.env.cells.lookup x=some a))->Q () s')(hf:X.fn x=true∨X.env.scope.names.lookup x=some .local:=by first|exact .inl rfl|exact .inr rfl|assumption):wpAny M A (storeName X.env x u) Q E s:=by
 obtain⟨m,hn,hl⟩:=id I.loc;have hcls:(X.env.scope.kind==.class||(X.env.scope.kind==.module&&X.env.locals !=X.env.globals))=false:=by rw[I.ok.kind];rfl
 have hiσ:i<σ.length:=by rw[I.len];exact(kD.mp hi).1
 have cne:=I.cne;have tracked:∀{a:Addr}{h':Heap},(∃o,s.heap.get? a=some o/\H a=none)->Uo a s.heap h'->HOk X.prog X.w H h':=fun{a h'} ha hs b ob e=>by
  obtain⟨_,_,hfree⟩:=ha;refine(I.hok b ob e).stay (fun c w' hc q=>(hs.2 c ?_).trans q) (fun _ q=>q) fun _ _ q=>q;rintro rfl;rcases hc with rfl|hc
  ·rw[hfree] at e;cases e
  ·rw[hfree] at hc;cases hc
 rcases hx with hk|hk
 ·refine wpAny_storeName_local hk hn (fun h' hn' hs=>?_) hcls;obtain⟨oL,_,_,hoL,_⟩:=id hn;refine h _ ⟨I.ok,I.os,I.bare,⟨fun b o e n hb hx=>?_,fun b o e n hb hx=>?_,I.base.free,fun b o e hx=>?_,I.base.tups,I.base.frzs,I.base.tbls⟩,⟨_,hn',fun j y v' e1 e2 e3=>?_⟩,fun y c e=>?_,I.free,I.freeC,fun p hp=>?_,tracked ⟨oL,hoL,I.free⟩ hs,by simpa using I.len⟩ ⟨_,hs,.inl rfl⟩
  ·exact(hs.2 b (uH (pG (pK e) I.ok.above))).trans (I.base.keep b o e n hb hx)
  ·obtain⟨sl,e1⟩:=I.base.slot b o e n hb hx;exact⟨sl,(hs.2 b (uH (pG (pK e) I.ok.above))).trans e1⟩
  ·obtain⟨o',e1⟩:=I.base.there b o e hx;exact⟨o',(hs.2 b (uH (pG (pK e) I.ok.above))).trans e1⟩
  ·by_cases hj:j=i
   ·subst hj;rw[hi] at e1;cases e1;rw[vQ hiσ] at e2
    cases e2;exact⟨u,r,.inl ⟨hk,by simp⟩⟩
   ·rw[vt (jP hj)] at e2;obtain⟨u',r',q⟩:=hl j y v' e1 e2 e3;refine⟨u',r',?_⟩;rcases q with⟨k,e⟩|⟨k,c,e,z⟩
    ·refine .inl ⟨k,?_⟩;have:y≠x:=fun e=>hj (zlb hN e1 (e▸hi))
     simp[this,e]
    ·exact .inr ⟨k,c,e,z.sameBut hs (cne y c e)⟩
  ·obtain⟨w',z⟩:=I.cell y c e;exact⟨w',z.sameBut hs (cne y c e)⟩
  ·obtain⟨e,n,ne,nf,d⟩:=I.pin p hp;exact⟨(hs.2 p.1 ne).trans e,n,ne,nf,d⟩
 ·have hfn:X.fn x=true:=by
   rcases hf with z|z
   ·exact z
   ·rw[z] at hk;cases hk
  obtain⟨c,hc⟩:=I.ok.has x (.inl hk);obtain⟨w',z⟩:=I.cell x c hc;refine wpAny_storeName_cell I.ok.kind hk hc z (fun h' hc' hs=>?_);obtain⟨oc,hoc,hocd⟩:=id z;refine h {s with heap:=h'} ⟨I.ok,I.os,I.bare,⟨fun b o e n hb hx=>?_,fun b o e n hb hx=>?_,I.base.free,fun b o e hx=>?_,I.base.tups,I.base.frzs,I.base.tbls⟩,⟨m,hn.sameBut hs (jP (cne x c hc)),fun j y v' e1 e2 e3=>?_⟩,fun y c' e=>?_,I.free,I.freeC,fun p hp=>?_,tracked ⟨oc,hoc,I.freeC x c hc⟩ hs,by simpa using I.len⟩ ⟨c,hs,.inr hc⟩
  ·exact(hs.2 b (uH (pG (pK e) (I.ok.cab x c hfn hc)))).trans (I.base.keep b o e n hb hx)
  ·obtain⟨sl,e1⟩:=I.base.slot b o e n hb hx;exact⟨sl,(hs.2 b (uH (pG (pK e) (I.ok.cab x c hfn hc)))).trans e1⟩
  ·obtain⟨o',e1⟩:=I.base.there b o e hx;exact⟨o',(hs.2 b (uH (pG (pK e) (I.ok.cab x c hfn hc)))).trans e1⟩
  ·by_cases hj:j=i
   ·subst hj;rw[hi] at e1;cases e1;rw[vQ hiσ] at e2
    cases e2;exact⟨u,r,.inr ⟨.inl hk,c,hc,hc'⟩⟩
   ·rw[vt (jP hj)] at e2;obtain⟨u',r',q⟩:=hl j y v' e1 e2 e3;refine⟨u',r',?_⟩;rcases q with q|⟨k,c',e,z'⟩
    ·exact .inl q
    ·refine .inr ⟨k,c',e,z'.sameBut hs ?_⟩;rintro rfl;exact hj (zlb hN e1 (I.ok.inj _ _ _ e hc▸hi))
  ·by_cases hcc:c'=c
   ·subst hcc;exact⟨_,hc'⟩
   ·obtain⟨w2,z2⟩:=I.cell y c' e;exact⟨w2,z2.sameBut hs hcc⟩
  ·obtain⟨e,n,ne,nf,d⟩:=I.pin p hp;refine⟨(hs.2 p.1 ?_).trans e,n,ne,nf,d⟩;intro q;rw[q,hoc] at e;have q':oc=p.2:=uK e;exact d w' (by rw[←q'];exact hocd)
theorem zf6{M:Model}{A:pj}{E:kB->kC->Prop}{i:Nat}{x:Str}{v:V}{u:kB}{Q:Unit->kC->Prop}(I:Inv X pins σ H s)(hN:X.N.Nodup)(hi:X.N[i]?=some x)(hx:Loc X.env.scope x)(r:RelV v u)
  (h:∀s',Inv X pins (σ.set i (some v)) H s'->Q () s')(hf:X.fn x=true∨X.env.scope.names.lookup x=some .local:=by first|exact .inl rfl|exact .inr rfl|assumption):wpAny M A (storeName X.env x u) Q E s:=
 znq I hN hi hx r (fun s' I' _=>h s' I') hf
theorem Inv.call'{s':kC}{ch:List Addr}(I:Inv X pins σ H s)(ho:s'.os=s.os)(u:Un (frs X.stack) ch H H' s.heap s'.heap)(hok:HOk X.prog X.w H' s'.heap)(hg:AX s'.gens)
  (hch:∀b∈ch,(b∈X.ex∨X.s₀.heap.objs.size<=b)/\b≠X.env.locals/\(∀x c,X.env.cells.lookup x=some c->c≠b)/\∀p∈X.pn++pins,p.1≠b):Inv X pins σ H' s':=by
 obtain⟨h',g',d',t',o'⟩:=s';have e:o'=s.os:=ho;subst e;exact I.call (g':=g') (t':=t') (d':=d') u hok hg hch
end
abbrev XK:=kB->Option Addr->Hp->Prop
abbrev St:=List (Option V)
abbrev VK:=V->Hp->Prop
abbrev TE:=St->Hp->VK->Prop
abbrev TT:=St->Hp->(Bool->Hp->Prop)->Prop
abbrev TA:=St->Hp->(List V->Hp->Prop)->Prop
structure Ends where
 nx:St->Hp->Prop
 rt:VK
 bk:St->Hp->Prop:=fun _ _=>False
 ct:St->Hp->Prop:=fun _ _=>False
abbrev TS:=Ends->St->Hp->Prop
def EP(X:Cx)(pins:List (Addr×Obj))(σ:St)(Q:VK)(u:kB)(s':kC):Prop:=∃v H',Inv X pins σ H' s'/\RelV v u/\Q v H'
def TP(X:Cx)(pins:List (Addr×Obj))(σ:St)(Q:Bool->Hp->Prop)(b:Bool)(s':kC):Prop:=∃H',Inv X pins σ H' s'/\Q b H'
def AP(X:Cx)(pins:List (Addr×Obj))(σ:St)(Q:List V->Hp->Prop)(us:List kB)(s':kC):Prop:=∃vs H',Inv X pins σ H' s'/\Vals vs us/\Q vs H'
def SP(X:Cx)(pins:List (Addr×Obj))(D:Ends)(f:Flow)(s':kC):Prop:=
 match f with
 |.next=>∃σ' H',Inv X pins σ' H' s'/\D.nx σ' H'
 |.brk=>∃σ' H',Inv X pins σ' H' s'/\D.bk σ' H'
 |.cont=>∃σ' H',Inv X pins σ' H' s'/\D.ct σ' H'
 |.ret u=>∃v σ' H',Inv X pins σ' H' s'/\RelV v u/\D.rt v H'
def PE(X:Cx)(e:Expr)(t:TE):Prop:=
 ∀(pins:List (Addr×Obj))(s:kC)(σ:St)(H:Hp)(Q:VK),Inv X pins σ H s->t σ H Q->wpAny (model X.prog X.w) X.A (eval e X.env) (EP X pins σ Q) X.xe s
def PT(X:Cx)(e:Expr)(t:TT):Prop:=
 ∀(pins:List (Addr×Obj))(s:kC)(σ:St)(H:Hp)(Q:Bool->Hp->Prop),Inv X pins σ H s->t σ H Q->wpAny (model X.prog X.w) X.A (isTrue e X.env (eval e X.env)) (TP X pins σ Q) X.xe s
def PW(X:Cx)(e:Expr)(t:TT):Prop:=
 ∀(whole:Sem kB)(pins:List (Addr×Obj))(s:kC)(σ:St)(H:Hp)(Q:Bool->Hp->Prop),Inv X pins σ H s->t σ H Q->wpAny (model X.prog X.w) X.A (isTrue e X.env whole) (TP X pins σ Q) X.xe s
theorem PW.pt{X:Cx}{e:Expr}{t:TT}(h:PW X e t):PT X e t:=h _
def PA(X:Cx)(es:List Expr)(t:TA):Prop:=
 ∀(pos:Pos)(pins:List (Addr×Obj))(s:kC)(σ:St)(H:Hp)(Q:List V->Hp->Prop),Inv X pins σ H s->t σ H Q->wpAny (model X.prog X.w) X.A (spliced (vv pos (ui es X.env))) (AP X pins σ Q) X.xe s
def PS(X:Cx)(st:Stmt)(t:TS):Prop:=
 ∀(pins:List (Addr×Obj))(s:kC)(σ:St)(H:Hp)(D:Ends),Inv X pins σ H s->t D σ H->wpAny (model X.prog X.w) X.A (exec st X.env) (SP X pins D) X.xe s
def PSs(X:Cx)(st:List Stmt)(t:TS):Prop:=
 ∀(pins:List (Addr×Obj))(s:kC)(σ:St)(H:Hp)(D:Ends),Inv X pins σ H s->t D σ H->wpAny (model X.prog X.w) X.A (execs st X.env) (SP X pins D) X.xe s
theorem thn{α:Type}{t:Sem α}{Q Q':α->kC->Prop}{M:Model}{A:pj}{E:kB->kC->Prop}{s:kC}(h:wpAny M A t Q E s)(hQ:∀a s,Q a s->Q' a s):wpAny M A t Q' E s:=QQ h hQ fun _ _ x=>x
section
variable{X:Cx}
def tVar(i:Nat):TE:=fun σ H Q=>∃v,σ[i]?=some (some v)/\Q v H
def tC(v:V):TE:=fun _ H Q=>Q v H
theorem pe_var{i:Nat}{x:Str}{pos:Pos}(hN:X.N[i]?=some x)(hv:Vis X.env.scope x)(hd:(x==("__debug__":Str))=false:=by decide)(hcd:(x==("__classdict__":Str))=false:=by decide):PE X (.Name x pos) (tVar i):=by
 intro pins s σ H Q I h;obtain⟨v,e,h⟩:=h;obtain⟨m,hn,hl⟩:=I.loc;obtain⟨u,r,l⟩:=hl i x v hN e hv;have fin:EP X pins σ Q u s:=⟨v,H,I,r,h⟩;rcases l with⟨hk,hm⟩|⟨hk,c,hc,hcell⟩
 ·exact Dg (wpAny_loadName_local I.ok.kind hk hn hm fin) hd
 ·rcases hk with hk|hk
  ·exact Dg (wpAny_loadName_cell I.ok.kind hk hc hcell fin) hd
  ·exact Dg (wpAny_loadName_free I.ok.kind hk hc hcell fin hcd) hd
theorem zbr{i j pos}:PE X (.Constant (.int i) j pos) (tC (.int i)):=fun _ _ _ H _ I h=>wpAny_Constant_int ⟨.int i,H,I.tok _,⟨_,rfl⟩,h⟩
theorem pe_bl{b j pos}:PE X (.Constant (.bool b) j pos) (tC (.bl b)):=fun _ _ _ H _ I h=>Constant_bool ⟨.bl b,H,I,rfl,h⟩
def Gl(X:Cx)(x:Str):Prop:=X.env.kindOf x=some .globalImplicit
theorem ld_glob{E:kB->kC->Prop}{pins:List (Addr×Obj)}{s:kC}{σ:St}{H:Hp}{x:Str}{u:kB}{pos:Pos}{Q:kB->kC->Prop}(I:Inv X pins σ H s)(hg:Gl X x)(hm:X.mg x=some u)(h:Q u s)
  (hd:(x==("__debug__":Str))=false:=by decide):wpAny (model X.prog X.w) X.A (eval (.Name x pos) X.env) Q E s:=
 AA I.ok.kind hg (Calls.loadGlobal_global (by rw[I.ok.glob];exact I.mod.glob.keeps I.bk) hm h) hd
theorem zjc{E:kB->kC->Prop}{pins:List (Addr×Obj)}{s:kC}{σ:St}{H:Hp}{x:Str}{u:kB}{pos:Pos}{Q:kB->kC->Prop}(I:Inv X pins σ H s)(hg:Gl X x)(hm:X.mg x=none)(hv:Qy x=some u)(h:Q u s)
  (hn:x≠"__name__":=by decide)(hd:(x==("__debug__":Str))=false:=by decide):wpAny (model X.prog X.w) X.A (eval (.Name x pos) X.env) Q E s:=by
 obtain⟨mb,h1,h2⟩:=I.mod.blt;exact AA I.ok.kind hg (Calls.loadGlobal_builtin (by rw[I.ok.glob];exact I.mod.glob.keeps I.bk) hm (by rw[I.ok.blt];exact h1.keeps I.bk) ((h2 x hn).trans hv) h) hd
variable{a b:Expr}{ta tb:TE}{pos:Pos}
def PC(X:Cx)(op:CmpOp)(a b:Expr)(t:TE):Prop:=
 ∀(pins:List (Addr×Obj))(s:kC)(σ:St)(H:Hp)(Q:VK),Inv X pins σ H s->t σ H Q->
  wpAny (model X.prog X.w) X.A (eval a X.env) (fun v s₁=>wpAny (model X.prog X.w) X.A (eval b X.env) (fun u s₂=>wpAny (model X.prog X.w) X.A (UQ op v u) (EP X pins σ Q) X.xe s₂) X.xe s₁) X.xe s
def tB(t:TE):TT:=fun σ H Q=>t σ H fun x H1=>∃c,x=.bl c/\Q c H1
theorem zhn{op:CmpOp}{t:TE}(h:PC X op a b t)(h1:hZ op b=false:=by first|exact nobehind _ (by decide) (by decide)|rfl):PT X (.Compare a [op] [b] pos) (tB t):=by
 intro pins s σ H Q I hw;refine Be (thn (h pins s σ H _ I hw) fun v s1 h1=>thn h1 fun u s2 h2=>thn h2 fun c s3⟨x,H1,I1,r1,q1⟩=>?_) h1;obtain⟨d,rfl,q⟩:=q1
 cases r1;exact Qz ⟨H1,I1,q⟩
theorem zl7{e:Expr}{t:TE}(h:PE X e t)(he:∀whole,isTrue e X.env whole=(do let v ←whole;standAt e.pos;holding [v] (truthy v)):=by intro _;rfl):PT X e (tB t):=by
 intro pins s σ H Q I hw;refine isTrue_plain (thn (h pins s σ H _ I hw) fun v s1⟨x,H1,I1,r1,q1⟩=>?_) (he _);obtain⟨d,rfl,q⟩:=q1
 cases r1;exact Qz ⟨H1,I1,q⟩
variable{tA tB':TT}{rest:List Expr}
def tAnd(t u:TT):TT:=fun σ H Q=>t σ H fun c H1=>if c=true then u σ H1 Q else Q false H1
def tOr(t u:TT):TT:=fun σ H Q=>t σ H fun c H1=>if c=true then Q true H1 else u σ H1 Q
def tNot(t:TT):TT:=fun σ H Q=>t σ H fun c H1=>Q (!c) H1
theorem pw_or1(ha:PT X a tA):PW X (.BoolOp .Or [a] pos) tA:=by
 intro wh pins s σ H Q I h;refine isTrue_or (thn (ha pins s σ H Q I h) fun c s1 e=>?_)
 cases c with
 |false=>exact isTrue_or_nil e
 |true=>exact e
theorem pw_or(ha:PT X a tA)(hb:PW X (.BoolOp .Or (b::rest) pos) tB'):PW X (.BoolOp .Or (a::b::rest) pos) (tOr tA tB'):=by
 intro wh pins s σ H Q I h;refine isTrue_or (thn (ha pins s σ H _ I h) fun c s1⟨H1,I1,q1⟩=>?_)
 cases c with
 |true=>exact⟨H1,I1,q1⟩
 |false=>exact hb wh pins s1 σ H1 Q I1 q1
theorem pt_not(ha:PT X a tA):PT X (.UnaryOp .Not a pos) (tNot tA):=by
 intro pins s σ H Q I h;exact isTrue_not (ha pins s σ H (fun c H1=>Q (!c) H1) I h)
def tAndV(ta tb:TE):TE:=fun σ H Q=>ta σ H fun x H1=>∃c,x=.bl c/\if c=true then tb σ H1 Q else Q (.bl false) H1
def tOrV(ta tb:TE):TE:=fun σ H Q=>ta σ H fun x H1=>∃c,x=.bl c/\if c=true then Q (.bl true) H1 else tb σ H1 Q
def tNotV(ta:TE):TE:=fun σ H Q=>ta σ H fun x H1=>∃c,x=.bl c/\Q (.bl (!c)) H1
theorem pe_one{op}{t:TE}(h:PE X a t):PE X (.BoolOp op [a] pos) t:=fun pins s σ H Q I hw=>BoolOp_one (h pins s σ H Q I hw)
theorem pe_and(ha:PE X a ta)(hb:PE X (.BoolOp .And (b::rest) pos) tb):PE X (.BoolOp .And (a::b::rest) pos) (tAndV ta tb):=by
 intro pins s σ H Q I h;refine BoolOp_and (thn (ha pins s σ H _ I h) fun v s1⟨x,H1,I1,r1,q1⟩=>?_);obtain⟨c,rfl,q1⟩:=q1
 cases r1;refine Qz ?_
 cases c with
 |true=>exact hb pins s1 σ H1 Q I1 q1
 |false=>exact⟨.bl false,H1,I1,rfl,q1⟩
def tIf(t:TT)(ta tb:TE):TE:=fun σ H Q=>t σ H fun c H1=>if c=true then ta σ H1 Q else tb σ H1 Q
end
def SqL(K:kM)(H:Hp)(a:Addr)(xs:List V):Prop:=
 Rd H a (.lst xs)∨
  ∃(o:Obj)(its:Array kB)(n:Nat),K.lookup a=some o/\o.cls=.type "list"/\o.dict=none/\o.data=.seq its n/\its.size<=sizeLine/\Vals xs its.toList
def SqT(K:kM)(H:Hp)(a:Addr)(xs:List V):Prop:=
 Rd H a (.tup xs)∨
  ∃(o:Obj)(its:Array kB)(n:Nat),K.lookup a=some o/\o.cls=.type "tuple"/\o.data=.seq its n/\its.size<=sizeLine/\Vals xs its.toList
def absV:kB->Option V
 |.none=>some .non
 |.bool b=>some (.bl b)
 |.int i _=>some (.int i)
 |.str x _=>some (.str x)
 |.bytes b _=>some (.byt b)
 |.float b _=>some (.flt b)
 |.ref a=>some (.ref a)
 |.type n=>some (.ty n)
 |_=>none
theorem RelV.abs{x:V}{u:kB}(r:RelV x u):absV u=some x:=by
 cases x with
 |non=>cases r;rfl
 |bl _=>cases r;rfl
 |int _=>obtain⟨t,rfl⟩:=r;rfl
 |str _=>obtain⟨t,rfl⟩:=r;rfl
 |byt _=>obtain⟨t,rfl⟩:=r;rfl
 |flt _=>obtain⟨t,rfl⟩:=r;rfl
 |ref _=>cases r;rfl
 |ty _=>cases r;rfl
theorem RelV.inj{x y:V}{u:kB}(r:RelV x u)(q:RelV y u):x=y:=uK (r.abs.symm.trans q.abs)
theorem Vals.inj:∀{xs ys:List V}{us:List kB},Vals xs us->Vals ys us->xs=ys
 |_,_,_,.nil,.nil=>rfl
 |_,_,_,.cons r t,.cons r' t'=>by rw[r.inj r',Vals.inj t t']
section
variable{X:Cx}{pins:List (Addr×Obj)}{σ:St}{H:Hp}{s:kC}{a:Addr}{xs ys:List V}
theorem SqL.of{K:kM}(h:H a=some (.lst xs)):SqL K H a xs:=.inl (.inl h)
theorem SqT.of{K:kM}(h:H a=some (.tup xs)):SqT K H a xs:=.inl (.inl h)
theorem Inv.list(I:Inv X pins σ H s)(h:SqL X.K H a xs):∃its:List kB,Vals xs its/\PlainL s.heap a its.toArray/\xs.length<=sizeLine:=by
 rcases h with h|⟨o,its,n,hk,hc,hd,hs,hz,r⟩
 ·obtain⟨z,its,n,r,e⟩:=h.ok I.hok;exact⟨its,r,⟨_,n,e,rfl,rfl,rfl⟩,z⟩
 ·refine⟨its.toList,r,⟨o,n,I.kIn a o hk,hc,hd,by simpa using hs⟩,?_⟩
  have e:=r.length;simp only[kc] at e;omega
theorem Inv.tuple(I:Inv X pins σ H s)(h:SqT X.K H a xs):∃its:List kB,Vals xs its/\IsTup s.heap a its.toArray/\xs.length<=sizeLine:=by
 rcases h with h|⟨o,its,n,hk,hc,hs,hz,r⟩
 ·obtain⟨z,its,r,p⟩:=h.ok I.hok;exact⟨its,r,p,z⟩
 ·refine⟨its.toList,r,⟨o,I.kIn a o hk,hc,n,by simpa using hs⟩,?_⟩
  have e:=r.length;simp only[kc] at e;omega
theorem Inv.list_inj(I:Inv X pins σ H s)(h:SqL X.K H a xs)(h':SqL X.K H a ys):xs=ys:=by
 obtain⟨its,r,⟨o,n,e,_,_,d⟩,_⟩:=I.list h;obtain⟨its',r',⟨o',n',e',_,_,d'⟩,_⟩:=I.list h';rw[e] at e';cases e';rw[d] at d'
 injection d' with d1 _
 have:its=its':=by simpa using congrArg Array.toList d1
 subst this;exact r.inj r'
end
abbrev Cx.wish(X:Cx)(E:kB->kC->Prop):Cx:={X with xe:=E}
abbrev Cx.nox(X:Cx):Cx:=X.wish fun _ _=>False
theorem Cx.Ok.wish{X:Cx}(ok:X.Ok)(E:kB->kC->Prop):(X.wish E).Ok:=
 ⟨ok.mod,ok.kind,ok.glob,ok.blt,ok.above,ok.inj,ok.has,ok.cab,ok.hd,ok.frames,ok.stk,ok.exf,ok.bs,ok.bsz,ok.noex,ok.exfs,ok.funs,ok.frf⟩
theorem Cx.Ok.unwish{X:Cx}{E:kB->kC->Prop}(ok:(X.wish E).Ok):X.Ok:=
 ⟨ok.mod,ok.kind,ok.glob,ok.blt,ok.above,ok.inj,ok.has,ok.cab,ok.hd,ok.frames,ok.stk,ok.exf,ok.bs,ok.bsz,ok.noex,ok.exfs,ok.funs,ok.frf⟩
section
variable{X:Cx}{pins:List (Addr×Obj)}{σ:St}{H:Hp}{s:kC}{E:kB->kC->Prop}
theorem Inv.wish(I:Inv X pins σ H s)(E:kB->kC->Prop):Inv (X.wish E) pins σ H s:=⟨I.ok.wish E,I.os,I.bare,I.base,I.loc,I.cell,I.free,I.freeC,I.pin,I.hok,I.len⟩
theorem Inv.unwish(I:Inv (X.wish E) pins σ H s):Inv X pins σ H s:=⟨I.ok.unwish,I.os,I.bare,I.base,I.loc,I.cell,I.free,I.freeC,I.pin,I.hok,I.len⟩
theorem SP.unwish{D:Ends}{f:Flow}{s':kC}(h:SP (X.wish E) pins D f s'):SP X pins D f s':=by
 cases f with
 |next=>obtain⟨σ',H',I,q⟩:=h;exact⟨σ',H',I.unwish,q⟩
 |brk=>obtain⟨σ',H',I,q⟩:=h;exact⟨σ',H',I.unwish,q⟩
 |cont=>obtain⟨σ',H',I,q⟩:=h;exact⟨σ',H',I.unwish,q⟩
 |ret u=>obtain⟨v,σ',H',I,r,q⟩:=h;exact⟨v,σ',H',I.unwish,r,q⟩
theorem PSs.nox{st:List Stmt}{t:TS}(h:PSs X.nox st t):PSs X st t:=fun pins s σ H D I hw=>
 QQ (h pins s σ H D (I.wish _) hw) (fun _ _ q=>q.unwish) fun _ _ z=>UW z
end
section
variable{X:Cx}{st:Stmt}{rest:List Stmt}{t u:TS}{e:Expr}{te:TE}{pos:Pos}
def tNext:TS:=fun D σ H=>D.nx σ H
def tSeq(t u:TS):TS:=fun D σ H=>t {D with nx:=u D} σ H
theorem zbx:PSs X [] tNext:=fun _ _ σ H _ I h=>gQ ⟨σ,H,I,h⟩
theorem zab(h1:PS X st t)(h2:PSs X rest u):PSs X (st::rest) (tSeq t u):=by
 intro pins s σ H D I h;refine Cz (thn (h1 pins s σ H {D with nx:=u D} I h) fun f s1 q=>?_)
 cases f with
 |next=>
  obtain⟨σ',H',I',q⟩:=q;exact h2 pins s1 σ' H' D I' q
 |ret v=>exact q
 |brk=>exact q
 |cont=>exact q
theorem zaf(h1:PS X st t):PSs X [st] t:=by
 intro pins s σ H D I h;refine Cz (thn (h1 pins s σ H D I h) fun f s1 q=>?_)
 cases f with
 |next=>exact gQ q
 |ret v=>exact q
 |brk=>exact q
 |cont=>exact q
theorem Inv.quiet{pins:List (Addr×Obj)}{σ:St}{H:Hp}{s:kC}(I:Inv X pins σ H s):interactive X.env=false:=by simp[interactive,I.ok.kind]
def tDrop(te:TE):TS:=fun D σ H=>te σ H fun _ H1=>D.nx σ H1
theorem zdk(he:PE X e te)(hs:CF e none pos.line X.env=pure false:=by rfl):PS X (.Expr e pos) (tDrop te):=by
 intro pins s σ H D I h;exact wpAny_Expr_any (thn (he pins s σ H _ I h) fun v s1⟨x,H1,I1,r1,q1⟩=>⟨σ,H1,I1,q1⟩) I.quiet hs
def tRet(te:TE):TS:=fun D σ H=>te σ H D.rt
theorem zav(he:PE X e te):PS X (.Return (some e) pos) (tRet te):=by
 intro pins s σ H D I h;exact wpAny_Return_some (thn (he pins s σ H _ I h) fun v s1⟨x,H1,I1,r1,q1⟩=>⟨x,σ,H1,I1,r1,q1⟩)
def tRetN:TS:=fun D _ H=>D.rt .non H
def tIfS(c:TT)(t u:TS):TS:=fun D σ H=>c σ H fun b H1=>if b=true then t D σ H1 else u D σ H1
theorem zen{c:Expr}{a b:List Stmt}{tc:TT}(hc:PT X c tc)(ha:PSs X a t)(hb:PSs X b u):PS X (.If c a b pos) (tIfS tc t u):=by
 intro pins s σ H D I h;refine wpAny_If (thn (hc pins s σ H _ I h) fun d s1⟨H1,I1,q1⟩=>?_)
 cases d with
 |true=>exact ha pins s1 σ H1 D I1 q1
 |false=>exact hb pins s1 σ H1 D I1 q1
end
abbrev TG:=V->St->Hp->(St->Hp->Prop)->Prop
abbrev TGs:=List V->St->Hp->(St->Hp->Prop)->Prop
def PG(X:Cx)(target:Expr)(t:TG):Prop:=
 ∀(pins:List (Addr×Obj))(s:kC)(σ:St)(H:Hp)(v:V)(u:kB)(Q:St->Hp->Prop),Inv X pins σ H s->RelV v u->t v σ H Q->
  wpAny (model X.prog X.w) X.A (assign target X.env u) (fun _ s'=>∃σ' H',Inv X pins σ' H' s'/\Q σ' H') X.xe s
def PGs(X:Cx)(ts:List Expr)(t:TGs):Prop:=
 ∀(pins:List (Addr×Obj))(s:kC)(σ:St)(H:Hp)(vs:List V)(us:List kB)(Q:St->Hp->Prop),Inv X pins σ H s->Vals vs us->t vs σ H Q->
  wpAny (model X.prog X.w) X.A (CM ((jy ts X.env).map (·.2)) us) (fun _ s'=>∃σ' H',Inv X pins σ' H' s'/\Q σ' H') X.xe s
section
variable{X:Cx}{pos:Pos}
def gName(i:Nat):TG:=fun v σ H Q=>Q (σ.set i (some v)) H
theorem zby{i:Nat}{x:Str}(hN:X.N.Nodup)(hi:X.N[i]?=some x)(hx:Loc X.env.scope x)(hf:X.fn x=true∨X.env.scope.names.lookup x=some .local:=by first|exact .inl rfl|exact .inr rfl|assumption):PG X (.Name x pos) (gName i):=by
 intro pins s σ H v u Q I r h;exact Cd (zf6 I hN hi hx r (fun s' I'=>⟨_,H,I',h⟩) hf)
def gNil:TGs:=fun vs σ H Q=>vs=[]/\Q σ H
def gCons(t:TG)(u:TGs):TGs:=fun vs σ H Q=>∃v r,vs=v::r/\t v σ H fun σ' H'=>u r σ' H' Q
theorem zes:PGs X [] gNil:=by
 intro pins s σ H vs us Q I r h;obtain⟨e,h⟩:=h;subst e
 cases r;exact Ce ⟨σ,H,I,h⟩
theorem zdv{e:Expr}{es:List Expr}{t:TG}{u:TGs}(h1:PG X e t)(h2:PGs X es u)
  (hs:(jy (e::es) X.env).map (·.2)=assign e X.env::(jy es X.env).map (·.2):=by rfl):PGs X (e::es) (gCons t u):=by
 intro pins s σ H vs us Q I r h;obtain⟨v,vr,e1,h⟩:=h;subst e1
 cases r with
 |cons r rr=>
  rw[hs];refine AB (thn (h1 pins s σ H _ _ _ I r h) fun _ s1⟨σ1,H1,I1,q1⟩=>?_);exact h2 pins s1 σ1 H1 _ _ Q I1 rr q1
def gTup(K:kM)(n:Nat)(t:TGs):TG:=fun v σ H Q=>∃a xs,v=.ref a/\SqT K H a xs/\xs.length=n/\t xs σ H Q
theorem pg_tup{es:List Expr}{k:Nat}{t:TGs}{n:Nat}(hc:X.calm=true)(h:PGs X es t)
  (hn:(jy es X.env).length=n:=by rfl)(hst:(jy es X.env).findIdx? (·.1)=none:=by rfl):PG X (.Tuple es k pos) (gTup X.K n t):=by
 intro pins s σ H v u Q I r hw;obtain⟨a,xs,e1,hq,hl,hw⟩:=hw;subst e1
 cases r;obtain⟨its,rv,ht,hz⟩:=I.tuple hq;refine assign_Tuple_tuple (I.ok.hd hc) ht (by simp[hn,←hl,rv.length]) hst fun h' hx=>?_
 have I1:Inv X pins σ H {s with heap:=h'}:=I.kept (t':=s.toks) fun b o e=>hx b o (uH (pK e)) e;exact h pins _ σ H xs _ Q I1 (by simpa using rv) hw
def tAsg(te:TE)(g:TG):TS:=fun D σ H=>te σ H fun x H1=>g x σ H1 D.nx
theorem zbn{i:Nat}{x:Str}{e:Expr}{te:TE}{pos':Pos}(hN:X.N.Nodup)(hi:X.N[i]?=some x)(hx:Loc X.env.scope x)(he:PE X e te)(hs:CF e (some (.Name x pos')) pos.line X.env=pure false:=by rfl)(hf:X.fn x=true∨X.env.scope.names.lookup x=some .local:=by first|exact .inl rfl|exact .inr rfl|assumption):
  PS X (.Assign [.Name x pos'] e pos) (tAsg te (gName i)):=by
 intro pins s σ H D I h;refine wpAny_Assign_Name (thn (he pins s σ H _ I h) fun v s1⟨y,H1,I1,r1,q1⟩=>?_) hs;exact zf6 I1 hN hi hx r1 (fun s2 I2=>⟨_,H1,I2,q1⟩) hf
def tPar(i j:Nat)(ta:TA):TS:=fun D σ H=>ta σ H fun vs H1=>∃v w,vs=[v,w]/\D.nx ((σ.set i (some v)).set j (some w)) H1
theorem ps_par{i j:Nat}{x y:Str}{a b:Expr}{ta:TA}{px py pt:Pos}{kt k2 pt2}(hc:X.calm=true)(hN:X.N.Nodup)(hi:X.N[i]?=some x)(hj:X.N[j]?=some y)(hij:i≠j)
  (hx:X.env.scope.names.lookup x=some .local)(hy:X.env.scope.names.lookup y=some .local)(ha:PA X [a,b] ta)
  (hw:swappedStores [.Tuple [.Name x px,.Name y py] kt pt] (.Tuple [a,b] k2 pt2) X.env=pure (some [x,y]))
  (hs:swapsWithSole [.Tuple [.Name x px,.Name y py] kt pt] (.Tuple [a,b] k2 pt2) pos.line X.env=pure false:=by rfl):
  PS X (.Assign [.Tuple [.Name x px,.Name y py] kt pt] (.Tuple [a,b] k2 pt2) pos) (tPar i j ta):=by
 intro pins s σ H D I h;rw[exec_Assign_arm];refine kA (gC ?_);rw[hs];refine kA (kF ?_);rw[if_neg (by decide)]
 refine kA (Tuple_ (thn (ha _ pins s σ H _ I h) fun us s1⟨vs,H1,I1,r1,q1⟩=>?_));obtain⟨v,w,e1,q1⟩:=q1;subst e1;obtain⟨u1,u2,rfl,rv,rw'⟩:∃u1 u2,us=[u1,u2]/\RelV v u1/\RelV w u2:=by
  cases r1 with
  |cons p q=>
   cases q with
   |cons p' q'=>
    cases q';exact⟨_,_,rfl,p,p'⟩
 refine UR ?_ (by show 2<=sizeLine;decide)
 have I2:Inv X pins σ H1 {s1 with heap:=s1.heap.push {cls:=.type "tuple",data:=.seq [u1,u2].toArray}}:=I1.kept (t':=s1.toks) fun b o e=>kN _ e;rw[hw];refine kA (kF ?_)
 show wpAny (model X.prog X.w) X.A (do rule "assign.swapped-stores";let items ←unpackItems (.ref s1.heap.objs.size) 2 none;CM [fun v=>Dh X.env y v,fun v=>Dh X.env x v] items.reverse;pure Flow.next) _ _ _
 refine kA (UE (kA (unpackItems_tuple (items:=#[u1,u2]) (I.ok.hd hc) (IsTup.new s1.heap _) fun h' hx'=>?_)));have I3:=I2.kept (h':=h') (t':=s1.toks) fun b o e=>hx' b o (uH (pK e)) e
 show wpAny _ _ (CM [fun v=>Dh X.env y v,fun v=>Dh X.env x v] [u2,u1]>>=fun _=>pure Flow.next) _ _ _
 refine kA (AB (wpAny_bindName (zf6 I3 hN hj (.inl hy) rw' (fun s2 I4=>?_) (.inr hy))));refine AB (wpAny_bindName (zf6 I4 hN hi (.inl hx) rv (fun s3 I5=>Ce (kF ?_)) (.inr hx)));rw[List.set_comm _ _ (jP hij)] at I5;exact⟨_,H1,I5,q1⟩
end
section
variable{X:Cx}{pos:Pos}
def zly(c:TT)(tb:TS):TS:=fun D σ H=>∃W:Nat->St->Hp->Prop,(∃m,W m σ H)/\∀m σ H,W m σ H->
 c σ H fun b H1=>if b=true then ∃N:St->Hp->Prop,(∀σ' H',N σ' H'->∃m',m'<m/\W m' σ' H')/\tb {D with nx:=N,ct:=N,bk:=D.nx} σ H1 else D.nx σ H1
theorem zg5{c:Expr}{body:List Stmt}{tc:TT}{tb:TS}(hp:PassesOwn (model X.prog X.w) X.A X.env X.xe)(hc:PT X c tc)(hb:PSs X body tb):PS X (.While c body [] pos) (zly tc tb):=by
 intro pins s σ H D I h;obtain⟨W,⟨m0,w0⟩,turn⟩:=h;refine wpAny_While (codeAny_whileLoop (fun n s'=>∃σ' H',Inv X pins σ' H' s'/\W n σ' H') ?_ m0 ⟨σ,H,I,w0⟩);rintro n s1 ⟨σ1,H1,I1,w1⟩;refine Ul hp (thn (hc pins s1 σ1 H1 _ I1 (turn n σ1 H1 w1)) fun b s2⟨H2,I2,q2⟩=>?_)
 cases b with
 |true=>
  obtain⟨N,hN,q2⟩:=q2;rw[if_pos rfl];refine Ul hp (thn (hb pins s2 σ1 H2 _ I2 q2) fun f s3 q3=>?_)
  cases f with
  |next=>
   obtain⟨σ3,H3,I3,n3⟩:=q3;obtain⟨m',hm,w3⟩:=hN σ3 H3 n3;exact⟨m',hm,σ3,H3,I3,w3⟩
  |cont=>
   obtain⟨σ3,H3,I3,n3⟩:=q3;obtain⟨m',hm,w3⟩:=hN σ3 H3 n3;exact⟨m',hm,σ3,H3,I3,w3⟩
  |brk=>exact q3
  |ret v=>exact q3
 |false=>
  rw[if_neg pf];exact gQ ⟨σ1,H2,I2,q2⟩
end
structure It where
 go:Nat->Hp->Prop
 yld:Nat->Hp->V->Hp->Prop
 stop:Nat->Hp->Prop
def FpOk(X:Cx)(pins:List (Addr×Obj))(H:Hp)(b:Addr):Prop:=
 H b=none/\b≠X.env.locals/\b∉X.fs/\(b∈X.ex∨X.s₀.heap.objs.size<=b)/\(∀x c,X.env.cells.lookup x=some c->c≠b)/\∀p∈X.pn++pins,p.1≠b
theorem Inv.fpOk{X:Cx}{pins:List (Addr×Obj)}{σ:St}{H H':Hp}{s:kC}{b:Addr}(I:Inv X pins σ H s)(hb:s.heap.objs.size<=b)(hn:H' b=none):FpOk X pins H' b:=by
 refine⟨hn,vR (pG I.lt hb),I.nofs hb,.inr (pV I.sz hb),fun x c e z=>?_,fun p hp z=>?_⟩
 ·obtain⟨v,q⟩:=I.cell x c e;exact absurd (pG q.lt (by rw[z];exact hb)) (Ux _)
 ·exact absurd (pG (pK (I.pin p hp).1) (by rw[z];exact hb)) (Ux _)
structure Turn(P:kq)(w:pX)(K:kM)(tg:Expr)(J:It)(fp:List Addr)(it:Addr)(tn:Nat->Heap->Prop):Prop where
 mem:it∈fp
 obj:∀i h,tn i h->∀b∈fp,∃o,h.get? b=some o/\∀v,o.data≠.cell v
 keep:∀i h h',tn i h->(∀b∈fp,∀o,h.get? b=some o->h'.get? b=some o)->tn i h'
 item:∀(X:Cx),X.prog=P->X.w=w->X.K=K->X.calm=true->∀(i:Nat)(pins:List (Addr×Obj))(s:kC)(σ:St)(H:Hp)(E:kB->kC->Prop),Inv X pins σ H s->(∀b∈fp,FpOk X pins H b)->tn i s.heap->J.go i H->
  wpAny (model P w) X.A (DA (.ref it)) (fun r s1=>∃u,r=some u/\
   wpAny (model P w) X.A (gT tg (.ref it) u) (fun _ s2=>∃x H',Inv X pins σ H' s2/\RelV x u/\J.yld i H x H'/\tn (i+1) s2.heap/\∀b∈fp,H' b=none) E s1) E s
 done:∀(X:Cx),X.prog=P->X.w=w->X.K=K->X.calm=true->∀(i:Nat)(pins:List (Addr×Obj))(s:kC)(σ:St)(H:Hp)(E:kB->kC->Prop),Inv X pins σ H s->(∀b∈fp,FpOk X pins H b)->tn i s.heap->J.stop i H->
  wpAny (model P w) X.A (DA (.ref it)) (fun r s1=>r=none/\Inv X pins σ H s1) E s
 self:∀(A:pj)(i:Nat)(s:kC)(Q:kB->kC->Prop)(E:kB->kC->Prop),tn i s.heap->Q (.ref it) s->wpAny (model P w) A (pyIter (.ref it)) Q E s
abbrev TI:=St->Hp->(It->Hp->Prop)->Prop
def PIE(X:Cx)(pins:List (Addr×Obj))(σ:St)(tg:Expr)(R:It->Hp->Prop)(itv:kB)(s2:kC):Prop:=
 ∃(it:Addr)(fp:List Addr)(tn:Nat->Heap->Prop)(J:It)(H':Hp),itv=.ref it/\Inv X pins σ H' s2/\Turn X.prog X.w X.K tg J fp it tn/\tn 0 s2.heap/\(∀b∈fp,FpOk X pins H' b)/\R J H'
def PI(X:Cx)(tg iter:Expr)(wi:TI):Prop:=
 ∀(pins:List (Addr×Obj))(s:kC)(σ:St)(H:Hp)(R:It->Hp->Prop),Inv X pins σ H s->wi σ H R->
  wpAny (model X.prog X.w) X.A (eval iter X.env) (fun v s1=>wpAny (model X.prog X.w) X.A (pyIter v) (PIE X pins σ tg R) X.xe s1) X.xe s
theorem go_of{M:Model}{A:pj}{E:kB->kC->Prop}{s:kC}{tg:Expr}{it:Addr}{u:kB}{o:Obj}{n:String}{vs:Array kB}{Q:Unit->kC->Prop}(ho:s.heap.get? it=some o)(hc:o.cls=.type n)(hd:o.data=.fields vs)
  (hn:["enumerate","zip","dict_itemiterator","dict_reverseitemiterator","odict_iterator","itertools.zip_longest","itertools.pairwise"].contains n=false)(hQ:Q () s):wpAny M A (gT tg (.ref it) u) Q E s:=by
 unfold gT
 cases tg<;>first
  |exact kF hQ
  |(cases u<;>first
    |exact kF hQ
    |(refine kA (wpAny_load ho ?_)
      rw[hc,hd];show wpAny M A (if(["enumerate","zip","dict_itemiterator","dict_reverseitemiterator","odict_iterator","itertools.zip_longest","itertools.pairwise"].contains n&&vs[0]?==some (Qo _))=true then _ else _) Q E s;rw[if_neg (by intro h;rw[hn,Bool.false_and] at h;cases h)]
      exact kF hQ))
def Itl(K:kM)(a:Addr):It:=
 ⟨fun i H=>∃xs x,SqL K H a xs/\xs[i]?=some x,fun i H x H'=>H'=H/\∀xs,SqL K H a xs->xs[i]?=some x,fun i H=>∃xs,SqL K H a xs/\xs.length<=i⟩
def Itr(lo:Int)(n:Nat):It:=⟨fun i _=>i<n,fun i H x H'=>H'=H/\x=.int (lo+i),fun i _=>n<=i⟩
theorem znj{P:kq}{w:pX}{K:kM}{tg:Expr}(a it:Addr):Turn P w K tg (Itl K a) [it] it (fun i h=>h.IsListIter it a i) where
 mem:=by simp
 obj:=fun i h st b hb=>by
  have e:b=it:=by simpa using hb
  subst e;obtain⟨o,e,c,d⟩:=st;exact⟨o,e,fun v z=>by rw[d] at z;cases z⟩
 keep:=fun i h h' st k=>st.at fun o e=>k it (by simp) o e
 item:=by
  intro X hP hw hK hc i pins s σ H E I hf st hg;subst hP hw hK;obtain⟨xs,x,hq,hx⟩:=hg;obtain⟨its,rv,p,hz⟩:=I.list hq;obtain⟨u,hu,ru⟩:=rv.get hx;obtain⟨f0,f1,f2,f3,f4,f5⟩:=hf it (by simp)
  refine wpAny_pyNext_list_item st p.isList (x:=u) (by simpa using hu) fun h' st' sb=>?_
  have I1:Inv X pins σ H {s with heap:=h'}:=I.turned (t':=s.toks) (fun b o hb e=>(sb.2 b hb).trans e) f0 f1 f3 f4 f5;obtain⟨o,e,c,d⟩:=id st';exact⟨u,rfl,go_of (s:={s with heap:=h'}) e c d (by decide) ⟨x,H,I1,ru,⟨rfl,fun ys hy=>by rw[I.list_inj hy hq];exact hx⟩,st',fun b hb=>(hf b hb).1⟩⟩
 done:=by
  intro X hP hw hK hc i pins s σ H E I hf st hg;subst hP hw hK;obtain⟨xs,hq,hx⟩:=hg;obtain⟨its,rv,p,hz⟩:=I.list hq;obtain⟨f0,f1,f2,f3,f4,f5⟩:=hf it (by simp)
  have hl:=rv.length;exact wpAny_pyNext_list_end (I.ok.hd hc) st p.isList (by simp;omega) fun h' eb=>⟨rfl,I.turned (t':=s.toks) (fun b o hb e=>eb b o hb e) f0 f1 f3 f4 f5⟩
 self:=fun _ _ _ _ _ st h=>wpAny_pyIter_listiter st h
theorem zma{P:kq}{w:pX}{K:kM}{tg:Expr}(it:Addr)(lo:Int)(n:Nat):Turn P w K tg (Itr lo n) [it] it (fun i h=>IsRangeIter h it (lo+(i:Nat)*1) ((n:Int)-(i:Nat)) 1) where
 mem:=by simp
 obj:=fun i h st b hb=>by
  have e:b=it:=by simpa using hb
  subst e;exact⟨_,st,fun v z=>by
   have z':gE _=EH v:=z
   cases z'⟩
 keep:=fun i h h' st k=>k it (by simp) _ st
 item:=by
  intro X hP hw hK hc i pins s σ H E I hf st hg;subst hP hw hK;obtain⟨f0,f1,f2,f3,f4,f5⟩:=hf it (by simp)
  have W:=Walks.range (prog:=X.prog) (w:=X.w) (I.ok.hd hc) it lo 1 n;refine W.item i s _ _ hg st fun v h' tk hv st' kk=>?_;obtain⟨t,rfl⟩:=hv;have I1:Inv X pins σ H {s with heap:=h',toks:=tk}:=I.turned (fun b o hb e=>kk b o (by simpa using hb) e) f0 f1 f3 f4 f5
  refine⟨_,rfl,go_of (s:={s with heap:=h',toks:=tk}) (n:="range_iterator") st' rfl rfl (by decide) ⟨.int (lo+i),H,I1,⟨t,?_⟩,⟨rfl,rfl⟩,st',fun b hb=>(hf b hb).1⟩⟩
  rw[Int.mul_one]
 done:=by
  intro X hP hw hK hc i pins s σ H E I hf st hg;subst hP hw hK;obtain⟨f0,f1,f2,f3,f4,f5⟩:=hf it (by simp)
  exact wpAny_pyNext_range_end (I.ok.hd hc) st (by have:n<=i:=hg;omega) fun h' eb=>⟨rfl,I.turned (t':=s.toks) (fun b o hb e=>eb b o hb e) f0 f1 f3 f4 f5⟩
 self:=fun _ _ _ _ _ st h=>wpAny_pyIter_rangeiter st h
section
variable{X:Cx}{tg:Expr}
def zcu(K:kM)(tl:TE):TI:=fun σ H R=>tl σ H fun x H1=>∃a,x=.ref a/\(∃xs,SqL K H1 a xs)/\R (Itl K a) H1
theorem zc3{l:Expr}{tl:TE}(hl:PE X l tl):PI X tg l (zcu X.K tl):=by
 intro pins s σ H R I h;refine thn (hl pins s σ H _ I h) fun v s1⟨x,H1,I1,r1,q1⟩=>?_;obtain⟨a,e,⟨xs,hq⟩,q⟩:=q1;subst e
 cases r1;obtain⟨its,rv,p,hz⟩:=I1.list hq;refine AY p.isList ?_;refine⟨s1.heap.objs.size,[s1.heap.objs.size],_,_,H1,rfl,I1.kept (t':=s1.toks) fun b o e=>kN _ e,znj a _,⟨_,pJ _ rfl,rfl,rfl⟩,fun b hb=>?_,q⟩;have e:b=s1.heap.objs.size:=by simpa using hb
 subst e;exact I1.fpOk (kJ _) (I1.hok.fresh (kJ _))
theorem range_it{pins:List (Addr×Obj)}{σ:St}{H:Hp}{s:kC}{R:It->Hp->Prop}{E:kB->kC->Prop}{lo hi:Int}{t u v:Tok}{tk:Nat}(I:Inv X pins σ H s)(h1: -(2^62)<=lo)(h2:lo<2^62)(h3: -(2^62)<=hi)(h4:hi<2^62)
  (q:R (Itr lo (hi-lo).toNat) H):wpAny (model X.prog X.w) X.A (pyIter (.ref s.heap.objs.size)) (PIE X pins σ tg R) E {s with heap:=s.heap.push {cls:=.type "range",data:=.fields #[.int lo t,.int hi u,.int 1 v]},toks:=tk}:=by
 refine wpAny_pyIter_range (IsRange.new ..) (small_one h1 h2 h3 h4) ?_;have I1:Inv X pins σ H {s with heap:=s.heap.push {cls:=.type "range",data:=.fields #[.int lo t,.int hi u,.int 1 v]},toks:=tk}:=I.kept fun b o e=>kN _ e;refine⟨(s.heap.push {cls:=.type "range",data:=.fields #[.int lo t,.int hi u,.int 1 v]}).objs.size,[(s.heap.push {cls:=.type "range",data:=.fields #[.int lo t,.int hi u,.int 1 v]}).objs.size],_,_,H,rfl,
  I1.kept (t':=tk) fun b o e=>kN _ e,zma _ lo (hi-lo).toNat,?_,fun b hb=>?_,q⟩
 ·have e1:lo+((0:Nat):Int)*1=lo:=by simp
  have e2:(((hi-lo).toNat:Nat):Int)-((0:Nat):Int)=Builtin.Range.rangeSize lo hi 1:=by rw[rangeSize_one];split<;>omega
  show IsRangeIter _ _ (lo+((0:Nat):Int)*1) ((((hi-lo).toNat:Nat):Int)-((0:Nat):Int)) 1
  rw[e1,e2];exact pJ _ rfl
 ·have e:b=(s.heap.push {cls:=.type "range",data:=.fields #[.int lo t,.int hi u,.int 1 v]}).objs.size:=by simpa using hb
  subst e;exact I1.fpOk (kJ _) (I1.hok.fresh (kJ _))
def iRng1(ta:TA):TI:=fun σ H R=>ta σ H fun vs H1=>∃j:Int,vs=[.int j]/\ -(2^62)<=j/\j<2^62/\R (Itr 0 j.toNat) H1
theorem zgo{a:Expr}{ta:TA}{p pos:Pos}(hg:Gl X "range")(hm:X.mg "range"=none)(ha:PA X [a] ta)(hs:ui [a] X.env=[(false,eval a X.env)]:=by rfl):PI X tg (.Call (.Name "range" p) [a] [] pos) (iRng1 ta):=by
 intro pins s σ H R I h;refine Call_ (zjc I hg hm boot_range (gt (thn (ha pos pins s σ H _ I h) fun us s1⟨vs,H1,I1,r1,q1⟩=>?_) hs rfl));obtain⟨j,e,q1,q2,q⟩:=q1;subst e
 cases r1 with
 |cons r rr=>
  cases rr;obtain⟨t,rfl⟩:=r;exact call_range_1 (range_it I1 (by omega) (by omega) q1 q2 (by simpa using q))
def tFor(wi:TI)(g:TG)(tb:TS):TS:=fun D σ H=>wi σ H fun J H1=>∃W:Nat->Nat->St->Hp->Prop,(∃m,W 0 m σ H1)/\∀i m σ H,W i m σ H->
 (J.stop i H/\D.nx σ H)∨(J.go i H/\∃N:St->Hp->Prop,(∀σ' H',N σ' H'->∃m',m'<m/\W (i+1) m' σ' H')/\∀x H',J.yld i H x H'->g x σ H' fun σ2 H2=>tb {D with nx:=N,ct:=N,bk:=D.nx} σ2 H2)
def zjj(fp:List Addr)(h:Heap):List (Addr×Obj):=fp.filterMap fun b=>(h.get? b).map fun o=>(b,o)
theorem zek{fp:List Addr}{h:Heap}{b:Addr}{o:Obj}(hb:b∈fp)(e:h.get? b=some o):(b,o)∈zjj fp h:=List.mem_filterMap.mpr ⟨b,hb,by rw[e];rfl⟩
theorem zoc{fp:List Addr}{h:Heap}{p:Addr×Obj}(hp:p∈zjj fp h):p.1∈fp/\h.get? p.1=some p.2:=by
 obtain⟨b,hb,e⟩:=List.mem_filterMap.mp hp
 cases q:h.get? b with
 |none=>rw[q] at e;cases e
 |some o=>
  rw[q] at e;have e':(b,o)=p:=uK e;subst e';exact⟨hb,q⟩
theorem Inv.pinned{pins:List (Addr×Obj)}{σ:St}{H:Hp}{s:kC}{fp:List Addr}(I:Inv X pins σ H s)(hf:∀b∈fp,FpOk X pins H b)(ho:∀b∈fp,∃o,s.heap.get? b=some o/\∀v,o.data≠.cell v):Inv X (pins++zjj fp s.heap) σ H s:=
 I.pins_of fun p hp=>(kW.mp hp).elim (fun z=>I.pin p (kh _ z)) fun z=>by
  obtain⟨hb,e⟩:=zoc z;obtain⟨f0,f1,f2,_⟩:=hf p.1 hb;obtain⟨o,e',d⟩:=ho p.1 hb;rw[e] at e';cases e';exact⟨e,f0,f1,f2,d⟩
theorem Inv.unpinned{pins pl:List (Addr×Obj)}{σ:St}{H:Hp}{s:kC}(I:Inv X (pins++pl) σ H s):Inv X pins σ H s:=I.pins_of fun p hp=>I.pin p (kh _ (uP _ hp))
theorem zdj{iter:Expr}{body:List Stmt}{wi:TI}{g:TG}{tb:TS}{pos:Pos}(hp:PassesOwn (model X.prog X.w) X.A X.env X.xe)(hc:X.calm=true)(hi:PI X tg iter wi)(hg:PG X tg g)(hb:PSs X body tb)
  (hs:∀x,jc iter X.env x=pure x:=by intro _;rfl):PS X (.For tg iter body [] pos) (tFor wi g tb):=by
 intro pins s σ H D I h;refine wpAny_For (thn (hi pins s σ H _ I h) fun v s1 h1=>thn h1 fun itv s2 h2=>?_) hs;obtain⟨it,fp,tn,J,H2,e,I2,T,st2,f2,W,⟨m0,w0⟩,turn⟩:=h2;subst e;have stat:∀{H':Hp},(∀b∈fp,H' b=none)->∀b∈fp,FpOk X pins H' b:=fun hn b hb=>⟨hn b hb,(f2 b hb).2⟩;refine codeAny_forLoop_any (fun n s'=>∃i σ' H',Inv X pins σ' H' s'/\tn i s'.heap/\(∀b∈fp,H' b=none)/\W i n σ' H') ?_ m0 ⟨0,σ,H2,I2,st2,fun b hb=>(f2 b hb).1,w0⟩;rintro n s3 ⟨i,σ3,H3,I3,st3,fr3,w3⟩;rcases turn i n σ3 H3 w3 with⟨stop,qn⟩|⟨go,N,hN,step⟩
 ·refine Ul hp (thn (T.done X rfl rfl rfl hc i pins s3 σ3 H3 X.xe I3 (stat fr3) st3 stop) fun r s4⟨hr,I4⟩=>?_);subst hr;exact gQ ⟨σ3,H3,I4,qn⟩
 ·refine Ul hp (thn (T.item X rfl rfl rfl hc i pins s3 σ3 H3 X.xe I3 (stat fr3) st3 go) fun r s4⟨u,hr,h4⟩=>?_);subst hr;refine Ul hp (thn h4 fun _ s5⟨x,H5,I5,r5,y5,st5,fr5⟩=>?_);have I5':=I5.pinned (stat fr5) (T.obj _ _ st5);refine Ul hp (thn (hg _ s5 σ3 H5 x u _ I5' r5 (step x H5 y5)) fun _ s6⟨σ6,H6,I6,q6⟩=>?_);refine Ul hp (thn (hb _ s6 σ6 H6 _ I6 q6) fun f s7 q7=>?_);have again:∀{σ7:St}{H7:Hp},Inv X (pins++zjj fp s5.heap) σ7 H7 s7->N σ7 H7->∃m,m<n/\∃i σ' H',Inv X pins σ' H' s7/\tn i s7.heap/\(∀b∈fp,H' b=none)/\W i m σ' H':=fun{σ7 H7} I7 n7=>by
   obtain⟨m',hm,w7⟩:=hN σ7 H7 n7;refine⟨m',hm,i+1,σ7,H7,I7.unpinned,T.keep _ _ _ st5 fun b hb o e=>(I7.pin (b,o) (kh _ (kh _ (zek hb e)))).1,fun b hb=>?_,w7⟩;obtain⟨o,e,d⟩:=T.obj _ _ st5 b hb;exact(I7.pin (b,o) (kh _ (kh _ (zek hb e)))).2.1
  cases f with
  |next=>obtain⟨σ7,H7,I7,n7⟩:=q7;exact again I7 n7
  |cont=>obtain⟨σ7,H7,I7,n7⟩:=q7;exact again I7 n7
  |brk=>obtain⟨σ7,H7,I7,q7⟩:=q7;exact⟨σ7,H7,I7.unpinned,q7⟩
  |ret v=>obtain⟨x7,σ7,H7,I7,r7,q7⟩:=q7;exact⟨x7,σ7,H7,I7.unpinned,r7,q7⟩
end
theorem for_list{K:kM}{a:Addr}{xs:List V}{g:TG}{tb:TS}{D:Ends}{σ:St}{H:Hp}(Pv:Nat->St->Hp->Prop)(h0:Pv 0 σ H)(hl:∀i σ H,i<=xs.length->Pv i σ H->SqL K H a xs)
  (hs:∀i x σ H,xs[i]?=some x->Pv i σ H->g x σ H fun σ2 H2=>tb {D with nx:=Pv (i+1),ct:=Pv (i+1),bk:=D.nx} σ2 H2)(hd:∀σ H,Pv xs.length σ H->D.nx σ H):
  ∃W:Nat->Nat->St->Hp->Prop,(∃m,W 0 m σ H)/\∀i m σ H,W i m σ H->
   ((Itl K a).stop i H/\D.nx σ H)∨((Itl K a).go i H/\∃N:St->Hp->Prop,(∀σ' H',N σ' H'->∃m',m'<m/\W (i+1) m' σ' H')/\∀x H',(Itl K a).yld i H x H'->g x σ H' fun σ2 H2=>tb {D with nx:=N,ct:=N,bk:=D.nx} σ2 H2):=by
 refine⟨fun i m σ H=>m=xs.length-i/\i<=xs.length/\Pv i σ H,⟨xs.length,by simp,pY _,h0⟩,?_⟩
 rintro i m σ H ⟨rfl,hi,p⟩;have q:=hl i σ H hi p
 by_cases hlt:i<xs.length
 ·refine .inr ⟨⟨xs,xs[i],q,by simp[hlt]⟩,Pv (i+1),fun σ' H' p'=>⟨xs.length-(i+1),by omega,rfl,hlt,p'⟩,fun x H' y=>?_⟩
  obtain⟨e,y⟩:=y;subst e;exact hs i x σ _ (y xs q) p
 ·have e:i=xs.length:=by omega
  subst e;exact .inl ⟨⟨xs,q,kJ _⟩,hd σ H p⟩
theorem zpw{lo:Int}{n:Nat}{g:TG}{tb:TS}{D:Ends}{σ:St}{H:Hp}(Pv:Nat->St->Hp->Prop)(h0:Pv 0 σ H)
  (hs:∀i σ H,i<n->Pv i σ H->g (.int (lo+i)) σ H fun σ2 H2=>tb {D with nx:=Pv (i+1),ct:=Pv (i+1),bk:=D.nx} σ2 H2)(hd:∀σ H,Pv n σ H->D.nx σ H):
  ∃W:Nat->Nat->St->Hp->Prop,(∃m,W 0 m σ H)/\∀i m σ H,W i m σ H->
   ((Itr lo n).stop i H/\D.nx σ H)∨((Itr lo n).go i H/\∃N:St->Hp->Prop,(∀σ' H',N σ' H'->∃m',m'<m/\W (i+1) m' σ' H')/\∀x H',(Itr lo n).yld i H x H'->g x σ H' fun σ2 H2=>tb {D with nx:=N,ct:=N,bk:=D.nx} σ2 H2):=by
 refine⟨fun i m σ H=>m=n-i/\i<=n/\Pv i σ H,⟨n,by simp,pY _,h0⟩,?_⟩
 rintro i m σ H ⟨rfl,hi,p⟩
 by_cases hlt:i<n
 ·refine .inr ⟨hlt,Pv (i+1),fun σ' H' p'=>⟨n-(i+1),by omega,rfl,hlt,p'⟩,fun x H' y=>?_⟩
  obtain⟨e,y⟩:=y;subst e y;exact hs i σ _ hlt p
 ·have e:i=n:=by omega
  subst e;exact .inl ⟨kJ _,hd σ H p⟩
theorem while_by{c:TT}{tb:TS}{D:Ends}{σ:St}{H:Hp}(Pv:St->Hp->Prop)(μ:St->Hp->Nat)(h0:Pv σ H)
  (hs:∀σ H,Pv σ H->c σ H fun b H1=>if b=true then tb {D with nx:=fun σ' H'=>Pv σ' H'/\μ σ' H'<μ σ H,ct:=fun σ' H'=>Pv σ' H'/\μ σ' H'<μ σ H,bk:=D.nx} σ H1 else D.nx σ H1)
  (mono:∀σ H Q Q',(∀b H1,Q b H1->Q' b H1)->c σ H Q->c σ H Q'):zly c tb D σ H:=by
 refine⟨fun m σ H=>m=μ σ H/\Pv σ H,⟨_,rfl,h0⟩,?_⟩;rintro m σ H ⟨rfl,p⟩;refine mono σ H _ _ (fun b H1 q=>?_) (hs σ H p)
 cases b with
 |true=>exact⟨_,fun σ' H'⟨p',l⟩=>⟨_,l,rfl,p'⟩,q⟩
 |false=>exact q
abbrev R2:=V->V->Hp->VK->Prop
def OpR(X:Cx)(f:kB->kB->Sem kB)(r:R2):Prop:=
 ∀(pins:List (Addr×Obj))(s:kC)(σ:St)(H:Hp)(x y:V)(v u:kB)(Q:VK),Inv X pins σ H s->RelV x v->RelV y u->r x y H Q->
  wpAny (model X.prog X.w) X.A (f v u) (EP X pins σ Q) X.xe s
def UnR(X:Cx)(f:kB->Sem kB)(r:V->Hp->VK->Prop):Prop:=
 ∀(pins:List (Addr×Obj))(s:kC)(σ:St)(H:Hp)(x:V)(v:kB)(Q:VK),Inv X pins σ H s->RelV x v->r x H Q->
  wpAny (model X.prog X.w) X.A (f v) (EP X pins σ Q) X.xe s
def zey(X:Cx)(f:kB)(r:List V->Hp->VK->Prop):Prop:=
 ∀(pins:List (Addr×Obj))(s:kC)(σ:St)(H:Hp)(xs:List V)(us:List kB)(Q:VK),Inv X pins σ H s->Vals xs us->r xs H Q->
  wpAny (model X.prog X.w) X.A (call f us) (EP X pins σ Q) X.xe s
def tOp(r:R2)(ta tb:TE):TE:=fun σ H Q=>ta σ H fun x H1=>tb σ H1 fun y H2=>r x y H2 Q
def tUn(r:V->Hp->VK->Prop)(ta:TE):TE:=fun σ H Q=>ta σ H fun x H1=>r x H1 Q
def rI(C:Int->Int->Prop)(g:Int->Int->V):R2:=fun x y H Q=>∃i j,x=.int i/\y=.int j/\C i j/\Q (g i j) H
def rI0(g:Int->Int->V):R2:=fun x y H Q=>∃i j,x=.int i/\y=.int j/\Q (g i j) H
def rU(g:Int->V):V->Hp->VK->Prop:=fun x H Q=>∃i,x=.int i/\Q (g i) H
section
variable{X:Cx}{a b c:Expr}{ta tb tc:TE}{pos:Pos}
theorem binT(ha:PE X a ta)(hb:PE X b tb){pins:List (Addr×Obj)}{s:kC}{σ:St}{H:Hp}{R:V->V->Hp->Prop}(I:Inv X pins σ H s)
  (h:ta σ H fun x H1=>tb σ H1 fun y H2=>R x y H2){Q:kB->kC->Prop}{f:kB->kB->Sem kB}
  (hf:∀v u s2 x y H2,Inv X pins σ H2 s2->RelV x v->RelV y u->R x y H2->wpAny (model X.prog X.w) X.A (f v u) Q X.xe s2):
  wpAny (model X.prog X.w) X.A (eval a X.env) (fun v s₁=>wpAny (model X.prog X.w) X.A (eval b X.env) (fun u s₂=>wpAny (model X.prog X.w) X.A (f v u) Q X.xe s₂) X.xe s₁) X.xe s:=by
 refine thn (ha pins s σ H _ I h) fun v s1⟨x,H1,I1,r1,q1⟩=>?_;refine thn (hb pins s1 σ H1 _ I1 q1) fun u s2⟨y,H2,I2,r2,q2⟩=>?_;exact hf v u s2 x y H2 I2 r1 r2 q2
theorem zds{op:Operator}{r:R2}(ho:OpR X (jd op) r)(ha:PE X a ta)(hb:PE X b tb):PE X (.BinOp a op b pos) (tOp r ta tb):=by
 intro pins s σ H Q I h;exact wpAny_BinOp (binT ha hb I h fun v u s2 x y H2 I2 rx ry q=>ho pins s2 σ H2 x y v u Q I2 rx ry q)
theorem pe_un{op:UnaryOp}{r:V->Hp->VK->Prop}(ho:UnR X (unaryOp op) r)(ha:PE X a ta):PE X (.UnaryOp op a pos) (tUn r ta):=by
 intro pins s σ H Q I h;exact UnaryOp_ (thn (ha pins s σ H _ I h) fun v s1⟨x,H1,I1,r1,q1⟩=>ho pins s1 σ H1 x v Q I1 r1 q1)
theorem opI{f:kB->kB->Sem kB}{C:Int->Int->Prop}{g:Int->Int->Int}
  (rule:∀(i j:Int)(t u:Tok)(s:kC)(Q:kB->kC->Prop)(E:kB->kC->Prop),C i j->Q (.int (g i j) s.toks) {s with toks:=s.toks+1}->wpAny (model X.prog X.w) X.A (f (.int i t) (.int j u)) Q E s):
  OpR X f (rI C fun i j=>.int (g i j)):=by
 intro pins s σ H x y v u Q I rx ry h;obtain⟨i,j,rfl,rfl,hc,q⟩:=h;obtain⟨t,rfl⟩:=rx;obtain⟨t',rfl⟩:=ry;exact rule i j t t' s _ _ hc ⟨.int (g i j),H,I.tok _,⟨_,rfl⟩,q⟩
theorem opI0{f:kB->kB->Sem kB}{g:Int->Int->Int}
  (rule:∀(i j:Int)(t u:Tok)(s:kC)(Q:kB->kC->Prop)(E:kB->kC->Prop),Q (.int (g i j) s.toks) {s with toks:=s.toks+1}->wpAny (model X.prog X.w) X.A (f (.int i t) (.int j u)) Q E s):
  OpR X f (rI0 fun i j=>.int (g i j)):=by
 intro pins s σ H x y v u Q I rx ry h;obtain⟨i,j,rfl,rfl,q⟩:=h;obtain⟨t,rfl⟩:=rx;obtain⟨t',rfl⟩:=ry;exact rule i j t t' s _ _ ⟨.int (g i j),H,I.tok _,⟨_,rfl⟩,q⟩
theorem opB0{f:kB->kB->Sem kB}{g:Int->Int->Bool}
  (rule:∀(i j:Int)(t u:Tok)(s:kC)(Q:kB->kC->Prop)(E:kB->kC->Prop),Q (.bool (g i j)) s->wpAny (model X.prog X.w) X.A (f (.int i t) (.int j u)) Q E s):
  OpR X f (rI0 fun i j=>.bl (g i j)):=by
 intro pins s σ H x y v u Q I rx ry h;obtain⟨i,j,rfl,rfl,q⟩:=h;obtain⟨t,rfl⟩:=rx;obtain⟨t',rfl⟩:=ry;exact rule i j t t' s _ _ ⟨.bl (g i j),H,I,rfl,q⟩
def CDiv(i j:Int):Prop:=0<j/\j<1073741824
def CMul(i j:Int):Prop:=(-(2^64)<i/\i<2^64)∨(-(2^64)<j/\j<2^64)
theorem CMul.ok{i j:Int}(h:CMul i j):IntMulOk i j:=by
 rcases h with⟨h1,h2⟩|⟨h1,h2⟩
 ·exact .of_left (intBits_le_64 h1 h2)
 ·exact .of_right (intBits_le_64 h1 h2)
theorem zbi:OpR X (jd .Add) (rI0 fun i j=>.int (i+j)):=opI0 fun _ _ _ _ _ _ _ q=>add_int q
theorem zcx:OpR X (jd .Sub) (rI0 fun i j=>.int (i-j)):=opI0 fun _ _ _ _ _ _ _ q=>sub_int q
theorem zdq:OpR X (jd .Mult) (rI CMul fun i j=>.int (i*j)):=opI fun _ _ _ _ _ _ _ hc q=>mul_int q hc.ok
theorem zf1:OpR X (jd .FloorDiv) (rI CDiv fun i j=>.int (i/j)):=opI fun i j _ _ _ _ _ hc q=>by
 have h1:(0:Int)<j:=hc.1;have h2:j<1073741824:=hc.2;exact floordiv_int (by omega) (by rw[QX i (by omega)];exact q) (.inl (PyProof.noPylong_small (by omega)))
theorem zco:OpR X (jd .Mod) (rI (fun _ j=>0<j) fun i j=>.int (i%j)):=opI fun i j _ _ _ _ _ hc q=>by
 have h1:(0:Int)<j:=hc;exact mod_int' (by omega) (by rw[AC i (by omega)];exact q)
theorem zk5:OpR X (jd .Mod) (rI (fun _ j=>j≠0) fun i j=>.int (i.fmod j)):=opI fun _ _ _ _ _ _ _ hc q=>mod_int' hc q
theorem unI{f:kB->Sem kB}{g:Int->Int}
  (rule:∀(i:Int)(t:Tok)(s:kC)(Q:kB->kC->Prop)(E:kB->kC->Prop),Q (.int (g i) s.toks) {s with toks:=s.toks+1}->wpAny (model X.prog X.w) X.A (f (.int i t)) Q E s):
  UnR X f (rU fun i=>.int (g i)):=by
 intro pins s σ H x v Q I rx h;obtain⟨i,rfl,q⟩:=h;obtain⟨t,rfl⟩:=rx;exact rule i t s _ _ ⟨.int (g i),H,I.tok _,⟨_,rfl⟩,q⟩
theorem zgd:UnR X (unaryOp .USub) (rU fun i=>.int (-i)):=unI fun _ _ _ _ _ q=>neg_int q
end
def scal:V->V->Bool
 |.non,.non=>true|.non,.int _=>true|.int _,.non=>true|.non,.bl _=>true|.bl _,.non=>true|.non,.str _=>true|.str _,.non=>true
 |.int _,.int _=>true|.bl _,.bl _=>true|.str _,.str _=>true|.byt _,.byt _=>true
 |.int _,.str _=>true|.str _,.int _=>true|.bl _,.str _=>true|.str _,.bl _=>true
 |_,_=>false
def rEq:R2:=fun x y H Q=>scal x y=true/\Q (.bl (decide (x=y))) H
def rNe:R2:=fun x y H Q=>scal x y=true/\Q (.bl (!decide (x=y))) H
theorem zoo{i j:Int}:decide (V.int i=V.int j)=(i==j):=by
 rw[UX]
 simp
theorem dec_bl{i j:Bool}:decide (V.bl i=V.bl j)=(i==j):=by
 rw[UX]
 simp
theorem zpd{i j:Str}:decide (V.str i=V.str j)=(i==j):=by
 rw[UX]
 simp
theorem zni{i j:Array UInt8}:decide (V.byt i=V.byt j)=(i.toList==j.toList):=by
 rw[UX]
 cases i
 cases j
 simp
section
variable{X:Cx}{a b c:Expr}{ta tb tc:TE}{pos:Pos}
theorem zaw{pins:List (Addr×Obj)}{σ:St}{H:Hp}{s:kC}{Q:VK}{k k':Bool}(I:Inv X pins σ H s)(q:Q (.bl k) H)(e:k=k'):EP X pins σ Q (.bool k') s:=by
 subst e;exact⟨.bl k,H,I,rfl,q⟩
theorem op_eq:OpR X (UQ .Eq) rEq:=by
 intro pins s σ H x y v u Q I rx ry h;obtain⟨hs,q⟩:=h
 cases x with
 |non=>
  cases rx
  cases y with
  |non=>cases ry;exact PySem.EqNone.eq_none_none (zaw I q (by simp))
  |bl j=>cases ry;exact PySem.EqNone.eq_none_bool (zaw I q (by simp))
  |int j=>obtain⟨t',rfl⟩:=ry;exact PySem.EqNone.eq_none_int (zaw I q (by simp))
  |str j=>obtain⟨t',rfl⟩:=ry;exact PySem.EqNone.eq_none_str (zaw I q (by simp))
  |_=>exact absurd (show false=true from hs) pf
 |bl i=>
  cases rx
  cases y with
  |non=>cases ry;exact PySem.EqNone.eq_bool_none (zaw I q (by simp))
  |bl j=>cases ry;exact eq_bool (zaw I q dec_bl)
  |str j=>obtain⟨t',rfl⟩:=ry;exact PySem.EqMixed.eq_bool_str (zaw I q (by simp))
  |_=>exact absurd (show false=true from hs) pf
 |int i=>
  obtain⟨t,rfl⟩:=rx
  cases y with
  |non=>cases ry;exact PySem.EqNone.eq_int_none (zaw I q (by simp))
  |int j=>obtain⟨t',rfl⟩:=ry;exact eq_int (zaw I q zoo)
  |str j=>obtain⟨t',rfl⟩:=ry;exact PySem.EqMixed.eq_int_str (zaw I q (by simp))
  |_=>exact absurd (show false=true from hs) pf
 |str i=>
  obtain⟨t,rfl⟩:=rx
  cases y with
  |non=>cases ry;exact PySem.EqNone.eq_str_none (zaw I q (by simp))
  |bl j=>cases ry;exact PySem.EqMixed.eq_str_bool (zaw I q (by simp))
  |int j=>obtain⟨t',rfl⟩:=ry;exact PySem.EqMixed.eq_str_int (zaw I q (by simp))
  |str j=>obtain⟨t',rfl⟩:=ry;exact eq_str (zaw I q zpd)
  |_=>exact absurd (show false=true from hs) pf
 |byt i=>
  obtain⟨t,rfl⟩:=rx
  cases y with
  |byt j=>obtain⟨t',rfl⟩:=ry;exact PySem.W.eq_bytes (zaw I q zni)
  |_=>exact absurd (show false=true from hs) pf
 |_=>cases y<;>exact absurd (show false=true from hs) pf
theorem op_ne:OpR X (UQ .NotEq) rNe:=by
 intro pins s σ H x y v u Q I rx ry h;obtain⟨hs,q⟩:=h
 cases x with
 |non=>
  cases rx
  cases y with
  |non=>cases ry;exact PySem.EqNone.ne_none_none (zaw I q (by simp))
  |bl j=>cases ry;exact PySem.EqNone.ne_none_bool (zaw I q (by simp))
  |int j=>obtain⟨t',rfl⟩:=ry;exact PySem.EqNone.ne_none_int (zaw I q (by simp))
  |str j=>obtain⟨t',rfl⟩:=ry;exact PySem.EqNone.ne_none_str (zaw I q (by simp))
  |_=>exact absurd (show false=true from hs) pf
 |bl i=>
  cases rx
  cases y with
  |non=>cases ry;exact PySem.EqNone.ne_bool_none (zaw I q (by simp))
  |bl j=>cases ry;exact ne_bool (zaw I q (congrArg not dec_bl))
  |str j=>obtain⟨t',rfl⟩:=ry;exact PySem.EqMixed.ne_bool_str (zaw I q (by simp))
  |_=>exact absurd (show false=true from hs) pf
 |int i=>
  obtain⟨t,rfl⟩:=rx
  cases y with
  |non=>cases ry;exact PySem.EqNone.ne_int_none (zaw I q (by simp))
  |int j=>obtain⟨t',rfl⟩:=ry;exact ne_int (zaw I q (congrArg not zoo))
  |str j=>obtain⟨t',rfl⟩:=ry;exact PySem.EqMixed.ne_int_str (zaw I q (by simp))
  |_=>exact absurd (show false=true from hs) pf
 |str i=>
  obtain⟨t,rfl⟩:=rx
  cases y with
  |non=>cases ry;exact PySem.EqNone.ne_str_none (zaw I q (by simp))
  |bl j=>cases ry;exact PySem.EqMixed.ne_str_bool (zaw I q (by simp))
  |int j=>obtain⟨t',rfl⟩:=ry;exact PySem.EqMixed.ne_str_int (zaw I q (by simp))
  |str j=>obtain⟨t',rfl⟩:=ry;exact ne_str (zaw I q (congrArg not zpd))
  |_=>exact absurd (show false=true from hs) pf
 |byt i=>
  obtain⟨t,rfl⟩:=rx
  cases y with
  |byt j=>obtain⟨t',rfl⟩:=ry;exact PySem.W.ne_bytes (zaw I q (congrArg not zni))
  |_=>exact absurd (show false=true from hs) pf
 |_=>cases y<;>exact absurd (show false=true from hs) pf
theorem ziw:OpR X (UQ .Lt) (rI0 fun i j=>.bl (decide (i<j))):=opB0 fun _ _ _ _ _ _ _ q=>lt_int q
theorem zpz:OpR X (UQ .Gt) (rI0 fun i j=>.bl (decide (j<i))):=opB0 fun _ _ _ _ _ _ _ q=>gt_int q
theorem nomark(b:Expr){op:CmpOp}(h:op≠.In:=by decide)(h2:op≠.NotIn:=by decide):hZ op b=false:=by
 have e1:(op==CmpOp.In)=false:=by cases op<;>first|rfl|exact absurd rfl h
 have e2:(op==CmpOp.NotIn)=false:=by cases op<;>first|rfl|exact absurd rfl h2
 cases b<;>simp[hZ,e1,e2]
theorem zgt{op:CmpOp}{r:R2}(ho:OpR X (UQ op) r)(ha:PE X a ta)(hb:PE X b tb)(hm:hZ op b=false):PE X (.Compare a [op] [b] pos) (tOp r ta tb):=by
 intro pins s σ H Q I h;exact wpAny_Compare1 (binT ha hb I h fun v u s2 x y H2 I2 rx ry q=>ho pins s2 σ H2 x y v u Q I2 rx ry q) hm
def tTest(t:TE):TT:=fun σ H Q=>t σ H fun x H'=>∃k,x=.bl k/\Q k H'
theorem zcs{op:CmpOp}{r:R2}(ho:OpR X (UQ op) r)(ha:PE X a ta)(hb:PE X b tb)(hm:hZ op b=false):PT X (.Compare a [op] [b] pos) (tTest (tOp r ta tb)):=by
 intro pins s σ H Q I h;refine Be (thn (ha pins s σ H _ I h) fun v s1⟨x,H1,I1,r1,q1⟩=>thn (hb pins s1 σ H1 _ I1 q1) fun u s2⟨y,H2,I2,r2,q2⟩=>
  thn (ho pins s2 σ H2 x y v u _ I2 r1 r2 q2) fun c s3⟨z,H3,I3,r3,k,e,q3⟩=>?_) hm
 subst e
 cases r3;exact Qz ⟨H3,I3,q3⟩
theorem line63:(sizeLine:Nat)<2^63:=by rw[AZ];decide
theorem vals1{x:V}{us:List kB}(r:Vals [x] us):∃u,us=[u]/\RelV x u:=by
 cases r with
 |cons r1 r2=>cases r2;exact⟨_,rfl,r1⟩
theorem vals2{x y:V}{us:List kB}(r:Vals [x,y] us):∃u w',us=[u,w']/\RelV x u/\RelV y w':=by
 cases r with
 |cons r1 r2=>
  cases r2 with
  |cons r3 r4=>cases r4;exact⟨_,_,rfl,r1,r3⟩
theorem call_abs:zey X (.builtin "abs") (fun xs H Q=>∃i,xs=[.int i]/\Q (.int (if i<0 then-i else i)) H):=by
 intro pins s σ H xs us Q I r h;obtain⟨i,rfl,q⟩:=h;obtain⟨u,rfl,t,rfl⟩:=vals1 r;exact call_abs_int fun u tk=>⟨.int (if i<0 then-i else i),H,I.tok _,⟨_,rfl⟩,q⟩
theorem znd:zey X (.type "int") (fun xs H Q=>(∃i,xs=[.int i]/\Q (.int i) H)∨∃k,xs=[.bl k]/\Q (.int (if k then 1 else 0)) H):=by
 intro pins s σ H xs us Q I r h;rcases h with⟨i,rfl,q⟩|⟨k,rfl,q⟩
 ·obtain⟨u,rfl,t,rfl⟩:=vals1 r;exact call_int_int ⟨.int i,H,I,⟨_,rfl⟩,q⟩
 ·obtain⟨u,rfl,r1⟩:=vals1 r
  cases r1;exact call_int_bool ⟨.int (if k then 1 else 0),H,I.tok _,⟨_,rfl⟩,q⟩
end
theorem RelO.some_of{v:V}{o:Option kB}(r:RelO (some v) o):∃u,o=some u/\RelV v u:=by
 cases o with
 |none=>exact(show False from r).elim
 |some u=>exact⟨u,rfl,r⟩
structure Room(k:Nat)(A:pj):Prop where
 hd:A.handled=none
 dp:A.depth+3*k+5<recursionLimit
 un:A.units+16*k+200<cLine
theorem Room.mono{j k:Nat}{A:pj}(r:Room k A)(h:j<=k):Room j A:=⟨r.hd,by have:=r.dp;omega,by have:=r.un;omega⟩
theorem Room.deeper{k:Nat}{A:pj}(r:Room (k+1) A)(env:Env):Room k (A.deeper env):=
 ⟨r.hd,by have:=r.dp;show A.depth+1+3*k+5<_;omega,by have:=r.un;show A.units+3+16*k+200<_;omega⟩
theorem Room.in1{k:Nat}{A:pj}(r:Room (k+1) A):Room k A.in1:=
 ⟨r.hd,by have:=r.dp;show A.depth+3*k+5<_;omega,by have:=r.un;show A.units+1+16*k+200<_;omega⟩
theorem Room.depth{k:Nat}{A:pj}(r:Room k A):A.depth<recursionLimit:=by have:=r.dp;omega
theorem Room.units{k:Nat}{A:pj}(r:Room k A):A.units+64<cLine:=by have:=r.un;omega
def tNil:TA:=fun _ H Q=>Q [] H
def zbo(ta:TE)(tr:TA):TA:=fun σ H Q=>ta σ H fun x H1=>tr σ H1 fun xs H2=>Q (x::xs) H2
section
variable{X:Cx}{e:Expr}{es:List Expr}{te:TE}{t:TA}{pos:Pos}
theorem zci:PA X [] tNil:=fun _ _ _ _ H Q I h=>je ⟨[],H,I,.nil,h⟩
theorem zah(ha:PE X e te)(hr:PA X es t)(hs:ui (e::es) X.env=(false,eval e X.env)::ui es X.env:=by rfl):PA X (e::es) (zbo te t):=by
 intro pos pins s σ H Q I h;rw[hs];show wpAny _ _ (spliced ((false,eval e X.env)::vv pos (ui es X.env))) _ _ s;refine Ug (thn (ha pins s σ H _ I h) fun u s1⟨x,H1,I1,r1,q1⟩=>?_);exact thn (hr pos pins s1 σ H1 _ I1 q1) fun us s2⟨xs,H2,I2,r2,q2⟩=>⟨x::xs,H2,I2,.cons r1 r2,q2⟩
def tTup(t:TA):TE:=fun σ H Q=>t σ H fun xs H1=>xs.length<=sizeLine/\∀p,H1 p=none->Q (.ref p) (upd H1 p (.tup xs))
def tLst(t:TA):TE:=fun σ H Q=>t σ H fun xs H1=>xs.length<=sizeLine/\∀p,H1 p=none->Q (.ref p) (upd H1 p (.lst xs))
theorem zdc{x1}(h:PA X es t):PE X (.Tuple es x1 pos) (tTup t):=by
 intro pins s σ H Q I hq;refine wpAny_Tuple_spliced (thn (h pos pins s σ H _ I hq) fun us s1⟨xs,H1,I1,r,z,q⟩=>⟨by rw[←r.length];exact z,?_⟩)
 have hf:H1 s1.heap.objs.size=none:=I1.hok.fresh (kJ _);refine⟨.ref s1.heap.objs.size,upd H1 s1.heap.objs.size (.tup xs),I1.laid (t':=s1.toks) (fun b u e=>kN _ e) (kJ _) ?_,rfl,q _ hf⟩;exact⟨z,us,r,⟨_,pJ _ rfl,rfl,_,rfl⟩⟩
theorem zd9(h:PA X es t):PE X (.List es pos) (tLst t):=by
 intro pins s σ H Q I hq;refine wpAny_List_spliced (thn (h pos pins s σ H _ I hq) fun us s1⟨xs,H1,I1,r,z,q⟩=>⟨by rw[←r.length];exact z,?_⟩)
 have hf:H1 s1.heap.objs.size=none:=I1.hok.fresh (kJ _);refine⟨.ref s1.heap.objs.size,upd H1 s1.heap.objs.size (.lst xs),I1.laid (t':=s1.toks) (fun b u e=>kN _ e) (kJ _) ?_,rfl,q _ hf⟩;exact⟨z,us,0,r,pJ _ rfl⟩
end
abbrev Sp:=List V->Hp->VK->XK->Prop
abbrev CXT:=List Env->Hp->kC->XK->kB->kC->Prop
structure Env0(P:kq)(w:pX)(K:kM)(mg:Str->Option kB)(base:Heap)(A:pj)(outer:List Env)(s:kC)(H:Hp):Prop where
 frames:A.frames=some outer
 mod:Mod K mg base
 bs:∀b o,base.get? b=some o->s.heap.get? b=some o/\H b=none
 bsz:base.objs.size<=s.heap.objs.size
 funs:s.heap.FunFrames base outer
 frf:∀b∈frs outer,H b=none
 hok:HOk P w H s.heap
 bare:AX s.gens
def CE(outer:List Env)(P:kq)(w:pX)(H:Hp)(s:kC)(Q:VK)(u:kB)(s':kC):Prop:=
 ∃v H',s'.os=s.os/\AX s'.gens/\Un (frs outer) [] H H' s.heap s'.heap/\HOk P w H' s'.heap/\RelV v u/\Q v H'
def CR(CX:CXT)(outer:List Env)(P:kq)(w:pX)(H:Hp)(s:kC)(Q:VK)(E:XK)(r:DB)(s':kC):Prop:=
 match r with
 |.ok (.ret u)=>CE outer P w H s Q u s'
 |.ok _=>False
 |.error e=>CX outer H s E e s'
structure FnOk(P:kq)(w:pX)(K:kM)(mg:Str->Option kB)(base:Heap)(CX:CXT)(k:Nat)(f:Addr)(fd:UZ)(ps:List Str)(sp:Sp):Prop where
 len:∀vs H Q E,sp vs H Q E->vs.length=ps.length
 run:∀(A:pj)(outer:List Env)(s:kC)(H:Hp)(args:Args)(us:List kB)(vs:List V)(Q:VK)(E:XK),Room k A->Env0 P w K mg base A outer s H->Cf s fd args (ps.zip us)->Vals vs us->sp vs H Q E->
  vk (model P w) A (.call (.ref f) args) (CR CX outer P w H s Q E) s
theorem Env0.in1{P:kq}{w:pX}{K:kM}{mg:Str->Option kB}{base:Heap}{A:pj}{outer:List Env}{s:kC}{H:Hp}(e:Env0 P w K mg base A outer s H):
  Env0 P w K mg base A.in1 outer s H:=⟨e.frames,e.mod,e.bs,e.bsz,e.funs,e.frf,e.hok,e.bare⟩
section
variable{X:Cx}{pins:List (Addr×Obj)}{σ:St}{H:Hp}{s s':kC}
theorem Inv.env0(I:Inv X pins σ H s):Env0 X.prog X.w X.K X.mg X.base X.A X.stack s H:=
 ⟨I.ok.frames,I.ok.mod,I.bs,pV I.ok.bsz I.sz,I.stack,I.stkFree,I.hok,I.bare⟩
theorem Inv.after{Q:VK}{u:kB}(I:Inv X pins σ H s)(h:CE X.stack X.prog X.w H s Q u s'):EP X pins σ Q u s':=by
 obtain⟨v,H',os,bare,un,hok,r,q⟩:=h;obtain⟨hh,g,d,t,os'⟩:=s';obtain rfl:os'=s.os:=os;exact⟨v,H',I.call (h':=hh) (g':=g) (d':=d) (t':=t) (ch:=[]) un hok bare (fun b z=>absurd z (by simp)),r,q⟩
end
def tCall(sp:Sp)(dvs:List V)(E:XK)(t:TA):TE:=fun σ H Q=>t σ H fun vs H1=>sp (vs++dvs) H1 Q E
def Binds(K:kM)(fd:UZ)(ps:List Str)(ds:List kB):Prop:=
 ∀(s:kC)(us:List kB),K.In s.heap->(us++ds).length=ps.length->Cf s fd ⟨us,[]⟩ (ps.zip (us++ds))
theorem Binds.all{K:kM}{fd:UZ}{ps:List Str}(h:∀us:List kB,us.length=ps.length->Cg fd ⟨us,[]⟩=pure (ps.zip us)):Binds K fd ps []:=fun s us _ hl=>by
 rw[uT] at hl⊢;exact .of_eq (h us hl)
def Passes(CX:CXT)(X:Cx)(E:XK):Prop:=∀(pins:List (Addr×Obj))(σ:St)(H:Hp)(s:kC)(e:kB)(s':kC),Inv X pins σ H s->CX X.stack H s E e s'->X.xe e s'
section
variable{X:Cx}{CX:CXT}{k:Nat}{f C:Addr}{fd:UZ}{ps:List Str}{sp:Sp}{dvs:List V}{ds:List kB}{E:XK}{x m:Str}{p pos apos:Pos}{e o:Expr}{es:List Expr}{ta:TE}{t:TA}
theorem run_fn{pins:List (Addr×Obj)}{σ:St}{H:Hp}{s:kC}{Q:VK}{us:List kB}{vs:List V}(F:FnOk X.prog X.w X.K X.mg X.base CX k f fd ps sp)(hr:Room k X.A)(hb:Binds X.K fd ps ds)(hd:Vals dvs ds)(hx:Passes CX X E)
  (I:Inv X pins σ H s)(r:Vals vs us)(h:sp (vs++dvs) H Q E):wpAny (model X.prog X.w) X.A (call (.ref f) us) (EP X pins σ Q) X.xe s:=by
 have r2:Vals (vs++dvs) (us++ds):=r.append hd;have hl:(us++ds).length=ps.length:=by rw[←r2.length];exact F.len _ _ _ _ h
 refine wpAny_call (BD (F.run X.A X.stack s H ⟨us,[]⟩ (us++ds) (vs++dvs) Q E hr I.env0 (hb s us I.kIn hl) r2 h) fun r s' hq=>?_)
 cases r with
 |error e=>exact hx pins σ H s e s' I hq
 |ok fl=>
  cases fl with
  |ret u=>exact I.after hq
  |next=>exact UW hq
  |brk=>exact UW hq
  |cont=>exact UW hq
theorem zbb(F:FnOk X.prog X.w X.K X.mg X.base CX k f fd ps sp)(hr:Room k X.A)(hg:Gl X x)(hm:X.mg x=some (.ref f))(hk:pH X.K (.ref f)=true)(hb:Binds X.K fd ps ds)(hd:Vals dvs ds)(hx:Passes CX X E)
  (ha:PA X (e::es) t)(hdb:(x==("__debug__":Str))=false:=by decide)(he:ui (e::es) X.env=(false,eval e X.env)::ui es X.env:=by rfl)(hpl:(vv pos (ui es X.env)).any (·.1)=false:=by rfl):
  PE X (.Call (.Name x p) (e::es) [] pos) (tCall sp dvs E t):=by
 intro pins s σ H Q I h;refine vS (ld_glob I hg hm ?_ hdb);refine PySem.W.callWith_K (h₀:=X.base) I.ok.mod.kin hk (thn (ha pos pins s σ H _ I h) fun us s1⟨vs,H1,I1,r,q⟩=>⟨I1.kIn,?_⟩) he hpl;exact run_fn F hr hb hd hx I1 r q
end
def PK(X:Cx)(kws:List Aa)(t:TA):Prop:=
 ∀(pos:Pos)(pins:List (Addr×Obj))(s:kC)(σ:St)(H:Hp)(Q:List V->Hp->Prop),Inv X pins σ H s->t σ H Q->wpAny (model X.prog X.w) X.A (evalAll ((AD pos (vw kws X.env)).map (·.2))) (AP X pins σ Q) X.xe s
section
variable{X:Cx}{CX:CXT}{k:Nat}{f C:Addr}{fd:UZ}{ps ks:List Str}{sp:Sp}{E:XK}{x m:Str}{p pos apos kpos:Pos}{e o:Expr}{es:List Expr}{kws:List Aa}{te ta:TE}{t tk:TA}{nm:Option Str}
theorem pk_nil:PK X [] tNil:=fun _ _ _ _ H Q I h=>wpAny_evalAll_nil ⟨[],H,I,.nil,h⟩
theorem pk_cons(ha:PE X e te)(hr:PK X kws t):PK X (⟨nm,e,kpos⟩::kws) (zbo te t):=by
 intro pos pins s σ H Q I h;show wpAny _ _ (evalAll ((do let v ←eval e X.env;standAt pos;pure v)::(AD pos (vw kws X.env)).map (·.2))) _ _ s;refine wpAny_evalAll_cons (kA (thn (ha pins s σ H _ I h) fun u s1⟨x,H1,I1,r1,q1⟩=>kA (gC (kF ?_))));exact thn (hr pos pins s1 σ H1 _ I1 q1) fun us s2⟨xs,H2,I2,r2,q2⟩=>⟨x::xs,H2,I2,.cons r1 r2,q2⟩
variable{g:List kB->List kB->List kB}{gV:List V->List V->List V}
end
structure zae(N P:List Str)(sc:Scope):Prop where
 kind:sc.kind=.function
 co:sc.isCoroutine=false
 gen:sc.isGenerator=false
 nd:N.Nodup
 pre:N.take P.length=P
 par:∀x∈P,sc.names.lookup x=some .local∨sc.names.lookup x=some .cell
 nofree:∀y∈sc.names,y.2≠.free
theorem ziq{kindOf:Str->Option AE}{x:Str}:∀{binds:List (Str×kB)}{m:Str->Option kB},(∀v,(x,v)∉binds)->bindL kindOf binds m x=m x
 |[],_,_=>rfl
 |(n,v)::r,m,h=>by
  unfold bindL;rw[ziq fun w hw=>h w (kT _ hw)]
  split
  ·have:x≠n:=by rintro rfl;exact h v uJ
   simp[this]
  ·rfl
theorem zji{kindOf:Str->Option AE}{x:Str}:∀{binds:List (Str×kB)}{m:Str->Option kB},(∀v,(x,v)∉binds)->bindC kindOf binds m x=m x
 |[],_,_=>rfl
 |(n,v)::r,m,h=>by
  unfold bindC;rw[zji fun w hw=>h w (kT _ hw)]
  split
  ·rfl
  ·have:x≠n:=by rintro rfl;exact h v uJ
   simp[this]
theorem zir{kindOf:Str->Option AE}{x:Str}{v:kB}:∀{P:List Str}{vs:List kB}{i:Nat}{m:Str->Option kB},P.Nodup->P[i]?=some x->vs[i]?=some v->kindOf x=some .local->
  bindL kindOf (P.zip vs) m x=some v
 |[],_,_,_,_,h,_,_=>by simp at h
 |_::_,[],_,_,_,_,h,_=>by simp at h
 |p::P,w::vs,0,m,nd,h1,h2,hk=>by
  simp at h1 h2;subst h1;subst h2
  show bindL kindOf ((p,w)::P.zip vs) m p=_
  unfold bindL;rw[ziq fun v hv=>(jQ.mp nd).1 (gX hv).1,if_pos hk]
  simp
 |p::P,w::vs,i+1,m,nd,h1,h2,hk=>by
  show bindL kindOf ((p,w)::P.zip vs) m x=_
  unfold bindL;exact zir (i:=i) (jQ.mp nd).2 (by simpa using h1) (by simpa using h2) hk
theorem zje{kindOf:Str->Option AE}{x:Str}{v:kB}:∀{P:List Str}{vs:List kB}{i:Nat}{m:Str->Option kB},P.Nodup->P[i]?=some x->vs[i]?=some v->kindOf x≠some .local->
  bindC kindOf (P.zip vs) m x=some v
 |[],_,_,_,_,h,_,_=>by simp at h
 |_::_,[],_,_,_,_,h,_=>by simp at h
 |p::P,w::vs,0,m,nd,h1,h2,hk=>by
  simp at h1 h2;subst h1;subst h2
  show bindC kindOf ((p,w)::P.zip vs) m p=_
  unfold bindC;rw[zji fun v hv=>(jQ.mp nd).1 (gX hv).1,if_neg hk]
  simp
 |p::P,w::vs,i+1,m,nd,h1,h2,hk=>by
  show bindC kindOf ((p,w)::P.zip vs) m x=_
  unfold bindC;exact zje (i:=i) (jQ.mp nd).2 (by simpa using h1) (by simpa using h2) hk
def start(N:List Str)(vs:List V):St:=vs.map some++AF (N.length-vs.length) none
def cxOf(CX:CXT)(P:kq)(w:pX)(K:kM)(mg:Str->Option kB)(base:Heap)(N:List Str)(qual:Str)(scope:Scope)(f:Addr)(cd:kB)(A:pj)(outer:List Env)(s:kC)(H:Hp)(E:XK):Cx where
 prog:=P
 w:=w
 K:=K
 mg:=mg
 base:=base
 A:=A.deeper (BE qual scope s.heap.objs.size f cd)
 N:=N
 s₀:=s
 H₀:=H
 env:=BE qual scope s.heap.objs.size f cd
 outer:=outer
 stack:=BE qual scope s.heap.objs.size f cd::outer
 ex:=[]
 calm:=true
 fn:=fun _=>true
 pn:=[]
 xe:=fun e s'=>wpAny (model P w) (A.deeper (BE qual scope s.heap.objs.size f cd)) (leaving (BE qual scope s.heap.objs.size f cd) e) (fun _ s''=>CX outer H s E e s'') (fun e' s''=>CX outer H s E e' s'') s'
theorem zlk{sc:Scope}{n:Nat}{x:Str}(h:sc.names.lookup x=some .cell):∃c,(EI n sc.names []).lookup x=some c:=by
 have q:=BF sc.names n [] (.inl h);exact Ah.mp q
theorem znb{CX:CXT}{P:kq}{w:pX}{K:kM}{mg:Str->Option kB}{base:Heap}{N ps:List Str}{qual:Str}{scope:Scope}{f:Addr}{cd:kB}{A:pj}{outer:List Env}{s s1:kC}{H:Hp}{E:XK}{us:List kB}{vs:List V}
  (S:zae N ps scope)(hd:A.handled=none)(e0:Env0 P w K mg base A outer s H)(hl:vs.length=ps.length)(r:Vals vs us)
  (x:InCallC s s.heap.objs.size (bindL (BE qual scope s.heap.objs.size f cd).kindOf (ps.zip us) fun _=>none) (EI (s.heap.objs.size+1) scope.names []) (bindC (BE qual scope s.heap.objs.size f cd).kindOf (ps.zip us) fun _=>none) s1):
  Inv (cxOf CX P w K mg base N qual scope f cd A outer s H E) [] (start N vs) H s1:=by
 have hpl:ps.length<=N.length:=by have:=congrArg Ab S.pre;rw[kY] at this;omega
 obtain⟨h1,tk,rfl,hk⟩:=x.done;have noA:∀b:Addr,b∉(cxOf CX P w K mg base N qual scope f cd A outer s H E).ex:=fun b z=>absurd (show b∈([]:List Addr) from z) (by simp)
 refine⟨⟨e0.mod,S.kind,rfl,rfl,kJ _,fun y z c h1 h2=>?_,fun y hy=>?_,fun y c _ h=>?_,fun _=>hd,Bn e0.frames,.inr ⟨rfl,rfl⟩,fun b z=>absurd z (noA b),e0.bs,e0.bsz,fun b _ _=>noA b,fun b z=>absurd z (noA b),e0.funs,e0.frf⟩,
  rfl,e0.bare,Un.kept hk,⟨_,x.toInCall.ns,fun i y v h1 h2 h3=>?_⟩,fun y c h=>⟨_,x.cell y c h⟩,e0.hok.fresh (kJ _),fun y c h=>?_,fun p hp=>absurd (show p∈([]:List (Addr×Obj)) from hp) (by simp),e0.hok.kept hk,?_⟩
 ·exact name_of_addr x.apart (uh h1) (uh h2)
 ·have hy:scope.names.lookup y=some .cell∨scope.names.lookup y=some .free:=hy;rcases hy with hy|hy
  ·exact zlk hy
  ·exact absurd rfl (S.nofree _ (uh hy))
 ·exact uv (x.above y c (uh h))
 ·have hi:i<vs.length:=by
   unfold start at h2
   by_cases hi:i<vs.length
   ·exact hi
   ·rw[pd (by simpa using hi)] at h2
    rw[An] at h2
    split at h2<;>cases h2
  have ha:vs[i]?=some v:=by
   unfold start at h2;rw[po (by simpa using hi),pS] at h2
   cases e:vs[i]? with
   |none=>rw[e] at h2;cases h2
   |some a=>rw[e] at h2;cases h2;rfl
  obtain⟨u,hu,rv⟩:=r.get ha;have hp:ps[i]?=some y:=by
   rw[←S.pre,Uy (by omega)];exact h1
  have ndP:ps.Nodup:=by rw[←S.pre];exact S.nd.sublist (Ac _ _)
  refine⟨u,rv,?_⟩;rcases S.par y (ko hp) with k|k
  ·exact .inl ⟨k,zir ndP hp hu k⟩
  ·obtain⟨c,e⟩:=zlk (n:=s.heap.objs.size+1) k;refine .inr ⟨.inl k,c,e,?_⟩;have q:=x.cell y c e;rw[zje ndP hp hu (by show scope.names.lookup y≠_;rw[k];decide)] at q
   exact q
 ·exact e0.hok.fresh (uv (x.above y c (uh h)))
 ·unfold start;show _=N.length;rw[kK,kL,Uk];omega
theorem fn_of{CX:CXT}{P:kq}{w:pX}{K:kM}{mg:Str->Option kB}{base:Heap}{k:Nat}{f:Addr}{name qual:Str}{params:Ao}{body:List Stmt}{scope:Scope}{dV kV doc pm cdv ct oc:kB}{an od:Option Addr}
  {osl:Array (Option kB)}{N ps:List Str}{sp:Sp}(lk:K.lookup f=some ⟨oc,od,.func (kO name qual params body scope dV kV doc pm an cdv ct),osl⟩)(hcd:pE K cdv qual=true)(S:zae N ps scope)
  (len:∀vs H Q E,sp vs H Q E->vs.length=ps.length)
  (hbody:∀(A:pj)(outer:List Env)(s:kC)(H:Hp)(vs:List V)(Q:VK)(E:XK),Room k (A.deeper (BE qual scope s.heap.objs.size f cdv))->sp vs H Q E->
   ∃t,PSs (cxOf CX P w K mg base N qual scope f cdv A outer s H E) body t/\t {nx:=fun _ H'=>Q .non H',rt:=Q} (start N vs) H):
  FnOk P w K mg base CX (k+1) f (kO name qual params body scope dV kV doc pm an cdv ct) ps sp:=by
 refine⟨len,fun A outer s H args us vs Q E hr e0 hb r hsp=>?_⟩;have hl:=len _ _ _ _ hsp;have KX:K.In s.heap:=e0.mod.kin.keeps fun b o e=>(e0.bs b o e).1;have lim:s.heap.NoLimit:=e0.mod.nolimit.keeps fun b o e=>(e0.bs b o e).1;have hkind:∀y∈ps.zip us,scope.names.lookup y.1=some .local∨(scope.names.lookup y.1=some .cell/\((EI (s.heap.objs.size+1) scope.names []).lookup y.1).isSome=true):=fun⟨n,v⟩ hy=>by
  rcases S.par n (gX hy).1 with q|q
  ·exact .inl q
  ·exact .inr ⟨q,BF _ _ _ (.inl q)⟩
 refine codeAny_call_function hr.depth (KX _ _ lk) rfl S.co S.gen rfl (PySem.W.codeRec_of KX hcd) (hb _ _ _ _ ?_);refine wpAny_newFunctionEnv_cells S.kind hkind fun env he s1 x=>?_;subst he;refine⟨lim.keeps x.toInCall.keep,codeAny_func ?_⟩;obtain⟨t,ht,hq⟩:=hbody A outer s H vs Q E (hr.deeper _) hsp;have I:Inv (cxOf CX P w K mg base N qual scope f cdv A outer s H E) [] (start N vs) H s1:=znb S hr.hd e0 hl r x;refine QQ (ht [] s1 (start N vs) H _ I hq) (fun fl s' hs=>?_) fun e s' hs=>hs;have fin:∀{σ':St}{H':Hp}{v:V}{u:kB},Inv (cxOf CX P w K mg base N qual scope f cdv A outer s H E) [] σ' H' s'->RelV v u->Q v H'->CE outer P w H s Q u s':=
  fun{σ' H' v u} J rv q=>⟨v,H',J.os,J.bare,J.base,J.hok,rv,q⟩
 cases fl with
 |ret u=>
  obtain⟨v,σ',H',J,rv,q⟩:=hs;exact fin J rv q
 |next=>
  obtain⟨σ',H',J,q⟩:=hs;exact fin (v:=V.non) (u:=uA) J rfl q
 |brk=>
  obtain⟨_,_,_,q⟩:=hs;exact UW q
 |cont=>
  obtain⟨_,_,_,q⟩:=hs;exact UW q
section
variable{X:Cx}{x:Str}{p pos:Pos}{e:Expr}{es:List Expr}{t:TA}{id T:String}{r:List V->Hp->VK->Prop}
def tCB(r:List V->Hp->VK->Prop)(t:TA):TE:=fun σ H Q=>t σ H fun vs H1=>r vs H1 Q
theorem zd3(hc:zey X (.builtin id) r)(hg:Gl X x)(hm:X.mg x=none)(hv:Qy x=some (.builtin id))(ha:PA X (e::es) t)(hn:x≠"__name__":=by decide)(hdb:(x==("__debug__":Str))=false:=by decide)
  (he:ui (e::es) X.env=(false,eval e X.env)::ui es X.env:=by rfl) (hpl:(vv pos (ui es X.env)).any (·.1)=false:=by rfl):PE X (.Call (.Name x p) (e::es) [] pos) (tCB r t):=by
 intro pins s σ H Q I h;refine vS (zjc I hg hm hv ?_ hn hdb);exact PyProof.Rows.callWith_builtin1 (thn (ha pos pins s σ H _ I h) fun us s1⟨vs,H1,I1,r1,q1⟩=>hc pins s1 σ H1 vs us Q I1 r1 q1) he hpl
theorem znt(hc:zey X (.type T) r)(hg:Gl X x)(hm:X.mg x=none)(hv:Qy x=some (.type T))(ha:PA X (e::es) t)(hn:x≠"__name__":=by decide)(hdb:(x==("__debug__":Str))=false:=by decide)
  (he:ui (e::es) X.env=(false,eval e X.env)::ui es X.env:=by rfl) (hpl:(vv pos (ui es X.env)).any (·.1)=false:=by rfl):PE X (.Call (.Name x p) (e::es) [] pos) (tCB r t):=by
 intro pins s σ H Q I h;refine vS (zjc I hg hm hv ?_ hn hdb);exact gt (thn (ha pos pins s σ H _ I h) fun us s1⟨vs,H1,I1,r1,q1⟩=>hc pins s1 σ H1 vs us Q I1 r1 q1) he hpl
end
end L2
namespace HT
open PySem PyProof.Rows
def lexLt:List Int->List Int->Bool
 |[],[]=>false
 |[],_::_=>true
 |_::_,[]=>false
 |x::xs,y::ys=>if x=y then lexLt xs ys else decide (x<y)
theorem lexLt_cons(x y:Int)(xs ys:List Int):lexLt (x::xs) (y::ys)=if x=y then lexLt xs ys else decide (x<y):=rfl
theorem lexLt_nil_nil:lexLt [] []=false:=rfl
theorem eqAt_int(A:pj)(s:kC)(a:Int)(t:Tok)(c:Int)(u:Tok):∃e,SeqAt.EqAt A s (.int a t) (.int c u) e/\(e=true↔a=c):=
 ⟨(a==c),SeqAt.EqAt.int_int a t c u,by simp⟩
section
variable{prog:kq}{w:pX}{A:pj}{E:kB->kC->Prop}{s:kC}
def sIx(n d:Nat):Option Int->Nat
 |none=>d
 |some v=>if v<0 then(v+(n:Int)).toNat else min v.toNat n
theorem sIx_none(n d:Nat):sIx n d none=d:=rfl
theorem sIx_nat(n d k:Nat):sIx n d (some (k:Int))=min k n:=by
 show(if(k:Int)<0 then((k:Int)+(n:Int)).toNat else min (k:Int).toNat n)=min k n
 rw[if_neg (by omega),Ql]
end
end HT
namespace L2
open PySem PySem.Spec PyProof.Rows
abbrev TO:=St->Hp->(Option Int->Hp->Prop)->Prop
def PO(X:Cx)(e:Option Expr)(t:TO):Prop:=
 ∀(pins:List (Addr×Obj))(s:kC)(σ:St)(H:Hp)(Q:Option Int->Hp->Prop),Inv X pins σ H s->t σ H Q->
  wpAny (model X.prog X.w) X.A (evalPart e X.env) (fun u s'=>∃o H',Inv X pins σ H' s'/\IsPart u o/\Q o H') X.xe s
def zox:TO:=fun _ H Q=>Q none H
def tPart(t:TE):TO:=fun σ H Q=>t σ H fun x H1=>∃i,x=.int i/\Q (some i) H1
theorem zhg{ns:List Int}:∀{us:List kB},Vals (ns.map V.int) us->vm us ns:=by
 induction ns with
 |nil=>intro us r;rw[Qe] at r;cases r;exact .nil
 |cons n ns ih=>
  intro us r;rw[ki] at r
  cases r with
  |cons r1 r2=>
   obtain⟨t,e⟩:=r1;subst e;exact .cons n t (ih r2)
section
variable{X:Cx}{e:Expr}{te:TE}{lo hi:Option Expr}{tl th:TO}{pos p2:Pos}
theorem zgk:PO X none zox:=by
 intro pins s σ H Q I h;rw[evalPart_none];exact kF ⟨none,H,I,.none,h⟩
theorem zgh(h:PE X e te):PO X (some e) (tPart te):=by
 intro pins s σ H Q I hw;rw[evalPart_some];refine thn (h pins s σ H _ I hw) fun u s1⟨x,H1,I1,r1,q1⟩=>?_;obtain⟨i,rfl,q⟩:=q1;obtain⟨t,rfl⟩:=r1;exact⟨some i,H1,I1,.int i t,q⟩
def SlR(X:Cx)(r:V->Option Int->Option Int->Hp->VK->Prop):Prop:=
 ∀(pins:List (Addr×Obj))(s:kC)(σ:St)(H:Hp)(x:V)(v vl vu:kB)(lo hi:Option Int)(sl:Addr)(Q:VK),Inv X pins σ H s->RelV x v->s.heap.IsSliceOf sl vl vu .none->IsPart vl lo->IsPart vu hi->r x lo hi H Q->
  ∃T id,typeLookup (.type T) "__getitem__"=pure (some (.builtin id))/\s.TypeIs v T/\wpAny (model X.prog X.w) X.A (Ch v (.ref sl)) (EP X pins σ Q) X.xe s
def tSl(r:V->Option Int->Option Int->Hp->VK->Prop)(te:TE)(tl th:TO):TE:=fun σ H Q=>te σ H fun x H1=>tl σ H1 fun l H2=>th σ H2 fun u H3=>r x l u H3 Q
theorem zfh{r:V->Option Int->Option Int->Hp->VK->Prop}(hr:SlR X r)(he:PE X e te)(hl:PO X lo tl)(hu:PO X hi th):PE X (.Subscript e (.Slice lo hi none p2) pos) (tSl r te tl th):=by
 intro pins s σ H Q I h;refine Di (thn (he pins s σ H _ I h) fun v s1⟨x,H1,I1,r1,q1⟩=>?_);refine wpAny_Slice (thn (hl pins s1 σ H1 _ I1 q1) fun vl s2⟨l,H2,I2,pl,q2⟩=>thn (hu pins s2 σ H2 _ I2 q2) fun vu s3⟨u,H3,I3,pu,q3⟩=>?_);rw[evalPart_none];refine kF ?_;have I4:Inv X pins σ H3 {s3 with heap:=s3.heap.push {cls:=.type "slice",data:=.fields #[vl,vu,.none]}}:=I3.kept (t':=s3.toks) fun b ob q=>kN _ q;obtain⟨T,id,hT,ht,hg⟩:=hr pins {s3 with heap:=s3.heap.push {cls:=.type "slice",data:=.fields #[vl,vu,.none]}} σ H3 x v vl vu l u s3.heap.objs.size Q I4 r1 (Heap.IsSliceOf.new ..) pl pu q3;show wpAny (model X.prog X.w) X.A (CN e (.Slice lo hi none p2) v (.ref s3.heap.objs.size)) (EP X pins σ Q) X.xe {s3 with heap:=s3.heap.push {cls:=.type "slice",data:=.fields #[vl,vu,.none]}};exact tail_any (ops:=[.ref s3.heap.objs.size,v]) ht hT hg (by with_unfolding_all rfl)
def cutV(xs:List V)(lo hi:Option Int):List V:=(xs.drop (HT.sIx xs.length 0 lo)).take (HT.sIx xs.length xs.length hi-HT.sIx xs.length 0 lo)
theorem zkq(xs:List V)(lo hi:Option Int):(cutV xs lo hi).length<=xs.length:=by
 unfold cutV;rw[kY,kj];omega
end
def ixN(n:Nat)(i:Int):Option Nat:=if 0<=i then(if i<n then some i.toNat else none) else if-(n:Int)<=i then some (i+n).toNat else none
def atI{α:Type}(xs:List α)(i:Int):Option α:=(ixN xs.length i).bind fun j=>xs[j]?
theorem ixN_seq{n:Nat}{i:Int}{j:Nat}(h:ixN n i=some j):seqIndex? i n=some j/\j<n/\ -(n:Int)<=i/\i<n:=by
 unfold ixN at h
 by_cases h0:0<=i
 ·rw[if_pos h0] at h
  by_cases h1:i<n
  ·rw[if_pos h1] at h;have e:i.toNat=j:=uK h;exact⟨by rw[seqIndex_of h0 h1,e],by omega,by omega,h1⟩
  ·rw[if_neg h1] at h;cases h
 ·rw[if_neg h0] at h
  by_cases h1: -(n:Int)<=i
  ·rw[if_pos h1] at h;have e:(i+n).toNat=j:=uK h;exact⟨by rw[seqIndex_neg (by omega) h1,e],by omega,h1,by omega⟩
  ·rw[if_neg h1] at h;cases h
theorem zp1{α:Type}{xs:List α}{i:Int}{v:α}(h:atI xs i=some v):∃j,seqIndex? i xs.length=some j/\xs[j]?=some v/\j<xs.length/\ -(xs.length:Int)<=i/\i<xs.length:=by
 unfold atI at h
 cases e:ixN xs.length i with
 |none=>rw[e] at h;cases h
 |some j=>
  rw[e] at h;obtain⟨h1,h2,h3,h4⟩:=ixN_seq e;exact⟨j,h1,h,h2,h3,h4⟩
theorem zdu{α:Type}{xs:List α}{j:Nat}{v:α}(h:xs[j]?=some v):atI xs (j:Int)=some v:=by
 have hj:j<xs.length:=(kD.mp h).1;have e:ixN xs.length (j:Int)=some j:=by
  unfold ixN;rw[if_pos (by omega),if_pos (by omega)];simp
 unfold atI;rw[e];exact h
def PlainIx(b:Expr):Prop:=∀o i,subscripted b false o i=operate [o,i] (Ch o i)
def IxR(X:Cx)(r:R2):Prop:=
 ∀(value slice:Expr)(pins:List (Addr×Obj))(s:kC)(σ:St)(H:Hp)(x y:V)(v u:kB)(Q:VK),Inv X pins σ H s->RelV x v->RelV y u->r x y H Q->
  subscripted slice false v u=operate [v,u] (Ch v u)->wpAny (model X.prog X.w) X.A (CN value slice v u) (EP X pins σ Q) X.xe s
def MtR(X:Cx)(id:String)(r:V->List V->Hp->VK->Prop):Prop:=
 ∀(pins:List (Addr×Obj))(s:kC)(σ:St)(H:Hp)(x:V)(xs:List V)(v:kB)(us:List kB)(Q:VK),Inv X pins σ H s->RelV x v->Vals xs us->r x xs H Q->
  wpAny (model X.prog X.w) X.A (call (.builtin id) (v::us)) (EP X pins σ Q) X.xe s
section
variable{X:Cx}{a b:Expr}{ta tb:TE}{pos:Pos}
theorem ze5{r:R2}(hr:IxR X r)(ha:PE X a ta)(hb:PE X b tb)(hs:PlainIx b):PE X (.Subscript a b pos) (tOp r ta tb):=by
 intro pins s σ H Q I h;exact Di (binT ha hb I h fun v u s2 x y H2 I2 rx ry q=>hr a b pins s2 σ H2 x y v u Q I2 rx ry q (hs _ _))
def rIxL(K:kM):R2:=fun x y H Q=>∃p xs i v,x=.ref p/\y=.int i/\SqL K H p xs/\atI xs i=some v/\Q v H
def rIxT(K:kM):R2:=fun x y H Q=>∃p xs i v,x=.ref p/\y=.int i/\SqT K H p xs/\atI xs i=some v/\Q v H
theorem zk8:IxR X (rIxL X.K):=by
 intro value slice pins s σ H x y v u Q I rx ry h hs;obtain⟨p,xs,i,z,rfl,rfl,hq,he,q⟩:=h
 cases rx;obtain⟨t,rfl⟩:=ry;obtain⟨its,r,pl,hz⟩:=I.list hq;obtain⟨j,h1,h2,h3,h4,h5⟩:=zp1 he;obtain⟨w,ew,rw'⟩:=r.get h2;have hl:=r.length;have hn:=line63;have fin:EP X pins σ Q w s:=⟨z,H,I,rw',q⟩
 by_cases h0:0<=i
 ·have hj:i.toNat=j:=by
   rw[seqIndex_of h0 h5] at h1;exact uK h1
  exact item_listR pl.isList h0 (by omega) (by rw[hj];simpa using ew) fin hs
 ·have hj:(i+(its.toArray.size:Int)).toNat=j:=by
   rw[seqIndex_neg (by omega) h4] at h1
   rw[pZ,←hl];exact uK h1
  exact BG (x:=w) pl.isList.typeIs Ci.lookup
   (wpAny_getItem_list_neg (Q:=fun r s'=>r=w/\EP X pins σ Q r s') pl.isList (by omega) (by rw[pZ]<;>omega) (by omega) (by rw[hj];simpa using ew) ⟨rfl,fin⟩) hs
theorem ix_tup:IxR X (rIxT X.K):=by
 intro value slice pins s σ H x y v u Q I rx ry h hs;obtain⟨p,xs,i,z,rfl,rfl,hq,he,q⟩:=h
 cases rx;obtain⟨t,rfl⟩:=ry;obtain⟨its,r,pl,hz⟩:=I.tuple hq;obtain⟨j,h1,h2,h3,h4,h5⟩:=zp1 he;obtain⟨w,ew,rw'⟩:=r.get h2;have hl:=r.length;have hn:=line63;have fin:EP X pins σ Q w s:=⟨z,H,I,rw',q⟩;exact BG (x:=w) pl.typeIs slot_tuple_getitem.lookup
  (getItem_tuple (j:=j) (Q:=fun r s'=>r=w/\EP X pins σ Q r s') pl (by omega) (by omega) (by rw[pZ,←hl];exact h1) (by simpa using ew) ⟨rfl,fin⟩) hs
theorem zjp(lo hi:Option Int)(n:Nat):(jV lo hi none n).1=((HT.sIx n 0 lo:Nat):Int)/\(jV lo hi none n).2.1=((HT.sIx n n hi:Nat):Int)/\(jV lo hi none n).2.2=1:=by
 refine⟨?_,?_,rfl⟩
 ·cases lo with
  |none=>simp[jV,HT.sIx]
  |some i=>
   simp only[jV,HT.sIx,DC,show(1:Int)>0 by decide,if_true]
   by_cases h:i<0
   ·simp only[h,if_true]<;>omega
   ·simp only[h,if_false]<;>omega
 ·cases hi with
  |none=>simp[jV,HT.sIx]
  |some i=>
   simp only[jV,HT.sIx,DC,show(1:Int)>0 by decide,if_true]
   by_cases h:i<0
   ·simp only[h,if_true]<;>omega
   ·simp only[h,if_false]<;>omega
theorem zhr(its:List kB)(lo hi:Option Int):slicePick its.toArray lo hi none=((its.drop (HT.sIx its.length 0 lo)).take (HT.sIx its.length its.length hi-HT.sIx its.length 0 lo)).toArray:=by
 obtain⟨h1,h2,h3⟩:=zjp lo hi its.toArray.size;unfold slicePick;rw[h1,h2,h3];simp only[sliceRange_one,pick_run,pZ]<;>rfl
def rSlL(K:kM):V->Option Int->Option Int->Hp->VK->Prop:=fun x lo hi H Q=>∃a xs,x=.ref a/\SqL K H a xs/\∀p,H p=none->Q (.ref p) (upd H p (.lst (cutV xs lo hi)))
theorem sl_list:SlR X (rSlL X.K):=by
 intro pins s σ H x v vl vu lo hi sl Q I rx hs pl pu h;obtain⟨a,xs,rfl,hx,q⟩:=h
 cases rx;obtain⟨its,r,ht,hz⟩:=I.list hx;have hlen:=r.length;refine⟨"list",_,Ci.lookup,ht.isList.typeIs,?_⟩;refine wpAny_getItem_list_slice ht.isList hs pl pu .none (by simp) ?_ (by rw[pZ]<;>omega)
 rw[zhr,←hlen];refine⟨.ref s.heap.objs.size,_,I.laid (t':=s.toks) (o:=.lst (cutV xs lo hi)) (fun b ob q=>kN _ q) (kJ _) ?_,rfl,q _ (I.hok.fresh (kJ _))⟩;exact⟨pV (zkq xs lo hi) hz,_,0,(r.drop (HT.sIx xs.length 0 lo)).take (HT.sIx xs.length xs.length hi-HT.sIx xs.length 0 lo),pJ _ rfl⟩
theorem zdi:zey X (.builtin "len") (fun xs H Q=>∃p ys,xs=[.ref p]/\(SqL X.K H p ys∨SqT X.K H p ys)/\Q (.int ys.length) H):=by
 intro pins s σ H xs us Q I r h;obtain⟨p,ys,rfl,hq,q⟩:=h;obtain⟨u,rfl,rx⟩:=vals1 r
 cases rx;have hn:=line63;rcases hq with hq|hq
 ·obtain⟨its,r',pl,hz⟩:=I.list hq;have hlen:=r'.length;exact Calls.call_len_list pl.isList (by simp only[pZ]<;>omega) ⟨.int ys.length,H,I.tok _,⟨s.toks+1,by rw[pZ,hlen]⟩,q⟩
 ·obtain⟨its,r',pl,hz⟩:=I.tuple hq;have hlen:=r'.length;exact len_tuple pl (by simp only[pZ]<;>omega) ⟨.int ys.length,H,I.tok _,⟨s.toks+1,by rw[pZ,hlen]⟩,q⟩
def tyV(K:kM)(T:String)(x:V)(H:Hp):Prop:=match x with
 |.str _=>T="str"
 |.int _=>T="int"
 |.ref p=>(T="list"/\∃xs,SqL K H p xs)∨(T="tuple"/\∃o,K.lookup p=some o/\o.cls=.type "tuple"/\o.dict=none)∨
   (T="dict"/\((∃kvs,H p=some (.dK kvs))∨∃kvs,H p=some (.dT kvs)))∨(T="set"/\∃S n,H p=some (.set S n))
 |_=>False
theorem tyV_is{pins:List (Addr×Obj)}{σ:St}{H:Hp}{s:kC}{T:String}{x:V}{v:kB}(I:Inv X pins σ H s)(r:RelV x v)(ty:tyV X.K T x H):
  s.TypeIs v T/\∀a,v=.ref a->∃ob,s.heap.get? a=some ob/\ob.dict=none:=by
 cases x with
 |str z=>
  obtain⟨t,rfl⟩:=r
  cases(show T="str" from ty);exact⟨typeIs_str s z t,fun _ e=>nomatch e⟩
 |int i=>
  obtain⟨t,rfl⟩:=r
  cases(show T="int" from ty);exact⟨typeIs_int s i t,fun _ e=>nomatch e⟩
 |ref p=>
  cases r;rcases ty with⟨rfl,xs,hq⟩|⟨rfl,o,hk,hc,hd⟩|⟨rfl,hk⟩|⟨rfl,S,n,hk⟩
  ·obtain⟨its,_,pl,_⟩:=I.list hq;refine⟨pl.isList.typeIs,fun a e=>?_⟩
   cases e;obtain⟨o,n,e,c,hd,_⟩:=pl;exact⟨o,e,hd⟩
  ·refine⟨⟨o,I.kIn p o hk,hc⟩,fun a e=>?_⟩
   cases e;exact⟨o,I.kIn _ o hk,hd⟩
  ·have z:∃o,s.heap.get? p=some o/\o.ExactDict:=by
    rcases hk with⟨kvs,hk⟩|⟨kvs,hk⟩
    ·obtain⟨_,_,_,_,o,_,_,e,ex,_⟩:=I.hok p _ hk;exact⟨o,e,ex⟩
    ·obtain⟨_,_,_,_,o,_,_,e,ex,_⟩:=I.hok p _ hk;exact⟨o,e,ex⟩
   obtain⟨o,e,ex⟩:=z;refine⟨⟨o,e,ex.1⟩,fun a e2=>?_⟩
   cases e2;exact⟨o,e,ex.2.1⟩
  ·obtain⟨o,_,_,_,e,ex,_⟩:=I.hok p _ hk;refine⟨⟨o,e,ex.1⟩,fun a e2=>?_⟩
   cases e2;exact⟨o,e,ex.2.1⟩
 |_=>exact UW ty
def tBM0(K:kM)(T:String)(r:V->List V->Hp->VK->Prop)(to:TE):TE:=fun σ H Q=>to σ H fun x H1=>tyV K T x H1/\r x [] H1 Q
def tBM(K:kM)(T:String)(r:V->List V->Hp->VK->Prop)(to:TE)(t:TA):TE:=fun σ H Q=>to σ H fun x H1=>tyV K T x H1/\t σ H1 fun xs H2=>r x xs H2 Q
variable{o e:Expr}{es:List Expr}{to:TE}{t:TA}{name:Str}{apos cpos:Pos}{T id:String}{r:V->List V->Hp->VK->Prop}
theorem pe_bm0(pa:PlainAttrs T)(slot:Slot T name id)(hty:typeOf (.builtin id)=pure (.type "method_descriptor"))(hm:MtR X id r)(ho:PE X o to)
  (hbase:Ai o name X.env (eval o X.env)=eval o X.env:=by rfl)(hline:(apos.endLine==cpos.line)=true:=by rfl):PE X (.Call (.Attribute o name apos) [] [] cpos) (tBM0 X.K T r to):=by
 intro pins s σ H Q I h;refine wpAny_Call_method0_late hbase hline (thn (ho pins s σ H _ I h) fun v s1⟨x,H1,I1,r1,ty,q1⟩=>?_);obtain⟨h1,h2⟩:=tyV_is I1 r1 ty;exact⟨T,id,pa,slot,hty,h1,h2,Ub rfl (PySem.evalArgs_none (hm pins s1 σ H1 x [] v [] Q I1 r1 .nil q1))⟩
theorem zgr(pa:PlainAttrs T)(slot:Slot T name id)(hty:typeOf (.builtin id)=pure (.type "method_descriptor"))(hm:MtR X id r)(ho:PE X o to)(ha:PA X (e::es) t)
  (hbase:Ai o name X.env (eval o X.env)=eval o X.env:=by rfl)
  (hfew:((vv cpos (ui (e::es) X.env)).all (fun x=> !x.1)&&(AD cpos (vw [] X.env)).all (fun x=>x.1.isSome)
   &&decide ((e::es).length+([]:List Aa).length+(if([]:List Aa).isEmpty then 0 else 1)<30))=true:=by rfl)
  (hline:(apos.endLine==cpos.line)=true:=by rfl) (hs:ui (e::es) X.env=(false,eval e X.env)::ui es X.env:=by rfl) (hplain:(vv cpos (ui es X.env)).any (·.1)=false:=by rfl):
  PE X (.Call (.Attribute o name apos) (e::es) [] cpos) (tBM X.K T r to t):=by
 intro pins s σ H Q I h;refine wpAny_Call_method_late hbase hfew hline rfl (thn (ho pins s σ H _ I h) fun v s1⟨x,H1,I1,r1,ty,q1⟩=>?_);obtain⟨h1,h2⟩:=tyV_is I1 r1 ty;refine⟨T,id,pa,slot,hty,h1,h2,?_⟩;have hA:=ha cpos pins s1 σ H1 _ I1 q1;rw[hs] at hA⊢;refine Ub (by show(false||(vv cpos (ui es X.env)).any (·.1))=false;rw[hplain]<;>rfl) (vx ?_)
 exact thn hA fun us s2⟨vs,H2,I2,r2,q2⟩=>hm pins s2 σ H2 x vs v us Q I2 r1 r2 q2
end
def MtM(X:Cx)(id:String)(r:V->List V->Hp->VK->Prop):Prop:=
 ∀(pins:List (Addr×Obj))(s:kC)(σ:St)(H:Hp)(x:V)(xs:List V)(v:kB)(us:List kB)(Q:VK),Inv X pins σ H s->RelV x v->Vals xs us->r x xs H Q->
  wpAny (model X.prog X.w) X.A (call (.builtin id) (v::us)) (EP X pins σ Q) X.xe s
theorem Vals.one:∀{x:V}{us:List kB},Vals [x] us->∃u,us=[u]/\RelV x u
 |_,_,.cons r .nil=>⟨_,rfl,r⟩
theorem Vals.zero:∀{us:List kB},Vals [] us->us=[]
 |_,.nil=>rfl
theorem Vals.reverse{xs:List V}{us:List kB}(h:Vals xs us):Vals xs.reverse us.reverse:=by
 induction h with
 |nil=>exact .nil
 |cons r t ih=>rw[Cj,Cj];exact Vals.append ih (.cons r .nil)
section
variable{X:Cx}{pins:List (Addr×Obj)}{σ:St}{H:Hp}{s:kC}{l b:Addr}{xs ys zs:List V}
theorem Inv.lset{its its':List kB}{n:Nat}{f:Array kB->Array kB}{t':Nat}(I:Inv X pins σ H s)(hH:H l=some (.lst xs))
  (e:s.heap.get? l=some {cls:=.type "list",data:=.seq its.toArray n})(hf:f its.toArray=its'.toArray)(hv:Vals ys its')(hz:ys.length<=sizeLine):
  Inv X pins σ (upd H l (.lst ys)) {s with heap:=s.heap.update l (pT f),toks:=t'}:=by
 have q:=PySem.IsL.update e f;rw[hf] at q;refine I.write (x:=l) (e:=l) (by rw[hH];exact trivial) (.inl rfl) (fun b' u hb hu=>(QJ s.heap (pT f) (jP hb)).trans hu) ⟨_,q⟩ ?_
 exact⟨hz,its',_,hv,q⟩
theorem Inv.lnew{its:List kB}{t':Nat}(I:Inv X pins σ H s)(hv:Vals ys its)(hz:ys.length<=sizeLine):
  Inv X pins σ (upd H s.heap.objs.size (.lst ys)) {s with heap:=s.heap.push {cls:=.type "list",data:=.seq its.toArray},toks:=t'}:=
 I.laid (fun _ _ q=>kN _ q) (kJ _) ⟨hz,its,0,hv,pJ _ rfl⟩
theorem Inv.fresh(I:Inv X pins σ H s):H s.heap.objs.size=none:=I.hok.fresh (kJ _)
theorem Inv.lstM(I:Inv X pins σ H s)(hH:H l=some (.lst xs)):xs.length<=sizeLine/\∃(its:List kB)(n:Nat),Vals xs its/\xs.length=its.length/\s.heap.get? l=some {cls:=.type "list",data:=.seq its.toArray n}:=by
 obtain⟨z,its,n,r,e⟩:=I.hok l _ hH;exact⟨z,its,n,r,r.length,e⟩
theorem notLongL{n:Nat}(h:n<=sizeLine):jL n=false:=by
 unfold jL;exact decide_eq_false (by omega)
end
section
variable{X:Cx}
def rAppend:V->List V->Hp->VK->Prop:=fun x vs H Q=>∃l xs y,x=.ref l/\vs=[y]/\H l=some (.lst xs)/\xs.length<sizeLine/\Q .non (upd H l (.lst (xs++[y])))
theorem zb7:MtM X "list.append" rAppend:=by
 intro pins s σ H x vs v us Q I rx rv h;obtain⟨l,xs,y,rfl,rfl,hH,hz,q⟩:=h
 cases rx;obtain⟨u,rfl,ru⟩:=rv.one;obtain⟨z,its,n,r,hl,e⟩:=I.lstM hH;refine BH F.slot_list_append ⟨_,e,rfl⟩ F.entry_list_append (F.args_list_append_2 _ _) (PySem.list_append l its.toArray n u (by rw[pZ];omega)) ⟨e,?_⟩
 refine⟨.non,_,I.lset (its':=its++[u]) hH e (by simp) (r.append (.cons ru .nil)) ?_,rfl,q⟩
 rw[kK,pg];omega
def zif:V->List V->Hp->VK->Prop:=fun x vs H Q=>∃l b xs zs,x=.ref l/\vs=[.ref b]/\H l=some (.lst xs)/\H b=some (.lst zs)/\xs.length+zs.length<=sizeLine/\Q .non (upd H l (.lst (xs++zs)))
theorem zgj:MtM X "list.extend" zif:=by
 intro pins s σ H x vs v us Q I rx rv h;obtain⟨l,b,xs,zs,rfl,rfl,hH,hB,hz,q⟩:=h
 cases rx;obtain⟨u,rfl,ru⟩:=rv.one
 cases ru;obtain⟨z,its,n,r,hl,e⟩:=I.lstM hH;obtain⟨z2,its2,n2,r2,hl2,e2⟩:=I.lstM hB;have hsz:its.toArray.size+its2.toArray.size<=sizeLine:=by rw[pZ,pZ];omega
 have hlong:¬(!its.toArray.isEmpty&&jL (its.toArray.size+its2.toArray.size))=true:=by
  rw[notLongL hsz,Dj];exact pf
 refine BH F.slot_list_extend ⟨_,e,rfl⟩ F.entry_list_extend (F.args_list_extend_2 _ _)
  (AutoSeq1.list_extend_list_list_0 l its.toArray n b its2.toArray n2 hlong (by rw[pZ];omega) (by omega)) ⟨e,e2,?_⟩
 refine⟨.non,_,I.lset (its':=its++its2) hH e (by simp) (r.append r2) ?_,rfl,q⟩
 rw[kK];omega
def rCat:R2:=fun x y H Q=>∃l b xs zs,x=.ref l/\y=.ref b/\H l=some (.lst xs)/\H b=some (.lst zs)/\xs.length+zs.length<=sizeLine/\∀p,H p=none->Q (.ref p) (upd H p (.lst (xs++zs)))
theorem op_cat:OpR X (jd .Add) rCat:=by
 intro pins s σ H x y v u Q I rx ry h;obtain⟨l,b,xs,zs,rfl,rfl,hH,hB,hz,q⟩:=h
 cases rx
 cases ry;obtain⟨z,its,n,r,hl,e⟩:=I.lstM hH;obtain⟨z2,its2,n2,r2,hl2,e2⟩:=I.lstM hB;refine PySem.P.add_list e e2 ?_ (by rw[pZ,pZ];omega)
 have ea:its.toArray++its2.toArray=(its++its2).toArray:=by simp
 rw[ea];exact⟨.ref _,_,I.lnew (t':=s.toks) (r.append r2) (by rw[kK];omega),rfl,q _ I.fresh⟩
end
end L2
namespace Att
open PySem PySem.W PySem.Calls PyProof.Rows
theorem zgl{P:Params}{h:Heap}:∀(ns:List Int)(vs:List kB),WellAll P h vs (ns.map WData.int)->vm vs ns:=by
 intro ns
 induction ns with
 |nil=>
  intro vs w;rw[Qe] at w
  cases w;exact .nil
 |cons n ns ih=>
  intro vs w;rw[ki] at w
  cases w with
  |cons a b=>
   cases a;exact .cons _ _ (ih _ b)
theorem zna{l:OpenLaw}{n:Nat}(hn:l.most=some n){P:Params}{h:Heap}{args:List WData}{vals:List kB}
  (hpre:l.row.toRowW.claim.pre args=true)(hwl:WellAll P h vals args):
  ∃a vs ns,vals=[kZ a]/\args=[WData.list (ns.map WData.int)]/\h.get? a=some {cls:=.type "list",data:=.seq vs.toArray}/\vm vs ns/\ns.length<=n:=by
 have hsh:WShape.hasAll [] args [.list .int]=true:=(pre_splitW hpre).1;have hc:l.pre.holds [] {args:=args}=true:=(pre_splitW hpre).2;obtain⟨d,r,rfl,h1,h2⟩:=hasAllW_cons hsh;obtain rfl:=hasAllW_nil h2;obtain⟨xs,rfl,h3⟩:=hasW_list h1;obtain⟨ns,rfl⟩:=items_int h3;have hlen:ns.length<=n:=by
  unfold OpenLaw.pre at hc;have h4:(WTm.not (.lt (.lit (.int (n:Int))) (.len (.arg 0)))).holds [] {args:=[.list (ns.map .int)]}=true:=by
   have h4:=(holds_andW hc).1;rw[hn] at h4;exact h4
  have h5:=condW_of h4 (w_not (w_lt w_lit (w_len_list (w_arg rfl))));rw[kL] at h5;refine Nat.le_of_not_lt fun q=>?_;have q':(n:Int)<((ns.length:Nat):Int):=by omega
  first
   |(rw[decide_eq_true q'] at h5;exact absurd h5 (by decide))
   |(simp at h5;omega)
 cases hwl with
 |cons w1 w2=>
  cases w2
  cases w1 with
  |list ho hall=>exact⟨_,_,ns,rfl,rfl,ho,zgl ns _ hall,hlen⟩
theorem zol(l:OpenLaw)(args:List WData):l.row.toRowW.claim.post args (.bool true) args=true:=
 postW_of (r:=l.row.toRowW) (X:=(true==true))
  (show WShape.has [] (.bool true) .bool=true by first|rfl|decide|simp[WShape.has,WShape.arms,WShape.armsAll])
  (show(WTm.eq .res (.lit (.bool true))).value [] {args:=args,res:=some (.bool true),after:=args}=some (.bool (true==true)) from w_eq_bool (w_res rfl) w_lit) rfl
theorem attach_call{l:OpenLaw}{n:Nat}{q:kq}{loose:List Str}{XP:(Str->Option kB)->Heap->Prop}{YP:pX->Heap->Prop}{d:DefRec}
  (hn:l.most=some n)(hdf:d.params.defaults=[])
  (call:∀(w:pX)(s₀ s₁:kC)(mg mb:Str->Option kB)(fa:Addr)(o:Obj)(pm cd doc:kB)(a:Addr)(vs:List kB)(ns:List Int),
   Ground q loose [] XP w s₀ mg mb s₁.heap->YP w s₁.heap->
   s₁.heap.get? fa=some o->o.data=.func (docDef d.name d.params d.body d.scope pm cd doc)->s₁.heap.CodeRec cd d.name->mg d.name=some (.ref fa)->
   s₁.heap.get? a=some {cls:=.type "list",data:=.seq vs.toArray}->vm vs ns->ns.length<=n->s₁.gens=#[]->
   vk (model l.prog w) CG (.call (.ref fa) ⟨[.ref a],[]⟩) (fun r s'=>r=.ok (.ret (.bool true))/\OldK s₁.heap s'.heap/\s'.os=s₁.os/\AX s'.gens) s₁):
  WalkO q loose XP YP l.row.toRowW d [] (fun f vs=>Dk f vs):=by
 intro w s₀ s₁ mg mb G Y fa o pm cd doc dV kV ho hd hcd hD hmg hg args vals as hpre hlay hrd hwl hlo;obtain rfl:dV=.none:=Dflts.none hD hdf;obtain rfl:kV=.none:=Dflts.noKw hD;obtain⟨a,vs,ns,rfl,rfl,hobj,hints,hlen⟩:=zna hn hpre hwl;refine enter_call (BD (call w s₀ s₁ mg mb fa o pm cd doc a vs ns G Y ho (fd_plain hd) hcd hmg hobj hints hlen hg) fun r s' hq=>?_);obtain⟨rfl,h2,h3,h4⟩:=hq;exact⟨.inl ⟨.bool true,.bool true,[],rfl,fun _=>rfl,.bool true,zol l _,fun _=>⟨List.Pairwise.nil,fun _ hm=>(nomatch hm)⟩⟩,h2,h3,h4⟩
end Att
namespace L2
open PySem PySem.Spec PyProof.Rows
theorem zj7:∀{vs:List kB}{ns:List Int},vm vs ns->Vals (ns.map V.int) vs
 |_,_,.nil=>.nil
 |_,_,.cons n t h=>.cons ⟨t,rfl⟩ (zj7 h)
def za5(s:Stmt):Ao:=match s with
 |.FunctionDef _ a _ _ _ _ _ _ _ _=>a
 |_=>{posonlyargs:=[],args:=[],vararg:=none,kwonlyargs:=[],kw_defaults:=[],kwarg:=none,defaults:=[]}
def za4(s:Stmt):List Stmt:=match s with
 |.FunctionDef _ _ b _ _ _ _ _ _ _=>b
 |_=>[]
def za0(s:Stmt):Scope:=match s with
 |.FunctionDef _ _ _ _ _ _ sc _ _ _=>sc
 |_=>{kind:=.function,names:=[],isGenerator:=false,isCoroutine:=false}
abbrev CX0:CXT:=fun _ _ _ _ _ _=>False
abbrev E0:XK:=fun _ _ _=>False
theorem pass0{X:Cx}:Passes CX0 X E0:=fun _ _ _ _ _ _ _ h=>h.elim
structure Fun(K:kM)(x qual:Str)(st:Stmt)(f:Addr)(fd:UZ):Prop where
 ex:∃(oc:kB)(od:Option Addr)(kV doc pm:kB)(an:Option Addr)(cdv ct:kB)(osl:Array (Option kB)),
  fd=kO x qual (za5 st) (za4 st) (za0 st) .none kV doc pm an cdv ct/\K.lookup f=some ⟨oc,od,.func fd,osl⟩/\pE K cdv qual=true
 kp:pH K (.ref f)=true
section
variable{P:kq}{w:pX}{K:kM}{mg:Str->Option kB}{base:Heap}
theorem Fun.ok{x qual:Str}{st:Stmt}{f:Addr}{fd:UZ}{N ps:List Str}{k:Nat}{sp:Sp}(F:Fun K x qual st f fd)(S:zae N ps (za0 st))(len:∀vs H Q E,sp vs H Q E->vs.length=ps.length)
  (hbody:∀(cdv:kB)(A:pj)(outer:List Env)(s:kC)(H:Hp)(vs:List V)(Q:VK)(E:XK),Room k (A.deeper (BE qual (za0 st) s.heap.objs.size f cdv))->sp vs H Q E->
   ∃t,PSs (cxOf CX0 P w K mg base N qual (za0 st) f cdv A outer s H E).nox (za4 st) t/\t {nx:=fun _ H'=>Q .non H',rt:=Q} (start N vs) H):FnOk P w K mg base CX0 (k+1) f fd ps sp:=by
 obtain⟨oc,od,kV,doc,pm,an,cdv,ct,osl,rfl,lk,hcd⟩:=F.ex;refine fn_of lk hcd S len fun A outer s H vs Q E hr hsp=>?_;obtain⟨t,h,q⟩:=hbody cdv A outer s H vs Q E hr hsp;exact⟨t,h.nox,q⟩
theorem Fun.binds{x qual:Str}{st:Stmt}{f:Addr}{fd:UZ}{ps:List Str}(F:Fun K x qual st f fd)
  (h:∀(kV doc pm:kB)(an:Option Addr)(cdv ct:kB)(us:List kB),us.length=ps.length->Cg (kO x qual (za5 st) (za4 st) (za0 st) .none kV doc pm an cdv ct) ⟨us,[]⟩=pure (ps.zip us)):Binds K fd ps []:=by
 obtain⟨oc,od,kV,doc,pm,an,cdv,ct,osl,rfl,lk,hcd⟩:=F.ex;exact .all (h kV doc pm an cdv ct)
theorem zau{x qual:Str}{st:Stmt}{f:Addr}{oc:kB}{od an:Option Addr}{osl:Array (Option kB)}{kV doc pm cdv ct:kB}(l:K.lookup f=some ⟨oc,od,.func (kO x qual (za5 st) (za4 st) (za0 st) .none kV doc pm an cdv ct),osl⟩)
  (c:pE K cdv qual=true)(k:pH K (.ref f)=true):Fun K x qual st f (kO x qual (za5 st) (za4 st) (za0 st) .none kV doc pm an cdv ct):=⟨⟨oc,od,kV,doc,pm,an,cdv,ct,osl,rfl,l,c⟩,k⟩
end
theorem zft{A:pj}{k:Nat}(hr:Room k A):A.units+1<cLine:=ul (Nat.add_le_add_left (by decide:1<=64) _) hr.units
theorem small1000{n:Nat}(h:n<=1000):n<sizeLine:=ul h (by decide)
section
variable{X:Cx}
theorem pv(i:Nat){x:Str}{pos:Pos}(hN:X.N[i]?=some x:=by rfl)(hv:Vis X.env.scope x:=by first|exact pB rfl|exact jz (pB rfl)|exact jz (jz rfl))(hd:(x==("__debug__":Str))=false:=by decide)
  (hcd:(x==("__classdict__":Str))=false:=by decide):PE X (.Name x pos) (tVar i):=pe_var hN hv hd hcd
end
theorem iteF{A B:Prop}(h:B):if false=true then A else B:=by
 rw[if_neg pf];exact h
theorem iteT{A B:Prop}(h:A):if true=true then A else B:=by
 rw[if_pos rfl];exact h
theorem ite2{c A B:Prop}[Decidable c](h1:c->A)(h2:¬c->B):if c then A else B:=by
 by_cases h:c
 ·rw[if_pos h];exact h1 h
 ·rw[if_neg h];exact h2 h
def Same(H H':Hp):Prop:=∀b o,H b=some o->H' b=some o
theorem Same.refl(H:Hp):Same H H:=fun _ _ h=>h
theorem Same.trans{H H1 H2:Hp}(a:Same H H1)(b:Same H1 H2):Same H H2:=fun c o h=>b c o (a c o h)
theorem Same.free{H H':Hp}(e:Same H H'){l:Addr}(h:H' l=EQ):H l=EQ:=by
 cases q:H l with
 |none=>rfl
 |some o=>
  rw[e l o q] at h
  cases h
theorem Same.seq{K:kM}{H H':Hp}{a:Addr}{xs:List V}(e:Same H H')(h:SqL K H a xs):SqL K H' a xs:=by
 rcases h with(h|⟨o,h⟩)|h
 ·exact .inl (.inl (e _ _ h))
 ·exact .inl (.inr ⟨o,e _ _ h⟩)
 ·exact .inr h
section
variable{X:Cx}
def CBig(i j:Int):Prop:=i.natAbs<2^1000000/\j.natAbs<2^1000000
theorem CBig.ok{i j:Int}(h:CBig i j):IntMulOk i j:=
 PySem.IntMulOk.of_le (Bo.mpr h.1) (Bo.mpr h.2) (by decide)
theorem zas:OpR X (jd .Mult) (rI CBig fun i j=>.int (i*j)):=opI fun _ _ _ _ _ _ _ hc q=>mul_int q hc.ok
def CDivB(_i j:Int):Prop:=j≠0/\j.natAbs<2^8999
theorem zdx:OpR X (jd .FloorDiv) (rI CDivB fun i j=>.int (i.fdiv j)):=opI fun _ j _ _ _ _ _ hc q=>by
 refine floordiv_int hc.1 q (.inl (PyProof.noPylong_of_log2 ?_));have h0:j.natAbs≠0:=by have:=hc.1;omega
 have:=(Nat.log2_lt h0).mpr hc.2;omega
theorem bt_abs:Qy "abs"=some (.builtin "abs"):=by decide+kernel
theorem zh6:Qy "len"=some (.builtin "len"):=by decide+kernel
theorem zlo:Qy "int"=some (.type "int"):=by decide+kernel
def dictO(a:Addr):HO:=.ext fun h=>∃o,h.get? a=some o/\o.cls=.type "dict"
def tyN(K:kM)(H:Hp)(x:V)(T:String):Prop:=match x with
 |.non=>T="NoneType"
 |.bl _=>T="bool"
 |.int _=>T="int"
 |.str _=>T="str"
 |.ref p=>(T="list"/\∃xs,SqL K H p xs)∨(T="tuple"/\∃xs,SqT K H p xs)∨(T="dict"/\H p=some (dictO p))
 |_=>False
def isiB(Tx T:String):Bool:=(Tx==T)||(Tx=="bool"&&T=="int")
def rIsi(K:kM)(T:String):List V->Hp->VK->Prop:=fun xs H Q=>∃x Tx,xs=[x,.ty T]/\tyN K H x Tx/\Q (.bl (isiB Tx T)) H
end
theorem cx_K{CX:CXT}{P:kq}{w:pX}{K:kM}{mg:Str->Option kB}{base:Heap}{N:List Str}{qual:Str}{scope:Scope}{f:Addr}{cd:kB}{A:pj}{outer:List Env}{s:kC}{H:Hp}{E:XK}:
  (cxOf CX P w K mg base N qual scope f cd A outer s H E).K=K:=rfl
theorem tyN_non{K:kM}{H:Hp}{T:String}:tyN K H .non T=(T="NoneType"):=rfl
theorem tyN_bl{K:kM}{H:Hp}{T:String}{b:Bool}:tyN K H (.bl b) T=(T="bool"):=rfl
theorem tyN_int{K:kM}{H:Hp}{T:String}{i:Int}:tyN K H (.int i) T=(T="int"):=rfl
theorem tyN_str{K:kM}{H:Hp}{T:String}{x:Str}:tyN K H (.str x) T=(T="str"):=rfl
theorem isi_ii:isiB "int" "int"=true:=by decide+kernel
theorem isi_ib:isiB "int" "bool"=false:=by decide+kernel
theorem isi_it:isiB "int" "tuple"=false:=by decide+kernel
theorem isi_il:isiB "int" "list"=false:=by decide+kernel
theorem isi_bi:isiB "bool" "int"=true:=by decide+kernel
theorem isi_bb:isiB "bool" "bool"=true:=by decide+kernel
theorem isi_ni:isiB "NoneType" "int"=false:=by decide+kernel
theorem isi_si:isiB "str" "int"=false:=by decide+kernel
theorem isi_ti:isiB "tuple" "int"=false:=by decide+kernel
theorem isi_li:isiB "list" "int"=false:=by decide+kernel
theorem isi_di:isiB "dict" "int"=false:=by decide+kernel
theorem isi_tt:isiB "tuple" "tuple"=true:=by decide+kernel
theorem isi_ll:isiB "list" "list"=true:=by decide+kernel
theorem scal_ii{i j:Int}:scal (.int i) (.int j)=true:=rfl
theorem scal_bb{i j:Bool}:scal (.bl i) (.bl j)=true:=rfl
theorem za2{H:Hp}{p:Addr}(h:H p=none)(o:HO):Same H (upd H p o):=fun b u q=>by rw[za6 (zax q h)];exact q
theorem cbig{i j:Int}{m n:Nat}(h1:i.natAbs<2^m)(h2:j.natAbs<2^n)(hm:m<=1000000:=by decide)(hn:n<=1000000:=by decide):CBig i j:=
 ⟨pG h1 (Uq (by decide) hm),pG h2 (Uq (by decide) hn)⟩
theorem cdivb{i j:Int}{n:Nat}(h0:j≠0)(h:j.natAbs<2^n)(hn:n<=8999:=by decide):CDivB i j:=⟨h0,pG h (Uq (by decide) hn)⟩
def getI(σ:St)(i:Nat):Int:=match σ[i]? with
 |some (some (.int x))=>x
 |_=>0
theorem sz0:(0<=sizeLine)=True:=eq_true (by decide)
theorem sz1:(1<=sizeLine)=True:=eq_true (by decide)
theorem sz2:(2<=sizeLine)=True:=eq_true (by decide)
theorem sz3:(3<=sizeLine)=True:=eq_true (by decide)
theorem sz4:(4<=sizeLine)=True:=eq_true (by decide)
def NS(e:Expr):Prop:=∀es env,ui (e::es) env=(false,eval e env)::ui es env
theorem zad{a b c}:NS (Expr.Constant a b c):=fun _ _=>rfl
theorem za1{a b}:NS (Expr.Name a b):=fun _ _=>rfl
theorem zbq{a b c d}:NS (Expr.Call a b c d):=fun _ _=>rfl
theorem zaa{a b c d}:NS (Expr.BinOp a b c d):=fun _ _=>rfl
theorem zd4{a b c}:NS (Expr.UnaryOp a b c):=fun _ _=>rfl
theorem zat{a b c}:NS (Expr.Tuple a b c):=fun _ _=>rfl
theorem zo5{a b}:NS (Expr.List a b):=fun _ _=>rfl
theorem za7{a b c}:NS (Expr.Subscript a b c):=fun _ _=>rfl
theorem zel{a b c d}:NS (Expr.Compare a b c d):=fun _ _=>rfl
theorem zdy{a b c d}:NS (Expr.ListComp a b c d):=fun _ _=>rfl
section
variable{X:Cx}
theorem pa1{e1:Expr}{t1:TE}(h1:PE X e1 t1)(n1:NS e1):PA X [e1] (zbo t1 tNil):=(zah h1 zci (n1 _ _))
theorem pa2{e1 e2:Expr}{t1 t2:TE}(h1:PE X e1 t1)(n1:NS e1)(h2:PE X e2 t2)(n2:NS e2):PA X [e1,e2] (zbo t1 (zbo t2 tNil)):=(zah h1 (zah h2 zci (n2 _ _)) (n1 _ _))
theorem pa3{e1 e2 e3:Expr}{t1 t2 t3:TE}(h1:PE X e1 t1)(n1:NS e1)(h2:PE X e2 t2)(n2:NS e2)(h3:PE X e3 t3)(n3:NS e3):PA X [e1,e2,e3] (zbo t1 (zbo t2 (zbo t3 tNil))):=(zah h1 (zah h2 (zah h3 zci (n3 _ _)) (n2 _ _)) (n1 _ _))
theorem pa4{e1 e2 e3 e4:Expr}{t1 t2 t3 t4:TE}(h1:PE X e1 t1)(n1:NS e1)(h2:PE X e2 t2)(n2:NS e2)(h3:PE X e3 t3)(n3:NS e3)(h4:PE X e4 t4)(n4:NS e4):PA X [e1,e2,e3,e4] (zbo t1 (zbo t2 (zbo t3 (zbo t4 tNil)))):=(zah h1 (zah h2 (zah h3 (zah h4 zci (n4 _ _)) (n3 _ _)) (n2 _ _)) (n1 _ _))
theorem pa5{e1 e2 e3 e4 e5:Expr}{t1 t2 t3 t4 t5:TE}(h1:PE X e1 t1)(n1:NS e1)(h2:PE X e2 t2)(n2:NS e2)(h3:PE X e3 t3)(n3:NS e3)(h4:PE X e4 t4)(n4:NS e4)(h5:PE X e5 t5)(n5:NS e5):PA X [e1,e2,e3,e4,e5] (zbo t1 (zbo t2 (zbo t3 (zbo t4 (zbo t5 tNil))))):=(zah h1 (zah h2 (zah h3 (zah h4 (zah h5 zci (n5 _ _)) (n4 _ _)) (n3 _ _)) (n2 _ _)) (n1 _ _))
theorem pa7{e1 e2 e3 e4 e5 e6 e7:Expr}{t1 t2 t3 t4 t5 t6 t7:TE}(h1:PE X e1 t1)(n1:NS e1)(h2:PE X e2 t2)(n2:NS e2)(h3:PE X e3 t3)(n3:NS e3)(h4:PE X e4 t4)(n4:NS e4)(h5:PE X e5 t5)(n5:NS e5)(h6:PE X e6 t6)(n6:NS e6)(h7:PE X e7 t7)(n7:NS e7):PA X [e1,e2,e3,e4,e5,e6,e7] (zbo t1 (zbo t2 (zbo t3 (zbo t4 (zbo t5 (zbo t6 (zbo t7 tNil))))))):=(zah h1 (zah h2 (zah h3 (zah h4 (zah h5 (zah h6 (zah h7 zci (n7 _ _)) (n6 _ _)) (n5 _ _)) (n4 _ _)) (n3 _ _)) (n2 _ _)) (n1 _ _))
theorem pa8{e1 e2 e3 e4 e5 e6 e7 e8:Expr}{t1 t2 t3 t4 t5 t6 t7 t8:TE}(h1:PE X e1 t1)(n1:NS e1)(h2:PE X e2 t2)(n2:NS e2)(h3:PE X e3 t3)(n3:NS e3)(h4:PE X e4 t4)(n4:NS e4)(h5:PE X e5 t5)(n5:NS e5)(h6:PE X e6 t6)(n6:NS e6)(h7:PE X e7 t7)(n7:NS e7)(h8:PE X e8 t8)(n8:NS e8):PA X [e1,e2,e3,e4,e5,e6,e7,e8] (zbo t1 (zbo t2 (zbo t3 (zbo t4 (zbo t5 (zbo t6 (zbo t7 (zbo t8 tNil)))))))):=(zah h1 (zah h2 (zah h3 (zah h4 (zah h5 (zah h6 (zah h7 (zah h8 zci (n8 _ _)) (n7 _ _)) (n6 _ _)) (n5 _ _)) (n4 _ _)) (n3 _ _)) (n2 _ _)) (n1 _ _))
theorem pss2{e1 e2:Stmt}{t1 t2:TS}(h1:PS X e1 t1)(h2:PS X e2 t2):PSs X [e1,e2] (tSeq t1 t2):=(zab h1 (zaf h2))
theorem pss3{e1 e2 e3:Stmt}{t1 t2 t3:TS}(h1:PS X e1 t1)(h2:PS X e2 t2)(h3:PS X e3 t3):PSs X [e1,e2,e3] (tSeq t1 (tSeq t2 t3)):=(zab h1 (zab h2 (zaf h3)))
theorem pss4{e1 e2 e3 e4:Stmt}{t1 t2 t3 t4:TS}(h1:PS X e1 t1)(h2:PS X e2 t2)(h3:PS X e3 t3)(h4:PS X e4 t4):PSs X [e1,e2,e3,e4] (tSeq t1 (tSeq t2 (tSeq t3 t4))):=(zab h1 (zab h2 (zab h3 (zaf h4))))
theorem pss5{e1 e2 e3 e4 e5:Stmt}{t1 t2 t3 t4 t5:TS}(h1:PS X e1 t1)(h2:PS X e2 t2)(h3:PS X e3 t3)(h4:PS X e4 t4)(h5:PS X e5 t5):PSs X [e1,e2,e3,e4,e5] (tSeq t1 (tSeq t2 (tSeq t3 (tSeq t4 t5)))):=(zab h1 (zab h2 (zab h3 (zab h4 (zaf h5)))))
theorem pss6{e1 e2 e3 e4 e5 e6:Stmt}{t1 t2 t3 t4 t5 t6:TS}(h1:PS X e1 t1)(h2:PS X e2 t2)(h3:PS X e3 t3)(h4:PS X e4 t4)(h5:PS X e5 t5)(h6:PS X e6 t6):PSs X [e1,e2,e3,e4,e5,e6] (tSeq t1 (tSeq t2 (tSeq t3 (tSeq t4 (tSeq t5 t6))))):=(zab h1 (zab h2 (zab h3 (zab h4 (zab h5 (zaf h6))))))
theorem pss8{e1 e2 e3 e4 e5 e6 e7 e8:Stmt}{t1 t2 t3 t4 t5 t6 t7 t8:TS}(h1:PS X e1 t1)(h2:PS X e2 t2)(h3:PS X e3 t3)(h4:PS X e4 t4)(h5:PS X e5 t5)(h6:PS X e6 t6)(h7:PS X e7 t7)(h8:PS X e8 t8):PSs X [e1,e2,e3,e4,e5,e6,e7,e8] (tSeq t1 (tSeq t2 (tSeq t3 (tSeq t4 (tSeq t5 (tSeq t6 (tSeq t7 t8))))))):=(zab h1 (zab h2 (zab h3 (zab h4 (zab h5 (zab h6 (zab h7 (zaf h8))))))))
theorem pss12{e1 e2 e3 e4 e5 e6 e7 e8 e9 e10 e11 e12:Stmt}{t1 t2 t3 t4 t5 t6 t7 t8 t9 t10 t11 t12:TS}(h1:PS X e1 t1)(h2:PS X e2 t2)(h3:PS X e3 t3)(h4:PS X e4 t4)(h5:PS X e5 t5)(h6:PS X e6 t6)(h7:PS X e7 t7)(h8:PS X e8 t8)(h9:PS X e9 t9)(h10:PS X e10 t10)(h11:PS X e11 t11)(h12:PS X e12 t12):PSs X [e1,e2,e3,e4,e5,e6,e7,e8,e9,e10,e11,e12] (tSeq t1 (tSeq t2 (tSeq t3 (tSeq t4 (tSeq t5 (tSeq t6 (tSeq t7 (tSeq t8 (tSeq t9 (tSeq t10 (tSeq t11 t12))))))))))):=(zab h1 (zab h2 (zab h3 (zab h4 (zab h5 (zab h6 (zab h7 (zab h8 (zab h9 (zab h10 (zab h11 (zaf h12))))))))))))
end
theorem zgp{α β:Type}(g:α->β->β){f:α->β->Sem (ForInStep β)}:∀{l:List α}(c:β),(∀x∈l,∀c,f x c=pure (.yield (g x c)))->forIn l c f=pure (l.foldl (fun c x=>g x c) c)
 |[],c,_=>rfl
 |x::l,c,h=>by
  have hx:=h x uJ c;rw[BS,hx,DD];exact zgp g (g x c) fun y hy=>h y (kT _ hy)
def zd6(env:Env)(x:Str×AE)(c:List (Str×Addr)):List (Str×Addr):=
 if x.2==QB then(match env.cells.lookup x.1 with|some a=>(x.1,a)::c|none=>c) else c
theorem zfz{env:Env}:∀(l:List (Str×AE))(acc:List (Str×Addr)),(∀n c,acc.lookup n=some c->env.cells.lookup n=some c)->
  ∀n c,(l.foldl (fun c x=>zd6 env x c) acc).lookup n=some c->env.cells.lookup n=some c
 |[],acc,h,n,c,e=>h n c e
 |x::l,acc,h,n,c,e=>by
  refine zfz l (zd6 env x acc) (fun n c e=>?_) n c e;unfold zd6 at e
  split at e
  ·split at e
   ·rename_i a ha
    rw[uj] at e
    split at e
    ·rename_i hb
     have hn:n=x.1:=by simpa using hb
     cases e;rw[hn];exact ha
    ·exact h n c e
   ·exact h n c e
  ·exact h n c e
theorem zfy{env:Env}:∀(l:List (Str×AE))(acc:List (Str×Addr))(n:Str),((∃c,acc.lookup n=some c)∨((n,QB)∈l/\∃c,env.cells.lookup n=some c))->
  ∃c,(l.foldl (fun c x=>zd6 env x c) acc).lookup n=some c
 |[],acc,n,h=>by
  rcases h with h|⟨h,_⟩
  ·exact h
  ·cases h
 |x::l,acc,n,h=>by
  refine zfy l (zd6 env x acc) n ?_;rcases h with⟨c,h⟩|⟨h,c,hc⟩
  ·left;unfold zd6
   split
   ·split
    ·rw[uj]
     split
     ·exact⟨_,rfl⟩
     ·exact⟨c,h⟩
    ·exact⟨c,h⟩
   ·exact⟨c,h⟩
  ·rcases pF.mp h with e|h
   ·left;subst e;unfold zd6;have ef:(QB==QB)=true:=rfl;have en:(n==n)=true:=by simp
    simp only[ef,if_true,hc,uj,en];exact⟨c,rfl⟩
   ·exact .inr ⟨h,c,hc⟩
theorem zmo{scope:Scope}{env:Env}(hf:∀n,(n,QB)∈scope.names->∃c,env.cells.lookup n=some c):
  ∃cl,CS scope env=pure cl/\(∀n c,cl.lookup n=some c->env.cells.lookup n=some c)/\∀n,(n,QB)∈scope.names->∃c,cl.lookup n=some c:=by
 refine⟨scope.names.foldl (fun c x=>zd6 env x c) [],?_,zfz _ _ (fun n c e=>by simp at e),fun n h=>zfy _ _ n (.inr ⟨h,hf n h⟩)⟩
 simp only[CS];rw[zgp (zd6 env) [] (fun x hx c=>?_)]
 ·rfl
 ·obtain⟨n,kind⟩:=x
  by_cases hk:kind=.free
  ·subst hk;obtain⟨a,ha⟩:=hf n hx;have ef:(QB==QB)=true:=rfl
   simp[cellOf,ha,zd6,ef]
  ·have e:(kind==QB)=false:=by simpa using hk
   simp[e,zd6]
theorem zdm(env:Env)(x:Str):∀names:List (Str×AE),
  (names.map fun(n,k)=>if(k==QB&&env.scope.kind==.function&&env.kindOf n==some .cell) then(n,CO) else(n,k)).lookup x=
  (names.lookup x).map fun k=>if(k==QB&&env.scope.kind==.function&&env.kindOf x==some .cell) then CO else k
 |[]=>rfl
 |(n,k)::r=>by
  have ih:=zdm env x r;rw[ki]
  by_cases e:x=n
  ·subst e;have ex:(x==x)=true:=by simp
   by_cases c:(k==QB&&env.scope.kind==.function&&env.kindOf x==some .cell)=true
   ·dsimp only;rw[if_pos c,uj,ex,uj,ex];exact congrArg some (if_pos c).symm
   ·dsimp only;rw[if_neg c,uj,ex,uj,ex];exact congrArg some (if_neg c).symm
  ·have e':(x==n)=false:=by simpa using e
   by_cases c:(k==QB&&env.scope.kind==.function&&env.kindOf n==some .cell)=true
   ·dsimp only;rw[if_pos c,uj,e',uj,e'];exact ih
   ·dsimp only;rw[if_neg c,uj,e',uj,e'];exact ih
structure zdo(dsc:Scope)(N:List Str)(scope:Scope)(own:List Str)(ix:List Nat):Prop where
 kind:scope.kind=.function
 nocell:∀y∈scope.names,y.2≠CO
 names:∀y∈scope.names,y.2=NameKind.local->scope.names.lookup y.1=some .local
 free:∀y∈scope.names,y.2=QB->dsc.names.lookup y.1=some .cell∨dsc.names.lookup y.1=some .free
 ix:∀i∈ix,i<N.length/\scope.names.lookup (N.getD i "")=some .free
def Cx.comp(X:Cx)(scope:Scope)(own:List Str)(ix:List Nat)(cl:List (Str×Addr))(C:Addr)(fp:List Addr)(s:kC)(H:Hp)(xe:kB->kC->Prop):Cx:=
 {X with N:=own++ix.map (fun i=>X.N.getD i ""),s₀:=s,H₀:=H,env:=gH scope cl C X.env,outer:=X.stack,ex:=fp,fn:=fun _=>false,pn:=[],xe:=xe}
theorem comp_K{X:Cx}{scope:Scope}{own:List Str}{ix:List Nat}{cl:List (Str×Addr)}{C:Addr}{fp:List Addr}{s:kC}{H:Hp}{xe:kB->kC->Prop}:(X.comp scope own ix cl C fp s H xe).K=X.K:=rfl
def selC(k:Nat)(ix:List Nat)(σ:St):St:=AF k none++ix.map (fun i=>(σ[i]?).join)
section
variable{X:Cx}{pins:List (Addr×Obj)}{σ:St}{H H4:Hp}{s s4:kC}{dsc scope:Scope}{own:List Str}{ix:List Nat}{cl:List (Str×Addr)}{C:Addr}{fp:List Addr}{xe:kB->kC->Prop}
theorem comp_fp(I:Inv X pins σ H s)(hf:∀b∈fp,FpOk X pins H b){b:Addr}(hb:b∈fp):b∉frs X.stack:=fun hs=>by
 obtain⟨_,f1,f2,_⟩:=hf b hb;rcases pF.mp (I.stkSub b hs) with e|e
 ·exact f1 e
 ·exact f2 e
theorem Inv.comp(I:Inv X pins σ H s)(hd:X.env.scope=dsc)(S:zdo dsc X.N scope own ix)(cs:∀n c,cl.lookup n=some c->X.env.cells.lookup n=some c)(ch:∀n,(n,QB)∈scope.names->∃c,cl.lookup n=some c)
  (hf:∀b∈fp,FpOk X pins H b)(ho:∀b∈fp,∃o,s.heap.get? b=some o)(I4:Inv X pins σ H4 s4)(un:Un (frs X.stack) fp H H4 s.heap s4.heap)(hC:s.heap.objs.size<=C)(hn:∃m,s4.heap.Ns C m)(hC0:H4 C=none):
  Inv (X.comp scope own ix cl C fp s H xe) [] (selC own.length ix σ) H4 s4:=by
 have kfree:∀x,scope.names.lookup x=some .free->(gH scope cl C X.env).kindOf x=some .cell∨(gH scope cl C X.env).kindOf x=some .free:=fun x h=>by
  have e:(gH scope cl C X.env).kindOf x=_:=zdm X.env x scope.names;rw[e,h,QL]
  split
  ·exact .inl rfl
  ·exact .inr rfl
 have kback:∀x,((gH scope cl C X.env).kindOf x=some .cell∨(gH scope cl C X.env).kindOf x=some .free)->scope.names.lookup x=some .free:=fun x h=>by
  have e:(gH scope cl C X.env).kindOf x=_:=zdm X.env x scope.names;rw[e] at h
  cases q:scope.names.lookup x with
  |none=>rw[q] at h;rcases h with h|h<;>cases h
  |some k=>
   have nc:=S.nocell _ (uh q);rw[q,QL] at h
   cases k<;>first|rfl|exact absurd rfl nc|(rcases h with h|h<;>cases h)
 refine⟨⟨I.ok.mod,S.kind,I.ok.glob,I.ok.blt,hC,fun x y c h1 h2=>I.ok.inj x y c (cs x c h1) (cs y c h2),fun x hx=>ch x (uh (kback x hx)),fun x c h=>(nomatch h),I.ok.hd,I.ok.frames,.inl rfl,fun b hb=>⟨fun z=>?_,fun x c e=>(hf b hb).2.2.2.2.1 x c (cs x c e)⟩,
  I.bs,pV I.ok.bsz I.sz,fun b o e hb=>?_,fun b hb=>comp_fp I hf hb,I.stack,I.stkFree⟩,I4.os.trans I.os.symm,I4.bare,un,?_,fun x c e=>I4.cell x c (cs x c e),hC0,fun x c e=>I4.freeC x c (cs x c e),fun p hp=>(nomatch hp),I4.hok,?_⟩
 ·obtain⟨o,e⟩:=ho b hb;have z':b=C:=z;exact absurd (pG (pK e) (by rw[z'];exact hC)) (Ux _)
 ·rcases(hf b hb).2.2.2.1 with z|z
  ·exact I.ok.noex b o e z
  ·exact absurd (pG (pK e) (pV I.ok.bsz z)) (Ux _)
 ·obtain⟨m,hm⟩:=hn;refine⟨m,hm,fun i x v e1 e2 _=>?_⟩;have e1':(own++ix.map (fun i=>X.N.getD i ""))[i]?=some x:=e1;unfold selC at e2
  by_cases hi:i<own.length
  ·rw[po (by rw[Uk];exact hi),An,if_pos hi] at e2
   cases e2
  ·rw[pd (by rw[Uk];omega),Uk,pS] at e2
   rw[pd (by omega),pS] at e1'
   cases q:ix[i-own.length]? with
   |none=>rw[q] at e2;cases e2
   |some j=>
    rw[q] at e1' e2;rw[QL,vn] at e1' e2;obtain⟨hj,hfr⟩:=S.ix j (ko q);rw[e1'] at hfr;have eN:X.N[j]?=some x:=by
     rw[kI hj,←e1',kR,kI hj];rfl
    have es:σ[j]?=some (some v):=by
     cases w:σ[j]? with
     |none=>rw[w] at e2;cases e2
     |some o=>rw[w] at e2;exact congrArg some e2
    have kd:=S.free _ (uh hfr) rfl;rw[←hd] at kd;obtain⟨m4,hm4,hl⟩:=I4.loc;obtain⟨u,r,l⟩:=hl j x v eN es (.inr kd);refine⟨u,r,.inr ⟨kfree x hfr,?_⟩⟩;rcases l with⟨k,_⟩|⟨_,c,ec,cell⟩
    ·have k':X.env.scope.names.lookup x=some .local:=k;rcases kd with z|z<;>(rw[k'] at z;cases z)
    ·obtain⟨c',ec'⟩:=ch x (uh hfr);have z:=cs x c' ec';rw[ec] at z
     cases z;exact⟨c,ec',cell⟩
 ·show(selC own.length ix σ).length=(own++ix.map (fun i=>X.N.getD i "")).length
  unfold selC;rw[kK,kK,Uk,kL,kL]
theorem Inv.outOf{pins':List (Addr×Obj)}{σ':St}{H':Hp}{s':kC}(I:Inv X pins σ H s)(hf:∀b∈fp,FpOk X pins H b)(J:Inv (X.comp scope own ix cl C fp s H xe) pins' σ' H' s'):Inv X pins σ H' s':=
 I.call' J.os J.base J.hok J.bare fun b hb=>by
  obtain⟨_,f1,_,f3,f4,f5⟩:=hf b hb;exact⟨f3,f1,f4,f5⟩
end
abbrev zpu(ifs:List Expr)(env:Env):Sem Bool:=forIn ifs true fun c r=>if r=true then do let ok ←isTrue c env (eval c env);pure (DV ok) else pure (DV r)
def PIf(X:Cx)(ifs:List Expr)(t:TT):Prop:=
 ∀(pins:List (Addr×Obj))(s:kC)(σ:St)(H:Hp)(Q:Bool->Hp->Prop),Inv X pins σ H s->t σ H Q->wpAny (model X.prog X.w) X.A (zpu ifs X.env) (TP X pins σ Q) X.xe s
def tYes:TT:=fun _ H Q=>Q true H
theorem zez{X:Cx}:PIf X [] tYes:=fun _ _ _ H _ I h=>wpAny_tests_nil ⟨H,I,h⟩
theorem pif_one{X:Cx}{c:Expr}{t:TT}(h:PT X c t):PIf X [c] t:=fun pins s σ H Q I q=>wpAny_tests_one (h pins s σ H Q I q)
section
variable{prog:kq}{w:pX}{A:pj}{R:DB->kC->Prop}{s:kC}
abbrev nb(prog:kq)(w:pX)(A:pj)(env:Env)(R:DB->kC->Prop):kB->kC->Prop:=notedBy (model prog w) A env fun e s'=>R (.error e) s'
theorem zpi{elt target iter:Expr}{ifs:List Expr}{scope:Scope}{pos:Pos}{it acc:kB}{env:Env}(I:Nat->kC->Prop)
  (turn:∀n s,I n s->wpAny (model prog w) A (DA it) (fun r s₁=>(r=none/\R (.ok .next) s₁)∨∃v,r=some v/\
   wpAny (model prog w) A (gT target it v) (fun _ s₂=>wpAny (model prog w) A (assign target env v) (fun _ s₃=>wpAny (model prog w) A (zpu ifs env) (fun ok s₄=>
    if ok=true then wpAny (model prog w) A (eval elt env) (fun x s₅=>wpAny (model prog w) A (call (.builtin "list.append") [acc,x]) (fun _ s₆=>∃m,m<n/\I m s₆) (nb prog w A env R) s₅) (nb prog w A env R) s₄
    else ∃m,m<n/\I m s₄) (nb prog w A env R) s₃) (nb prog w A env R) s₂) (nb prog w A env R) s₁) (nb prog w A env R) s)
  (n:Nat) (h:I n s):vk (model prog w) A (.compLoop (.ListComp elt [⟨target,iter,ifs,0⟩] scope pos) 0 it acc env) R s:=by
 refine codeAny_loop rfl I (fun n s hI=>?_) n h;refine wpAny_noted ?_;have e:=compTurn_list elt target iter ifs scope pos it acc env;show wpAny (model prog w) A (compTurn (.ListComp elt [⟨target,iter,ifs,0⟩] scope pos) 0 it acc env) _ _ s;rw[e];refine kA (gC (kA (thn (turn n s hI) fun r s₁ h₁=>?_)));rcases h₁ with⟨rfl,h₁⟩|⟨v,rfl,h₁⟩
 ·exact kF h₁
 ·refine kA (thn h₁ fun _ s₂ h₂=>kA (thn h₂ fun _ s₃ h₃=>kA (thn h₃ fun ok s₄ h₄=>?_)))
  cases ok with
  |false=>exact kF ⟨rfl,h₄⟩
  |true=>
   refine kA (kA (thn h₄ fun x s₅ h₅=>kA (thn h₅ fun _ s₆ h₆=>?_)));exact kF (kF ⟨rfl,h₆⟩)
end
def tComp(k:Nat)(ix:List Nat)(wi:TI)(g:TG)(ti:TT)(te:TE):TE:=fun σ H Q=>wi σ H fun J H1=>∀D,H1 D=none->∃W:Nat->Nat->Hp->Prop,(∃m,W 0 m (upd H1 D (.lst [])))/\∀i m H2,W i m H2->
 (J.stop i H2/\Q (.ref D) H2)∨(J.go i H2/\∀x H3,J.yld i H2 x H3->g x (selC k ix σ) H3 fun σ4 H4=>ti σ4 H4 fun b H5=>if b=true then te σ4 H5 fun y H6=>∃ys,H6 D=some (.lst ys)/\ys.length<sizeLine/\∃m',m'<m/\W (i+1) m' (upd H6 D (.lst (ys++[y])))
  else ∃m',m'<m/\W (i+1) m' H5)
section
variable{X:Cx}{pins:List (Addr×Obj)}{σ:St}{H:Hp}{s:kC}{dsc scope:Scope}{own:List Str}{ix:List Nat}{elt tg iter:Expr}{ifs:List Expr}{pos:Pos}{wi:TI}{g:TG}{ti:TT}{te:TE}
def CompBody(X:Cx)(scope:Scope)(own:List Str)(ix:List Nat)(tg:Expr)(ifs:List Expr)(elt:Expr)(g:TG)(ti:TT)(te:TE):Prop:=
 ∀cl C fp s H xe,PG (X.comp scope own ix cl C fp s H xe) tg g/\PIf (X.comp scope own ix cl C fp s H xe) ifs ti/\PE (X.comp scope own ix cl C fp s H xe) elt te
theorem zm2{use:Option (kB->Sem Unit)}{RQ:kB->kC->Prop}{Q:VK}{p0:Pos}(hc:X.calm=true)(hd:X.env.scope=dsc)(S:zdo dsc X.N scope own ix)(hi:PI X tg iter wi)(hb:CompBody X scope own ix tg ifs elt g ti te)
  (hs:∀x,jc iter X.env x=pure x)(I:Inv X pins σ H s)(h:tComp own.length ix wi g ti te σ H Q)
  (fin:∀D C H' s',Inv X pins σ H' s'->FpOk X pins H' C->(∃m,s'.heap.Ns C m)->Q (.ref D) H'->compPost (model X.prog X.w) X.A X.xe use RQ (.ref D) C (.ok .next) s'):
  wpAny (model X.prog X.w) X.A (comprehension (.ListComp elt [⟨tg,iter,ifs,0⟩] scope pos) scope X.env p0 (newList []) false (eval iter X.env) use) RQ X.xe s:=by
 obtain⟨cl,hcl,cs,ch⟩:=zmo (scope:=scope) (env:=X.env) fun n hn=>I.ok.has n (by
  have z:=S.free _ hn rfl;rw[←hd] at z;exact z)
 refine wpAny_comprehension_free rfl hs hcl S.kind S.names (thn (hi pins s σ H _ I h) fun v s1 h1=>thn h1 fun itv s2 h2=>?_);obtain⟨it,fp,tn,J,H2,e,I2,T,st2,f2,W⟩:=h2;subst e;have hD0:H2 s2.heap.objs.size=none:=I2.fresh;obtain⟨W,⟨m0,w0⟩,turn⟩:=W _ hD0;have I3:=I2.lnew (ys:=[]) (its:=[]) (t':=s2.toks) .nil (pY _);refine UR (Bp S.nocell (by intro y hy;cases hy) (fun h₁ hns₁ hsb₁=>?_) S.kind)
 dsimp only at hns₁ hsb₁⊢;generalize hH3:s2.heap.push {cls:=.type "list",dict:=none,data:=.seq ([]:List kB).toArray}=g3 at hns₁ hsb₁⊢;have hC:g3.objs.size=s2.heap.objs.size+1:=by rw[←hH3,jf]
 have old3:∀b o,g3.get? b=some o->h₁.get? b=some o:=fun b o e=>hsb₁.extBut b o (uH (pK e)) (kN _ e);have old:∀b o,s2.heap.get? b=some o->h₁.get? b=some o:=fun b o e=>old3 b o (by rw[←hH3];exact kN _ e)
 have I4:Inv X pins σ (upd H2 s2.heap.objs.size (.lst [])) {s2 with heap:=h₁,toks:=s2.toks+0}:=I3.kept (t':=s2.toks+0) fun b o e=>old3 b o (by rw[←hH3];exact e)
 have fpo:∀b∈fp,∃o,s2.heap.get? b=some o:=fun b hb=>let⟨o,e,_⟩:=T.obj _ _ st2 b hb;⟨o,e⟩;have hC0:upd H2 s2.heap.objs.size (.lst []) g3.objs.size=none:=by
  rw[za6 (by rw[hC];exact Nat.succ_ne_self _)]
  exact I2.hok.fresh (by rw[hC];exact Qv _)
 have hCs:s2.heap.objs.size<=g3.objs.size:=by rw[hC];exact Qv _
 have into:∀{H':Hp}{s':kC}{xe:kB->kC->Prop},Inv X pins σ H' s'->Un (frs X.stack) fp H2 H' s2.heap s'.heap->(∃m,s'.heap.Ns g3.objs.size m)->H' g3.objs.size=none->Inv (X.comp scope own ix cl g3.objs.size fp s2 H2 xe) [] (selC own.length ix σ) H' s':=
  fun I' un hn h0=>I2.comp hd S cs ch f2 fpo I' un hCs hn h0
 have stat:∀{H':Hp}{xe:kB->kC->Prop}{σ':St}{s':kC},Inv (X.comp scope own ix cl g3.objs.size fp s2 H2 xe) [] σ' H' s'->(∀b∈fp,H' b=none)->∀b∈fp,FpOk (X.comp scope own ix cl g3.objs.size fp s2 H2 xe) [] H' b:=fun{H' xe σ' s'} K hn b hb=>
  ⟨hn b hb,(K.ok.exf b hb).1,K.ok.exfs b hb,.inl hb,(K.ok.exf b hb).2,fun p hp=>nomatch hp⟩
 have loop:∀s₃:kC,s₃={s2 with heap:=h₁,toks:=s2.toks+0}->
   vk (model X.prog X.w) X.A (.compLoop (.ListComp elt [⟨tg,iter,ifs,0⟩] scope pos) 0 (.ref it) (.ref s2.heap.objs.size) (gH scope cl g3.objs.size X.env)) (compPost (model X.prog X.w) X.A X.xe use RQ (.ref s2.heap.objs.size) g3.objs.size) s₃:=by
  rintro s₃ rfl;generalize hxe:nb X.prog X.w X.A (gH scope cl g3.objs.size X.env) (compPost (model X.prog X.w) X.A X.xe use RQ (.ref s2.heap.objs.size) g3.objs.size)=xe;obtain⟨hg,hif,hel⟩:=hb cl g3.objs.size fp s2 H2 xe;refine zpi (fun n s'=>∃i H',Inv (X.comp scope own ix cl g3.objs.size fp s2 H2 xe) [] (selC own.length ix σ) H' s'/\tn i s'.heap/\(∀b∈fp,H' b=none)/\W i n H') ?_ m0
   ⟨0,_,into I4 (Un.laid old (kJ _) hD0) ⟨_,hns₁⟩ hC0,T.keep _ _ _ st2 fun b hb o e=>old b o e,fun b hb=>?_,w0⟩
  ·rintro n s3 ⟨i,H3,K3,st3,fr3,w3⟩;rw[hxe];rcases turn i n H3 w3 with⟨stop,qn⟩|⟨go,step⟩
   ·refine thn (T.done (X.comp scope own ix cl g3.objs.size fp s2 H2 xe) rfl rfl rfl hc i [] s3 _ H3 xe K3 (stat K3 fr3) st3 stop) fun r s4⟨hr,K4⟩=>.inl ⟨hr,?_⟩;obtain⟨m,hm,_⟩:=K4.loc;exact fin _ _ H3 s4 (I2.outOf f2 K4) (I2.fpOk hCs K4.free) ⟨m,hm⟩ qn
   ·refine thn (T.item (X.comp scope own ix cl g3.objs.size fp s2 H2 xe) rfl rfl rfl hc i [] s3 _ H3 xe K3 (stat K3 fr3) st3 go) fun r s4⟨u,hr,h4⟩=>.inr ⟨u,hr,?_⟩;refine thn h4 fun _ s5⟨x,H5,K5,r5,y5,st5,fr5⟩=>?_;have K5':=K5.pinned (stat K5 fr5) (T.obj _ _ st5);refine thn (hg _ s5 _ H5 x u _ K5' r5 (step x H5 y5)) fun _ s6⟨σ6,H6,K6,q6⟩=>?_;refine thn (hif _ s6 σ6 H6 _ K6 q6) fun b s7⟨H7,K7,q7⟩=>?_;have again:∀{σ8:St}{H8:Hp}{s8:kC},Inv (X.comp scope own ix cl g3.objs.size fp s2 H2 xe) ([]++zjj fp s5.heap) σ8 H8 s8->(∃m',m'<n/\W (i+1) m' H8)->∃m,m<n/\∃i H',Inv (X.comp scope own ix cl g3.objs.size fp s2 H2 xe) [] (selC own.length ix σ) H' s8/\tn i s8.heap/\(∀b∈fp,H' b=none)/\W i m H':=fun{σ8 H8 s8} K8⟨m',hm,w8⟩=>by
     obtain⟨m,hm8,_⟩:=K8.loc;refine⟨m',hm,i+1,H8,into (I2.outOf f2 K8) K8.base ⟨m,hm8⟩ K8.free,T.keep _ _ _ st5 fun b hb o e=>(K8.pin (b,o) (kh _ (kh _ (zek hb e)))).1,fun b hb=>?_,w8⟩;obtain⟨o,e,d⟩:=T.obj _ _ st5 b hb;exact(K8.pin (b,o) (kh _ (kh _ (zek hb e)))).2.1
    cases b with
    |false=>exact again K7 q7
    |true=>
     refine thn (hel _ s7 σ6 H7 _ K7 q7) fun v s8⟨y,H8,K8,r8,ys,e8,z8,q8⟩=>?_;refine thn (zb7 (X:=X.comp scope own ix cl g3.objs.size fp s2 H2 xe) _ s8 σ6 H8 (.ref s2.heap.objs.size) [y] (.ref s2.heap.objs.size) [v] (fun _ H'=>∃m',m'<n/\W (i+1) m' H') K8 rfl (.cons r8 .nil) ⟨_,ys,y,rfl,rfl,e8,z8,q8⟩) ?_;rintro u9 s9 ⟨v9,H9,K9,r9,q9⟩;exact again K9 q9
  ·have z:=(f2 b hb).1;obtain⟨o,e⟩:=fpo b hb;rw[za6 (uH (pK e))];exact z
 exact codeAny_compStart_list (loop _ rfl) (T.self _ 0 _ _ _ (T.keep _ _ _ st2 fun b hb o e=>old b o e) (loop _ rfl))
theorem zfq{N:List Str}(hc:X.calm=true)(hd:X.env.scope=dsc)(hN:X.N=N)(S':zdo dsc N scope own ix)(hi:PI X tg iter wi)(hb:CompBody X scope own ix tg ifs elt g ti te)
  (hs:∀x,jc iter X.env x=pure x:=by intro _;rfl):PE X (.ListComp elt [⟨tg,iter,ifs,0⟩] scope pos) (tComp own.length ix wi g ti te):=by
 have S:zdo dsc X.N scope own ix:=by rw[hN];exact S'
 intro pins s σ H Q I h;rw[eval_ListComp];refine zm2 (use:=none) hc hd S hi hb hs I h fun D C H' s' I' f' hn q=>?_;obtain⟨m,hm⟩:=hn;obtain⟨f0,f1,f2,f3,f4,f5⟩:=f';exact⟨m,hm,fun h' sb=>⟨.ref D,H',I'.turned (t':=s'.toks) (fun b o hb e=>(sb.2 b hb).trans e) f0 f1 f3 f4 f5,rfl,q⟩⟩
theorem zjv{i:Nat}{x:Str}{N:List Str}{pos' pos1:Pos}(hN:X.N.Nodup)(hx0:X.N[i]?=some x)(hx:Loc X.env.scope x)(hc:X.calm=true)(hd:X.env.scope=dsc)(hN':X.N=N)(S':zdo dsc N scope own ix)(hi:PI X tg iter wi)(hb:CompBody X scope own ix tg ifs elt g ti te)
  (hsw:CF (.ListComp elt [⟨tg,iter,ifs,0⟩] scope pos) (some (.Name x pos')) pos1.line X.env=pure true:=by rfl)(hf:X.fn x=true∨X.env.scope.names.lookup x=some .local:=by first|exact .inl rfl|exact .inr rfl|assumption)
  (hs:∀x,jc iter X.env x=pure x:=by intro _;rfl):PS X (.Assign [.Name x pos'] (.ListComp elt [⟨tg,iter,ifs,0⟩] scope pos) pos1) (tAsg (tComp own.length ix wi g ti te) (gName i)):=by
 have S:zdo dsc X.N scope own ix:=by rw[hN'];exact S'
 intro pins s σ H D I h;rw[exec_Assign_Name_used _ _ _ _ hsw]
 have main:=zm2 (p0:=iter.pos) (pos:=pos) (use:=some (assign (.Name x pos') X.env)) (RQ:=fun _ s'=>SP X pins D .next s') hc hd S hi hb hs I h fun l C H' s' I' f' hn q=>by
  obtain⟨m,o,es,ep,ho,hdt,hr⟩:=hn;obtain⟨f0,f1,f2,f3,f4,f5⟩:=f';have Ip:Inv X (pins++[(C,o)]) σ H' s':=I'.pins_of fun p hp=>(kW.mp hp).elim (fun z=>I'.pin p (kh _ z)) fun z=>by
   have e:p=(C,o):=by simpa using z
   subst e;exact⟨ho,f0,f1,f2,fun v z=>by rw[hdt] at z;cases z⟩
  refine Cd (zf6 (v:=.ref l) Ip hN hx0 hx rfl (fun s2 I2=>?_) hf);have pc:=I2.pin (C,o) (kh _ (kh _ (by simp)))
  refine⟨m,⟨o,es,ep,pc.1,hdt,hr⟩,fun h' sb=>⟨_,H',I2.unpinned.turned (t':=s2.toks) (fun b o hb e=>(sb.2 b hb).trans e) pc.2.1 f1 f3 f4 f5,q⟩⟩
 refine kA (gC (kA ?_));exact kA (thn main fun _ s' hq=>kF (kF hq))
end
def CW(n:Nat)(Pv:Nat->List V->Hp->Prop):Nat->Nat->Hp->Prop:=fun i m H=>m=n-i/\i<=n/\∃ys,Pv i ys H
abbrev CPut(n:Nat)(Pv:Nat->List V->Hp->Prop)(D:Addr)(i:Nat)(y:V)(H:Hp):Prop:=∃ys,H D=some (.lst ys)/\ys.length<sizeLine/\∃m',m'<n-i/\CW n Pv (i+1) m' (upd H D (.lst (ys++[y])))
abbrev CSkip(n:Nat)(Pv:Nat->List V->Hp->Prop)(i:Nat)(H:Hp):Prop:=∃m',m'<n-i/\CW n Pv (i+1) m' H
theorem cw_put{n i:Nat}{Pv:Nat->List V->Hp->Prop}{D:Addr}{y:V}{ys:List V}{H:Hp}(hi:i<n)(hD:H D=some (.lst ys))(hz:ys.length<sizeLine)(p:Pv (i+1) (ys++[y]) (upd H D (.lst (ys++[y])))):CPut n Pv D i y H:=
 ⟨ys,hD,hz,n-(i+1),by omega,rfl,hi,_,p⟩
theorem cw_skip{n i:Nat}{Pv:Nat->List V->Hp->Prop}{ys:List V}{H:Hp}(hi:i<n)(p:Pv (i+1) ys H):CSkip n Pv i H:=⟨n-(i+1),by omega,rfl,hi,_,p⟩
def CompW(J:It)(D:Addr)(g:TG)(ti:TT)(te:TE)(σ':St)(H:Hp)(Q:VK):Prop:=
 ∃W:Nat->Nat->Hp->Prop,(∃m,W 0 m (upd H D (.lst [])))/\∀i m H2,W i m H2->
  (J.stop i H2/\Q (.ref D) H2)∨(J.go i H2/\∀x H3,J.yld i H2 x H3->g x σ' H3 fun σ4 H4=>ti σ4 H4 fun b H5=>if b=true then te σ4 H5 fun y H6=>∃ys,H6 D=some (.lst ys)/\ys.length<sizeLine/\∃m',m'<m/\W (i+1) m' (upd H6 D (.lst (ys++[y])))
   else ∃m',m'<m/\W (i+1) m' H5)
theorem zcn{k:Nat}{ix:List Nat}{wi:TI}{g:TG}{ti:TT}{te:TE}{σ:St}{H:Hp}{Q:VK}(h:wi σ H fun J H1=>∀D,H1 D=none->CompW J D g ti te (selC k ix σ) H1 Q):tComp k ix wi g ti te σ H Q:=h
theorem zno{J:It}{D:Addr}{g:TG}{ti:TT}{te:TE}{σ':St}{H:Hp}{Q:VK}(n:Nat)(Pv:Nat->List V->Hp->Prop)(h0:Pv 0 [] (upd H D (.lst [])))(hgo:∀i ys H,i<n->Pv i ys H->J.go i H)(hst:∀ys H,Pv n ys H->J.stop n H)
  (hs:∀i ys H x H3,i<n->Pv i ys H->J.yld i H x H3->g x σ' H3 fun σ4 H4=>ti σ4 H4 fun b H5=>if b=true then te σ4 H5 fun y H6=>CPut n Pv D i y H6 else CSkip n Pv i H5)
  (hd:∀ys H,Pv n ys H->Q (.ref D) H):CompW J D g ti te σ' H Q:=by
 refine⟨CW n Pv,⟨n,rfl,pY _,[],h0⟩,?_⟩;rintro i m H2 ⟨rfl,hi,ys,p⟩
 by_cases hlt:i<n
 ·exact .inr ⟨hgo i ys H2 hlt p,fun x H3 y=>hs i ys H2 x H3 hlt p y⟩
 ·have e:i=n:=by omega
  subst e;exact .inl ⟨hst ys H2 p,hd ys H2 p⟩
theorem zce{K:kM}{a D:Addr}{xs:List V}{g:TG}{ti:TT}{te:TE}{σ':St}{H:Hp}{Q:VK}(Pv:Nat->List V->Hp->Prop)(h0:Pv 0 [] (upd H D (.lst [])))(hl:∀i ys H,Pv i ys H->SqL K H a xs)
  (hs:∀i ys H x,i<xs.length->xs[i]?=some x->Pv i ys H->g x σ' H fun σ4 H4=>ti σ4 H4 fun b H5=>if b=true then te σ4 H5 fun y H6=>CPut xs.length Pv D i y H6 else CSkip xs.length Pv i H5)
  (hd:∀ys H,Pv xs.length ys H->Q (.ref D) H):CompW (Itl K a) D g ti te σ' H Q:=by
 refine zno xs.length Pv h0 (fun i ys H hi p=>⟨xs,xs[i],hl i ys H p,by simp[hi]⟩) (fun ys H p=>⟨xs,hl _ ys H p,kJ _⟩) (fun i ys H x H3 hi p y=>?_) hd
 obtain⟨e,y⟩:=y;subst e;exact hs i ys _ x hi (y xs (hl i ys _ p)) p
mutual
def RdD(K:kM)(H:Hp):CT->V->Prop
 |.none,v=>v=.non
 |.bool b,v=>v=.bl b
 |.int i,v=>v=.int i
 |.str x,v=>v=.str x
 |.list ds,v=>∃p xs,v=.ref p/\SqL K H p xs/\RdDs K H ds xs
 |.tuple ds,v=>∃p xs,v=.ref p/\SqT K H p xs/\RdDs K H ds xs
 |.dict _,_=>False
def RdDs(K:kM)(H:Hp):List CT->List V->Prop
 |[],xs=>xs=[]
 |d::ds,xs=>∃x r,xs=x::r/\RdD K H d x/\RdDs K H ds r
end
section
variable{X:Cx}{pins:List (Addr×Obj)}{σ:St}{H:Hp}{s:kC}
mutual
theorem zd0(I:Inv X pins σ H s):∀(d:CT)(v:V)(u:kB),RdD X.K H d v->RelV v u->∃as,Reads s.heap u d as
 |.none,v,u,h,r=>by
  rw[RdD] at h;subst h;cases r;exact⟨_,.none⟩
 |.bool b,v,u,h,r=>by
  rw[RdD] at h;subst h;cases r;exact⟨_,.bool b⟩
 |.int i,v,u,h,r=>by
  rw[RdD] at h;subst h;obtain⟨t,rfl⟩:=r;exact⟨_,.int i t⟩
 |.str x,v,u,h,r=>by
  rw[RdD] at h;subst h;obtain⟨t,rfl⟩:=r;exact⟨_,.str x t⟩
 |.list ds,v,u,h,r=>by
  rw[RdD] at h;obtain⟨p,xs,rfl,hq,hs⟩:=h
  cases r;obtain⟨its,rv,pl,hz⟩:=I.list hq;obtain⟨o,ho,hc,n,hd⟩:=pl.isList;obtain⟨as,ra⟩:=zgi I ds xs its hs rv;exact⟨_,reads_list_at ho hc hd (by simpa using ra)⟩
 |.tuple ds,v,u,h,r=>by
  rw[RdD] at h;obtain⟨p,xs,rfl,hq,hs⟩:=h
  cases r;obtain⟨its,rv,pl,hz⟩:=I.tuple hq;obtain⟨o,ho,hc,n,hd⟩:=pl;obtain⟨as,ra⟩:=zgi I ds xs its hs rv;exact⟨_,reads_tuple_at ho hc hd (by simpa using ra)⟩
 |.dict kvs,v,u,h,r=>by
  rw[RdD] at h;exact h.elim
theorem zgi(I:Inv X pins σ H s):∀(ds:List CT)(xs:List V)(us:List kB),RdDs X.K H ds xs->Vals xs us->∃as,ReadsAll s.heap us ds as
 |[],xs,us,h,r=>by
  rw[RdDs] at h;subst h;cases r;exact⟨_,.nil⟩
 |d::ds,xs,us,h,r=>by
  rw[RdDs] at h;obtain⟨x,xr,rfl,hx,hr⟩:=h
  cases r with
  |cons r1 r2=>
   obtain⟨as,ra⟩:=zd0 I d _ _ hx r1;obtain⟨bs,rb⟩:=zgi I ds _ _ hr r2;exact⟨_,.cons ra rb⟩
end
end
def rEqD(K:kM):R2:=fun x y H Q=>∃d e,RdD K H d x/\RdD K H e y/\Uc d=true/\Uc e=true/\Q (.bl (Qs d e)) H
def rNeD(K:kM):R2:=fun x y H Q=>∃d e,RdD K H d x/\RdD K H e y/\Uc d=true/\Uc e=true/\Q (.bl (!PyData.eqv d e)) H
theorem hu64{A:pj}{k:Nat}(hr:Room k A):A.units+64<cLine:=by have:=hr.un;omega
section
variable{X:Cx}
theorem zkt(hu:X.A.units+64<cLine):OpR X (UQ .Eq) (rEqD X.K):=by
 intro pins s σ H x y v u Q I rx ry h;obtain⟨d,e,hd,he,sd,se,q⟩:=h;obtain⟨as,ra⟩:=zd0 I d x v hd rx;obtain⟨bs,rb⟩:=zd0 I e y u he ry;exact eq_dataH ra rb sd se hu ⟨.bl (Qs d e),H,I,rfl,q⟩
theorem zpr(hu:X.A.units+64<cLine):OpR X (UQ .NotEq) (rNeD X.K):=by
 intro pins s σ H x y v u Q I rx ry h;obtain⟨d,e,hd,he,sd,se,q⟩:=h;obtain⟨as,ra⟩:=zd0 I d x v hd rx;obtain⟨bs,rb⟩:=zd0 I e y u he ry;exact ne_dataH ra rb sd se hu ⟨.bl (!PyData.eqv d e),H,I,rfl,q⟩
end
section
variable{X:Cx}
theorem IxR.imp{r r':R2}(h:IxR X r)(i:∀x y H Q,r' x y H Q->r x y H Q):IxR X r':=fun value slice pins s σ H x y v u Q I rx ry q hs=>h value slice pins s σ H x y v u Q I rx ry (i x y H Q q) hs
theorem zey.imp{f:kB}{r r':List V->Hp->VK->Prop}(h:zey X f r)(i:∀xs H Q,r' xs H Q->r xs H Q):zey X f r':=fun pins s σ H xs us Q I rv q=>h pins s σ H xs us Q I rv (i xs H Q q)
def rIxTH:R2:=fun x y H Q=>∃p xs i v,x=.ref p/\y=.int i/\H p=some (.tup xs)/\atI xs i=some v/\Q v H
def rIxLH:R2:=fun x y H Q=>∃p xs i v,x=.ref p/\y=.int i/\H p=some (.lst xs)/\atI xs i=some v/\Q v H
theorem za3:IxR X rIxTH:=ix_tup.imp fun x y H Q⟨p,xs,i,v,e1,e2,h,e3,q⟩=>⟨p,xs,i,v,e1,e2,.of h,e3,q⟩
theorem zaz:IxR X rIxLH:=zk8.imp fun x y H Q⟨p,xs,i,v,e1,e2,h,e3,q⟩=>⟨p,xs,i,v,e1,e2,.of h,e3,q⟩
def rLenH:List V->Hp->VK->Prop:=fun xs H Q=>∃p ys,xs=[.ref p]/\(H p=some (.lst ys)∨H p=some (.tup ys))/\Q (.int ys.length) H
theorem zgs:zey X (.builtin "len") rLenH:=zdi.imp fun xs H Q⟨p,ys,e,h,q⟩=>⟨p,ys,e,h.imp .of .of,q⟩
def tyF(H:Hp)(x:V):Option String:=match x with
 |.non=>some "NoneType"
 |.bl _=>some "bool"
 |.int _=>some "int"
 |.str _=>some "str"
 |.ref p=>match H p with
  |some (.lst _)=>some "list"
  |some (.tup _)=>some "tuple"
  |_=>none
 |_=>none
end
theorem tyF_non{H:Hp}:tyF H .non=some "NoneType":=rfl
theorem tyF_bl{H:Hp}{b:Bool}:tyF H (.bl b)=some "bool":=rfl
theorem tyF_int{H:Hp}{i:Int}:tyF H (.int i)=some "int":=rfl
theorem tyF_str{H:Hp}{z:Str}:tyF H (.str z)=some "str":=rfl
theorem at0{α:Type}{x:α}{r:List α}:atI (x::r) 0=some x:=zdu (j:=0) rfl
theorem at1{α:Type}{x y:α}{r:List α}:atI (x::y::r) 1=some y:=zdu (j:=1) rfl
theorem at2{α:Type}{x y z:α}{r:List α}:atI (x::y::z::r) 2=some z:=zdu (j:=2) rfl
theorem at3{α:Type}{x y z t:α}{r:List α}:atI (x::y::z::t::r) 3=some t:=zdu (j:=3) rfl
theorem at4{α:Type}{x y z t u:α}{r:List α}:atI (x::y::z::t::u::r) 4=some u:=zdu (j:=4) rfl
theorem zbh{H H':Hp}{D:Addr}{o:HO}(g:Same H H')(h:H D=none):Same H (upd H' D o):=fun b u q=>by
 rw[za6 (zax q h)];exact g b u q
section
variable{X:Cx}
theorem SlR.imp{r r':V->Option Int->Option Int->Hp->VK->Prop}(h:SlR X r)(i:∀x lo hi H Q,r' x lo hi H Q->r x lo hi H Q):SlR X r':=fun pins s σ H x v vl vu lo hi sl Q I rx hs pl pu q=>h pins s σ H x v vl vu lo hi sl Q I rx hs pl pu (i x lo hi H Q q)
def rSlH:V->Option Int->Option Int->Hp->VK->Prop:=fun x lo hi H Q=>∃a xs,x=.ref a/\H a=some (.lst xs)/\∀p,H p=none->Q (.ref p) (upd H p (.lst (cutV xs lo hi)))
theorem zc9:SlR X rSlH:=sl_list.imp fun x lo hi H Q⟨a,xs,e,h,q⟩=>⟨a,xs,e,.of h,q⟩
def rIntB:List V->Hp->VK->Prop:=fun xs H Q=>∃k,xs=[.bl k]/\Q (.int (if k=true then 1 else 0)) H
theorem zfg:zey X (.type "int") rIntB:=znd.imp fun xs H Q h=>.inr h
theorem zbw{K:kM}{H:Hp}{p:Addr}{xs:List V}(h:H p=some (.lst xs)):tyV K "list" (.ref p) H:=.inl ⟨rfl,xs,.of h⟩
theorem bt_min:Qy "min"=some (.builtin "min"):=by decide+kernel
theorem bt_max:Qy "max"=some (.builtin "max"):=by decide+kernel
end
def ForW(J:It)(g:TG)(tb:TS)(D:Ends)(σ:St)(H:Hp):Prop:=∃W:Nat->Nat->St->Hp->Prop,(∃m,W 0 m σ H)/\∀i m σ H,W i m σ H->
 (J.stop i H/\D.nx σ H)∨(J.go i H/\∃N:St->Hp->Prop,(∀σ' H',N σ' H'->∃m',m'<m/\W (i+1) m' σ' H')/\∀x H',J.yld i H x H'->g x σ H' fun σ2 H2=>tb {D with nx:=N,ct:=N,bk:=D.nx} σ2 H2)
theorem zbs{wi:TI}{g:TG}{tb:TS}{D:Ends}{σ:St}{H:Hp}(h:wi σ H fun J H1=>ForW J g tb D σ H1):tFor wi g tb D σ H:=h
section
variable{X:Cx}{pos:Pos}
def gTupH(n:Nat)(t:TGs):TG:=fun v σ H Q=>∃a xs,v=.ref a/\H a=some (.tup xs)/\xs.length=n/\t xs σ H Q
theorem zev{es:List Expr}{k:Nat}{t:TGs}{n:Nat}(hc:X.calm=true)(h:PGs X es t)(hn:(jy es X.env).length=n:=by rfl)(hst:(jy es X.env).findIdx? (·.1)=none:=by rfl):PG X (.Tuple es k pos) (gTupH n t):=
 fun pins s σ H v u Q I r hw=>pg_tup hc h hn hst pins s σ H v u Q I r (by
  obtain⟨a,xs,e,q,l,z⟩:=hw;exact⟨a,xs,e,.of q,l,z⟩)
end
open PySem.Builtin PySem.Builtin.Str
open PySem.W (KasT kas_asc kas_desc kas_rev kas_tail3 kas_descPart kas_count kas_place kas_bin kas_sort kas_ask kas_item)
def ansT{α:Type}(ans:Nat->Nat->Bool):KasT α->α
 |.ret a=>a
 |.ask i j k=>ansT ans (k (ans i j))
def Asks{α:Type}(n:Nat)(R:α->Prop):KasT α->Prop
 |.ret a=>R a
 |.ask i j k=>i<n/\j<n/\∀b,Asks n R (k b)
theorem Asks.bind{α β:Type}{n:Nat}{R:α->Prop}{S:β->Prop}{f:α->KasT β}:∀{t:KasT α},Asks n R t->(∀a,R a->Asks n S (f a))->Asks n S (t.bind f)
 |.ret a,h,k=>k a h
 |.ask i j g,h,k=>⟨h.1,h.2.1,fun b=>Asks.bind (h.2.2 b) k⟩
theorem Asks.ends{α:Type}{n:Nat}{R:α->Prop}{ans:Nat->Nat->Bool}:∀{t:KasT α},Asks n R t->R (ansT ans t)
 |.ret _,h=>h
 |.ask i j g,h=>Asks.ends (n:=n) (t:=g (ans i j)) (h.2.2 (ans i j))
theorem Asks.wp{α:Type}{n:Nat}{R:α->Prop}{ans:Nat->Nat->Bool}{cmp:Nat->Nat->(Bool->kC->Prop)->kC->Prop}{s:kC}{Q:α->kC->Prop}(hc:∀i j C,i<n->j<n->C (ans i j) s->cmp i j C s):
  ∀{t:KasT α},Asks n R t->Q (ansT ans t) s->t.kasWp cmp Q s
 |.ret _,_,q=>q
 |.ask i j g,h,q=>hc i j _ h.1 h.2.1 (Asks.wp (n:=n) (t:=g (ans i j)) hc (h.2.2 (ans i j)) q)
def Ord(n:Nat)(p:Array Nat):Prop:=p.toList.Perm (uB n)
theorem Ord.get{n:Nat}{p:Array Nat}(h:Ord n p)(hn:0<n)(i:Nat):p.getD i 0<n:=by
 by_cases hi:i<p.size
 ·have e:p.getD i 0=p[i]:=by simp[UF,hi]
  rw[e];exact pO.mp (h.mem_iff.mp (by simp))
 ·have e:p.getD i 0=0:=by simp[UF,hi]
  rw[e];exact hn
theorem Ord.of{n:Nat}{p q:Array Nat}(h:Ord n p)(e:q.Perm p):Ord n q:=(AG.mp e).trans h
theorem Ord.rev{n:Nat}{p:Array Nat}(h:Ord n p)(i j:Nat):Ord n (kas_rev p i j):=h.of (Ur _ _ _ _)
theorem zii{n:Nat}{p:Array Nat}(h:Ord n p)(hn:0<n):∀(f m:Nat),Asks n (fun _=>True) (kas_asc p f m)
 |0,_=>trivial
 |f+1,m=>⟨h.get hn _,h.get hn _,fun b=>by
  cases b with
  |true=>dsimp only;rw[if_pos rfl];trivial
  |false=>dsimp only;rw[if_neg (by decide)];exact zii h hn f (m+1)⟩
theorem zfn{n:Nat}(hn:0<n):∀(f:Nat){p:Array Nat}(m q:Nat),Ord n p->Asks n (fun r=>Ord n r.1) (kas_desc f p m q)
 |0,_,_,_,h=>h
 |f+1,p,m,q,h=>⟨h.get hn _,h.get hn _,fun b=>by
  cases b with
  |true=>
   dsimp only;rw[if_pos rfl]
   by_cases z:q>0
   ·rw[if_pos z];exact zfn hn f _ _ (h.rev _ _)
   ·rw[if_neg z];exact zfn hn f _ _ h
  |false=>
   dsimp only;rw[if_neg (by decide)]
   refine⟨h.get hn _,h.get hn _,fun d=>?_⟩
   cases d with
   |true=>dsimp only;rw[if_pos rfl];exact h
   |false=>dsimp only;rw[if_neg (by decide)];exact zfn hn f _ _ h⟩
theorem zhq{n a b:Nat}{p:Array Nat}(hn:0<n)(h:Ord n p):Asks n (fun r=>Ord n r.2) (kas_tail3 a b p):=
 Asks.bind (zii (h.rev _ _) hn _ _) fun _ _=>h.rev _ _
theorem zfb{n a b:Nat}{p:Array Nat}(hn:0<n)(h:Ord n p):Asks n (fun r=>Ord n r.2) (kas_descPart a b p):=
 Asks.bind (zfn hn _ _ _ h) fun r hr=>by
  by_cases z:r.2.2>0
  ·rw[if_pos z];exact zhq hn (hr.rev _ _)
  ·rw[if_neg z];exact zhq hn hr
theorem zhj{n b:Nat}{p:Array Nat}(hn:0<n)(h:Ord n p):Asks n (fun r=>Ord n r.2) (kas_count b p):=
 Asks.bind (zii h hn _ _) fun m _=>by
  by_cases z:(m==b)=true
  ·rw[if_pos z];exact h
  ·rw[if_neg z]
   by_cases y:m>1
   ·rw[if_pos y];refine⟨h.get hn _,h.get hn _,fun c=>?_⟩
    cases c with
    |true=>dsimp only;rw[if_pos rfl];exact h
    |false=>dsimp only;rw[if_neg (by decide)];exact zfb hn (h.rev _ _)
   ·rw[if_neg y];exact zfb hn h
theorem zfo{n:Nat}{p:Array Nat}(hn:0<n)(h:Ord n p)(k:Nat):∀(f l r:Nat),Asks n (fun _=>True) (kas_place p k f l r)
 |0,_,_=>trivial
 |f+1,l,r=>by
  unfold kas_place
  by_cases z:l≥r
  ·rw[if_pos z];trivial
  ·rw[if_neg z];refine⟨h.get hn _,h.get hn _,fun c=>?_⟩
   cases c with
   |true=>dsimp only;rw[if_pos rfl];exact zfo hn h k f _ _
   |false=>dsimp only;rw[if_neg (by decide)];exact zfo hn h k f _ _
theorem zla{n:Nat}(hn:0<n):∀(f:Nat){p:Array Nat}(k:Nat),Ord n p->Asks n (Ord n) (kas_bin f p k)
 |0,_,_,h=>h
 |f+1,p,k,h=>Asks.bind (zfo hn h k _ _ _) fun l _=>zla hn f (k+1) (h.of (DR _ _ _))
theorem zf5{n:Nat}(hn:0<n):Asks n (Ord n) (kas_sort n):=
 Asks.bind (zhj hn (by unfold Ord;simp)) fun r hr=>by
  by_cases z:r.1<n
  ·rw[if_pos z];exact zla hn _ _ hr
  ·rw[if_neg z];exact hr
def Keeps(g h:Heap):Prop:=∀b o,g.get? b=some o->h.get? b=some o
theorem Keeps.push{g h:Heap}(k:Keeps g h)(o:Obj):Keeps g (h.push o):=fun b x e=>kN _ (k b x e)
theorem Keeps.upd{g h:Heap}{a:Addr}{f:Obj->Obj}(k:Keeps g h)(ha:g.objs.size<=a):Keeps g (h.update a f):=fun b x e=>by
 rw[Qk _ _ _ _ (uH (pG (pK e) ha))];exact k b x e
theorem zh8(vs:List kB):((uB vs.length).map fun i=>vs.getD i uA)=vs:=by
 refine Ap (by simp) fun i h1 h2=>?_
 have hi:i<vs.length:=h2
 simp[hi]
section
variable{prog:kq}{w:pX}{A:pj}{E:kB->kC->Prop}{s:kC}{vs:List kB}{κ:QM}{ans:Nat->Nat->Bool}{g:Heap}
theorem sort_at{a:Addr}{n:Nat}{P:jC->kC->Prop}(hg:Keeps g s.heap)(ga:g.objs.size<=a)(ho:s.heap.get? a=some (pI "list" vs.toArray n))(h64:vs.length<64)
  (hk:2<=vs.length->∀h',Keeps g h'->∀Q',Q' κ {s with heap:=h'}->wpAny (model prog w) A (gI vs.toArray) Q' (fun _ _=>False) {s with heap:=h'})
  (ha:2<=vs.length->∀h',Keeps g h'->∀i j C,i<vs.length->j<vs.length->C (ans i j) {s with heap:=h'}->kas_ask prog w A κ vs i j C {s with heap:=h'})
  (q:∀(p:Array Nat) h' c,Keeps g h'->Ord vs.length p->(2<=vs.length->p=ansT ans (kas_sort vs.length))->h'.get? a=some (pI "list" (uX (p.toList.map fun i=>vs.getD i uA)) c)->P (.done (.ret .none)) {s with heap:=h'}):
  wpAny (model prog w) A (vo.«list.sort» ⟨[.ref a],[]⟩) P E s:=by
 have z0:vs.toArray.size=vs.length:=rfl;have zl:vs.length<=sizeLine:=pV (uv h64) (by decide)
 have k1:Keeps g (s.heap.update a (pT fun _=>(#[]:Array kB))):=hg.upd ga;obtain⟨e1,o1⟩:∃e1,(s.heap.update a (pT fun _=>(#[]:Array kB))).get? a=some (pI "list" #[] e1):=⟨_,Um ho _⟩;have k3:=(k1.push (pI "tuple" vs.toArray 0)).push (pI "list" #[] 0);have o3:=kN (pI "list" #[] 0) (kN (pI "tuple" vs.toArray 0) o1);have fin:∀(p:Array Nat),p.size=vs.length->Ord vs.length p->(2<=vs.length->p=ansT ans (kas_sort vs.length))->∀(st:uZ),(arrOf st).map (·.2)=uX (p.toList.map fun i=>vs.getD i uA)->vC st=none->
   P (.done (.ret .none)) {s with heap:=(((s.heap.update a (pT fun _=>(#[]:Array kB))).push (pI "tuple" vs.toArray 0)).push (pI "list" #[] 0)).update a (pT fun _=>(arrOf st).map (·.2))}:=fun p hp or e st hs _=>by
  rw[hs];exact q p _ _ (k3.upd ga) or e (Um o3 fun _=>uX (p.toList.map fun i=>vs.getD i uA))
 rw[DW];refine kA (uI ho rfl (kA (UJ ho rfl (kA (vz o1 rfl (kA (Bq (kA (Uz (uq ?_) (pY _))) zl)))) zl (pY _))));dsimp only
 by_cases h2:vs.length<2
 ·rw[z0,if_pos h2,if_pos h2,DD];have hs:(arrOf (hV general' (vs.toArray.zip vs.toArray) #[] 7 none)).map (·.2)=uX ((uX (uB vs.length)).toList.map fun i=>vs.getD i uA):=by
   show(vs.toArray.zip vs.toArray).map (·.2)=_
   rw[show(uX (uB vs.length)).toList=uB vs.length from rfl,zh8]
   apply jD.mp
   simp[DE]
  rw[BT];refine kA (kF (kA (vz o3 rfl (kA (UJ o3 rfl ?_ (pY _) ?_)))))
  ·simp only[show vC (hV general' (vs.toArray.zip vs.toArray) #[] 7 none)=none from rfl,bne_self_eq_false,kz,if_false];exact kF (fin (uX (uB vs.length)) (by simp) (by unfold Ord;simp) (fun z=>absurd h2 (CU.mpr z)) _ hs rfl)
  ·rw[hs]
   simp
   omega
 ·have h2':2<=vs.length:=by omega
  rw[z0,if_neg h2,if_neg h2];refine kA (hk h2' _ k3 _ ?_|>fun x=>QQ x (fun _ _ y=>y) fun _ _ z=>z.elim);have run:=Asks.wp (R:=Ord vs.length) (Q:=fun p s'=>s'={s with heap:=((s.heap.update a (pT fun _=>(#[]:Array kB))).push (pI "tuple" vs.toArray 0)).push (pI "list" #[] 0)}/\Ord vs.length p/\p=ansT ans (kas_sort vs.length)) (fun i j C hi hj=>ha h2' _ k3 i j C hi hj) (zf5 (by omega)) ⟨rfl,Asks.ends (zf5 (by omega)),rfl⟩
  refine kA (QQ (DX (E:=E) (ks:=vs) (vs:=vs) (Q:=fun st s'=>∃p:Array Nat,p.size=vs.length/\arrOf st=p.map (kas_item (vs.toArray.zip vs.toArray))/\vC st=none/\s'={s with heap:=((s.heap.update a (pT fun _=>(#[]:Array kB))).push (pI "tuple" vs.toArray 0)).push (pI "list" #[] 0)}/\Ord vs.length p/\p=ansT ans (kas_sort vs.length)) rfl h2' h64 (fun p st s' b1 b2 b3 b4=>⟨p,b1,b2,b3,b4⟩) run) ?_ fun _ _ e=>e);rintro⟨⟨⟩,st⟩ s' ⟨p,hp,har,hf,rfl,or,e⟩;have hs:=DF (ks:=vs) (vs:=vs) rfl har;dsimp only;refine kA (vz o3 rfl (kA (UJ o3 rfl ?_ (pY _) ?_)))
  ·rw[hf];simp only[bne_self_eq_false,kz,if_false];exact kF (fin p hp or (fun _=>e) st hs hf)
  ·rw[hs]
   simp[hp]
   omega
theorem zph{l:Addr}{Q:kB->kC->Prop}(hl:s.heap.IsList l vs.toArray)(h64:vs.length<64)
  (hk:2<=vs.length->∀h',Keeps s.heap h'->∀Q',Q' κ {s with heap:=h'}->wpAny (model prog w) A.in1.in1 (gI vs.toArray) Q' (fun _ _=>False) {s with heap:=h'})
  (ha:2<=vs.length->∀h',Keeps s.heap h'->∀i j C,i<vs.length->j<vs.length->C (ans i j) {s with heap:=h'}->kas_ask prog w A.in1.in1 κ vs i j C {s with heap:=h'})
  (q:∀(p:Array Nat) h' c,Keeps s.heap h'->Ord vs.length p->(2<=vs.length->p=ansT ans (kas_sort vs.length))->h'.get? (s.heap.objs.size+1)=some (pI "list" (uX (p.toList.map fun i=>vs.getD i uA)) c)->Q (.ref (s.heap.objs.size+1)) {s with heap:=h'}):
  wpAny (model prog w) A (call (.builtin "sorted") [.ref l]) Q E s:=by
 have zl:vs.length<=sizeLine:=pV (uv h64) (by decide)
 have k0:Keeps s.heap s.heap:=fun _ _ e=>e;have k2:=((k0.push (pI "list" #[] 0)).upd (a:=s.heap.objs.size) (f:=pT (·++vs.toArray)) (kJ _)).push (pI "list" vs.toArray 0);have z2:((s.heap.push (pI "list" #[] 0)).update s.heap.objs.size (pT (·++vs.toArray))).objs.size=s.heap.objs.size+1:=by
  rw[Aq,Dl]
 have o2:(((s.heap.push (pI "list" #[] 0)).update s.heap.objs.size (pT (·++vs.toArray))).push (pI "list" vs.toArray 0)).get? (s.heap.objs.size+1)=some (pI "list" vs.toArray 0):=
  z2▸pJ _ rfl
 refine AU DS Ck Cl (args_sorted1 _) ?_;unfold vo.«sorted»;refine kA (m:=Dm _ _ _ _) (kF (kA (Cm hl (kA (Uz ?_ zl)) zl)));rw[show(({s with heap:=(s.heap.push (pI "list" #[] 0)).update s.heap.objs.size (pT (·++vs.toArray))}:kC).heap.objs.size)=s.heap.objs.size+1 from z2];refine kA (uq (Ue Br ⟨_,o2,rfl⟩ BU (sort_at (s:={s with heap:=_}) (κ:=κ) (ans:=ans) k2 (Qv _) o2 h64 hk ha fun p h' c b1 b2 b3 b4=>⟨_,rfl,?_⟩) (args_list_sort _)));exact kF ⟨_,rfl,q p h' c b1 b2 b3 b4⟩
end
open PySem.W (KasT kas_sort kas_ask)
section
open PySem.SeqAt
open PySem.AutoSeq1 (wpAny_loadPart')
open PySem.MeetsSeq PySem.MeetsSeq2 PySem.MeetsSeq3
theorem ltRc{A:pj}{s:kC}{a c:Int}{t u:Tok}(prog:kq)(w:pX)(E:kB->kC->Prop)(Q:kB->kC->Prop)(h:Q (.bool (decide (a<c))) s):wpAny (model prog w) A (gJ .Lt (.int a t) (.int c u)) Q E s:=
 (PyProof.Rows.lt_int h:wpAny (model prog w) A (UQ .Lt (.int a t) (.int c u)) Q E s)
theorem znm(l b:Addr)(items items2:Array kB)(n n2:Nat)(dd dd2:Option Addr)(sl sl2:Array (Option kB))(ns ms:List Int)(hlen:ns.length=ms.length)(hi:vm items.toList ns)(hj:vm items2.toList ms):
  Meets (vo.«tuple.__lt__» ⟨[.ref l,.ref b],[]⟩)
   (fun _ R s=>s.heap.get? l=some {cls:=.type "tuple",dict:=dd,data:=.seq items n,slots:=sl}/\s.heap.get? b=some {cls:=.type "tuple",dict:=dd2,data:=.seq items2 n2,slots:=sl2}/\R (.ok (.ret (.bool (HT.lexLt ns ms)))) s):=
 .of_wp fun prog w A R s h=>by
  obtain⟨hp,g,d,tk,os⟩:=s;obtain⟨hl,hb,h⟩:=h;have f2:=AutoSeq1.sub_tuple_tuple;have z1:items.size=ns.length:=by rw[←hi.length];simp
  have z2:items2.size=ms.length:=by rw[←hj.length];simp
  wp_walk using BV hl,BV hb,jE _ (fun rest b s'=>b.1=none/\s'=⟨hp,g,d,tk,os⟩/\∃(vs ws:List kB)(ns' ms':List Int),rest=vs.zip ws/\vm vs ns'/\vm ws ms'/\ns'.length=ms'.length/\R (.ok (.ret (.bool (HT.lexLt ns' ms')))) ⟨hp,g,d,tk,os⟩) _
  case turn=>
   rintro⟨y,x⟩ rest b s' ⟨hb',rfl,vs,ws,ns',ms',hz,hvi,hwi,hln,hR⟩
   cases hvi with
   |nil=>rw[List.zip_nil_left] at hz;cases hz
   |cons a t hv=>
    cases hwi with
    |nil=>rw[List.zip_nil_right] at hz;cases hz
    |cons c u hw=>
     rw[AH] at hz
     injection hz with q1 q2
     injection q1 with q3 q4
     subst q3 q4;rw[HT.lexLt_cons] at hR;simp only[uD] at hln;obtain⟨e,he,hiff⟩:=HT.eqAt_int A.in1 ⟨hp,g,d,tk,os⟩ a t c u;refine kA (he prog w _ _ ?_)
     cases e with
     |true=>
      rw[if_pos (hiff.mp rfl)] at hR
      wp_walk
      exact⟨rfl,rfl,_,_,_,_,q2,hv,hw,by omega,hR⟩
     |false=>
      rw[if_neg (fun q=>absurd (hiff.mpr q) pf)] at hR;have hri:=ltRc (A:=A.in1) (s:=⟨hp,g,d,tk,os⟩) (a:=a) (c:=c) (t:=t) (u:=u) prog w
      wp_walk using hri
      exact⟨_,rfl,by simpa using hR⟩
  case fin=>
   rintro⟨b1,b2⟩ s' ⟨hb',rfl,vs,ws,ns',ms',hz,hvi,hwi,hln,hR⟩
   simp only at hb'
   subst hb';have hv:HT.lexLt ns' ms'=decide (items.size<items2.size):=by
    rw[decide_eq_false (by omega)]
    cases hvi with
    |nil=>
     cases hwi with
     |nil=>rfl
     |cons c u hw=>cases hln
    |cons a t hv=>
     cases hwi with
     |nil=>cases hln
     |cons c u hw=>rw[AH] at hz;cases hz
   rw[hv] at hR
   wp_walk
   exact⟨_,rfl,by simpa[Builtin.Tuple.tupleCompareSizes] using hR⟩
  case h=>
   exact⟨rfl,rfl,items.toList,items2.toList,ns,ms,rfl,hi,hj,hlen,h⟩
end
def TupI(h:Heap)(v:kB)(ns:List Int):Prop:=∃(a:Addr)(its:Array kB)(n:Nat)(dd:Option Addr)(sl:Array (Option kB)),v=.ref a/\h.get? a=some {cls:=.type "tuple",dict:=dd,data:=.seq its n,slots:=sl}/\vm its.toList ns
def TupP(h:Heap)(v:kB)(ns ms:List Int):Prop:=∃(a:Addr)(x y:kB)(n:Nat)(dd:Option Addr)(sl:Array (Option kB)),v=.ref a/\h.get? a=some {cls:=.type "tuple",dict:=dd,data:=.seq #[x,y] n,slots:=sl}/\TupI h x ns/\TupI h y ms
theorem TupI.keeps{g h:Heap}{v:kB}{ns:List Int}(t:TupI g v ns)(k:Keeps g h):TupI h v ns:=by
 obtain⟨a,its,n,dd,sl,e,o,i⟩:=t;exact⟨a,its,n,dd,sl,e,k _ _ o,i⟩
theorem TupP.keeps{g h:Heap}{v:kB}{ns ms:List Int}(t:TupP g v ns ms)(k:Keeps g h):TupP h v ns ms:=by
 obtain⟨a,x,y,n,dd,sl,e,o,i,j⟩:=t;exact⟨a,x,y,n,dd,sl,e,k _ _ o,i.keeps k,j.keeps k⟩
theorem zhc{h:Heap}:∀{us:List kB}{ns:List Int},vm us ns->∃as,ReadsAll h us (ns.map vT) as
 |_,_,.nil=>⟨_,.nil⟩
 |_,_,.cons n t r=>let⟨_,q⟩:=zhc r;⟨_,.cons (.int n t) q⟩
theorem TupI.reads{h:Heap}{v:kB}{ns:List Int}(t:TupI h v ns):∃as,Reads h v (.tuple (ns.map vT)) as:=by
 obtain⟨a,its,n,dd,sl,rfl,o,i⟩:=t;obtain⟨as,r⟩:=zhc (h:=h) i;exact⟨_,reads_tuple_at o rfl rfl (by simpa using r)⟩
theorem zl5:∀ns:List Int,uQ (ns.map vT)=true
 |[]=>rfl
 |n::ns=>by simp only[ki,uQ,zl5 ns,UK,Bool.and_self]
theorem zpj(ns:List Int):UK (.tuple (ns.map vT))=true:=by
 simp only[UK,zl5 ns]
theorem zm4:∀ns:List Int,uU (ns.map vT)<=1
 |[]=>by simp[uU]
 |n::ns=>by
  have:=zm4 ns;simp only[ki,uU,vU];omega
theorem zln:∀{ns ms:List Int},QD (ns.map vT) (ms.map vT)=decide (ns=ms)
 |[],[]=>rfl
 |[],m::ms=>rfl
 |n::ns,[]=>rfl
 |n::ns,m::ms=>by
  simp only[ki,QD,Qs,zln]
  by_cases h1:n=m<;>by_cases h2:ns=ms<;>simp[h1,h2]
section
variable{prog:kq}{w:pX}{A:pj}{E:kB->kC->Prop}{s:kC}{C:Bool->kC->Prop}
theorem ze1{x y:kB}{ns ms:List Int}(hx:TupI s.heap x ns)(hy:TupI s.heap y ms)(hu:A.units+64<cLine)(q:C (decide (ns=ms)) s):wpAny (model prog w) A (eqBool x y) C E s:=by
 obtain⟨as,ra⟩:=hx.reads;obtain⟨bs,rb⟩:=hy.reads;refine PySem.SeqAt.eqBoolOverData prog w A E s x y _ _ as bs C ra rb (zpj ns) (zpj ms) ?_ ?_
 ·have:=zm4 ns;have:(Cn (ns.map vT)).depth<=2:=by simp only[vU];omega
  have:=DY (Cn (ns.map vT)).depth (Cn (ms.map vT)).depth;omega
 ·simp only[Qs];rw[zln];exact q
theorem zi3{x y:kB}{ns ms:List Int}(hx:TupI s.heap x ns)(hy:TupI s.heap y ms)(hl:ns.length=ms.length)(hu:A.units+64<cLine)(q:C (HT.lexLt ns ms) s):wpAny (model prog w) A (oneLt' false x y) C E s:=by
 obtain⟨a,its,n,dd,sl,rfl,o,i⟩:=hx;obtain⟨b,its2,n2,dd2,sl2,rfl,o2,i2⟩:=hy;refine PySem.W.kat_one _ _ ?_;exact jg (op:=.Lt) ⟨_,o,rfl⟩ ⟨_,o2,rfl⟩ Bf BI (Ar _ _) (znm a b its its2 n n2 dd dd2 sl sl2 ns ms hl i i2) ⟨o,o2,(fun z=>nomatch z),q⟩ (by omega)
def ltP(a b:List Int×List Int):Bool:=if a.1=b.1 then(if a.2=b.2 then false else HT.lexLt a.2 b.2) else HT.lexLt a.1 b.1
theorem lt_tupP{x y:kB}{a b:List Int×List Int}(hx:TupP s.heap x a.1 a.2)(hy:TupP s.heap y b.1 b.2)(l1:a.1.length=b.1.length)(l2:a.2.length=b.2.length)(hu:A.units+64<cLine)(q:C (ltP a b) s):wpAny (model prog w) A (Dn (tuples' false) x y) C E s:=by
 obtain⟨p,x1,x2,n,dd,sl,rfl,o,i1,i2⟩:=hx;obtain⟨p',y1,y2,n',dd',sl',rfl,o',j1,j2⟩:=hy;unfold ltP at q;refine Do o rfl o' rfl (vD (ze1 i1 j1 hu ?_))
 by_cases c:a.1=b.1
 ·rw[if_pos c] at q;rw[decide_eq_true c];refine vY (vD (ze1 i2 j2 hu ?_))
  by_cases c2:a.2=b.2
  ·rw[if_pos c2] at q;rw[decide_eq_true c2];exact vY (DZ q)
  ·rw[if_neg c2] at q;rw[decide_eq_false c2];exact AI (zi3 i2 j2 l2 hu q)
 ·rw[if_neg c] at q;rw[decide_eq_false c];exact AI (zi3 i1 j1 l1 hu q)
end
open PySem.W (KatTups) in
theorem ktups{h:Heap}:∀vs:List kB,(∀v,v∈vs->∃a b,a≠[]/\TupP h v a b)->∃fs,fs.length=vs.length/\KatTups h vs fs/\∀f,f∈fs->∃ns,TupI h f ns
 |[],_=>⟨[],rfl,.nil,fun f hf=>by cases hf⟩
 |v::vs,hv=>by
  obtain⟨fs,l,t,r⟩:=ktups vs fun u hu=>hv u (kT _ hu);obtain⟨a,b,ne,p,x,y,n,dd,sl,rfl,o,i,j⟩:=hv v (uJ ..);refine⟨x::fs,by simp[l],.cons o rfl rfl rfl t,fun f hf=>?_⟩
  rcases pF.mp hf with rfl|hf
  ·exact⟨_,i⟩
  ·exact r f hf
theorem zn1{M:Model}{A:pj}{E:kB->kC->Prop}{s:kC}{vs:List kB}{Q:QM->kC->Prop}(hn:0<vs.length)(hv:∀v,v∈vs->∃a b,a≠[]/\TupP s.heap v a b)(q:Q (tuples' false) s):wpAny M A (gI vs.toArray) Q E s:=by
 obtain⟨fs,l,t,r⟩:=ktups vs hv;refine DG (T:=.type "tuple") t (by omega) (fun f hf=>?_) (by decide) ?_
 ·obtain⟨ns,a,its,n,dd,sl,rfl,o,_⟩:=r f hf;exact(As o).andThen .now
 ·rw[show(vq "tuple"!=vq "tuple")=false from by decide]
  exact q
theorem zcv:∀{xs:List V}{us:List kB},Vals xs us->∀i,i<xs.length->RelV (xs.getD i .non) (us.getD i uA)
 |_,_,.nil,i,h=>by cases h
 |_,_,.cons r t,0,_=>r
 |_,_,.cons r t,i+1,h=>zcv t i (Nat.lt_of_succ_lt_succ h)
theorem zf2{f:Nat->V}{g:Nat->kB}:∀l:List Nat,(∀i,i∈l->RelV (f i) (g i))->Vals (l.map f) (l.map g)
 |[],_=>.nil
 |i::l,h=>.cons (h i (uJ ..)) (zf2 l fun j hj=>h j (kT _ hj))
section
variable{X:Cx}{pins:List (Addr×Obj)}{σ:St}{H:Hp}{s:kC}
theorem zde(I:Inv X pins σ H s){a:Addr}{ns:List Int}(h:H a=some (.tup (ns.map V.int))):TupI s.heap (.ref a) ns:=by
 obtain⟨its,r,⟨⟨cls,dd,data,sl⟩,ho,hc,n,hd⟩,_⟩:=I.tuple (.of h)
 simp only at hc hd
 subst hc hd;exact⟨a,_,n,dd,sl,rfl,ho,zhg r⟩
theorem zfe:Qy "sorted"=some (.builtin "sorted"):=by decide+kernel
theorem hu100{A:pj}{k:Nat}(hr:Room k A):A.units+100<cLine:=by have:=hr.un;omega
end
structure OnlyT(ts:List Addr)(H:Hp):Prop where
 only:∀b,H b=none∨(∃o xs,H b=some (.frz o (.lst xs)))∨(b∈ts/\H b=some (.tbl #[]))
 tabs:∀b,b∈ts->H b=some (.tbl #[])
theorem zpm{P:kq}{w:pX}{K:kM}{mg mb:Str->Option kB}{CX:CXT}{k:Nat}{fa a:Addr}{fd:UZ}{x:Str}{sp:Sp}{s₁:kC}{vs:List kB}{ns:List Int}{ts:List Addr}
  (KX:K.In s₁.heap)(hns:s₁.heap.Ns kx mg)(hb:s₁.heap.Ns BC mb)(hbb:∀x:Str,x≠"__name__"->mb x=Qy x)(hlim:s₁.heap.NoLimit)(hg:s₁.gens=#[])
  (ha:s₁.heap.get? a=some {cls:=.type "list",data:=.seq vs.toArray})(hi:vm vs ns)(hl:ns.length<=sizeLine)(hr:Room k CG)
  (hT:∀b,b∈ts->s₁.heap.get? b=some (PySem.W.tabObj #[])/\K.lookup b=none/\isCodeTable s₁.heap b)
  (hbm:∃bm ob,mg "__builtins__"=some (.ref bm)/\bm≠BC/\s₁.heap.get? bm=some ob/\ob.cls=.type "module"/\ob.dict=some BC/\ob.data=.plain)
  (F:∀base:Heap,K.In base->base.Ns kx mg->(∀b,b∈ts->base.BuiltinsAt mg b)->FnOk P w K mg base CX k fa fd [x] sp) (hbind:∀(s:kC)(u:kB),Cf s fd ⟨[u],[]⟩ [(x,u)])
  (hsp:∀H:Hp,OnlyT ts H->SqL K H a (ns.map V.int)->sp [.ref a] H (fun v _=>v=.bl true) fun _ _ _=>False)
  (hCX:∀H e s',CX [] H s₁ (fun _ _ _=>False) e s'->False):
  vk (model P w) CG (.call (.ref fa) ⟨[.ref a],[]⟩) (fun r s'=>r=.ok (.ret (.bool true))/\OldK s₁.heap s'.heap/\s'.os=s₁.os/\AX s'.gens) s₁:=by
 have rv:=zj7 hi;have lenV:=hi.length;have naT:a∉ts:=fun z=>by
  have e:=(hT a z).1;rw[ha] at e
  cases e
 have core:∀H:Hp,OnlyT ts H->SqL K H a (ns.map V.int)->HOk P w H s₁.heap->(∀b,H b≠none->b=a∨b∈ts)->(H a≠none->K.lookup a=none)->
   vk (model P w) CG (.call (.ref fa) ⟨[.ref a],[]⟩) (fun r s'=>r=.ok (.ret (.bool true))/\OldK s₁.heap s'.heap/\s'.os=s₁.os/\AX s'.gens) s₁:=by
  intro H hO hS hok hA hK;have base_of:∀{b:Addr}{o:Obj},s₁.heap.get? b=some o->H b=none->(hidT s₁.heap H).get? b=some o:=fun e n=>hidT_get e n;have noD:∀{b:Addr}{o:Obj},s₁.heap.get? b=some o->o.cls≠.none->o.cls≠.type "list"->H b=none:=fun{b o} e d1 d2=>by
   cases q:H b with
   |none=>rfl
   |some u=>
    rcases hA b (by rw[q];simp) with e'|e'
    ·subst e';rw[ha] at e;cases e;exact absurd rfl d2
    ·rw[(hT b e').1] at e;cases e;exact absurd rfl d1
  have noA:∀{b:Addr}{o:Obj}{es:Array At}{ep:Nat},s₁.heap.get? b=some o->o.data=.dict es ep->H b=none:=fun{b o es ep} e d=>by
   cases q:H b with
   |none=>rfl
   |some u=>
    rcases hA b (by rw[q];simp) with e'|e'
    ·subst e';rw[ha] at e;cases e;have d':Data.seq vs.toArray _=Data.dict es ep:=d
     cases d'
    ·rw[(hT b e').1] at e;cases e;have d':gE #[]=Data.dict es ep:=d
     cases d'
  have nsK:∀{b:Addr}{m:Str->Option kB},s₁.heap.Ns b m->(hidT s₁.heap H).Ns b m:=fun{b m}⟨o,es,ep,e,d,r⟩=>⟨o,es,ep,base_of e (noA e d),d,r⟩;have hKb:K.In (hidT s₁.heap H):=fun b o e=>base_of (KX b o e) (by
   cases q:H b with
   |none=>rfl
   |some u=>
    rcases hA b (by rw[q];simp) with e'|e'
    ·subst e';rw[hK (by rw[q];simp)] at e;cases e
    ·rw[(hT b e').2.1] at e;cases e)
  have hM:Mod K mg (hidT s₁.heap H):=⟨hKb,nsK hns,⟨mb,nsK hb,hbb⟩,let⟨mc,h1,h2⟩:=hlim;⟨mc,nsK h1,h2⟩⟩;have hB:∀b,b∈ts->(hidT s₁.heap H).BuiltinsAt mg b:=fun b hb'=>by
   obtain⟨bm,ob,b1,b2,b3,b4,b5,b6⟩:=hbm;refine⟨bm,ob,b1,b2,fun q=>?_,fun q=>?_,base_of b3 (noD b3 (by rw[b4];simp) (by rw[b4];simp)),b4,b5,b6⟩
   ·obtain⟨o,es,ep,e,d,_⟩:=hns;rw[←q,b3] at e;cases e;rw[b6] at d;cases d
   ·rw[q,(hT b hb').1] at b3;cases b3;cases b4
  have e0:Env0 P w K mg (hidT s₁.heap H) CG [] s₁ H:=⟨rfl,hM,fun b o e=>of_hidT e,Qp (zn9 _ _),trivial,fun b hb=>absurd (show b∈([]:List Addr) from hb) (by simp),hok,.of_eq hg⟩
  refine BD ((F _ hKb (nsK hns) hB).run CG [] s₁ H ⟨[.ref a],[]⟩ [.ref a] [.ref a] _ _ hr e0 (hbind s₁ (.ref a)) (.cons rfl .nil) (hsp H hO hS)) fun r s' h=>?_
  cases r with
  |error e=>exact(hCX H e s' h).elim
  |ok fl=>
   cases fl with
   |next=>exact UW h
   |brk=>exact UW h
   |cont=>exact UW h
   |ret u=>
    obtain⟨v,H',os,bare,un,hok',r',q⟩:=h;have q':v=.bl true:=q;subst q';obtain rfl:u=Ea true:=r';have at':∀b o,s₁.heap.get? b=some o->asItWas s₁.heap s'.heap b o:=fun b o e=>by
     cases q:H b with
     |none=>exact .inl (un.keep b o e q (by intro z;exact absurd (show b∈([]:List Addr) from z) (by simp)) (by simp))
     |some u=>
      rcases hO.only b with z|⟨ob,xs,z⟩|⟨hbt,z⟩
      ·rw[q] at z;cases z
      ·have z2:=un.frzs b ob _ z;obtain⟨e1,_⟩:=hok b _ z;obtain⟨e2,_⟩:=hok' b _ z2;rw[e] at e1;cases e1;exact .inl e2
      ·obtain⟨more,z2⟩:=un.tbls b _ z;have e2:s'.heap.get? b=some {cls:=.none,data:=.fields (#[]++more)}:=hok' b _ z2;have e1:=(hT b hbt).1;rw[e] at e1;cases e1;exact .inr (.inl ⟨(hT b hbt).2.2,rfl,#[],more,rfl,e2⟩)
    exact⟨rfl,⟨at',fun b o e=>un.there b o e (by simp)⟩,os,bare⟩
 cases hk:K.lookup a with
 |some o=>
  have e:=KX a o hk;rw[ha] at e
  cases e;refine core (fun b=>if b∈ts then some (.tbl #[]) else none) ⟨fun b=>?_,fun b hb'=>if_pos hb'⟩ (.inr ⟨_,vs.toArray,_,hk,rfl,rfl,rfl,by rw[pZ,lenV];exact hl,by simpa using rv⟩) (fun b u z=>?_) (fun b z=>?_) fun z=>absurd (if_neg naT) z
  ·by_cases hbt:b∈ts
   ·exact .inr (.inr ⟨hbt,if_pos hbt⟩)
   ·exact .inl (if_neg hbt)
  ·by_cases hbt:b∈ts
   ·have z':=(if_pos hbt).symm.trans z
    cases z';exact(hT b hbt).1
   ·have z':=(if_neg hbt).symm.trans z
    cases z'
  ·by_cases hbt:b∈ts
   ·exact .inr hbt
   ·exact absurd (if_neg hbt) z
 |none=>
  refine core (fun b=>if b=a then some (.frz {cls:=.type "list",data:=.seq vs.toArray} (.lst (ns.map V.int))) else if b∈ts then some (.tbl #[]) else none) ⟨fun b=>?_,fun b hb'=>?_⟩ (.inl (.inr ⟨{cls:=.type "list",data:=.seq vs.toArray},if_pos rfl⟩)) (fun b u z=>?_) (fun b z=>?_) fun _=>hk
  ·by_cases hb:b=a
   ·exact .inr (.inl ⟨_,_,if_pos hb⟩)
   ·by_cases hbt:b∈ts
    ·exact .inr (.inr ⟨hbt,(if_neg hb).trans (if_pos hbt)⟩)
    ·exact .inl ((if_neg hb).trans (if_neg hbt))
  ·have hb:¬b=a:=fun z=>naT (z▸hb');exact(if_neg hb).trans (if_pos hb')
  ·by_cases hb:b=a
   ·have z':=(if_pos hb).symm.trans z
    cases z';subst hb;exact⟨ha,by rw[kL];exact hl,vs,_,rv,ha⟩
   ·by_cases hbt:b∈ts
    ·have z':=((if_neg hb).trans (if_pos hbt)).symm.trans z
     cases z';exact(hT b hbt).1
    ·have z':=((if_neg hb).trans (if_neg hbt)).symm.trans z
     cases z'
  ·by_cases hb:b=a
   ·exact .inl hb
   ·by_cases hbt:b∈ts
    ·exact .inr hbt
    ·exact absurd ((if_neg hb).trans (if_neg hbt)) z
theorem walk_ofT{l:BW}{n k:Nat}{q:kq}{loose:List Str}{XP:(Str->Option kB)->Heap->Prop}{YP:pX->Heap->Prop}{d:DefRec}{K:Params->kM}{CX:pX->CXT}{sp:pX->List Addr->Sp}{x:Str}{ds:List Str}
  (hn:l.most=some n)(hn2:n<=sizeLine)(hdf:d.params.defaults=[])(hr:Room k CG)
  (hY:∀(w:pX)(h:Heap),YP w h->(K w.params).In h)
  (hD:∀y,y∈ds->∃e,(recsOf q).find? (fun e=>e.name==y)=some e)
  (F:∀(w:pX)(mg:Str->Option kB)(fa:Addr)(h:Heap),(K w.params).In h->h.Ns kx mg->mg d.name=some (.ref fa)->
   ∃(fd:UZ)(ts:List Addr),(∀b,b∈ts->(K w.params).lookup b=none/\∃y c,y∈ds/\Aj (K w.params) y=some (c,b))/\(∀(s:kC)(u:kB),Cf s fd ⟨[u],[]⟩ [(x,u)])/\
    ∀base:Heap,(K w.params).In base->base.Ns kx mg->(∀b,b∈ts->base.BuiltinsAt mg b)->FnOk l.prog w (K w.params) mg base (CX w) k fa fd [x] (sp w ts))
  (hsp:∀(w:pX)(H:Hp)(a:Addr)(ns:List Int)(ts:List Addr),ns.length<=n->OnlyT ts H->SqL (K w.params) H a (ns.map V.int)->sp w ts [.ref a] H (fun v _=>v=.bl true) fun _ _ _=>False)
  (hCX:∀(w:pX)(H:Hp)(s:kC)(e:kB)(s':kC),CX w [] H s (fun _ _ _=>False) e s'->False):
  Dy q loose XP YP l.row.toRowW d [] (fun f vs=>Dk f vs):=by
 refine Att.attach_call hn hdf fun w s₀ s₁ mg mb fa o pm cd doc a vs ns G Y ho hd hcd hmg hobj hints hlen hg=>?_;have KX:=hY w _ Y;obtain⟨fd,ts,ht,hb,hF⟩:=F w mg fa _ KX G.T.g hmg;refine zpm (ts:=ts) KX G.T.g G.T.b G.T.builtins G.T.nolimit hg hobj hints (pV hlen hn2) hr (fun b hb'=>?_) G.T.bmain hF hb (fun H hO hS=>hsp w H a ns ts hlen hO hS) fun H e s'=>hCX w H s₁ e s';obtain⟨hk,y,c,hy,e⟩:=ht b hb';obtain⟨r,hr'⟩:=hD y hy;obtain⟨C,hP⟩:=PySem.W.tab_of G.T KX hr' e;exact⟨hP,hk,(C.tab hP).isCodeTable⟩
open PySem.W (kla_fn kla_obj envX tabObj CodeHd)
structure zg8(x y:Str)(sc:Scope):Prop where
 kind:sc.kind=.function
 co:sc.isCoroutine=false
 gen:sc.isGenerator=false
 par:sc.names.lookup x=some .local
 cap:sc.names.lookup y=some .free
 nocell:∀z,z∈sc.names->z.2≠.cell
 free:∀z,z∈sc.names->z.2=.free->z.1=y
def zpl(P:kq)(w:pX)(K:kM)(mg:Str->Option kB)(base:Heap)(x y:Str)(qual:Str)(sc:Scope)(f:Addr)(cd:kB)(c:Addr)(A:pj)(outer:List Env)(s:kC)(H:Hp):Cx where
 prog:=P
 w:=w
 K:=K
 mg:=mg
 base:=base
 A:=A.deeper (envX qual sc s.heap.objs.size f cd [(y,c)])
 N:=[x,y]
 s₀:=s
 H₀:=H
 env:=envX qual sc s.heap.objs.size f cd [(y,c)]
 outer:=outer
 stack:=envX qual sc s.heap.objs.size f cd [(y,c)]::outer
 ex:=[]
 calm:=true
 fn:=fun _=>false
 pn:=[]
 xe:=fun _ _=>False
theorem zeg{y z:Str}{c d:Addr}(h:([(y,c)]:List (Str×Addr)).lookup z=some d):z=y/\d=c:=by
 rw[uj] at h
 by_cases e:z=y
 ·subst e;rw[beq_self_eq_true] at h
  cases h;exact⟨rfl,rfl⟩
 ·rw[beq_eq_false_iff_ne.mpr e] at h
  cases h
theorem zgx(y:Str)(c:Addr):([(y,c)]:List (Str×Addr)).lookup y=some c:=by rw[uj,beq_self_eq_true]
theorem inv_lam{P:kq}{w:pX}{K:kM}{mg:Str->Option kB}{base:Heap}{x y qual:Str}{sc:Scope}{f c:Addr}{cd:kB}{A:pj}{outer:List Env}{s:kC}{H:Hp}{u uy:kB}{v vy:V}{h₁:Heap}{tk:Nat}
  (S:zg8 x y sc)(hd:A.handled=none)(e0:Env0 P w K mg base A outer s H)(ru:RelV v u)(ry:RelV vy uy)(hc:s.heap.IsCell c (some uy))(hcn:H c=none)
  (hns:h₁.Ns s.heap.objs.size (fun z=>([(x,u)]:List (Str×kB)).reverse.lookup z))(hk:∀b o,s.heap.get? b=some o->h₁.get? b=some o):
  Inv (zpl P w K mg base x y qual sc f cd c A outer s H) [] [some v,some vy] H {s with heap:=h₁,toks:=tk}:=by
 have noA:∀b:Addr,b∉(zpl P w K mg base x y qual sc f cd c A outer s H).ex:=fun b z=>absurd (show b∈([]:List Addr) from z) (by simp)
 refine⟨⟨e0.mod,S.kind,rfl,rfl,kJ _,fun y1 z1 d h1 h2=>?_,fun z hz=>?_,fun z d hf _=>?_,fun _=>hd,Bn e0.frames,.inr ⟨rfl,rfl⟩,fun b z=>absurd z (noA b),e0.bs,e0.bsz,fun b _ _=>noA b,fun b z=>absurd z (noA b),e0.funs,e0.frf⟩,
  rfl,e0.bare,Un.kept hk,⟨_,hns,fun i z v' h1 h2 h3=>?_⟩,fun z d h=>?_,e0.hok.fresh (kJ _),fun z d h=>?_,fun p hp=>absurd (show p∈([]:List (Addr×Obj)) from hp) (by simp),e0.hok.kept hk,rfl⟩
 ·exact(zeg h1).1.trans (zeg h2).1.symm
 ·have hz:sc.names.lookup z=some .cell∨sc.names.lookup z=some .free:=hz;rcases hz with hz|hz
  ·exact absurd rfl (S.nocell _ (uh hz))
  ·have e:=S.free _ (uh hz) rfl;have e:z=y:=e;subst e;exact⟨c,zgx _ _⟩
 ·cases hf
 ·match i,h1,h2 with
  |0,h1,h2=>
   cases h1
   cases h2;refine⟨u,ru,.inl ⟨S.par,?_⟩⟩;show([(x,u)]:List (Str×kB)).reverse.lookup x=some u
   simp
  |1,h1,h2=>
   cases h1
   cases h2;obtain⟨o,ho,hd'⟩:=hc;exact⟨uy,ry,.inr ⟨.inr S.cap,c,zgx _ _,o,hk _ _ ho,hd'⟩⟩
 ·obtain⟨_,rfl⟩:=zeg h;obtain⟨o,ho,hd'⟩:=hc;exact⟨_,o,hk _ _ ho,hd'⟩
 ·obtain⟨_,rfl⟩:=zeg h;exact hcn
section
variable{X:Cx}{pins:List (Addr×Obj)}{σ:St}{H:Hp}{s:kC}
theorem lam_run{A:pj}{k:Nat}{x y name qual:Str}{params:Ao}{body:Expr}{sc:Scope}{fa c c':Addr}{pm ctv u uy:kB}{v vy:V}{te:TE}{Q:VK}(I:Inv X pins σ H s)
  (e0:Env0 X.prog X.w X.K X.mg X.base A X.stack s H)(hr:Room k A)(S:zg8 x y sc)(ho:s.heap.get? fa=some (kla_obj name qual params body sc [(y,c)] pm c' ctv))(hcd:s.heap.CodeRec (.ref c') qual)
  (hb:Cg (kla_fn name qual params body sc [(y,c)] pm (.ref c') ctv) ⟨[u],[]⟩=pure [(x,u)])(ru:RelV v u)(ry:RelV vy uy)(hc:s.heap.IsCell c (some uy))(hcn:H c=none)
  (hbody:PE (zpl X.prog X.w X.K X.mg X.base x y qual sc fa (.ref c') c A X.stack s H) body te)(q:te [some v,some vy] H Q):
  wpAny (model X.prog X.w) A (call (.ref fa) [u]) (EP X pins σ Q) (fun _ _=>False) s:=by
 refine wpAny_call (BD (R:=CR CX0 X.stack X.prog X.w H s Q E0) ?_ fun r s' hq=>?_)
 ·refine PySem.W.kla_callFunE hr.depth ho rfl S.co S.gen rfl hcd ?_;rw[hb];refine kF (Bp S.nocell (fun z hz=>?_) (fun h₁ hns hsb=>⟨I.nolimit.fresh _ hsb,?_⟩) S.kind)
  ·rw[kU] at hz;rw[hz];exact S.par
  ·show vk _ _ (.expr body (envX qual sc s.heap.objs.size fa (.ref c') [(y,c)])) _ _
   have kp:∀d u,s.heap.get? d=some u->h₁.get? d=some u:=fun d u z=>hsb.extBut d u (uH (pK z)) (kN _ z);have J:=inv_lam (tk:=s.toks+1) (f:=fa) (qual:=qual) (cd:=.ref c') S hr.hd e0 ru ry hc hcn hns kp;refine PySem.W.kla_codeExpr (QQ (hbody [] _ _ H Q J q) (fun r s' hs=>?_) fun e s' hs=>hs.elim);obtain⟨v',H',J',r',q'⟩:=hs;exact⟨v',H',J'.os,J'.bare,J'.base,J'.hok,r',q'⟩
 ·cases r with
  |error e=>exact hq.elim
  |ok fl=>
   cases fl with
   |ret u=>exact I.after hq
   |next=>exact UW hq
   |brk=>exact UW hq
   |cont=>exact UW hq
end
open PySem.W (kla_fn kla_obj envX tabObj CodeHd)
def ziy(c:Addr)(q:Str):HO:=.ext fun h=>h.CodeRec (.ref c) q
def zc5(H:Hp)(P:Addr)(pos:Pos)(q:Str):Prop:=∃ps,H P=some (.tbl ps)/\TriplesOk ps.toList/\(codeAmong pos ps.toList=none∨∃c,codeAmong pos ps.toList=some (.ref c)/\H c=some (ziy c q))
def zag(P:Addr)(H H':Hp):Prop:=∀b o,b≠P->H b=some o->H' b=some o
theorem zag.refl(P:Addr)(H:Hp):zag P H H:=fun _ _ _ h=>h
theorem zag.of{P:Addr}{H H':Hp}(g:Same H H'):zag P H H':=fun b o _ h=>g b o h
theorem zag.trans{P:Addr}{H H1 H2:Hp}(a:zag P H H1)(b:zag P H1 H2):zag P H H2:=fun c o n h=>b c o n (a c o n h)
theorem zc5.same{H H':Hp}{P:Addr}{pos:Pos}{q:Str}(h:zc5 H P pos q)(g:Same H H'):zc5 H' P pos q:=by
 obtain⟨ps,e,t,z⟩:=h;refine⟨ps,g _ _ e,t,?_⟩;rcases z with z|⟨c,z,y⟩
 ·exact .inl z
 ·exact .inr ⟨c,z,g _ _ y⟩
section
variable{X:Cx}{pins:List (Addr×Obj)}{σ:St}{H:Hp}{s:kC}
theorem lam_make{params:Ao}{body:Expr}{sc:Scope}{pos:Pos}{c0 P:Addr}{clos:List (Str×Addr)}{Q:kB->kC->Prop}(I:Inv X pins σ H s)(hcode:X.env.code=.ref c0)(C:CodeHd X.base c0 P)(hB:X.base.BuiltinsAt X.mg P)
  (hcl:CS sc X.env=pure clos)(hdef:defaultsOf params X.env=([],[]))(ht:zc5 H P pos (X.env.qual++"<lambda>"))
  (q:∀(fa c':Addr)(ctv:kB)(H':Hp)(s':kC),Inv X pins σ H' s'->zag P H H'->zc5 H' P pos (X.env.qual++"<lambda>")->s'.heap.get? fa=some (kla_obj "<lambda>" (X.env.qual++"<lambda>") params body sc clos ((X.mg "__name__").getD .none) c' ctv)->
   H' c'=some (ziy c' (X.env.qual++"<lambda>"))->FpOk X pins H' fa->Q (.ref fa) s'):
  wpAny (model X.prog X.w) X.A (eval (.Lambda params body sc pos) X.env) Q X.xe s:=by
 obtain⟨ps,hP,tr,alt⟩:=ht;have hPh:s.heap.get? P=some (tabObj ps):=I.hok P _ hP;have kb:=I.bk;have hg:s.heap.Ns kx X.mg:=I.ok.mod.glob.keeps kb;have Cs:=C.keeps kb;have Bs:s.heap.BuiltinsAt X.mg P:=by
  obtain⟨bm,o,b1,b2,b3,b4,b5,b6⟩:=hB;exact⟨bm,o,b1,b2,b3,b4,kb _ _ b5,b6⟩
 have neG:kx≠P:=fun z=>by
  obtain⟨o,es,ep,e,hd,_⟩:=hg;rw[z,hPh] at e;cases e;cases hd
 refine PySem.W.kla_eval hdef ?_;rcases alt with hn|⟨c',hf,hc'⟩
 ·refine PySem.W.kla_makeFunction hcl I.ok.glob hg hcode Cs hPh tr hn neG Bs fun c' ctv h' tk hx hge hlt hrec htb=>?_;have neC:∀b u,H b=some u->b≠c':=fun b u e z=>by
   rw[z,I.hok.fresh hge] at e;cases e
  have nP:∀b,H b=none->b≠P:=fun b n z=>by rw[z,hP] at n;cases n
  have cP:c'≠P:=fun z=>by rw[←z,I.hok.fresh hge] at hP;cases hP
  have keep:∀b o,b≠P->s.heap.get? b=some o->(h'.push (kla_obj "<lambda>" (X.env.qual++"<lambda>") params body sc clos ((X.mg "__name__").getD .none) c' ctv)).get? b=some o:=fun b o n e=>kN _ (hx b o n e);have hP':=kN (kla_obj "<lambda>" (X.env.qual++"<lambda>") params body sc clos ((X.mg "__name__").getD .none) c' ctv) htb;have upP:∀b u,b≠P->H b=some u->upd (upd H P (.tbl (ps++#[Qo pos.line,Qo pos.col,.ref c']))) c' (ziy c' (X.env.qual++"<lambda>")) b=some u:=fun b u n e=>by rw[za6 (neC b u e),za6 n];exact e
  have up0:upd (upd H P (.tbl (ps++#[Qo pos.line,Qo pos.col,.ref c']))) c' (ziy c' (X.env.qual++"<lambda>")) P=some (.tbl (ps++#[Qo pos.line,Qo pos.col,.ref c'])):=by rw[za6 cP.symm,upd_same]
  have J:Inv X pins σ (upd (upd H P (.tbl (ps++#[Qo pos.line,Qo pos.col,.ref c']))) c' (ziy c' (X.env.qual++"<lambda>"))) {s with heap:=h'.push (kla_obj "<lambda>" (X.env.qual++"<lambda>") params body sc clos ((X.mg "__name__").getD .none) c' ctv),toks:=tk}:=by
   refine I.step (g':=s.gens) (d':=s.drawn) (ch:=[]) (fun _ z=>nomatch z) (fun b o _ _ _ e n=>keep b o (nP b n) e) (fun b o _ _ _ e n=>⟨o.slots,keep b o (nP b n) e⟩) (fun b o _ e n=>?_) (fun b o _ e=>?_) (fun b xs e=>?_) (fun b o u e=>?_) (fun b qs e=>?_) (fun m hm=>?_) (fun b u e=>?_) I.bare
   ·rw[za6 (uH (pG (pK e) hge)),za6 (nP b n)];exact n
   ·by_cases z:b=P
    ·exact⟨_,z▸hP'⟩
    ·exact⟨o,keep b o z e⟩
   ·exact upP b _ (fun z=>by rw[z,hP] at e;cases e) e
   ·exact upP b _ (fun z=>by rw[z,hP] at e;cases e) e
   ·by_cases z:b=P
    ·subst z;rw[hP] at e
     cases e;exact⟨_,up0⟩
    ·exact⟨#[],by rw[upP b _ z e];simp⟩
   ·obtain⟨o,es,ep,ho,r⟩:=hm;exact⟨o,es,ep,keep _ o (nP _ I.free) ho,r⟩
   ·by_cases z:b=c'
    ·subst z;rw[upd_same] at e
     cases e;have hr2:=hrec.push (kla_obj "<lambda>" (X.env.qual++"<lambda>") params body sc clos ((X.mg "__name__").getD .none) b ctv);obtain⟨c2,oc,vs,t,e2,hoc,hd,hv⟩:=id hr2
     cases e2;refine⟨hr2,⟨oc,hoc⟩,fun h1 h2 ph k=>?_⟩;obtain⟨c3,oc3,vs3,t3,e3,hoc3,hd3,hv3⟩:=ph
     cases e3;exact⟨_,oc3,vs3,t3,rfl,k _ hoc3,hd3,hv3⟩
    ·rw[za6 z] at e
     by_cases y:b=P
     ·subst y;rw[upd_same] at e
      cases e;exact hP'
     ·rw[za6 y] at e;refine(I.hok b u e).stay (fun d v hd hv=>keep d v ?_ hv) (fun d hd=>?_) fun d xs hd=>?_
      ·rcases hd with rfl|hd
       ·exact y
       ·intro z';rw[z',hP] at hd;cases hd
      ·exact upP d _ (fun z'=>by rw[z',hP] at hd;cases hd) hd
      ·exact upP d _ (fun z'=>by rw[z',hP] at hd;cases hd) hd
  refine q h'.objs.size c' ctv _ _ J (fun b o n e=>upP b o n e) ⟨_,up0,?_,.inr ⟨c',?_,upd_same⟩⟩ (pJ _ rfl) upd_same ?_
  ·rw[ku];exact TriplesOk_snoc _ _ _ _ tr
  ·rw[ku];exact codeAmong_snoc _ tr hn
  ·have hsz:s.heap.objs.size<=h'.objs.size:=pV hge (uv hlt);have nf:upd (upd H P (.tbl (ps++#[Qo pos.line,Qo pos.col,.ref c']))) c' (ziy c' (X.env.qual++"<lambda>")) h'.objs.size=none:=by
    rw[za6 (vR hlt),za6]
    ·exact I.hok.fresh hsz
    ·intro z;rw[←z,I.hok.fresh hsz] at hP
     cases hP
   exact I.fpOk hsz nf
 ·have hrec:s.heap.CodeRec (.ref c') (X.env.qual++"<lambda>"):=(I.hok c' _ hc').1;refine PySem.W.kla_makeFunctionHit hcl I.ok.glob hg hcode Cs hPh tr hf Bs fun ctv h' tk hk hsz=>?_;have J:Inv X pins σ H {s with heap:=h'.push {cls:=.type "function",data:=.func (kla_fn "<lambda>" (X.env.qual++"<lambda>") params body sc clos ((X.mg "__name__").getD .none) (.ref c') ctv)},toks:=tk}:=I.kept fun b o e=>kN _ (hk b o e);exact q h'.objs.size c' ctv H _ J (.refl P H) ⟨ps,hP,tr,.inr ⟨c',hf,hc'⟩⟩ (pJ _ rfl) hc' (I.fpOk hsz (I.hok.fresh hsz))
end
open PySem.W (KasT kas_sort kas_ask kas_item)
section
variable{prog:kq}{w:pX}{A:pj}{E:kB->kC->Prop}{s:kC}{vs ks:List kB}{g:Heap}{a kS:Addr}{e e1:Nat}{f:kB}
def KeyFin(prog:kq)(w:pX)(A:pj)(a kS:Addr)(e1:Nat)(vs ks:List kB)(P:jC->kC->Prop)(s:kC):Prop:=
 s.heap.get? a=some (pI "list" #[] e1)/\∃(κ:QM)(ans:Nat->Nat->Bool),
  (2<=vs.length->∀Q':QM->kC->Prop,Q' κ s->wpAny (model prog w) A (gI ks.toArray) Q' (fun _ _=>False) s)/\
  (2<=vs.length->∀i j C,i<vs.length->j<vs.length->C (ans i j) s->kas_ask prog w A κ ks i j C s)/\
  ∀p:Array Nat,Ord vs.length p->(2<=vs.length->p=ansT ans (kas_sort vs.length))->P (.done (.ret .none)) {s with heap:=(s.heap.update kS (pT fun _=>(#[]:Array kB))).update a (pT fun _=>uX (p.toList.map fun i=>vs.getD i uA))}
theorem zh3{st:uZ}{p:Array Nat}{P:jC->kC->Prop}(hs:(arrOf st).map (·.2)=uX (p.toList.map fun i=>vs.getD i uA))(hf:vC st=none)(hz:p.size=vs.length)(h64:vs.length<64)(hkl:ks.length<64)(nak:a≠kS)
  (hk:s.heap.get? kS=some (pI "list" ks.toArray e))(ha:s.heap.get? a=some (pI "list" #[] e1))
  (q:P (.done (.ret .none)) {s with heap:=(s.heap.update kS (pT fun _=>(#[]:Array kB))).update a (pT fun _=>uX (p.toList.map fun i=>vs.getD i uA))}):
  wpAny (model prog w) A (ksk_tail a false e1 (.ref kS) st) P E s:=by
 have ha2:(s.heap.update kS (pT fun _=>(#[]:Array kB))).get? a=some (pI "list" #[] e1):=by rw[Qk _ _ _ _ nak];exact ha
 have hsz:(uX (p.toList.map fun i=>vs.getD i uA)).size=vs.length:=by simp[hz]
 unfold ksk_tail;dsimp only;rw[hs];refine kA (UJ hk rfl ?_ (by rw[pZ,AZ];omega) (pY _))
 refine kA (Us ?_);refine kA (vz ha2 rfl ?_);refine kA (UJ ha2 rfl ?_ (pY _) (by simp only[kz,if_false];rw[hsz,AZ];omega))
 rw[hf];simp only[bne_self_eq_false,kz,if_false];exact kF q
theorem zn3{P:jC->kC->Prop}(hl:ks.length=vs.length)(h64:vs.length<64)(nak:a≠kS)(hk:s.heap.get? kS=some (pI "list" ks.toArray e))(h:KeyFin prog w A a kS e1 vs ks P s):
  wpAny (model prog w) A (ksk_end a false vs.toArray e1 (.ref kS) ks.toArray) P E s:=by
 obtain⟨ha,κ,ans,hkind,hask,q⟩:=h;have z0:vs.toArray.size=vs.length:=rfl;unfold ksk_end;dsimp only;simp only[kz,if_false]
 by_cases h2:vs.length<2
 ·rw[z0,if_pos h2,if_pos h2,DD];rw[BT];refine kA (kF ?_);refine zh3 (p:=uX (uB vs.length)) ?_ rfl (by simp) h64 (by omega) nak hk ha (q _ (by unfold Ord;simp) fun z=>absurd h2 (CU.mpr z))
  show(ks.toArray.zip vs.toArray).map (·.2)=_
  rw[show(uX (uB vs.length)).toList=uB vs.length from rfl,zh8]
  apply jD.mp
  simp[DE,hl]
 ·have h2':2<=vs.length:=by omega
  rw[z0,if_neg h2,if_neg h2];refine kA (QQ (hkind h2' (fun κ' s'=>κ'=κ/\s'=s) ⟨rfl,rfl⟩) (fun κ' s' hs=>?_) fun _ _ z=>z.elim);obtain⟨rfl,rfl⟩:=hs;have run:=Asks.wp (R:=Ord vs.length) (Q:=fun p s''=>s''=s'/\Ord vs.length p/\p=ansT ans (kas_sort vs.length)) (fun i j C hi hj=>hask h2' i j C hi hj) (zf5 (by omega)) ⟨rfl,Asks.ends (zf5 (by omega)),rfl⟩
  refine kA (QQ (DX (E:=E) (ks:=ks) (vs:=vs) (Q:=fun st s''=>∃p:Array Nat,p.size=vs.length/\arrOf st=p.map (kas_item (ks.toArray.zip vs.toArray))/\vC st=none/\s''=s'/\Ord vs.length p/\p=ansT ans (kas_sort vs.length)) hl h2' h64 (fun p st s'' b1 b2 b3 b4=>⟨p,b1,b2,b3,b4⟩) run) ?_ fun _ _ z=>z);rintro⟨⟨⟩,st⟩ s'' ⟨p,hp,har,hf,rfl,or,ep⟩;exact zh3 (DF hl har) hf hp h64 (by omega) nak hk ha (q p or fun _=>ep)
structure zl3(prog:kq)(w:pX)(A:pj)(a kS:Addr)(e1:Nat)(f:kB)(vs:List kB)(P:jC->kC->Prop)(J:Nat->List kB->Nat->kC->Prop):Prop where
 store:∀i ks e s,J i ks e s->s.heap.get? kS=some (pI "list" ks.toArray e)/\ks.length=i
 turn:∀i x ks e s,vs[i]?=some x->J i ks e s->wpAny (model prog w) A (call f [x]) (fun k s'=>s'.heap.get? kS=some (pI "list" ks.toArray e)/\
  ∀c,(s'.heap.update kS (pT (·.push k))).get? kS=some (pI "list" (ks++[k]).toArray c)->J (i+1) (ks++[k]) c {s' with heap:=s'.heap.update kS (pT (·.push k))}) (fun _ _=>False) s
 fin:∀ks e s,J vs.length ks e s->KeyFin prog w A a kS e1 vs ks P s
theorem zhe{P:jC->kC->Prop}{J:Nat->List kB->Nat->kC->Prop}{body:kB->PUnit->Sem (ForInStep PUnit)}(R:zl3 prog w A a kS e1 f vs P J)
  (hb:∀i x ks e(s:kC),vs[i]?=some x->J i ks e s->wpAny (model prog w) A (body x ⟨⟩) (fun r s'=>r=.yield ⟨⟩/\∃k c,J (i+1) (ks++[k]) c s') E s):
  ∀(r:List kB)(i:Nat)(ks:List kB)(e:Nat)(s:kC),i<=vs.length->vs.drop i=r->J i ks e s->wpAny (model prog w) A (forIn r Eb body) (fun _ s'=>∃ks e,J vs.length ks e s') E s
 |[],i,ks,e,s,hi,hr,h=>by
  rw[Dp];have e0:i=vs.length:=Da hi (Bt.mp hr);subst e0;exact kF ⟨ks,e,h⟩
 |x::r,i,ks,e,s,hi,hr,h=>by
  rw[BS];have hx:vs[i]?=some x:=by
   have z:=congrArg (fun l=>l[0]?) hr
   simpa[Uh] using z
  have hr2:vs.drop (i+1)=r:=by
   have z:=congrArg (List.drop 1) hr
   simpa[UL,Nat.add_comm] using z
  refine kA (QQ (hb i x ks e s hx h) (fun q s' hq=>?_) fun _ _ z=>z);obtain⟨rfl,k,c,h2⟩:=hq;exact zhe R hb r (i+1) (ks++[k]) c s' (kD.mp hx).1 hr2 h2
theorem zmc{P:jC->kC->Prop}{J:Nat->List kB->Nat->kC->Prop}(R:zl3 prog w A a kS e1 f vs P J)(h64:vs.length<64)(nak:a≠kS)(h0:J 0 [] 0 s):
  wpAny (model prog w) A (ksk_rest a f false vs.toArray e1 (.ref kS)) P E s:=by
 unfold ksk_rest;refine kA (UE ?_);rw[List.forIn_toArray];refine kA (QQ (zhe R (fun i x ks e s' hx hJ=>?_) vs 0 [] 0 s (pY _) vE h0) (fun _ s' hd=>?_) fun _ _ z=>z)
 ·have hi:=(kD.mp hx).1;have hl:=(R.store i ks e s' hJ).2;refine kA (Ak (QQ (R.turn i x ks e s' hx hJ) (fun k s'' hk=>?_) fun _ _ hF=>hF.elim));obtain⟨hk1,hk2⟩:=hk;have pk:(uX ks).push k=uX (ks++[k]):=by rw[List.push_toArray]
  obtain⟨c2,hc2⟩:∃c2,(s''.heap.update kS (pT (·.push k))).get? kS=some (pI "list" (uX (ks++[k])) c2):=⟨_,by rw[←pk];exact Um hk1 (·.push k)⟩
  try dsimp only
  refine kA (UJ hk1 rfl ?_ (by rw[pZ,AZ];omega) (pV (Qp (Array.size_push ..)) (by rw[pZ,AZ];omega)))
  exact kF ⟨rfl,k,c2,hk2 c2 hc2⟩
 ·obtain⟨ks,e,hJ⟩:=hd;obtain⟨hk,hl⟩:=R.store _ _ _ _ hJ
  try dsimp only
  refine kA (uI hk rfl ?_);exact zn3 hl h64 nak hk (R.fin ks e s' hJ)
theorem zmb{n:Nat}{P:jC->kC->Prop}(hg:Keeps g s.heap)(ga:g.objs.size<=a)(ho:s.heap.get? a=some (pI "list" vs.toArray n))(h64:vs.length<64)
  (h:∀kS e1 h',Keeps g h'->a<kS->h'.get? a=some (pI "list" #[] e1)->h'.get? kS=some (pI "list" #[] 0)->∃J,zl3 prog w A a kS e1 f vs P J/\J 0 [] 0 {s with heap:=h'}):
  wpAny (model prog w) A (ksk_tree a f false) P E s:=by
 have zl:vs.length<=sizeLine:=pV (uv h64) (by decide)
 have k1:Keeps g (s.heap.update a (pT fun _=>(#[]:Array kB))):=hg.upd ga;obtain⟨c1,o1⟩:∃c1,(s.heap.update a (pT fun _=>(#[]:Array kB))).get? a=some (pI "list" #[] c1):=⟨_,Um ho _⟩;have k3:=(k1.push (pI "tuple" vs.toArray 0)).push (pI "list" #[] 0);have o3:=kN (pI "list" #[] 0) (kN (pI "tuple" vs.toArray 0) o1);have lt:a<((s.heap.update a (pT fun _=>(#[]:Array kB))).push (pI "tuple" vs.toArray 0)).objs.size:=pK (kN _ o1);obtain⟨J,R,h0⟩:=h _ c1 _ k3 lt o3 (pJ _ rfl);unfold ksk_tree;refine kA (uI ho rfl (kA (UJ ho rfl (kA (vz o1 rfl (kA (Bq (kA (Uz (uq ?_) (pY _))) zl)))) zl (pY _))));exact zmc (s:={s with heap:=((s.heap.update a (pT fun _=>(#[]:Array kB))).push (pI "tuple" vs.toArray 0)).push (pI "list" #[] 0)}) R h64 (uH lt) h0
theorem zmg{l fa:Addr}{Q:kB->kC->Prop}(hl:s.heap.IsList l vs.toArray)(h64:vs.length<64)
  (h:∀D kS e1 h',D=s.heap.objs.size+1->Keeps s.heap h'->D<kS->h'.get? D=some (pI "list" #[] e1)->h'.get? kS=some (pI "list" #[] 0)->∃J,zl3 prog w A.in1.in1 D kS e1 (.ref fa) vs (fun r s'=>r=.done (.ret .none)->Q (.ref D) s') J/\J 0 [] 0 {s with heap:=h'}):
  wpAny (model prog w) A (call (.builtin "sorted") [.ref l] [(Qq "key",.ref fa)]) Q E s:=by
 have zl:vs.length<=sizeLine:=pV (uv h64) (by decide)
 have k0:Keeps s.heap s.heap:=fun _ _ e=>e;have k2:=((k0.push (pI "list" #[] 0)).upd (a:=s.heap.objs.size) (f:=pT (·++vs.toArray)) (kJ _)).push (pI "list" vs.toArray 0);have z2:((s.heap.push (pI "list" #[] 0)).update s.heap.objs.size (pT (·++vs.toArray))).objs.size=s.heap.objs.size+1:=by
  rw[Aq,Dl]
 have o2:(((s.heap.push (pI "list" #[] 0)).update s.heap.objs.size (pT (·++vs.toArray))).push (pI "list" vs.toArray 0)).get? (s.heap.objs.size+1)=some (pI "list" vs.toArray 0):=
  z2▸pJ _ rfl
 refine call_function_entry_kw DS Ck Cl (ksk_s1 _ _) ?_;unfold vo.«sorted»;refine kA (m:=Dm _ _ _ _) (kF (kA (Cm hl (kA (Uz ?_ zl)) zl)));rw[show(({s with heap:=(s.heap.push (pI "list" #[] 0)).update s.heap.objs.size (pT (·++vs.toArray))}:kC).heap.objs.size)=s.heap.objs.size+1 from z2];refine kA (uq (wpAny_call_entry_kw Br ⟨_,o2,rfl⟩ BU ?body (ksk_l1 _ _)))
 case body=>
  show wpAny (model prog w) A.in1.in1 (vo.«list.sort» ⟨[.ref (s.heap.objs.size+1)],[(Qq "key",.ref fa)]⟩) _ _ _
  rw[ksk_t1];refine QQ (zmb (s:={s with heap:=((s.heap.push (pI "list" #[] 0)).update s.heap.objs.size (pT (·++vs.toArray))).push (pI "list" vs.toArray 0)}) (P:=fun r s'=>r=.done (.ret .none)/\(r=.done (.ret .none)->Q (.ref (s.heap.objs.size+1)) s')) k2 (Qv _) o2 h64 fun kS e1 h' kk lt ha hk=>?_) (fun r s' hq=>?_) fun _ _ z=>z
  ·obtain⟨J,R,h0⟩:=h _ kS e1 h' rfl kk lt ha hk;refine⟨J,⟨R.store,R.turn,fun ks e s' hJ=>?_⟩,h0⟩;obtain⟨f1,κ,ans,f2,f3,f4⟩:=R.fin ks e s' hJ;exact⟨f1,κ,ans,f2,f3,fun p or ep=>⟨rfl,f4 p or ep⟩⟩
  ·obtain⟨rfl,hq⟩:=hq;exact⟨_,rfl,kF ⟨_,rfl,hq rfl⟩⟩
end
open PySem.W (kla_fn kla_obj envX tabObj CodeHd KasT kas_sort kas_ask)
open PySem.W (KatTups) in
theorem ktupsI{h:Heap}:∀vs:List kB,(∀v,v∈vs->∃a:Int×Int,TupI h v [a.1,a.2])->∃fs,fs.length=vs.length/\KatTups h vs fs/\∀f,f∈fs->∃n t,f=.int n t
 |[],_=>⟨[],rfl,.nil,fun f hf=>by cases hf⟩
 |v::vs,hv=>by
  obtain⟨fs,l,t,r⟩:=ktupsI vs fun u hu=>hv u (kT _ hu);obtain⟨a,p,its,n,dd,sl,rfl,o,i⟩:=hv v (uJ ..);obtain⟨u1,t1,e⟩:∃u1 t,its[0]?=some u1/\u1=.int a.1 t:=by
   rw[←UD]
   revert i
   generalize its.toList=l;intro i
   cases i with
   |cons k t r=>exact⟨_,t,rfl,rfl⟩
  refine⟨u1::fs,by simp[l],.cons o rfl rfl e.1 t,fun f hf=>?_⟩
  rcases pF.mp hf with rfl|hf
  ·exact⟨_,t1,e.2⟩
  ·exact r f hf
section
variable{X:Cx}{pins:List (Addr×Obj)}{σ:St}{H:Hp}{s:kC}
theorem Inv.track{D:Addr}{h':Heap}{xs:List V}{its:List kB}{n:Nat}{t':Nat}(I:Inv X pins σ H s)(hf:FpOk X pins H D)(k:∀b o,b≠D->s.heap.get? b=some o->h'.get? b=some o)
  (hz:xs.length<=sizeLine)(r:Vals xs its)(ho:h'.get? D=some {cls:=.type "list",data:=.seq its.toArray n}):Inv X pins σ (upd H D (.lst xs)) {s with heap:=h',toks:=t'}:=by
 obtain⟨f0,f1,f2,f3,f4,f5⟩:=hf;have nD:∀b u,H b=some u->b≠D:=fun b u e z=>by rw[z,f0] at e;cases e
 refine I.step (g':=s.gens) (d':=s.drawn) (ch:=[D]) (fun b hb=>?_) (fun b o _ _ hc e _=>k b o (fun z=>hc (by simp[z])) e) (fun b o _ _ hc e _=>⟨o.slots,k b o (fun z=>hc (by simp[z])) e⟩) (fun b o hc _ n=>by rw[za6 fun z=>hc (by simp[z])];exact n)
  (fun b o hc e=>⟨o,k b o (fun z=>hc (by simp[z])) e⟩) (fun b xs e=>by rw[za6 (nD b _ e)];exact e) (fun b o u e=>by rw[za6 (nD b _ e)];exact e) (fun b ps e=>⟨#[],by rw[za6 (nD b _ e),e];simp⟩) (fun m hm=>?_) (fun b u e=>?_) I.bare
 ·have e:b=D:=by simpa using hb
  subst e;exact⟨f3,f1,f4,f5⟩
 ·obtain⟨o,es,ep,ho,r⟩:=hm;exact⟨o,es,ep,k _ o f1.symm ho,r⟩
 ·by_cases z:b=D
  ·subst z;rw[upd_same] at e
   cases e;exact⟨hz,its,n,r,ho⟩
  ·rw[za6 z] at e;refine(I.hok b u e).stay (fun c v hc q=>k c v ?_ q) (fun c q=>by rw[za6 (nD c _ q)];exact q) fun c xs q=>by rw[za6 (nD c _ q)];exact q
   rcases hc with rfl|hc
   ·exact z
   ·exact nD c _ hc
theorem cell_of{y:Str}{c:Addr}{i:Nat}{vy:V}(I:Inv X pins σ H s)(hN:X.N[i]?=some y)(hσ:σ[i]?=some (some vy))(hk:X.env.scope.names.lookup y=some .cell)(hc:X.env.cells.lookup y=some c):∃u,RelV vy u/\s.heap.IsCell c (some u):=by
 obtain⟨m,hn,hl⟩:=I.loc;obtain⟨u,r,l⟩:=hl i y vy hN hσ (.inr (.inl hk));refine⟨u,r,?_⟩;rcases l with⟨l,_⟩|⟨_,c',e,z⟩
 ·have l:X.env.scope.names.lookup y=some .local:=l;rw[hk] at l
  cases l
 ·rw[hc] at e
  cases e;exact z
end
open PySem.W (kla_fn kla_obj envX tabObj CodeHd KasT kas_sort kas_ask)
abbrev KPT:=Hp->List V->(Nat->Nat->Bool)->Prop
def KeyKP(X:Cx)(KP:KPT):Prop:=∀(pins:List (Addr×Obj))(σ:St)(H:Hp)(s:kC)(zs:List V)(ks:List kB)(ans:Nat->Nat->Bool),Inv X pins σ H s->Vals zs ks->KP H zs ans->∃κ:QM,
 (2<=ks.length->∀Q':QM->kC->Prop,Q' κ s->wpAny (model X.prog X.w) X.A.in1.in1 (gI ks.toArray) Q' (fun _ _=>False) s)/\(2<=ks.length->∀i j C,i<ks.length->j<ks.length->C (ans i j) s->kas_ask X.prog X.w X.A.in1.in1 κ ks i j C s)
structure KeyR(KP:KPT)(te:TE)(vy:V)(c':Addr)(q:Str)(vs:List V)(H:Hp)(Q:VK)(Pv:Nat->List V->Hp->Prop):Prop where
 start:Pv 0 [] H
 code:∀i zs H',Pv i zs H'->H' c'=some (ziy c' q)
 len:∀i zs H',Pv i zs H'->zs.length=i
 turn:∀i zs H' v,vs[i]?=some v->Pv i zs H'->te [some v,some vy] H' fun k H''=>Pv (i+1) (zs++[k]) H''
 fin:∀zs H',Pv vs.length zs H'->∃ans,KP H' zs ans/\∀D p,H' D=none->Ord vs.length p->(2<=vs.length->p=ansT ans (kas_sort vs.length))->Q (.ref D) (upd H' D (.lst (p.toList.map fun i=>vs.getD i .non)))
section
variable{X:Cx}{pins:List (Addr×Obj)}{σ:St}{H:Hp}{s:kC}
theorem vals_get?{xs:List V}{us:List kB}(r:Vals xs us){i:Nat}{u:kB}(h:us[i]?=some u):∃v,xs[i]?=some v/\RelV v u:=by
 have hi:i<us.length:=(kD.mp h).1;have hx:i<xs.length:=by rw[r.length];exact hi
 refine⟨xs[i],kI hx,?_⟩;have z:=zcv r i hx;have e1:xs.getD i .non=xs[i]:=by simp[hx]
 have e2:us.getD i uA=u:=by rw[kR,h];rfl
 rw[e1,e2] at z;exact z
theorem zj4:∀{xs:List V}{us:List kB}{v:V}{u:kB},Vals xs us->RelV v u->Vals (xs++[v]) (us++[u])
 |_,_,_,_,.nil,r=>.cons r .nil
 |_,_,_,_,.cons a t,r=>.cons a (zj4 t r)
theorem zob{KP:KPT}{k i0:Nat}{x y ql:Str}{params:Ao}{body:Expr}{sc:Scope}{fa c c' l:Addr}{pm ctv:kB}{vy:V}{vs:List V}{te:TE}{Q:VK}{Pv:Nat->List V->Hp->Prop}(I:Inv X pins σ H s)(hKP:KeyKP X KP)(hr:Room (k+2) X.A)(S:zg8 x y sc)
  (hN:X.N[i0]?=some y)(hσ:σ[i0]?=some (some vy))(hk:X.env.scope.names.lookup y=some .cell)(hcl:X.env.cells.lookup y=some c)(hfa:FpOk X pins H fa)(hfo:s.heap.get? fa=some (kla_obj "<lambda>" ql params body sc [(y,c)] pm c' ctv))
  (hbind:∀u,Cg (kla_fn "<lambda>" ql params body sc [(y,c)] pm (.ref c') ctv) ⟨[u],[]⟩=pure [(x,u)])(hbody:∀(A:pj)(s:kC)(H:Hp),A.units+64<cLine->PE (zpl X.prog X.w X.K X.mg X.base x y ql sc fa (.ref c') c A X.stack s H) body te)
  (hl:H l=some (.lst vs))(h64:vs.length<64)(R:KeyR KP te vy c' ql vs H Q Pv):wpAny (model X.prog X.w) X.A (call (.builtin "sorted") [.ref l] [(Qq "key",.ref fa)]) (EP X pins σ Q) X.xe s:=by
 obtain⟨its,rv,pl,hz⟩:=I.list (.of hl);have len:vs.length=its.length:=rv.length;have un:=hr.un;refine zmg (vs:=its) pl.isList (by omega) fun D kS e1 h' eD kk lt hD hkS=>?_
 have sD:s.heap.objs.size<=D:=by omega
 have sK:s.heap.objs.size<=kS:=by omega
 have fD:=I.fpOk sD (I.hok.fresh sD);have fK:=I.fpOk sK (I.hok.fresh sK);have faD:fa≠D:=uH (pG (pK hfo) sD);have faK:fa≠kS:=uH (pG (pK hfo) sK);have DK:D≠kS:=uH lt;have nseq:∀(b:Array kB)(m:Nat)(v:Option kB),(pI "list" b m).data≠.cell v:=fun b m v z=>nomatch (show Data.seq b m=EH v from z);have nfun:∀v,(kla_obj "<lambda>" ql params body sc [(y,c)] pm c' ctv).data≠.cell v:=fun v z=>nomatch (show Data.func _=EH v from z);have pin3:∀{ks:List kB}{e:Nat}{H':Hp}{s':kC},Inv X pins σ H' s'->H' fa=none->H' D=none->H' kS=none->s'.heap.get? fa=some (kla_obj "<lambda>" ql params body sc [(y,c)] pm c' ctv)->s'.heap.get? D=some (pI "list" #[] e1)->s'.heap.get? kS=some (pI "list" ks.toArray e)->
   Inv X (pins++[(fa,kla_obj "<lambda>" ql params body sc [(y,c)] pm c' ctv),(D,pI "list" #[] e1),(kS,pI "list" ks.toArray e)]) σ H' s':=fun{ks e H' s'} J n1 n2 n3 o1 o2 o3=>by
  refine J.pins_of fun p hp=>?_;rcases kW.mp hp with hp|hp
  ·exact J.pin p (kh _ hp)
  ·simp only[pF,vF,or_false] at hp;rcases hp with rfl|rfl|rfl
   ·exact⟨o1,n1,hfa.2.1,hfa.2.2.1,nfun⟩
   ·exact⟨o2,n2,fD.2.1,fD.2.2.1,nseq _ _⟩
   ·exact⟨o3,n3,fK.2.1,fK.2.2.1,nseq _ _⟩
 have of3:∀{ks:List kB}{e:Nat}{H':Hp}{s':kC},Inv X (pins++[(fa,kla_obj "<lambda>" ql params body sc [(y,c)] pm c' ctv),(D,pI "list" #[] e1),(kS,pI "list" ks.toArray e)]) σ H' s'->
   Inv X pins σ H' s'/\(H' fa=none/\H' D=none/\H' kS=none)/\s'.heap.get? fa=some (kla_obj "<lambda>" ql params body sc [(y,c)] pm c' ctv)/\s'.heap.get? D=some (pI "list" #[] e1)/\s'.heap.get? kS=some (pI "list" ks.toArray e):=fun{ks e H' s'} J=>by
  have p1:=J.pin (fa,kla_obj "<lambda>" ql params body sc [(y,c)] pm c' ctv) (kh _ (kh _ (by simp)))
  have p2:=J.pin (D,pI "list" #[] e1) (kh _ (kh _ (by simp)))
  have p3:=J.pin (kS,pI "list" ks.toArray e) (kh _ (kh _ (by simp)))
  exact⟨J.unpinned,⟨p1.2.1,p2.2.1,p3.2.1⟩,p1.1,p2.1,p3.1⟩
 refine⟨fun i ks e s'=>∃H' zs,Inv X (pins++[(fa,kla_obj "<lambda>" ql params body sc [(y,c)] pm c' ctv),(D,pI "list" #[] e1),(kS,pI "list" ks.toArray e)]) σ H' s'/\Vals zs ks/\Pv i zs H',⟨fun i ks e s' hJ=>?_,fun i u ks e s' hu hJ=>?_,fun ks e s' hJ=>?_⟩,H,[],?_,.nil,R.start⟩
 ·obtain⟨H',zs,J,r,p⟩:=hJ;exact⟨(of3 J).2.2.2.2,by rw[←r.length];exact R.len _ _ _ p⟩
 ·obtain⟨H',zs,J,r,p⟩:=hJ;obtain⟨J0,⟨n1,n2,n3⟩,o1,o2,o3⟩:=of3 J;obtain⟨v,hv,ru⟩:=vals_get? rv hu;obtain⟨uy,ry,hcell⟩:=cell_of J hN hσ hk hcl;have hcd:s'.heap.CodeRec (.ref c') ql:=(J.hok c' _ (R.code _ _ _ p)).1;refine QQ (lam_run J J.env0.in1.in1 (hr.in1.in1) S o1 hcd (hbind u) ru ry hcell (J.freeC _ _ hcl) (hbody _ s' H' (by show X.A.units+1+1+64<cLine;omega)) (R.turn i zs H' v hv p)) (fun u' s'' hs=>?_) fun _ _ z=>z
  obtain⟨kv,H'',J',rk,p'⟩:=hs;obtain⟨J1,⟨m1,m2,m3⟩,q1,q2,q3⟩:=of3 J';refine⟨q3,fun c2 hc2=>⟨H'',zs++[kv],?_,zj4 r rk,p'⟩⟩;have J2:Inv X pins σ H'' {s'' with heap:=s''.heap.update kS (pT (·.push u')),toks:=s''.toks}:=J1.turned (it:=kS) (fun b o hb e=>by rw[Qk _ _ _ _ hb];exact e) m3 fK.2.1 fK.2.2.2.1 fK.2.2.2.2.1 fK.2.2.2.2.2
  exact pin3 J2 m1 m2 m3 (by show(s''.heap.update kS _).get? fa=_;rw[Qk _ _ _ _ faK];exact q1) (by show(s''.heap.update kS _).get? D=_;rw[Qk _ _ _ _ DK];exact q2) hc2
 ·obtain⟨H',zs,J,r,p⟩:=hJ;obtain⟨J0,⟨n1,n2,n3⟩,o1,o2,o3⟩:=of3 J;rw[←len] at p;obtain⟨ans,ok,q⟩:=R.fin zs H' p;have zl:=R.len _ _ _ p;have kl:ks.length=its.length:=by rw[←r.length,zl,len]
  obtain⟨κ,k1,k2⟩:=hKP _ _ _ _ _ _ _ J0 r ok;rw[kl] at k1 k2;refine⟨o2,κ,ans,k1,k2,fun pm' or ep _=>?_⟩
  ·have J2:Inv X pins σ H' {s' with heap:=s'.heap.update kS (pT fun _=>(#[]:Array kB)),toks:=s'.toks}:=J0.turned (it:=kS) (fun b o hb e=>by rw[Qk _ _ _ _ hb];exact e) n3 fK.2.1 fK.2.2.2.1 fK.2.2.2.2.1 fK.2.2.2.2.2
   have o4:(s'.heap.update kS (pT fun _=>(#[]:Array kB))).get? D=some (pI "list" #[] e1):=by rw[Qk _ _ _ _ DK];exact o2
   rw[←len] at or ep;have lo:pm'.toList.length=vs.length:=by rw[or.length_eq,uO]
   obtain⟨c5,o5⟩:∃c5,((s'.heap.update kS (pT fun _=>(#[]:Array kB))).update D (pT fun _=>uX (pm'.toList.map fun i=>its.getD i uA))).get? D=some (pI "list" (uX (pm'.toList.map fun i=>its.getD i uA)) c5):=⟨_,Um o4 _⟩;refine⟨.ref D,upd H' D (.lst (pm'.toList.map fun i=>vs.getD i .non)),J2.track (t':=s'.toks) ⟨n2,fD.2⟩ (fun b o hb e=>by rw[Qk _ _ _ _ hb];exact e) ?_ (zf2 _ fun i hi=>zcv rv i ?_) o5,rfl,q D pm' n2 or ep⟩
   ·rw[kL,lo];exact pV (uv h64) (by decide)
   ·exact pO.mp (or.mem_iff.mp hi)
 ·have J0:Inv X pins σ H {s with heap:=h',toks:=s.toks}:=I.kept kk;exact pin3 J0 hfa.1 (I.hok.fresh sD) (I.hok.fresh sK) (kk _ _ hfo) hD hkS
end
open PySem.W (kla_fn kla_obj envX tabObj CodeHd KasT kas_sort kas_ask)
section
variable{X:Cx}{p pos lpos kpos:Pos}{e body:Expr}{params:Ao}{sc:Scope}{x y:Str}{c c0 P:Addr}{i0 k:Nat}{te tl:TE}
def tSortK(KP:KPT)(P:Addr)(lpos:Pos)(ql:Str)(i0:Nat)(te tl:TE):TE:=fun σ H Q=>zbo tl tNil σ H fun xs H1=>∃l vs vy,xs=[.ref l]/\H1 l=some (.lst vs)/\vs.length<64/\σ[i0]?=some (some vy)/\zc5 H1 P lpos ql/\
 ∀c' H2,zag P H1 H2->zc5 H2 P lpos ql->H2 c'=some (ziy c' ql)->∃Pv,KeyR KP te vy c' ql vs H2 Q Pv
theorem pe_sortK{KP:KPT}(hKP:KeyKP X KP)(hr:Room (k+2) X.A)(hg:Gl X "sorted")(hm:X.mg "sorted"=none)(ha:PA X [e] (zbo tl tNil))(S:zg8 x y sc)(hN:X.N[i0]?=some y)(hk:X.env.scope.names.lookup y=some .cell)(hcl:X.env.cells.lookup y=some c)
  (hclos:CS sc X.env=pure [(y,c)])(hdef:defaultsOf params X.env=([],[]))(hcode:X.env.code=.ref c0)(C:CodeHd X.base c0 P)(hB:X.base.BuiltinsAt X.mg P)
  (hbind:∀(pm cd ctv u:kB),Cg (kla_fn "<lambda>" (X.env.qual++"<lambda>") params body sc [(y,c)] pm cd ctv) ⟨[u],[]⟩=pure [(x,u)])
  (hbody:∀(fa c':Addr)(A:pj)(s:kC)(H:Hp),A.units+64<cLine->PE (zpl X.prog X.w X.K X.mg X.base x y (X.env.qual++"<lambda>") sc fa (.ref c') c A X.stack s H) body te)
  (he:vv pos (ui [e] X.env)=(false,eval e X.env)::vv pos (ui [] X.env):=by rfl)(hpl:(vv pos (ui [e] X.env)).any (·.1)=false:=by rfl):
  PE X (.Call (.Name "sorted" p) [e] [⟨some "key",.Lambda params body sc lpos,kpos⟩] pos) (tSortK KP P lpos (X.env.qual++"<lambda>") i0 te tl):=by
 intro pins s σ H Q I h;refine vS (zjc I hg hm zfe ?_);refine callWith_kw (thn (ha pos pins s σ H _ I h) fun us s1⟨vs',H1,I1,r1,q1⟩=>?_) he hpl rfl rfl;obtain⟨l,vs,vy,ev,hl,h64,hσ,ht,q⟩:=q1;subst ev;obtain⟨u,rfl,ru⟩:=vals1 r1
 cases ru;refine kws_cons (lam_make (C:=C) I1 hcode hB hclos hdef ht fun fa c' ctv H2 s2 I2 st lt hfo hc' ffa=>kws_nil ?_);obtain⟨Pv,R⟩:=q c' H2 st lt hc';have nl:l≠P:=fun z=>by
  obtain⟨ps,hP,_⟩:=ht;rw[z,hP] at hl
  cases hl
 exact zob I2 hKP hr S hN hσ hk hcl ffa hfo (fun u=>hbind _ _ _ u) (hbody fa c') (st l _ nl hl) h64 R
end
section
variable{κ:Type}[DecidableEq κ]
def valV(kvs:List (κ×V))(k:κ):Option V:=(kvs.find? fun kv=>decide (kv.1=k)).map (·.2)
def putK(kvs:List (κ×V))(k:κ)(v:V):List (κ×V):=
 if(kvs.any fun kv=>decide (kv.1=k))=true then kvs.map (fun kv=>if kv.1=k then(kv.1,v) else kv) else kvs++[(k,v)]
theorem zcb{p:κ×V}{r:List (κ×V)}{k:κ}(e:p.1=k):valV (p::r) k=some p.2:=by simp[valV,Qa,e]
theorem zc8{p:κ×V}{r:List (κ×V)}{k:κ}(e:¬p.1=k):valV (p::r) k=valV r k:=by simp[valV,Qa,e]
theorem zfi(k:κ):∀kvs:List (κ×V),(kvs.any fun kv=>decide (kv.1=k))=(valV kvs k).isSome
 |[]=>rfl
 |p::r=>by
  rw[Al]
  by_cases e:p.1=k
  ·simp only[zcb e,decide_eq_true e,EJ,Option.isSome_some]
  ·rw[zc8 e,decide_eq_false e,Dz];exact zfi k r
theorem zfl(k j:κ)(y:V):∀kvs:List (κ×V),valV (kvs.map fun kv=>if kv.1=k then(kv.1,y) else kv) j=(valV kvs j).map fun x=>if j=k then y else x
 |[]=>rfl
 |p::r=>by
  have ih:=zfl k j y r;rw[ki]
  by_cases h:p.1=k
  ·rw[if_pos h]
   by_cases e:p.1=j
   ·rw[zcb (p:=(p.1,y)) e,zcb e,QL,if_pos (e.symm.trans h)]
   ·rw[zc8 (p:=(p.1,y)) e,zc8 e,ih]
  ·rw[if_neg h]
   by_cases e:p.1=j
   ·rw[zcb (p:=p) e,zcb e,QL,if_neg (fun z=>h (e.trans z))]
   ·rw[zc8 (p:=p) e,zc8 e,ih]
theorem zj9(k j:κ)(y:V):∀kvs:List (κ×V),valV kvs k=none->valV (kvs++[(k,y)]) j=if j=k then some y else valV kvs j
 |[],_=>by
  by_cases e:k=j
  ·rw[if_pos e.symm];exact zcb (p:=(k,y)) e
  ·rw[if_neg (fun z=>e z.symm)];exact zc8 (p:=(k,y)) e
 |p::r,hn=>by
  rw[Uf];have hk:¬p.1=k:=fun z=>by rw[zcb z] at hn;cases hn
  rw[zc8 hk] at hn;have ih:=zj9 k j y r hn
  by_cases e:p.1=j
  ·rw[zcb e,zcb e,if_neg (fun z=>hk (e.trans z))]
  ·rw[zc8 e,zc8 e,ih]
theorem zdg(kvs:List (κ×V))(k j:κ)(y:V):valV (putK kvs k y) j=if j=k then some y else valV kvs j:=by
 unfold putK
 by_cases a:(kvs.any fun kv=>decide (kv.1=k))=true
 ·rw[if_pos a,zfl];rw[zfi] at a
  by_cases e:j=k
  ·obtain⟨x,hx⟩:=Ah.mp a;rw[if_pos e,e,hx,QL,if_pos rfl]
  ·rw[if_neg e]
   cases valV kvs j with
   |none=>rfl
   |some x=>rw[QL,if_neg e]
 ·rw[if_neg a];refine zj9 k j y kvs ?_;rw[zfi] at a
  cases q:valV kvs k with
  |none=>rfl
  |some x=>rw[q] at a;exact(a rfl).elim
theorem zc2(kvs:List (κ×V))(k:κ)(v:V):(putK kvs k v).length<=kvs.length+1:=by
 unfold putK
 split
 ·rw[kL];omega
 ·rw[kK,uD,jR];omega
theorem zlc{kvs:List (κ×V)}{k:κ}(v:V)(h:valV kvs k=none):putK kvs k v=kvs++[(k,v)]:=by
 unfold putK;rw[zfi,h];exact if_neg (by decide)
theorem RelO.isSome_eq{o:Option V}{u:Option kB}(r:RelO o u):o.isSome=u.isSome:=by
 cases o with
 |none=>cases u with
  |none=>rfl
  |some _=>exact(show False from r).elim
 |some _=>cases u with
  |none=>exact(show False from r).elim
  |some _=>rfl
theorem RelO.getD{o:Option V}{u:Option kB}{d:V}{d':kB}(r:RelO o u)(rd:RelV d d'):RelV (o.getD d) (u.getD d'):=by
 cases o with
 |none=>cases u with
  |none=>exact rd
  |some _=>exact(show False from r).elim
 |some _=>cases u with
  |none=>exact(show False from r).elim
  |some _=>exact r
theorem KV.val{kvs:List (κ×V)}{vs:List (κ×kB)}(r:KV kvs vs)(k:κ):RelO (valV kvs k) (CH vs k):=by
 unfold KV at r
 induction r with
 |nil=>exact jA
 |@cons p q ps qs h t ih=>
  obtain⟨h1,h2⟩:=h
  by_cases e:p.1=k
  ·have e':q.1=k:=h1.symm.trans e;have b:CH (q::qs) k=some q.2:=by simp[CH,Qa,e']
   rw[zcb e,b];exact h2
  ·have e':¬q.1=k:=fun z=>e (h1.trans z);have b:CH (q::qs) k=CH qs k:=by simp[CH,Qa,e']
   rw[zc8 e,b];exact ih
theorem KV.any{kvs:List (κ×V)}{vs:List (κ×kB)}(r:KV kvs vs)(k:κ):(kvs.any fun kv=>decide (kv.1=k))=vs.any fun kv=>decide (kv.1=k):=by
 unfold KV at r
 induction r with
 |nil=>rfl
 |cons h t ih=>rw[Al,Al,ih,h.1]
theorem KV.repl{kvs:List (κ×V)}{vs:List (κ×kB)}(r:KV kvs vs)(k:κ){y:V}{u:kB}(ry:RelV y u):
  KV (kvs.map fun kv=>if kv.1=k then(kv.1,y) else kv) (vs.map fun kv=>if kv.1=k then(kv.1,u) else kv):=by
 unfold KV at r⊢
 induction r with
 |nil=>exact .nil
 |@cons p q ps qs h t ih=>
  rw[ki,ki];refine .cons ?_ ih;obtain⟨h1,h2⟩:=h
  by_cases e:p.1=k
  ·rw[if_pos e,if_pos (h1.symm.trans e)];exact⟨h1,ry⟩
  ·rw[if_neg e,if_neg (fun z=>e (h1.trans z))];exact⟨h1,h2⟩
theorem KV.put{kvs:List (κ×V)}{vs:List (κ×kB)}(r:KV kvs vs)(k:κ){y:V}{u:kB}(ry:RelV y u):KV (putK kvs k y) (stored vs k u):=by
 unfold putK stored;rw[r.any k]
 by_cases e:(vs.any fun kv=>decide (kv.1=k))=true
 ·rw[if_pos e,if_pos e];exact r.repl k ry
 ·rw[if_neg e,if_neg e];exact DT r ⟨rfl,ry⟩
theorem KV.length{kvs:List (κ×V)}{vs:List (κ×kB)}(r:KV kvs vs):kvs.length=vs.length:=ve r
end
theorem zn2{P:kq}{w:pX}{k:Key}{u:kB}(r:RelV (kV k) u):(zac P w).is k u=true:=by
 cases k with
 |inl i=>obtain⟨t,e⟩:=(show ∃t,u=UP i t from r);subst e;exact zkj P w i t
 |inr x=>obtain⟨t,e⟩:=(show ∃t,u=EG x t from r);subst e;exact zk9 P w x t
theorem zj6{P:kq}{w:pX}:∀{ks:List Key}{us:List kB},Vals (ks.map kV) us->ItemsAre (zac P w) ks us
 |[],_,r=>by rw[Qe] at r;cases r;exact .nil
 |k::ks,_,r=>by
  rw[ki] at r
  cases r with
  |cons h t=>exact .cons (zn2 h) (zj6 t)
abbrev KT(H:Hp):List (List Key×V)->List (List Key×Addr×kB)->Prop:=jZ fun p q=>p.1=q.1/\H q.2.1=some (.tup (p.1.map kV))/\RelV p.2 q.2.2
theorem KT.val{H:Hp}{kvs:List (List Key×V)}{xs:List (List Key×Addr×kB)}(r:KT H kvs xs)(k:List Key):RelO (valV kvs k) ((atKey xs k).map (·.2)):=by
 induction r with
 |nil=>exact jA
 |@cons p q ps qs h t ih=>
  obtain⟨h1,_,h2⟩:=h
  by_cases e:p.1=k
  ·have e':q.1=k:=h1.symm.trans e;have b:atKey (q::qs) k=some q.2:=by simp[atKey,Qa,e']
   rw[zcb e,b];exact h2
  ·have e':¬q.1=k:=fun z=>e (h1.trans z);have b:atKey (q::qs) k=atKey qs k:=by simp[atKey,Qa,e']
   rw[zc8 e,b];exact ih
theorem KT.repl{H:Hp}{kvs:List (List Key×V)}{xs:List (List Key×Addr×kB)}(r:KT H kvs xs)(k:List Key){y:V}{u:kB}(ry:RelV y u):
  KT H (kvs.map fun kv=>if kv.1=k then(kv.1,y) else kv) (xs.map (putAt k u)):=by
 induction r with
 |nil=>exact .nil
 |@cons p q ps qs h t ih=>
  rw[ki,ki];refine .cons ?_ ih;obtain⟨h1,h2,h3⟩:=h;unfold putAt
  by_cases e:p.1=k
  ·rw[if_pos e,if_pos (h1.symm.trans e)];exact⟨h1,h2,ry⟩
  ·rw[if_neg e,if_neg (fun z=>e (h1.trans z))];exact⟨h1,h2,h3⟩
theorem KT.put{H:Hp}{kvs:List (List Key×V)}{xs:List (List Key×Addr×kB)}(r:KT H kvs xs)(k:List Key){b:Addr}{y:V}{u:kB}(hb:H b=some (.tup (k.map kV)))(ry:RelV y u):
  KT H (putK kvs k y) (Co xs k b u):=by
 have e:(kvs.any fun kv=>decide (kv.1=k))=(atKey xs k).isSome:=by
  rw[zfi,(r.val k).isSome_eq,vp]
 unfold putK Co;rw[e]
 by_cases q:(atKey xs k).isSome=true
 ·rw[if_pos q,if_pos q];exact r.repl k ry
 ·rw[if_neg q,if_neg q];exact DT r ⟨rfl,hb,ry⟩
theorem KT.keeps{H H':Hp}{kvs:List (List Key×V)}{xs:List (List Key×Addr×kB)}(r:KT H kvs xs)(ht:∀b ys,H b=some (.tup ys)->H' b=some (.tup ys)):KT H' kvs xs:=
 Paired.mapP r fun _ _ z=>⟨z.1,ht _ _ z.2.1,z.2.2⟩
section
variable{P:kq}{w:pX}{H:Hp}{h:Heap}{a:Addr}
theorem rd_of{u:HO}(ok:HOk P w H h)(e:Rd H a u):zdf P w H h a u:=e.ok ok
theorem zkn{kvs:List (Key×V)}(ok:HOk P w H h)(e:Rd H a (.dK kvs)):kvs.length<=sizeLine/\(a==Qr)=false/\∃vs,KV kvs vs/\h.DictOf (zac P w) a vs:=
 show zdf P w H h a (.dK kvs) from rd_of ok e
theorem dk_of{kvs:List (Key×V)}(ok:HOk P w H h)(e:H a=some (.dK kvs)):kvs.length<=sizeLine/\(a==Qr)=false/\∃vs,KV kvs vs/\h.DictOf (zac P w) a vs:=zkn ok (.inl e)
theorem zeo{ks:List Key}(ok:HOk P w H h)(e:H a=some (.tup (ks.map kV))):(uW (zac P w)).is h ks a:=by
 obtain⟨_,its,r,o,h1,h2,n,h3⟩:=(show zdf P w H h a (.tup (ks.map kV)) from ok a _ e);exact⟨o,its.toArray,n,h1,h2,h3,by simpa using zj6 r⟩
theorem zjz{kvs:List (List Key×V)}(ok:HOk P w H h)(e:Rd H a (.dT kvs)):kvs.length<=sizeLine/\(a==Qr)=false/\
  ∃xs,KT H kvs xs/\h.DictOfH (uW (zac P w)) a xs:=by
 obtain⟨z,y,xs,r,o,es,ep,h1,h2,h3,h4,h5⟩:=(show zdf P w H h a (.dT kvs) from rd_of ok e);refine⟨z,y,xs,r,o,es,ep,h1,h2,h3,h4,fun x hx=>?_,h5⟩;have all:∀{l:List (List Key×V)}{m:List (List Key×Addr×kB)},KT H l m->∀x∈m,(uW (zac P w)).is h x.1 x.2.1:=by
  intro l m q
  induction q with
  |nil=>intro x hx;exact nomatch hx
  |@cons p q ps qs hq t ih=>
   intro x hx;rcases pF.mp hx with e|hx
   ·subst e;exact zeo ok (by rw[←hq.1];exact hq.2.1)
   ·exact ih x hx
 exact all r x hx
theorem dt_of{kvs:List (List Key×V)}(ok:HOk P w H h)(e:H a=some (.dT kvs)):kvs.length<=sizeLine/\(a==Qr)=false/\
  ∃xs,KT H kvs xs/\h.DictOfH (uW (zac P w)) a xs:=zjz ok (.inl e)
end
def DGet(H:Hp)(a:Addr)(y:V)(r:Option V):Prop:=
 (∃kvs k,Rd H a (.dK kvs)/\y=kV k/\r=valV kvs k)∨∃kvs k b,Rd H a (.dT kvs)/\y=.ref b/\H b=some (.tup (k.map kV))/\r=valV kvs k
def DPut(H:Hp)(a:Addr)(y v:V)(H':Hp):Prop:=
 (∃kvs k,H a=some (.dK kvs)/\y=kV k/\kvs.length<sizeLine/\H'=upd H a (.dK (putK kvs k v)))∨
 ∃kvs k b,H a=some (.dT kvs)/\y=.ref b/\H b=some (.tup (k.map kV))/\kvs.length<sizeLine/\H'=upd H a (.dT (putK kvs k v))
theorem DGet.t{H:Hp}{a b:Addr}{kvs:List (List Key×V)}{k:List Key}(e:H a=some (.dT kvs))(eb:H b=some (.tup (k.map kV))):DGet H a (.ref b) (valV kvs k):=.inr ⟨kvs,k,b,.inl e,rfl,eb,rfl⟩
theorem DPut.t{H:Hp}{a b:Addr}{kvs:List (List Key×V)}{k:List Key}{v:V}(e:H a=some (.dT kvs))(eb:H b=some (.tup (k.map kV)))(hl:kvs.length<sizeLine):
  DPut H a (.ref b) v (upd H a (.dT (putK kvs k v))):=.inr ⟨kvs,k,b,e,rfl,eb,hl,rfl⟩
section
variable{X:Cx}{pins:List (Addr×Obj)}{σ:St}{H:Hp}{s:kC}{a:Addr}{y v:V}{u r:kB}{o:Option V}{A:pj}{E:kB->kC->Prop}
theorem Inv.big(I:Inv X pins σ H s):Qr<s.heap.objs.size:=by
 have h:kx<s.heap.objs.size:=(I.mod.glob.keeps I.bk).lt;exact Cp (by decide) h
theorem zpp{Q:kB->kC->Prop}(hu:A.units+1<cLine)(I:Inv X pins σ H s)(g:DGet H a y (some v))(ry:RelV y u)(h:∀w' s',Inv X pins σ H s'->RelV v w'->Q w' s'):
  wpAny (model X.prog X.w) A (Ch (.ref a) u) Q E s:=by
 rcases g with⟨kvs,k,e,ey,l⟩|⟨kvs,k,b,e,ey,eb,l⟩
 ·subst ey;obtain⟨z,hd,vs,rel,dd⟩:=zkn I.hok e;obtain⟨w',hw,rw'⟩:=RelO.some_of (v:=v) (o:=CH vs k) (by rw[l];exact rel.val k)
  exact wpAny_getItem_of (zn2 ry) dd.mapOf hw (h w' _ (I.tok _) rw')
 ·subst ey
  cases(show u=kZ b from ry);obtain⟨z,hd,xs,rel,dd⟩:=zjz I.hok e;obtain⟨w',hw,rw'⟩:=RelO.some_of (v:=v) (o:=(atKey xs k).map (·.2)) (by rw[l];exact rel.val k)
  obtain⟨p,hp,hp2⟩:=Qf.mp hw;refine wpAny_getItem_heap (QY hu) (zeo I.hok eb) dd hp ?_;rw[hp2];exact h w' _ (I.tok _) rw'
theorem d_in{Q:kB->kC->Prop}(hu:A.units+1<cLine)(I:Inv X pins σ H s)(g:DGet H a y o)(ry:RelV y u)(h:∀s',Inv X pins σ H s'->Q (.bool o.isSome) s'):
  wpAny (model X.prog X.w) A (UQ .In u (.ref a)) Q E s:=by
 rcases g with⟨kvs,k,e,ey,l⟩|⟨kvs,k,b,e,ey,eb,l⟩
 ·subst ey;obtain⟨z,hd,vs,rel,dd⟩:=zkn I.hok e;refine wpAny_in_of (zn2 ry) hd dd.mapOf ?_;rw[←(rel.val k).isSome_eq,←l];exact h _ (I.tok _)
 ·subst ey
  cases(show u=kZ b from ry);obtain⟨z,hd,xs,rel,dd⟩:=zjz I.hok e;refine wpAny_in_heap (QY hu) (zeo I.hok eb) hd dd ?_;have q:=(rel.val k).isSome_eq;rw[vp] at q;rw[←q,←l];exact h _ (I.tok _)
theorem d_notIn{Q:kB->kC->Prop}(hu:A.units+1<cLine)(I:Inv X pins σ H s)(g:DGet H a y o)(ry:RelV y u)(h:∀s',Inv X pins σ H s'->Q (.bool (!o.isSome)) s'):
  wpAny (model X.prog X.w) A (UQ .NotIn u (.ref a)) Q E s:=by
 rcases g with⟨kvs,k,e,ey,l⟩|⟨kvs,k,b,e,ey,eb,l⟩
 ·subst ey;obtain⟨z,hd,vs,rel,dd⟩:=zkn I.hok e;refine wpAny_notIn_of (zn2 ry) hd dd.mapOf ?_;rw[←(rel.val k).isSome_eq,←l];exact h _ (I.tok _)
 ·subst ey
  cases(show u=kZ b from ry);obtain⟨z,hd,xs,rel,dd⟩:=zjz I.hok e;refine DH (QY hu) (zeo I.hok eb) hd dd ?_;have q:=(rel.val k).isSome_eq;rw[vp] at q;rw[←q,←l];exact h _ (I.tok _)
theorem zfu{h':Heap}{t':Nat}{ob:HO}(I:Inv X pins σ H s)(mu:Mut (H a))(hs:Uo a s.heap h')(he:∃q,h'.get? a=some q)(new:zdf X.prog X.w (upd H a ob) h' a ob):
  Inv X pins σ (upd H a ob) {s with heap:=h',toks:=t'}:=
 I.write (x:=a) (e:=a) mu (.inl rfl) (fun b q hb z=>(hs.2 b hb).trans z) he new
theorem dk_new{P:kq}{w:pX}{H':Hp}{h':Heap}{kvs:List (Key×V)}{vs:List (Key×kB)}(z:kvs.length<=sizeLine)(hd:(a==Qr)=false)(rel:KV kvs vs)(dd:h'.DictOf (zac P w) a vs):
  zdf P w H' h' a (.dK kvs):=⟨z,hd,vs,rel,dd⟩
theorem znp{H':Hp}{Q:Unit->kC->Prop}(hu:A.units+1<cLine)(I:Inv X pins σ H s)(g:DPut H a y v H')(ry:RelV y u)(rv:RelV v r)(h:∀s',Inv X pins σ H' s'->Q () s'):
  wpAny (model X.prog X.w) A (setItem (.ref a) u r) Q E s:=by
 rcases g with⟨kvs,k,e,ey,l,eH⟩|⟨kvs,k,b,e,ey,eb,l,eH⟩
 ·subst ey eH;obtain⟨z,hd,vs,rel,dd⟩:=dk_of I.hok e;have hz:vs.length<=sizeLine:=by rw[←rel.length];exact z
  have hl:(putK kvs k v).length<=sizeLine:=by have:=zc2 kvs k v;omega
  refine wpAny_setItem_pairs (hsz:=hz) (zn2 ry) dd fun h' dd' hs=>h _ ?_;have he:∃q,h'.get? a=some q:=let⟨q,_,_,hq,_⟩:=dd';⟨q,hq⟩;exact zfu I (by rw[e];exact jA) hs he (dk_new hl hd (rel.put k rv) dd')
 ·subst ey eH
  cases(show u=kZ b from ry);obtain⟨z,hd,xs,rel,dd⟩:=dt_of I.hok e;have hz:xs.length<=sizeLine:=by rw[←ve rel];exact z
  have hl:(putK kvs k v).length<=sizeLine:=by have:=zc2 kvs k v;omega
  refine CV (hsz:=hz) (QY hu) (zeo I.hok eb) dd fun h' dd' hs=>h _ ?_;obtain⟨q,es,ep,hq,h2,h3,h4,_,h5⟩:=dd';refine zfu I (by rw[e];exact jA) hs ⟨q,hq⟩ ⟨hl,hd,_,(rel.put k eb rv).keeps fun c ys ec=>?_,q,es,ep,hq,h2,h3,h4,h5⟩
  rw[za6 (zn5 ec e (fun z=>nomatch z))];exact ec
end
def NoSl(i:Expr):Prop:=∀ov iv,subscripted i false ov iv=operate [ov,iv] (Ch ov iv)
theorem subD_of{prog:kq}{w:pX}{A:pj}{E:kB->kC->Prop}{s:kC}{env:Env}{value slice:Expr}{pos:Pos}{T id:String}{Q:kB->kC->Prop}
  (hl:typeLookup (.type T) "__getitem__"=pure (some (.builtin id)))(hs:NoSl slice)
  (h:wpAny (model prog w) A (eval value env) (fun o s₁=>wpAny (model prog w) A (eval slice env) (fun i s₂=>s₂.TypeIs o T/\wpAny (model prog w) A (Ch o i) Q E s₂) E s₁) E s):
  wpAny (model prog w) A (eval (.Subscript value slice pos) env) Q E s:=by
 refine Di (QQ h (fun o s₁ h₁=>QQ h₁ (fun i s₂ h₂=>?_) fun _ _ x=>x) fun _ _ x=>x);obtain⟨hT,h₂⟩:=h₂;unfold CN;refine kA ?_;rw[getitemInPython_of_ne hT.not_modules];refine kA (jS hT hl ?_);have fin:wpAny (model prog w) A (subscripted slice false o i) (fun r s₃=>wpAny (model prog w) A (letTemporaryGo value o r>>=fun _=>pure r) Q E s₃) E s₂:=by
  rw[hs o i];exact wpAny_operating (QQ h₂ (fun r s₃ h₃=>kA (wpAny_letTemporaryGo (kF h₃))) fun _ _ x=>x)
 first
  |exact kF (kA fin)
  |exact kA (kF (kA fin))
  |exact kA fin
theorem zko{X:Cx}{pins:List (Addr×Obj)}{σ:St}{H:Hp}{s:kC}{a:Addr}{y:V}{o:Option V}(I:Inv X pins σ H s)(g:DGet H a y o):s.TypeIs (.ref a) "dict":=by
 rcases g with⟨kvs,k,e,_,_⟩|⟨kvs,k,b,e,_,_,_⟩
 ·obtain⟨_,_,vs,_,dd⟩:=zkn I.hok e;exact dd.typeIs
 ·obtain⟨_,_,xs,_,dd⟩:=zjz I.hok e;exact dd.typeIs
def tDGet(td ty:TE):TE:=fun σ H Q=>td σ H fun x H1=>ty σ H1 fun y H2=>∃a v,x=.ref a/\DGet H2 a y (some v)/\Q v H2
def tDIn(ty td:TE):TE:=fun σ H Q=>ty σ H fun y H1=>td σ H1 fun x H2=>∃a o,x=.ref a/\DGet H2 a y o/\Q (.bl o.isSome) H2
def zou(ty td:TE):TE:=fun σ H Q=>ty σ H fun y H1=>td σ H1 fun x H2=>∃a o,x=.ref a/\DGet H2 a y o/\Q (.bl (!o.isSome)) H2
def sDPut(td ty tv:TE):TS:=fun D σ H=>tv σ H fun v H1=>td σ H1 fun x H2=>ty σ H2 fun y H3=>∃a H4,x=.ref a/\DPut H3 a y v H4/\D.nx σ H4
section
variable{X:Cx}{o i e value:Expr}{pos pos' tpos:Pos}{td ty tv:TE}
theorem zod(hu:X.A.units+1<cLine)(ho:PE X o td)(hi:PE X i ty)(hs:NoSl i):PE X (.Subscript o i pos) (tDGet td ty):=by
 intro pins s σ H Q I h;refine subD_of PySem.F.slot_dict_getitem.lookup hs (thn (ho pins s σ H _ I h) fun u s1⟨x,H1,I1,rx,q1⟩=>thn (hi pins s1 σ H1 _ I1 q1) fun iv s2⟨y,H2,I2,ry,a,v,ex,g,q2⟩=>?_);subst ex;obtain rfl:u=kZ a:=rx;exact⟨zko I2 g,zpp hu I2 g ry fun w' s3 I3 rw'=>⟨v,H2,I3,rw',q2⟩⟩
theorem pc_din(hu:X.A.units+1<cLine)(hi:PE X i ty)(ho:PE X o td):PC X .In i o (tDIn ty td):=by
 intro pins s σ H Q I h;refine thn (hi pins s σ H _ I h) fun iv s1⟨y,H1,I1,ry,q1⟩=>thn (ho pins s1 σ H1 _ I1 q1) fun u s2⟨x,H2,I2,rx,a,ov,ex,g,q2⟩=>?_;subst ex;obtain rfl:u=kZ a:=rx;exact d_in hu I2 g ry fun s3 I3=>⟨.bl ov.isSome,H2,I3,rfl,q2⟩
theorem zq4(hu:X.A.units+1<cLine)(hi:PE X i ty)(ho:PE X o td):PC X .NotIn i o (zou ty td):=by
 intro pins s σ H Q I h;refine thn (hi pins s σ H _ I h) fun iv s1⟨y,H1,I1,ry,q1⟩=>thn (ho pins s1 σ H1 _ I1 q1) fun u s2⟨x,H2,I2,rx,a,ov,ex,g,q2⟩=>?_;subst ex;obtain rfl:u=kZ a:=rx;exact d_notIn hu I2 g ry fun s3 I3=>⟨.bl (!ov.isSome),H2,I3,rfl,q2⟩
theorem zny(hu:X.A.units+1<cLine)(ho:PE X o td)(hi:PE X i ty)(hv:PE X value tv)(hs:CF value (some (.Subscript o i pos')) pos.line X.env=pure false):
  PS X (.Assign [.Subscript o i pos'] value pos) (sDPut td ty tv):=by
 intro pins s σ H D I h;refine BJ (thn (hv pins s σ H _ I h) fun r s1⟨v,H1,I1,rv,q1⟩=>thn (ho pins s1 σ H1 _ I1 q1) fun u s2⟨x,H2,I2,rx,q2⟩=>thn (hi pins s2 σ H2 _ I2 q2) fun iv s3⟨y,H3,I3,ry,a,H4,ex,g,q3⟩=>?_) hs;subst ex;obtain rfl:u=kZ a:=rx;exact znp hu I3 g ry rv fun s4 I4=>⟨σ,H4,I4,q3⟩
end
theorem zkw{P:kq}{w:pX}{H:Hp}(h:Heap)(hb:Qr<h.objs.size):zdf P w H (h.push {cls:=.type "dict",data:=.dict #[]}) h.objs.size (.dT []):=
 ⟨pY _,beq_eq_false_iff_ne.mpr (jP (uH hb)),[],.nil,_,#[],0,pJ _ rfl,⟨rfl,rfl,rfl⟩,rfl,rfl,vG⟩
def zok:TE:=fun _ H Q=>∀p,H p=none->Q (.ref p) (upd H p (.dT []))
section
variable{X:Cx}{pos:Pos}
theorem zhx:PE X (.Dict [] [] pos) zok:=fun pins s σ H Q I h=>
 DI ⟨.ref s.heap.objs.size,_,I.laid (a:=s.heap.objs.size) (o:=.dT []) (t':=s.toks) (fun _ _ q=>kN _ q) (kJ _) (zkw s.heap I.big),rfl,h _ (I.hok.fresh (kJ _))⟩
end
structure M1(X:Cx)(o:Expr)(m:Str)(apos:Pos)(e:Expr)(cpos:Pos):Prop where
 base:Ai o m X.env (eval o X.env)=eval o X.env
 few:((vv cpos (ui [e] X.env)).all (fun x=> !x.1)&&(AD cpos (vw [] X.env)).all (fun x=>x.1.isSome)
  &&decide (([e]:List Expr).length+([]:List Aa).length+(if([]:List Aa).isEmpty then 0 else 1)<30))=true
 line:(apos.endLine==cpos.line)=true
 trees:vv cpos (ui [e] X.env)=[(false,eval e X.env)]
structure M2(X:Cx)(o:Expr)(m:Str)(apos:Pos)(e f:Expr)(cpos:Pos):Prop where
 base:Ai o m X.env (eval o X.env)=eval o X.env
 few:((vv cpos (ui [e,f] X.env)).all (fun x=> !x.1)&&(AD cpos (vw [] X.env)).all (fun x=>x.1.isSome)
  &&decide (([e,f]:List Expr).length+([]:List Aa).length+(if([]:List Aa).isEmpty then 0 else 1)<30))=true
 line:(apos.endLine==cpos.line)=true
 trees:vv cpos (ui [e,f] X.env)=[(false,eval e X.env),(false,eval f X.env)]
def IsD(H:Hp)(a:Addr):Prop:=(∃kvs,Rd H a (.dK kvs))∨∃kvs,Rd H a (.dT kvs)
theorem znf{X:Cx}{pins:List (Addr×Obj)}{σ:St}{H:Hp}{s:kC}{a:Addr}(I:Inv X pins σ H s)(d:IsD H a):
  s.TypeIs (.ref a) "dict"/\(∀b,kZ a=.ref b->∃ob,s.heap.get? b=some ob/\ob.dict=none)/\(a==Qr)=false:=by
 rcases d with⟨kvs,e⟩|⟨kvs,e⟩
 ·obtain⟨_,hd,vs,_,dd⟩:=zkn I.hok e;refine⟨dd.typeIs,fun b q=>?_,hd⟩
  cases q;obtain⟨ob,_,_,h1,h2,_⟩:=dd;exact⟨ob,h1,h2.2.1⟩
 ·obtain⟨_,hd,xs,_,dd⟩:=zjz I.hok e;refine⟨dd.typeIs,fun b q=>?_,hd⟩
  cases q;obtain⟨ob,_,_,h1,h2,_⟩:=dd;exact⟨ob,h1,h2.2.1⟩
section
variable{X:Cx}{pins:List (Addr×Obj)}{σ:St}{H:Hp}{s:kC}{a:Addr}{y d:V}{u r:kB}{o:Option V}{A:pj}{E:kB->kC->Prop}
theorem d_get2{Q:kB->kC->Prop}(hu:A.units+1<cLine)(I:Inv X pins σ H s)(g:DGet H a y o)(ry:RelV y u)(rd:RelV d r)(h:∀w' s',Inv X pins σ H s'->RelV (o.getD d) w'->Q w' s'):
  wpAny (model X.prog X.w) A (call (.builtin "dict.get") [.ref a,u,r]) Q E s:=by
 rcases g with⟨kvs,k,e,ey,l⟩|⟨kvs,k,b,e,ey,eb,l⟩
 ·subst ey;obtain⟨z,hd,vs,rel,dd⟩:=zkn I.hok e;refine BK js dd.typeIs BL (Au _ _ _) (meets_dict_get_default (zac X.prog X.w) a (zn2 ry) hd r) ⟨_,dd.mapOf,h _ _ (I.tok _) ?_⟩;rw[l];exact(rel.val k).getD rd
 ·subst ey
  cases(show u=kZ b from ry);obtain⟨z,hd,xs,rel,dd⟩:=zjz I.hok e;refine BK js dd.typeIs BL (Au _ _ _) (meetsH_dict_get_default (uW (zac X.prog X.w)) a b hd r) ⟨QY hu,k,xs,zeo I.hok eb,dd,h _ _ (I.tok _) ?_⟩;rw[l];exact(rel.val k).getD rd
end
def zp7(td ty tx:TE):TE:=fun σ H Q=>td σ H fun x H1=>∃a,x=.ref a/\IsD H1 a/\ty σ H1 fun y H2=>tx σ H2 fun z H3=>∃o,DGet H3 a y o/\Q (o.getD z) H3
section
variable{X:Cx}{o e f:Expr}{apos cpos:Pos}{td ty tx:TE}
theorem zl2(hu:X.A.units+1<cLine)(ho:PE X o td)(he:PE X e ty)(hf:PE X f tx)(m:M2 X o "get" apos e f cpos):PE X (.Call (.Attribute o "get" apos) [e,f] [] cpos) (zp7 td ty tx):=by
 intro pins s σ H Q I h;refine Ad m.base m.few m.line jW js PySem.F.type_dict_get (thn (ho pins s σ H _ I h) fun u s1⟨x,H1,I1,rx,a,ex,d,q1⟩=>?_);subst ex;obtain rfl:u=kZ a:=rx;obtain⟨t1,t2,_⟩:=znf I1 d;refine⟨t1,t2,?_⟩;rw[m.trees];refine Ub rfl (vx (Ug (thn (he pins s1 σ H1 _ I1 q1) fun iv s2⟨y,H2,I2,ry,q2⟩=>
  Ug (thn (hf pins s2 σ H2 _ I2 q2) fun fv s3⟨z,H3,I3,rz,ov,g,q3⟩=>je ?_))))
 exact d_get2 hu I3 g ry rz fun w' s4 I4 rw'=>⟨_,H3,I4,rw',q3⟩
end
section
variable{X:Cx}{x:Str}{p pos:Pos}{e:Expr}{es:List Expr}{kws:List Aa}{ks:List Str}{t tk:TA}{id:String}{r:List V->List V->Hp->VK->Prop}
def CallKR(X:Cx)(f:kB)(ks:List Str)(r:List V->List V->Hp->VK->Prop):Prop:=
 ∀(pins:List (Addr×Obj))(s:kC)(σ:St)(H:Hp)(xs zs:List V)(us ws:List kB)(Q:VK),Inv X pins σ H s->Vals xs us->Vals zs ws->r xs zs H Q->wpAny (model X.prog X.w) X.A (call f us (ks.zip ws)) (EP X pins σ Q) X.xe s
def tCBK(r:List V->List V->Hp->VK->Prop)(t tk:TA):TE:=fun σ H Q=>t σ H fun xs H1=>tk σ H1 fun zs H2=>r xs zs H2 Q
theorem zof(hc:CallKR X (.builtin id) ks r)(hg:Gl X x)(hm:X.mg x=none)(hv:Qy x=some (.builtin id))(ha:PA X (e::es) t)(hkw:PK X kws tk)(hks:(AD pos (vw kws X.env)).filterMap (·.1)=ks:=by rfl)
  (hn:x≠"__name__":=by decide) (hdb:(x==("__debug__":Str))=false:=by decide) (he:vv pos (ui (e::es) X.env)=(false,eval e X.env)::vv pos (ui es X.env):=by rfl) (hpl:(vv pos (ui (e::es) X.env)).any (·.1)=false:=by rfl)
  (hall:(AD pos (vw kws X.env)).all (·.1.isSome)=true:=by rfl) (hno:(AD pos (vw kws X.env)).any (·.1.isNone)=false:=by rfl):PE X (.Call (.Name x p) (e::es) kws pos) (tCBK r t tk):=by
 intro pins s σ H Q I h;refine vS (zjc I hg hm hv ?_ hn hdb);refine callWith_kw (thn (ha pos pins s σ H _ I h) fun us s1⟨vs,H1,I1,r1,q1⟩=>thn (hkw pos pins s1 σ H1 _ I1 q1) fun ws s2⟨zs,H2,I2,r2,q2⟩=>?_) he hpl hall hno;rw[hks];exact hc pins s2 σ H2 vs zs us ws Q I2 r1 r2 q2
end
section
variable{prog:kq}{w:pX}{A:pj}{R:DB->kC->Prop}{I:Addr}{fp wr:List Addr}{n:Nat}{P:Nat->kB->Prop}{St:Nat->Heap->Prop}
theorem maxD_on(W:Walks prog w A.in1 I fp wr n P St)(bt:Nat->Nat->Bool)(hc:CmpOf prog w A.in1 .Gt P bt)(S:Addr)(nS:S∉fp)(kw:List (Str×kB)):∀(k j:Nat)(s:kC)(vb:kB)(c:Nat),n-(j+1)=k->j+1<=n->St (j+1) s.heap->P (Qg bt j) vb->
  s.heap.get? S=some {cls:=.type "list",dict:=none,data:=.seq #[vb,vb] c,slots:=#[]}->(∀v h' tk,P (Qg bt (n-1)) v->(∀b o,b∉wr->b≠S->s.heap.get? b=some o->h'.get? b=some o)->R (.ok (.ret v)) {s with heap:=h',toks:=tk})->
  vk (model prog w) A (.builtin "max.loop" ⟨[.ref I,.none,.ref S],kw⟩) R s:=by
 have nw:S∉wr:=fun z=>nS (W.sub _ z);have nm:(vH "max"++vH ".loop":String)="max.loop":=by decide
 intro k
 induction k with
 |zero=>
  intro j s vb c hk hj st hb oS q;have ej:j+1=n:=by omega
  refine Qb Av ?_;rw[uY vI _];refine kA (m:=gz (.ref S)) (UM oS rfl (kA (UN (W.done s _ _ (ej▸st) fun h' tk kp=>?_))));refine kA (vZ (kp S _ nw oS) rfl (kA (Us (kF ?_))));exact q vb _ tk (by rw[←ej];exact hb) fun b o b1 b2 e=>(QJ _ _ (jP b2)).trans (kp b o b1 e)
 |succ k ih=>
  intro j s vb c hk hj st hb oS q;refine Qb Av ?_;rw[uY vI _];refine kA (m:=gz (.ref S)) (UM oS rfl (kA (UN (W.item (j+1) s _ _ (by omega) st fun v h' tk hP st' kp=>?_))))
  have oS':=kp S _ nw oS;refine kA (kF ?_);refine kA (m:=tryCatch (holding [v,v] (gJ CmpOp.Gt v vb>>=_)) _) (UN (uq (kA (hc (j+1) (Qg bt j) v vb _ _ _ hP hb (kA (uq (Qz (kA (Us (kF ?_))))))))))
  cases bb:bt (j+1) (Qg bt j) with
  |true=>
   simp only[if_true];refine kA (vZ oS' rfl (kA (Us ?_)));rw[nm];refine kF ⟨QN vI _,ih (j+1) _ v _ (by omega) (by omega) (W.frame _ _ _ st' fun b hf o e=>(QJ _ _ (fun z:S=b=>nS (by rw[z];exact hf))).trans e) (by simp only[Qg,bb,if_true];exact hP) (Qn _ oS' rfl) fun v' h'' tk'' hP' kp'=>?_⟩
   exact q v' h'' tk'' hP' fun b o b1 b2 e=>kp' b o b1 b2 ((QJ _ _ (jP b2)).trans (kp b o b1 e))
  |false=>
   simp only[kz,if_false];refine kA (Us ?_);rw[nm];exact kF ⟨QN vI _,ih (j+1) _ vb c (by omega) (by omega) st' (by simp only[Qg,bb,kz,if_false];exact hb) oS' fun v' h'' tk'' hP' kp'=>q v' h'' tk'' hP' fun b o b1 b2 e=>kp' b o b1 b2 (kp b o b1 e)⟩
theorem zmw(W:Walks prog w A.in1 I fp wr n P St)(bt:Nat->Nat->Bool)(hc:CmpOf prog w A.in1 .Gt P bt)(S:Addr)(nS:S∉fp){k:Str}{d:kB}{s:kC}{c:Nat}(st:St 0 s.heap)
  (oS:s.heap.get? S=some {cls:=.type "list",dict:=none,data:=.seq #[] c,slots:=#[]})
  (q:∀v h' tk,((0<n/\P (Qg bt (n-1)) v)∨(n=0/\v=d))->(∀b o,b∉wr->b≠S->s.heap.get? b=some o->h'.get? b=some o)->R (.ok (.ret v)) {s with heap:=h',toks:=tk}):
  vk (model prog w) A (.builtin "max.loop" ⟨[.ref I,.none,.ref S],[(k,d)]⟩) R s:=by
 have nw:S∉wr:=fun z=>nS (W.sub _ z);have nm:(vH "max"++vH ".loop":String)="max.loop":=by decide
 refine Qb Av ?_;rw[uY vI _]
 by_cases h0:n=0
 ·subst h0;refine kA (m:=gz (.ref S)) (UM oS rfl (kA (UN (W.done s _ _ st fun h' tk kp=>?_))));exact kA (UE (kF (q d h' tk (.inr ⟨rfl,rfl⟩) fun b o b1 _ e=>kp b o b1 e)))
 ·refine kA (m:=gz (.ref S)) (UM oS rfl (kA (UN (W.item 0 s _ _ (by omega) st fun v h' tk hP st' kp=>?_))))
  refine kA (kF ?_);refine kA (vZ (kp S _ nw oS) rfl ?_);rw[nm];refine kF ⟨QN vI _,maxD_on W bt hc S nS _ _ 0 _ v _ rfl (by omega) (W.frame _ _ _ st' fun b hf o e=>(QJ _ _ (fun z:S=b=>nS (by rw[z];exact hf))).trans e) hP (Qn _ (kp S _ nw oS) rfl) fun v' h'' tk'' hP' kp'=>?_⟩
  exact q v' h'' tk'' (.inl ⟨by omega,hP'⟩) fun b o b1 b2 e=>kp' b o b1 b2 ((QJ _ _ (jP b2)).trans (kp b o b1 e))
end
theorem zoy(a v:kB):argsOk "max" ⟨[a],[(Qq "default",v)]⟩:=by unfold argsOk;kernel_rfl
theorem zlq(val:Nat->Int):∀k,Qg (fun i j=>decide (val i>val j)) k<=k/\∀i,i<=k->val i<=val (Qg (fun i j=>decide (val i>val j)) k)
 |0=>⟨kJ _,fun i hi=>by rw[ER.mp hi];exact ES _⟩
 |k+1=>by
  obtain⟨h1,h2⟩:=zlq val k;unfold Qg
  by_cases c:val (k+1)>val (Qg (fun i j=>decide (val i>val j)) k)
  ·rw[if_pos (decide_eq_true c)];refine⟨kJ _,fun i hi=>?_⟩
   by_cases e:i=k+1
   ·rw[e];exact ES _
   ·have:=h2 i (by omega)
    omega
  ·rw[if_neg (by rw[decide_eq_false c];decide)]
   refine⟨by omega,fun i hi=>?_⟩
   by_cases e:i=k+1
   ·rw[e];omega
   ·exact h2 i (by omega)
def rMaxD:List V->List V->Hp->VK->Prop:=fun xs zs H Q=>∃p ns d,xs=[.ref p]/\zs=[.int d]/\H p=some (.lst (ns.map V.int))/\∀g,(∀n,n∈ns->n<=g)->(g∈ns∨(ns=[]/\g=d))->Q (.int g) H
section
variable{X:Cx}
theorem znr(hc:X.calm=true):CallKR X (.builtin "max") [Qq "default"] rMaxD:=by
 intro pins s σ H xs zs us ws Q I r rz h;obtain⟨p,ns,d,rfl,rfl,hp,q⟩:=h;obtain⟨u,rfl,ru⟩:=vals1 r;obtain⟨u',rfl,t,rfl⟩:=vals1 rz
 cases ru;obtain⟨its,rv,pl,hz⟩:=I.list (.of hp);have ia:vm its ns:=by
  have:=zhg rv
  simpa using this
 have len:=ia.length;have ne:p≠s.heap.objs.size:=uH pl.lt;have nm:(vH "max"++vH ".loop":String)="max.loop":=by decide
 refine kmk_tree PySem.F.kind_max PySem.F.plain_max PySem.F.entry_max (zoy _ _) ?_;refine kA (m:=QV "max" ["key","default"] 0 ⟨[],[(Qq "default",.int d t)]⟩) (Bu (show QV "max" ["key","default"] 0 ⟨[],[(Qq "default",.int d t)]⟩=pure [none,some (.int d t)] from rfl) (kA (kF (kA (AY pl.isList (kA (Uz ?_ (pY _))))))));rw[nm];have W:=Ec (prog:=X.prog) (w:=X.w) (A:=X.A.in1) (show X.A.in1.handled=none from I.ok.hd hc) s.heap.objs.size p ne its.toArray;have it:∀i v,its.toArray[i]?=some v->∃t,v=UP (ns.getD i 0) t:=fun i v hv=>IntsAre.int_at ia i v (by simpa using hv)
 have sz:(s.heap.push {cls:=.type "list_iterator",data:=.fields #[.ref p,.int 0 0]}).objs.size=s.heap.objs.size+1:=by rw[jf]
 refine kF ⟨QN PySem.F.plain_max_loop _,zmw W (fun i j=>decide (ns.getD i 0>ns.getD j 0)) (CmpOf.ints_gt (fun i=>ns.getD i 0) it) _ (fun z=>?_) (st:=W.frame 0 _ _ ⟨⟨_,pJ _ rfl,rfl,rfl⟩,pl.isList.push _⟩ fun b _ o e=>kN _ e) (pJ _ rfl) fun v h' tk hv kp=>?_⟩
 ·rw[sz] at z;have l2:p<s.heap.objs.size:=pl.lt;rcases pF.mp z with z|z
  ·exact absurd z (vR (jF _))
  ·exact absurd (kU.mp z) (vR (jh l2))
 ·have keep:∀b o,s.heap.get? b=some o->h'.get? b=some o:=fun b o e=>by
   have lt:=pK e;refine kp b o (fun z=>?_) (fun z=>?_) (kN _ (kN _ e))
   ·exact absurd (show b=s.heap.objs.size by simpa using z) (uH lt)
   ·rw[sz] at z;exact absurd z (uH (jh lt))
  obtain⟨b1,b2⟩:=zlq (fun i=>ns.getD i 0) (its.toArray.size-1);have J:Inv X pins σ H {s with heap:=h',toks:=tk}:=I.kept keep;rcases hv with⟨h0,hv⟩|⟨h0,rfl⟩
  ·obtain⟨t',rfl⟩:=it _ _ hv;have h0:0<its.length:=by simpa using h0
   have zi:its.toArray.size=its.length:=rfl;rw[zi] at b1 b2⊢;refine⟨.int _,H,J,⟨t',rfl⟩,q _ (fun n hn=>?_) (.inl ?_)⟩
   ·obtain⟨i,hi,e⟩:=pN.mp hn;have:=b2 i (by omega)
    have e':ns.getD i 0=n:=by simp[hi,e]
    rw[e'] at this;exact this
   ·have hb:Qg (fun i j=>decide (ns.getD i 0>ns.getD j 0)) (its.length-1)<ns.length:=by omega
    rw[kR,kI hb];exact QP _
  ·have h0:its.length=0:=by simpa using h0
   have n0:ns=[]:=gM (by omega)
   exact⟨.int d,H,J,⟨t,rfl⟩,q d (fun n hn=>by rw[n0] at hn;cases hn) (.inr ⟨n0,rfl⟩)⟩
end
section
variable{prog:kq}{w:pX}{A:pj}{E:kB->kC->Prop}{s:kC}
theorem sd_heap{d a:Addr}{xs:List (List Key×Addr×kB)}{k:List Key}{v:kB}{Q:kB->kC->Prop}(hu:(uW (zac prog w)).room A)(hkey:(uW (zac prog w)).is s.heap k a)(hm:s.heap.DictOfH (uW (zac prog w)) d xs)(hz:xs.length<=sizeLine)
  (q1:∀p,atKey xs k=some p->Q p.2 {s with toks:=s.toks+(uW (zac prog w)).draws k})
  (q2:atKey xs k=none->∀h',h'.DictOfH (uW (zac prog w)) d (Co xs k a v)->Uo d s.heap h'->Q v {s with heap:=h',toks:=s.toks+(uW (zac prog w)).draws k}):
  wpAny (model prog w) A (Bv d (.ref a) v) Q E s:=by
 obtain⟨o,es,ep,ho,hc,hd,he,his,hn⟩:=hm;unfold Bv;refine uq (kA ((uW (zac prog w)).pyHash hu hkey (kA (CI (s:={s with toks:=s.toks+(uW (zac prog w)).draws k}) hu hkey ho hd he his hn (fun hno=>?_) fun j p hj=>?_))))
 ·have an:=atKey_none_of_get hno;have hnot:k∉xs.map (·.1):=not_mem_keys_of_get hno;refine kA (UE (kA (Bw (hz:=by have e:=BX he;omega) (s:={s with toks:=s.toks+(uW (zac prog w)).draws k}) ho hd (kF (q2 an _ ⟨_,_,ep+1,Qn _ ho (CJ (jB hd _)),hc.mapDictKeys _,jB hd _,?_,?_,?_⟩ (UB ..))))))
  ·rw[DU an]
   simp[he,Df]
  ·rw[DU an];intro x hx;rcases kW.mp hx with y|y
   ·exact(uW (zac prog w)).keeps (his x y) ho hd (UB ..)
   ·rw[kU.mp y];exact(uW (zac prog w)).keeps hkey ho hd (UB ..)
  ·rw[DU an,uL,US];refine⟨hn,by simp,fun x hx y hy e=>hnot ?_⟩
   have y':y=k:=by simpa using hy
   rw[←y',←e];exact hx
 ·refine kA (Ut (s:={s with toks:=s.toks+(uW (zac prog w)).draws k}) ho hd ?_);rw[entry_at he j,hj];exact kA (UE (kF (q1 p (atKey_of_get hn hj))))
theorem sd_meets{d a:Addr}(hd:(d==Qr)=false)(v:kB):MeetsIn prog w (vo.«dict.setdefault» ⟨[.ref d,.ref a,v],[]⟩) (fun A R s=>(uW (zac prog w)).room A.in1/\∃k xs,(uW (zac prog w)).is s.heap k a/\s.heap.DictOfH (uW (zac prog w)) d xs/\xs.length<=sizeLine/\
  (∀p,atKey xs k=some p->R (.ok (.ret p.2)) {s with toks:=s.toks+(uW (zac prog w)).draws k})/\
  (atKey xs k=none->∀h',h'.DictOfH (uW (zac prog w)) d (Co xs k a v)->Uo d s.heap h'->R (.ok (.ret v)) {s with heap:=h',toks:=s.toks+(uW (zac prog w)).draws k})):=
 .of_wp fun A R s⟨hu,k,xs,hkey,hm,hz,h1,h2⟩=>by
  unfold vo.«dict.setdefault» AJ;refine kA (kA (jt hm.typeIs ?_));show wpAny _ _ (pure (d,kZ a,some v)) _ _ s;refine kF ?_;show wpAny _ _ (if(d==Qr)=true then _ else(Bv d (kZ a) v>>=_)) _ _ s;rw[if_neg (by rw[hd];decide)]
  exact kA (sd_heap hu hkey hm hz (fun p hp=>kF ⟨p.2,rfl,h1 p hp⟩) fun hn h' hm' hs'=>kF ⟨v,rfl,h2 hn h' hm' hs'⟩)
end
section
variable{X:Cx}{pins:List (Addr×Obj)}{σ:St}{H:Hp}{s:kC}
def rSD(a:Addr)(y z:V)(H:Hp)(Q:VK):Prop:=∃kvs k b,H a=some (.dT kvs)/\y=.ref b/\H b=some (.tup (k.map kV))/\kvs.length<sizeLine/\(∀v,valV kvs k=some v->Q v H)/\(valV kvs k=none->Q z (upd H a (.dT (putK kvs k z))))
theorem zj3{A:pj}{E:kB->kC->Prop}{a:Addr}{y z:V}{u r:kB}{Q:VK}(hu:A.units+1<cLine)(I:Inv X pins σ H s)(g:rSD a y z H Q)(ry:RelV y u)(rz:RelV z r):
  wpAny (model X.prog X.w) A (call (.builtin "dict.setdefault") [.ref a,u,r]) (EP X pins σ Q) E s:=by
 obtain⟨kvs,k,b,e,rfl,eb,l,q1,q2⟩:=g
 cases(show u=kZ b from ry);obtain⟨zz,hd,xs,rel,dd⟩:=dt_of I.hok e;have hz:xs.length<=sizeLine:=by rw[←ve rel];exact zz
 have hl:(putK kvs k z).length<=sizeLine:=by have:=zc2 kvs k z;omega
 refine BK gY dd.typeIs PySem.F.entry_dict_setdefault (PySem.F.args_dict_setdefault_3 _ _ _) (sd_meets hd r) ⟨QY hu,k,xs,zeo I.hok eb,dd,hz,fun p hp=>?_,fun hn h' dd' hs=>?_⟩
 ·have rv:=rel.val k;rw[hp] at rv
  cases hv:valV kvs k with
  |none=>rw[hv] at rv;exact rv.elim
  |some v=>
   rw[hv] at rv;exact⟨v,H,I.tok _,rv,q1 v hv⟩
 ·have hv:valV kvs k=none:=by
   have rv:=rel.val k;rw[hn] at rv
   cases hv:valV kvs k with
   |none=>rfl
   |some v=>rw[hv] at rv;exact rv.elim
  obtain⟨o,es,ep,ho,h2,h3,h4,_,h5⟩:=dd';refine⟨z,upd H a (.dT (putK kvs k z)),zfu I (by rw[e];exact jA) hs ⟨o,ho⟩ ⟨hl,hd,_,(rel.put k eb rz).keeps fun c ys ec=>?_,o,es,ep,ho,h2,h3,h4,h5⟩,rz,q2 hv⟩
  rw[za6 (zn5 ec e (fun z=>nomatch z))];exact ec
variable{o e f:Expr}{td ty tx:TE}{apos cpos:Pos}
def tDSd(td ty tx:TE):TE:=fun σ H Q=>td σ H fun x H1=>∃a,x=.ref a/\IsD H1 a/\ty σ H1 fun y H2=>tx σ H2 fun z H3=>rSD a y z H3 Q
theorem pe_dsd(hu:X.A.units+1<cLine)(ho:PE X o td)(he:PE X e ty)(hf:PE X f tx)(m:M2 X o "setdefault" apos e f cpos):PE X (.Call (.Attribute o "setdefault" apos) [e,f] [] cpos) (tDSd td ty tx):=by
 intro pins s σ H Q I h;refine Ad m.base m.few m.line jW gY PySem.F.type_dict_setdefault (thn (ho pins s σ H _ I h) fun u s1⟨x,H1,I1,rx,a,ex,d,q1⟩=>?_);subst ex;obtain rfl:u=kZ a:=rx;obtain⟨t1,t2,_⟩:=znf I1 d;refine⟨t1,t2,?_⟩;rw[m.trees];exact Ub rfl (vx (Ug (thn (he pins s1 σ H1 _ I1 q1) fun iv s2⟨y,H2,I2,ry,q2⟩=>Ug (thn (hf pins s2 σ H2 _ I2 q2) fun fv s3⟨z,H3,I3,rz,g⟩=>je (zj3 hu I3 g ry rz)))))
end
section
variable{prog:kq}{w:pX}{A:pj}{E:kB->kC->Prop}{s:kC}
theorem zor{d:Addr}{od:Obj}{es:Array At}{ep:Nat}{Q:kB->kC->Prop}(hd:(d==Qr)=false)(ho:s.heap.get? d=some od)(hc:od.cls=.type "dict")(hdat:od.data=.dict es ep)
  (q:Q (.ref s.heap.objs.size) {s with heap:=s.heap.push {cls:=.type "dict_keyiterator",data:=.fields #[.ref d,.int 0 0,.int es.size 0,.int ep 0]}}):wpAny (model prog w) A (pyIter (.ref d)) Q E s:=by
 have ty:s.TypeIs (.ref d) "dict":=⟨od,ho,hc⟩;refine wpAny_pyIter_slot ty BM (Ue BM ty PySem.F.entry_dict_iter ?_ (PySem.F.args_dict_iter_1 _));unfold vo.«dict.__iter__»;refine kA ?_;unfold Builtin.Dict.dictSlotNone;refine kA (jt ty (kF ?_));refine kA (m:=Bg d) ?_;unfold Bg;rw[if_neg (by rw[hd];decide)]
 refine kF (kA (Ut ho hdat (kA (BY ho hdat (kA (UR (kF ⟨_,rfl,"dict_keyiterator",_,⟨_,pJ _ rfl,rfl⟩,PySem.F.slot_dict_keyiterator_next.lookup,?_⟩)))))))
 simpa[Qo] using q
theorem zm5{it d:Addr}{i ep:Nat}{od:Obj}{es:Array At}{Q:Option kB->kC->Prop}(hit:s.heap.IsKeyIter it d i es.size ep)(ho:s.heap.get? d=some od)(hdat:od.data=.dict es ep)(hi:i<es.size)
  (q:∀h',h'.IsKeyIter it d (i+1) es.size ep->Uo it s.heap h'->Q (some es[i].key) {s with heap:=h'}):wpAny (model prog w) A (DA (.ref it)) Q E s:=by
 obtain⟨o,hoi,hci,hdi⟩:=id hit;have own:gZ "dict_keyiterator"=false:=by decide
 unfold DA;refine kA (Ak (Aw (name:=Qq "__next__") hit.typeIs Qt (Ue Qt hit.typeIs jM (kA (kF (kA (kA ?_)))) (jI _))))
 first|refine kA (UO hit.typeIs (kF (kA (AK hoi hdi ?_))))|refine kA (vA hit.typeIs (kF (kA (AK hoi hdi ?_))))
 simp only[own,kz,if_false];show wpAny _ _ (if(kZ d==uA)=true then _ else _) _ _ s;have nv:¬((kZ d==uA)=true):=pf;rw[if_neg nv];refine kA (kF (kA (Ut ho hdat ?_)));rw[if_neg (by simp)]
 refine kA (kF (kA (BY ho hdat ?_)));rw[if_neg (by simp)]
 refine kF ?_;simp only[show ¬((i:Int)<0) from by omega,if_false,Ql,uV hi]
 refine kA ?_
 first|refine kA (UO hit.typeIs (kF (kA (jw hit.typeIs ?_))))|refine kA (vA hit.typeIs (kF (kA (jw hit.typeIs ?_))))
 refine kA (m:=setField (.ref it) 1 (Qo ((i:Int)+1))) (wpAny_setField hoi hdi (by simp) ?_)
 have st:(s.heap.update it (EA (·.setIfInBounds 1 (Qo ((i:Int)+1))))).IsKeyIter it d (i+1) es.size ep:=⟨_,Qn _ hoi (Obj.isFreed_of_fields (CY hdi _)),(Obj.cls_mapFields ..).trans hci,by rw[CY hdi];simp[Qo]⟩
 refine kA (uq (kA (jw (s:={s with heap:=s.heap.update it (EA (·.setIfInBounds 1 (Qo ((i:Int)+1))))}) st.typeIs ?_)));exact kF (kF ⟨_,rfl,kF (q _ st (UB ..))⟩)
theorem zpv{it d:Addr}{i ep:Nat}{od:Obj}{es:Array At}{Q:Option kB->kC->Prop}(hh:A.handled=none)(hit:s.heap.IsKeyIter it d i es.size ep)(ho:s.heap.get? d=some od)(hdat:od.data=.dict es ep)(hi:es.size<=i)
  (q:∀h',Heap.ExtBut it s.heap h'->Q none {s with heap:=h'}):wpAny (model prog w) A (DA (.ref it)) Q E s:=by
 obtain⟨o,hoi,hci,hdi⟩:=id hit;have own:gZ "dict_keyiterator"=false:=by decide
 unfold DA;refine kA (Ak (Aw (name:=Qq "__next__") hit.typeIs Qt (Ue Qt hit.typeIs jM (kA (kF (kA (kA ?_)))) (jI _))))
 first|refine kA (UO hit.typeIs (kF (kA (AK hoi hdi ?_))))|refine kA (vA hit.typeIs (kF (kA (AK hoi hdi ?_))))
 simp only[own,kz,if_false];show wpAny _ _ (if(kZ d==uA)=true then _ else _) _ _ s;have nv:¬((kZ d==uA)=true):=pf;rw[if_neg nv];refine kA (kF (kA (Ut ho hdat ?_)));rw[if_neg (by simp)]
 refine kA (kF (kA (BY ho hdat ?_)));rw[if_neg (by simp)]
 refine kF ?_;simp only[show ¬((i:Int)<0) from by omega,if_false,Ql,Array.getElem?_eq_none hi]
 refine kA ?_
 first|refine kA (UO hit.typeIs (kF ?_))|refine kA (vA hit.typeIs (kF ?_))
 refine kA (m:=setField (.ref it) 0 .none) (wpAny_setField hoi hdi (by simp) ?_)
 refine kA (m:=newExc (.type "StopIteration") []) ?_;simp only[newExc,newTuple]
 refine kA (UR (kA (m:=firstArgMember _ _) (Bu (a:=uA) (by first|rfl|(simp only[firstArgMember];rfl)) (UR ?_ (by size_fits)))) (by size_fits))
 simp only[raiseNew];refine kA (wpAny_handled ?_);rw[show A.in1.handled=none from hh];refine kA (kF (wpAny_throw ?_));refine kA (vJ (T:="StopIteration") (b:=true) ⟨_,pJ _ rfl,rfl⟩ isSubtype_stop (kF ?_));exact q _ (((UB ..).extBut.push _).push _)
end
open PySem.W (kas_sort kas_ask)
def ltL:List (Int×Int)->List (Int×Int)->Bool
 |[],ys=>decide (0<ys.length)
 |_::_,[]=>false
 |x::xs,y::ys=>if x=y then ltL xs ys else HT.lexLt [x.1,x.2] [y.1,y.2]
def LstI(h:Heap)(v:kB)(ns:List (Int×Int)):Prop:=∃(a:Addr)(its:List kB)(n:Nat),v=.ref a/\h.get? a=some (pI "list" its.toArray n)/\its.length=ns.length/\∀(i:Nat)(u:kB)(k:Int×Int),its[i]?=some u->ns[i]?=some k->TupI h u [k.1,k.2]
section
variable{prog:kq}{w:pX}{A:pj}{E:kB->kC->Prop}{s:kC}{R:DB->kC->Prop}
theorem zkm{x y:kB}{k l:Int×Int}{Q:kB->kC->Prop}(hx:TupI s.heap x [k.1,k.2])(hy:TupI s.heap y [l.1,l.2])(hu:A.units+64<cLine)(q:Q (.bool (HT.lexLt [k.1,k.2] [l.1,l.2])) s):wpAny (model prog w) A (gJ .Lt x y) Q E s:=by
 obtain⟨a,its,n,dd,sl,rfl,o,i⟩:=hx;obtain⟨b,its2,n2,dd2,sl2,rfl,o2,i2⟩:=hy;exact jg (op:=.Lt) ⟨_,o,rfl⟩ ⟨_,o2,rfl⟩ Bf BI (Ar _ _) (znm a b its its2 n n2 dd dd2 sl sl2 [k.1,k.2] [l.1,l.2] rfl i i2) ⟨o,o2,(fun z=>nomatch z),q⟩ (by omega)
theorem ll_loop{a b:Addr}{xs ys:List kB}{n m:Nat}{ns ms:List (Int×Int)}(hu:A.units+70<cLine)(ha:s.heap.get? a=some (pI "list" xs.toArray n))(hb:s.heap.get? b=some (pI "list" ys.toArray m))(lx:xs.length=ns.length)(ly:ys.length=ms.length)
  (tx:∀(i:Nat)(u:kB)(k:Int×Int),xs[i]?=some u->ns[i]?=some k->TupI s.heap u [k.1,k.2])(ty:∀(i:Nat)(u:kB)(k:Int×Int),ys[i]?=some u->ms[i]?=some k->TupI s.heap u [k.1,k.2]):
  ∀(f i:Nat),ns.length-i=f->i<=ns.length->i<=ms.length->R (.ok (.ret (.bool (ltL (ns.drop i) (ms.drop i))))) s->vk (model prog w) A (.builtin "list.__eq__.loop" ⟨[.ref a,.ref b,Qo (i:Int),Qo 0],[]⟩) R s:=by
 have fin:∀i:Nat,i<=ns.length->i<=ms.length->(ns.length=i∨ms.length=i)->ltL (ns.drop i) (ms.drop i)=decide (xs.length<ys.length):=fun i h1 h2 h3=>by
  rcases h3 with h3|h3
  ·rw[vV (by omega),ltL,kj]
   exact decide_eq_decide.mpr (by omega)
  ·rw[vV (l:=ms) (by omega)]
   cases e:ns.drop i with
   |nil=>
    have:=Bt.mp e;rw[ltL];exact decide_eq_decide.mpr (by simp;omega)
   |cons k r=>
    rw[ltL];have:i<ns.length:=by
     rcases Uu i ns.length with z|z
     ·exact z
     ·rw[vV z] at e;cases e
    exact(decide_eq_false (by omega)).symm
 intro f
 induction f with
 |zero=>
  intro i hf h1 h2 q;have e:ns.length=i:=by omega
  refine Qb UT ?_;rw[uY uR _];rw[fin i h1 h2 (.inl e)] at q;have gx:xs[i]?=none:=uS (by omega)
  refine kA (uI ha rfl (kA (uI hb rfl ?_)));simp only[Qo,Ql,ut,gx];exact kA (uI ha rfl (kA (uI hb rfl (kF q))))
 |succ f ih=>
  intro i hf h1 h2 q;refine Qb UT ?_;rw[uY uR _];have li:i<xs.length:=by omega
  have gx:xs[i]?=some xs[i]:=kI li;refine kA (uI ha rfl (kA (uI hb rfl ?_)))
  by_cases hy:ms.length=i
  ·rw[fin i h1 h2 (.inr hy)] at q;have gy:ys[i]?=none:=uS (by omega)
   simp only[Qo,Ql,ut,gx,gy];exact kA (uI ha rfl (kA (uI hb rfl (kF q))))
  ·have lj:i<ys.length:=by omega
   have gy:ys[i]?=some ys[i]:=kI lj;have gn:ns[i]?=some ns[i]:=kI (by omega)
   have gm:ms[i]?=some ms[i]:=kI (by omega)
   have dx:ns.drop i=ns[i]::ns.drop (i+1):=QF (by omega)
   have dy:ms.drop i=ms[i]::ms.drop (i+1):=QF (by omega)
   rw[dx,dy,ltL] at q;have t1:=tx i _ _ gx gn;have t2:=ty i _ _ gy gm;simp only[Qo,Ql,ut,gx,gy];refine kA (ze1 t1 t2 (by show A.units+1+64<_;omega) ?_)
   by_cases e:ns[i]=ms[i]
   ·rw[if_pos e] at q;rw[decide_eq_true (by rw[e])]
    simp only[if_true];have z:=ih (i+1) (by omega) (by omega) (by omega) q
    exact kF ⟨QN uR _,by simpa[Qo] using z⟩
   ·rw[if_neg e] at q;have ne:¬[ns[i].1,ns[i].2]=[ms[i].1,ms[i].2]:=fun z=>by
     simp only[vc,and_true] at z;exact e (ue z.1 z.2)
    rw[decide_eq_false ne];simp only[kz,if_false];refine kA (uI ha rfl (kA (uI hb rfl ?_)));simp only[ut,gx,gy];exact kA (zkm t1 t2 (by show A.units+1+64<_;omega) (kF q))
end
open PySem.W (kas_sort kas_ask)
theorem listLt(a b:Addr):Meets (vo.«list.__lt__» ⟨[.ref a,.ref b],[]⟩) (fun A R s=>A.units+70<cLine/\∃(xs ys:List kB)(n m:Nat)(ns ms:List (Int×Int)),s.heap.get? a=some (pI "list" xs.toArray n)/\s.heap.get? b=some (pI "list" ys.toArray m)/\xs.length=ns.length/\ys.length=ms.length/\
  (∀(i:Nat)(u:kB)(k:Int×Int),xs[i]?=some u->ns[i]?=some k->TupI s.heap u [k.1,k.2])/\(∀(i:Nat)(u:kB)(k:Int×Int),ys[i]?=some u->ms[i]?=some k->TupI s.heap u [k.1,k.2])/\R (.ok (.ret (.bool (ltL ns ms)))) s):=by
 intro prog w A R s h;obtain⟨hu,xs,ys,n,m,ns,ms,ha,hb,lx,ly,tx,ty,q⟩:=h;refine kA (m:=BN (.ref b) (.type "list")) (vJ (T:="list") (b:=true) ⟨_,hb,rfl⟩ BO ?_);exact kF ⟨QN uR _,ll_loop (i:=0) hu ha hb lx ly tx ty _ rfl (pY _) (pY _) q⟩
section
variable{prog:kq}{w:pX}{A:pj}{E:kB->kC->Prop}{s:kC}{C:Bool->kC->Prop}
theorem lt_lst{x y:kB}{ns ms:List (Int×Int)}(hx:LstI s.heap x ns)(hy:LstI s.heap y ms)(hu:A.units+70<cLine)(q:C (ltL ns ms) s):wpAny (model prog w) A (Dn Dq x y) C E s:=by
 obtain⟨a,xs,n,rfl,ha,lx,tx⟩:=hx;obtain⟨b,ys,m,rfl,hb,ly,ty⟩:=hy;rw[keyLt'_oneType,oneLt'_eq];simp only[if_true];refine kA (wpAny_cRoomFor (by omega) (kA (wpAny_callSpecialIfBound?_slot ⟨_,ha,rfl⟩ gO (BH gO ⟨_,ha,rfl⟩ Bh (BP _ _) (listLt a b) ⟨hu,xs,ys,n,m,ns,ms,ha,hb,lx,ly,tx,ty,?_⟩))))
 exact Qz q
theorem zj2{M:Model}{vs:List kB}{Q:QM->kC->Prop}(h2:2<=vs.length)(hv:∀v,v∈vs->∃ns,LstI s.heap v ns)(q:Q Dq s):wpAny M A (gI vs.toArray) Q E s:=by
 refine PySem.W.kas_kind (T:=.type "list") h2 (fun v h=>?_) (by decide) (by decide) q
 obtain⟨ns,a,its,n,rfl,o,_⟩:=hv v h;exact(As o).andThen .now
end
open PySem.W (KasT kas_asc kas_desc kas_rev kas_tail3 kas_descPart kas_count kas_place kas_bin kas_sort)
structure Tot(n:Nat)(ans:Nat->Nat->Bool):Prop where
 irr:∀i,ans i i=false
 tr:∀i j k,ans i j=true->ans j k=true->ans i k=true
 tot:∀i j,i<n->j<n->i≠j->ans i j=true∨ans j i=true
def Up(ans:Nat->Nat->Bool)(p:Array Nat)(m:Nat):Prop:=∀i j,i<j->j<m->ans (p.getD i 0) (p.getD j 0)=true
def Down(ans:Nat->Nat->Bool)(p:Array Nat)(m:Nat):Prop:=∀i j,i<j->j<m->ans (p.getD j 0) (p.getD i 0)=true
theorem zdr{α β:Type}{ans:Nat->Nat->Bool}{f:α->KasT β}:∀t:KasT α,ansT ans (t.bind f)=ansT ans (f (ansT ans t))
 |.ret _=>rfl
 |.ask i j k=>zdr (k (ans i j))
section
variable{n:Nat}{ans:Nat->Nat->Bool}
theorem Ord.ne{p:Array Nat}(h:Ord n p){i j:Nat}(hij:i<j)(hj:j<n):p.getD i 0≠p.getD j 0:=by
 have z:p.size=n:=by have:=h.length_eq;simpa using this
 have nd:p.toList.Nodup:=h.nodup_iff.mpr List.nodup_range;have e1:p.getD i 0=p.toList[i]'(by simp;omega):=by simp[UF,show i<p.size by omega]
 have e2:p.getD j 0=p.toList[j]'(by simp;omega):=by simp[UF,show j<p.size by omega]
 rw[e1,e2];exact(UC.mp nd) i j _ _ hij
theorem Tot.fl(T:Tot n ans){p:Array Nat}(h:Ord n p){i j:Nat}(hij:i<j)(hj:j<n)(hf:ans (p.getD j 0) (p.getD i 0)=false):ans (p.getD i 0) (p.getD j 0)=true:=by
 rcases T.tot _ _ (h.get (by omega) i) (h.get (by omega) j) (h.ne hij hj) with z|z
 ·exact z
 ·rw[hf] at z;cases z
theorem Up.step(T:Tot n ans){p:Array Nat}{m:Nat}(u:Up ans p m)(h:∀i,i+1=m->ans (p.getD i 0) (p.getD m 0)=true):Up ans p (m+1):=fun i j hij hj=>by
 by_cases z:j<m
 ·exact u i j hij z
 ·have e:j=m:=by omega
  subst e
  by_cases y:i+1=j
  ·exact h i y
  ·exact T.tr _ _ _ (u i (j-1) (by omega) (by omega)) (h (j-1) (by omega))
theorem Down.step(T:Tot n ans){p:Array Nat}{m:Nat}(u:Down ans p m)(h:∀i,i+1=m->ans (p.getD m 0) (p.getD i 0)=true):Down ans p (m+1):=fun i j hij hj=>by
 by_cases z:j<m
 ·exact u i j hij z
 ·have e:j=m:=by omega
  subst e
  by_cases y:i+1=j
  ·exact h i y
  ·exact T.tr _ _ _ (h (j-1) (by omega)) (u i (j-1) (by omega) (by omega))
theorem znk(T:Tot n ans){p:Array Nat}(h:Ord n p):∀f m,1<=m->m+f=n->Up ans p m->m<=ansT ans (kas_asc p f m)/\ansT ans (kas_asc p f m)<=n/\Up ans p (ansT ans (kas_asc p f m))/\(ansT ans (kas_asc p f m)<n->ans (p.getD (ansT ans (kas_asc p f m)) 0) (p.getD (ansT ans (kas_asc p f m)-1) 0)=true)
 |0,m,h1,hm,u=>⟨kJ _,by show m<=n;omega,u,fun z=>by have:m<n:=z;omega⟩
 |f+1,m,h1,hm,u=>by
  have e:ansT ans (kas_asc p (f+1) m)=ansT ans (if ans (p.getD m 0) (p.getD (m-1) 0)=true then .ret m else kas_asc p f (m+1)):=rfl;rw[e]
  cases c:ans (p.getD m 0) (p.getD (m-1) 0) with
  |true=>rw[if_pos rfl];exact⟨kJ _,by show m<=n;omega,u,fun _=>c⟩
  |false=>
   rw[if_neg (by decide)]
   obtain⟨a1,a2,a3⟩:=znk T h f (m+1) (by omega) (by omega) (u.step T fun i hi=>by
    have e:m-1=i:=by omega
    rw[e] at c;exact T.fl h (by omega) (by omega) c)
   exact⟨by omega,a2,a3⟩
theorem zjs(T:Tot n ans){p:Array Nat}(h:Ord n p):∀f m,1<=m->m+f=n->Down ans p m->∃m',ansT ans (kas_desc f p m 0)=(p,m',0)/\m<=m'/\m'<=n/\Down ans p m'
 |0,m,h1,hm,u=>⟨m,rfl,kJ _,by omega,u⟩
 |f+1,m,h1,hm,u=>by
  have e:ansT ans (kas_desc (f+1) p m 0)=ansT ans (if ans (p.getD m 0) (p.getD (m-1) 0)=true then(if 0>0 then kas_desc f (kas_rev p (m-(0+1)) m) (m+1) 0 else kas_desc f p (m+1) 0)
   else .ask (p.getD (m-1) 0) (p.getD m 0) fun d=>if d=true then .ret (p,m,0) else kas_desc f p (m+1) (0+1)):=rfl
  rw[e]
  cases c:ans (p.getD m 0) (p.getD (m-1) 0) with
  |true=>
   rw[if_pos rfl,if_neg (by decide)]
   obtain⟨m',a1,a2,a3⟩:=zjs T h f (m+1) (by omega) (by omega) (u.step T fun i hi=>by
    have e:m-1=i:=by omega
    rw[e] at c;exact c)
   exact⟨m',a1,by omega,a3⟩
  |false=>
   rw[if_neg (by decide)]
   have y:=T.fl h (i:=m-1) (j:=m) (by omega) (by omega) c
   show ∃m',ansT ans (if ans (p.getD (m-1) 0) (p.getD m 0)=true then .ret (p,m,0) else kas_desc f p (m+1) (0+1))=_/\_
   rw[y,if_pos rfl];exact⟨m,rfl,kJ _,by omega,u⟩
theorem zlw{p:Array Nat}{m:Nat}(hm:m<=p.size){k:Nat}(hk:k<m):(kas_rev p 0 m).getD k 0=p.getD (m-1-k) 0:=by
 have e:(kas_rev p 0 m)[k]?=p[m-1-k]?:=by
  unfold kas_rev;rw[gr hm,if_pos (by omega)]
  congr 1
  omega
 rw[pC,pC,e]
theorem up_count(T:Tot n ans)(hn:0<n){p:Array Nat}(h:Ord n p):∃m p',ansT ans (kas_count n p)=(m,p')/\1<=m/\m<=n/\Up ans p' m:=by
 have u1:Up ans p 1:=fun i j hij hj=>by omega
 have z:p.size=n:=by have:=h.length_eq;simpa using this
 obtain⟨a1,a2,a3,a4⟩:=znk T h (n-1) 1 (kJ _) (by omega) u1
 unfold kas_count;rw[zdr];generalize ansT ans (kas_asc p (n-1) 1)=m at a1 a2 a3 a4⊢
 by_cases c1:m=n
 ·subst c1;simp only[beq_self_eq_true,if_true];exact⟨m,p,rfl,a1,a2,a3⟩
 ·have c1':(m==n)=false:=beq_eq_false_iff_ne.mpr c1;simp only[c1',kz,if_false]
  by_cases c2:m>1
  ·rw[if_pos c2];have y:=a3 0 (m-1) (by omega) (by omega)
   show ∃m' p',ansT ans (if ans (p.getD 0 0) (p.getD (m-1) 0)=true then .ret (m,p) else kas_descPart m n (kas_rev p 0 m))=_/\_
   rw[y,if_pos rfl];exact⟨m,p,rfl,a1,a2,a3⟩
  ·have e:m=1:=by omega
   subst e;rw[if_neg c2];have y:=a4 (by omega)
   have d2:Down ans p (1+1):=fun i j hij hj=>by
    have e1:i=0:=by omega
    have e2:j=1:=by omega
    subst e1 e2;exact y
   obtain⟨m',b1,b2,b3,b4⟩:=zjs T h (n-(1+1)) (1+1) (by omega) (by omega) d2
   unfold kas_descPart;rw[zdr,b1];simp only[gt_iff_lt,Ux,if_false];unfold kas_tail3;rw[zdr];have o2:Ord n (kas_rev p 0 m'):=h.rev _ _;have u2:Up ans (kas_rev p 0 m') m':=fun i j hij hj=>by
    rw[zlw (by omega) (by omega),zlw (by omega) (by omega)]
    exact b4 _ _ (by omega) (by omega)
   obtain⟨g1,g2,g3,g4⟩:=znk T o2 (n-m') m' (by omega) (by omega) u2
   exact⟨_,_,rfl,by omega,g2,g3⟩
theorem zhy(T:Tot n ans){p:Array Nat}(h:Ord n p){k:Nat}(hk:k<n)(u:Up ans p k):∀f l r,l<=r->r<=k->r-l<=f->(∀i,i<l->ans (p.getD i 0) (p.getD k 0)=true)->(∀i,r<=i->i<k->ans (p.getD k 0) (p.getD i 0)=true)->
  ∃l',ansT ans (kas_place p k f l r)=l'/\l'<=k/\(∀i,i<l'->ans (p.getD i 0) (p.getD k 0)=true)/\(∀i,l'<=i->i<k->ans (p.getD k 0) (p.getD i 0)=true)
 |0,l,r,h1,h2,h3,hl,hr=>⟨l,rfl,by omega,hl,fun i a b=>hr i (by omega) b⟩
 |f+1,l,r,h1,h2,h3,hl,hr=>by
  unfold kas_place
  by_cases c:l≥r
  ·rw[if_pos c];exact⟨l,rfl,by omega,hl,fun i a b=>hr i (by omega) b⟩
  ·rw[if_neg c];show ∃l',ansT ans (if ans (p.getD k 0) (p.getD ((l+r)/2) 0)=true then kas_place p k f l ((l+r)/2) else kas_place p k f ((l+r)/2+1) r)=l'/\_;have m1:l<=(l+r)/2:=by omega
   have m2:(l+r)/2<r:=by omega
   cases e:ans (p.getD k 0) (p.getD ((l+r)/2) 0) with
   |true=>
    rw[if_pos rfl];refine zhy T h hk u f l _ m1 (by omega) (by omega) hl fun i a b=>?_
    by_cases y:i=(l+r)/2
    ·rw[y];exact e
    ·exact T.tr _ _ _ e (u _ _ (by omega) b)
   |false=>
    rw[if_neg (by decide)]
    have y:=T.fl h (i:=(l+r)/2) (j:=k) (by omega) hk e
    refine zhy T h hk u f _ r (by omega) h2 (by omega) (fun i a=>?_) hr
    by_cases x:i=(l+r)/2
    ·rw[x];exact y
    ·exact T.tr _ _ _ (u i ((l+r)/2) (by omega) (by omega)) y
theorem zkz{p:Array Nat}{k l:Nat}(hk:k<p.size)(hl:l<=k)(i:Nat):(bubble p k (k-l)).getD i 0=if i=l then p.getD k 0 else if l<i/\i<=k then p.getD (i-1) 0 else p.getD i 0:=by
 have e:=BZ hk (k-l) (by omega) i
 have x:k-(k-l)=l:=by omega
 rw[x] at e;rw[pC,e]
 by_cases c1:i=l
 ·rw[if_pos c1,if_pos c1,pC]
 ·rw[if_neg c1,if_neg c1]
  by_cases c2:l<i/\i<=k
  ·rw[if_pos c2,if_pos c2,pC]
  ·rw[if_neg c2,if_neg c2,pC]
theorem up_bin(T:Tot n ans):∀f(p:Array Nat) k,Ord n p->1<=k->k+f=n->Up ans p k->Up ans (ansT ans (kas_bin f p k)) n
 |0,p,k,h,h1,hk,u=>by
  have e:k=n:=by omega
  subst e;exact u
 |f+1,p,k,h,h1,hk,u=>by
  have z:p.size=n:=by have:=h.length_eq;simpa using this
  unfold kas_bin;rw[zdr];obtain⟨l,e,a1,a2,a3⟩:=zhy T h (k:=k) (by omega) u k 0 k (pY _) (kJ _) (by omega) (fun i hi=>by omega) (fun i a b=>by omega)
  rw[e];refine up_bin T f _ (k+1) (h.of (DR _ _ _)) (by omega) (by omega) fun i j hij hj=>?_
  rw[zkz (by omega) a1,zkz (by omega) a1]
  by_cases c1:i=l
  ·rw[if_pos c1,if_neg (by omega),if_pos (by omega)]
   exact a3 _ (by omega) (by omega)
  ·rw[if_neg c1]
   by_cases c2:l<i/\i<=k
   ·rw[if_pos c2,if_neg (by omega),if_pos (by omega)]
    exact u _ _ (by omega) (by omega)
   ·rw[if_neg c2]
    by_cases c3:j=l
    ·rw[if_pos c3];exact a2 _ (by omega)
    ·rw[if_neg c3]
     by_cases c4:l<j/\j<=k
     ·rw[if_pos c4];exact u _ _ (by omega) (by omega)
     ·rw[if_neg c4];exact u _ _ (by omega) (by omega)
theorem up_sort(T:Tot n ans)(hn:0<n):Up ans (ansT ans (kas_sort n)) n:=by
 have o0:Ord n (uX (uB n)):=by unfold Ord;simp
 obtain⟨m,p,e,m1,m2,u⟩:=up_count T hn o0;have o1:Ord n (m,p).2:=by
  rw[←e];exact Asks.ends (zhj hn o0)
 unfold kas_sort;rw[zdr,e]
 by_cases c:m<n
 ·simp only[c,if_true];have x:max m 1=m:=by omega
  rw[x];exact up_bin T (n-m) p m o1 m1 (by omega) u
 ·simp only[c,if_false];have x:m=n:=by omega
  subst x;exact u
end
open PySem.W (kas_sort kas_ask)
def LsI(H:Hp)(v:V)(ns:List (Int×Int)):Prop:=∃(q:Addr)(qs:List V),v=.ref q/\H q=some (.lst qs)/\qs.length=ns.length/\∀(j:Nat)(k:Int×Int),ns[j]?=some k->∃b,qs[j]?=some (.ref b)/\H b=some (.tup [.int k.1,.int k.2])
def KPl:KPT:=fun H zs ans=>∃kp:Nat->List (Int×Int),(∀i,i<zs.length->LsI H (zs.getD i .non) (kp i))/\ans=fun i j=>ltL (kp i) (kp j)
section
variable{X:Cx}{pins:List (Addr×Obj)}{σ:St}{H:Hp}{s:kC}
theorem zom(I:Inv X pins σ H s){v:V}{u:kB}{ns:List (Int×Int)}(h:LsI H v ns)(r:RelV v u):LstI s.heap u ns:=by
 obtain⟨q,qs,rfl,hq,hl,he⟩:=h
 cases(show u=kZ q from r);obtain⟨z,its,n,rv,hlen,e⟩:=I.lstM hq;refine⟨q,its,n,rfl,e,by rw[←rv.length];exact hl,fun i u k hu hk=>?_⟩
 obtain⟨b,hb,hH⟩:=he i k hk;obtain⟨v,hv,rr⟩:=vals_get? rv hu;rw[hb] at hv
 cases hv
 cases(show u=kZ b from rr);exact zde I (ns:=[k.1,k.2]) hH
theorem zmq(hu:X.A.units+80<cLine):KeyKP X KPl:=by
 intro pins σ H s zs ks ans I r h;obtain⟨kp,ok,rfl⟩:=h;have len:=r.length;have lst:∀i,i<ks.length->LstI s.heap (ks.getD i uA) (kp i):=fun i hi=>zom I (ok i (by omega)) (zcv r i (by omega))
 refine⟨Dq,fun h2 Q' q'=>zj2 h2 (fun v hv=>?_) q',fun h2 i j C hi hj cc=>lt_lst (lst i hi) (lst j hj) (by show X.A.units+1+1+70<_;omega) cc⟩
 obtain⟨i,hi,e⟩:=pN.mp hv;refine⟨kp i,?_⟩;have t:=lst i hi;have e':ks.getD i uA=v:=by simp[hi,e]
 rw[e'] at t;exact t
end
def TupR(h:Heap)(v:kB)(ns ms:List Int)(l r:Bool):Prop:=∃(a:Addr)(x y:kB)(n:Nat)(dd:Option Addr)(sl:Array (Option kB)),v=.ref a/\h.get? a=some {cls:=.type "tuple",dict:=dd,data:=.seq #[x,y,.bool l,.bool r] n,slots:=sl}/\TupI h x ns/\TupI h y ms
open PySem.W (KatTups) in
theorem ktupsR{h:Heap}:∀vs:List kB,(∀v,v∈vs->∃a b l r,a≠[]/\TupR h v a b l r)->∃fs,fs.length=vs.length/\KatTups h vs fs/\∀f,f∈fs->∃ns,TupI h f ns
 |[],_=>⟨[],rfl,.nil,fun f hf=>by cases hf⟩
 |v::vs,hv=>by
  obtain⟨fs,l,t,r⟩:=ktupsR vs fun u hu=>hv u (kT _ hu);obtain⟨a,b,l',r',ne,p,x,y,n,dd,sl,rfl,o,i,j⟩:=hv v (uJ ..);refine⟨x::fs,by simp[l],.cons o rfl rfl rfl t,fun f hf=>?_⟩
  rcases pF.mp hf with rfl|hf
  ·exact⟨_,i⟩
  ·exact r f hf
open PySem.W (CodeHd codeHdIn tabIn)
structure FunC(K:kM)(x qual:Str)(st:Stmt)(f:Addr)(fd:UZ)(c P:Addr):Prop where
 ex:∃(oc:kB)(od:Option Addr)(kV doc pm:kB)(an:Option Addr)(ct:kB)(osl:Array (Option kB)),
  fd=kO x qual (za5 st) (za4 st) (za0 st) .none kV doc pm an (.ref c) ct/\K.lookup f=some ⟨oc,od,.func fd,osl⟩/\pE K (.ref c) qual=true
 hd:codeHdIn K c P=true
section
variable{P:kq}{w:pX}{K:kM}{mg:Str->Option kB}{base:Heap}
theorem FunC.ok{x qual:Str}{st:Stmt}{f c tb:Addr}{fd:UZ}{N ps:List Str}{k:Nat}{sp:Sp}(F:FunC K x qual st f fd c tb)(S:zae N ps (za0 st))(len:∀vs H Q E,sp vs H Q E->vs.length=ps.length)
  (hbody:∀(A:pj)(outer:List Env)(s:kC)(H:Hp)(vs:List V)(Q:VK)(E:XK),Room k (A.deeper (BE qual (za0 st) s.heap.objs.size f (.ref c)))->sp vs H Q E->
   ∃t,PSs (cxOf CX0 P w K mg base N qual (za0 st) f (.ref c) A outer s H E).nox (za4 st) t/\t {nx:=fun _ H'=>Q .non H',rt:=Q} (start N vs) H):FnOk P w K mg base CX0 (k+1) f fd ps sp:=by
 obtain⟨oc,od,kV,doc,pm,an,ct,osl,rfl,lk,hcd⟩:=F.ex;refine fn_of lk hcd S len fun A outer s H vs Q E hr hsp=>?_;obtain⟨t,h,q⟩:=hbody A outer s H vs Q E hr hsp;exact⟨t,h.nox,q⟩
end
theorem zc5.ne{H:Hp}{P:Addr}{pos:Pos}{q:Str}(t:zc5 H P pos q){a:Addr}{o:HO}(h:H a=some o)(n:∀ps,o≠.tbl ps):a≠P:=fun z=>by
 obtain⟨ps,e,_⟩:=t;rw[z,e] at h
 cases h;exact n ps rfl
theorem zag.tup{P:Addr}{pos:Pos}{q:Str}{H H':Hp}(g:zag P H H')(t:zc5 H P pos q){a:Addr}{xs:List V}(h:H a=some (.tup xs)):H' a=some (.tup xs):=g a _ (t.ne h fun _ z=>nomatch z) h
theorem zag.lst{P:Addr}{pos:Pos}{q:Str}{H H':Hp}(g:zag P H H')(t:zc5 H P pos q){a:Addr}{xs:List V}(h:H a=some (.lst xs)):H' a=some (.lst xs):=g a _ (t.ne h fun _ z=>nomatch z) h
open PySem.W (kas_sort)
structure STO{α:Type}(lt:α->α->Bool):Prop where
 irr:∀a,lt a a=false
 tr:∀a b c,lt a b=true->lt b c=true->lt a c=true
 tot:∀a b,a≠b->lt a b=true∨lt b a=true
def lexB{α β:Type}[DecidableEq α](r:α->α->Bool)(s:β->β->Bool)(a b:α×β):Bool:=if a.1=b.1 then s a.2 b.2 else r a.1 b.1
theorem STO.lex{α β:Type}[DecidableEq α]{r:α->α->Bool}{s:β->β->Bool}(R:STO r)(S:STO s):STO (lexB r s) where
 irr a:=by unfold lexB;rw[if_pos rfl];exact S.irr _
 tr a b c h1 h2:=by
  unfold lexB at*
  by_cases e1:a.1=b.1
  ·rw[if_pos e1] at h1
   by_cases e2:b.1=c.1
   ·rw[if_pos e2] at h2;rw[if_pos (e1.trans e2)];exact S.tr _ _ _ h1 h2
   ·rw[if_neg e2] at h2;rw[if_neg (fun z=>e2 (e1.symm.trans z)),e1];exact h2
  ·rw[if_neg e1] at h1
   by_cases e2:b.1=c.1
   ·rw[if_neg (fun z=>e1 (z.trans e2.symm)),←e2];exact h1
   ·rw[if_neg e2] at h2;have n:a.1≠c.1:=fun z=>by
     rw[←z] at h2;have:=R.tr _ _ _ h1 h2;rw[R.irr] at this
     cases this
    rw[if_neg n];exact R.tr _ _ _ h1 h2
 tot a b h:=by
  unfold lexB
  by_cases e:a.1=b.1
  ·rw[if_pos e,if_pos e.symm];exact S.tot _ _ fun z=>h (ue e z)
  ·rw[if_neg e,if_neg fun z=>e z.symm];exact R.tot _ _ e
theorem STO.int:STO (fun a b:Int=>decide (a<b)) where
 irr a:=decide_eq_false (by omega)
 tr a b c h1 h2:=decide_eq_true (by have:=of_decide_eq_true h1;have:=of_decide_eq_true h2;omega)
 tot a b h:=by
  rcases Int.lt_or_gt_of_ne h with h|h
  ·exact .inl (decide_eq_true h)
  ·exact .inr (decide_eq_true h)
abbrev lt2:Int×Int->Int×Int->Bool:=lexB (fun a b=>decide (a<b)) (fun a b=>decide (a<b))
theorem sto2:STO lt2:=STO.int.lex STO.int
theorem lex1(a b:Int):HT.lexLt [a] [b]=decide (a<b):=by
 rw[HT.lexLt_cons,HT.lexLt_nil_nil]
 by_cases e:a=b
 ·rw[if_pos e];exact(decide_eq_false (by omega)).symm
 ·rw[if_neg e]
theorem lex2(a b c d:Int):HT.lexLt [a,b] [c,d]=lt2 (a,b) (c,d):=by
 rw[HT.lexLt_cons,lex1];rfl
abbrev lt22:(Int×Int)×(Int×Int)->(Int×Int)×(Int×Int)->Bool:=lexB lt2 lt2
theorem sto22:STO lt22:=sto2.lex sto2
theorem zjb{α β:Type}{lt:β->β->Bool}(S:STO lt)(k:α->β)(z:α){fs:List α}(nd:(fs.map k).Nodup){p:Array Nat}(or:Ord fs.length p)(ep:2<=fs.length->p=ansT (fun i j=>lt (k (fs.getD i z)) (k (fs.getD j z))) (kas_sort fs.length)):
  (p.toList.map fun i=>fs.getD i z).Perm fs/\(p.toList.map fun i=>fs.getD i z).Pairwise fun a b=>lt (k a) (k b)=true:=by
 have rg:((uB fs.length).map fun i=>fs.getD i z)=fs:=by
  refine Ap (by simp) fun i h1 h2=>?_
  have hi:i<fs.length:=h2
  simp[hi]
 have lo:p.toList.length=fs.length:=by rw[or.length_eq,uO]
 refine⟨?_,?_⟩
 ·have:=or.map fun i=>fs.getD i z;rw[rg] at this;exact this
 ·by_cases h2:2<=fs.length
  ·have nd':=uc.mp nd;have T:Tot fs.length (fun i j=>lt (k (fs.getD i z)) (k (fs.getD j z))):=⟨fun i=>S.irr _,fun i j l=>S.tr _ _ _,fun i j hi hj hn=>S.tot _ _ fun e=>hn (by
    have e1:fs.getD i z=fs[i]:=by simp[hi]
    have e2:fs.getD j z=fs[j]:=by simp[hj]
    rw[e1,e2] at e;rcases ji i j with h|h|h
    ·exact absurd e ((UC.mp nd') i j hi hj h)
    ·exact h
    ·exact absurd e.symm ((UC.mp nd') j i hj hi h))⟩
   have u:=up_sort T (by omega)
   rw[←ep h2] at u;refine List.pairwise_iff_getElem.mpr fun i j hi hj hij=>?_;have hi':i<p.size:=by simpa using hi
   have hj':j<p.size:=by simpa using hj
   have hn:p.size=fs.length:=by simpa using lo
   have:=u i j hij (by omega)
   have e1:p.getD i 0=p[i]:=by simp[UF,hi']
   have e2:p.getD j 0=p[j]:=by simp[UF,hj']
   rw[e1,e2] at this
   simpa using this
  ·have l1:(p.toList.map fun i=>fs.getD i z).length<=1:=by rw[kL,lo];omega
   revert l1
   generalize (p.toList.map fun i=>fs.getD i z)=ws;intro l1
   match ws,l1 with
   |[],_=>exact .nil
   |[a],_=>exact uw _ _
end L2
namespace L2
open PySem
theorem hu80{A:pj}{k:Nat}(hr:Room k A):A.units+80<cLine:=by have:=hu100 hr;omega
def lamAt(st:Stmt):Scope×Pos:=match(za4 st).getLast? with
 |some (.Return (some (.Call _ _ (⟨_,.Lambda _ _ sc lp,_⟩::_) _)) _)=>(sc,lp)
 |_=>(za0 st,⟨0,0,0,0⟩)
end L2
namespace L2
open PySem PySem.Spec PyProof.Rows
section
variable{X:Cx}
def zki(K:kM):R2:=fun x y H Q=>∃d es,RdD K H d x/\RdD K H (.list es) y/\d.canLay0=true/\uQ es=true/\d.depth<=60/\Q (.bl (!(es.any fun e=>Qs e d))) H
theorem zoi(hu:X.A.units+64<cLine):OpR X (UQ .NotIn) (zki X.K):=by
 intro pins s σ H x y v u Q I rx ry h;obtain⟨d,es,hd,he,c1,c2,c3,q⟩:=h;obtain⟨as,ra⟩:=zd0 I d x v hd rx;obtain⟨bs,rb⟩:=zd0 I _ y u he ry;exact SeqAt.notIn_list_reads rb ra c2 c1 (by omega) ⟨.bl _,H,I,rfl,q⟩
end
namespace RV
end RV
section
variable{prog:kq}{w:pX}{K:Type}[DecidableEq K](knd:KeyKind prog w K)
inductive ze3(h:Heap):List (List K)->List kB->Prop
 |nil:ze3 h [] []
 |cons {k:List K} {b:Addr} {ks:List (List K)} {vs:List kB}:IsTupleKey knd h k b->ze3 h ks vs->ze3 h (k::ks) (.ref b::vs)
def zd7(h:Heap)(ks:List (List K))(a:Addr):Prop:=∃o items n,h.get? a=some o/\o.cls=.type "tuple"/\o.data=.seq items n/\ze3 knd h ks items.toList
variable{knd}
theorem ze3.inj{h:Heap}{x y:List (List K)}{vs:List kB}(hx:ze3 knd h x vs)(hy:ze3 knd h y vs):x=y:=by
 induction hx generalizing y with
 |nil=>cases hy;rfl
 |cons h1 _ ih=>
  cases hy with
  |cons h2 t2=>rw[h1.inj h2,ih t2]
theorem zd7.typeIs{s:kC}{ks:List (List K)}{a:Addr}(x:zd7 knd s.heap ks a):s.TypeIs (.ref a) "tuple":=let⟨o,_,_,ho,hc,_⟩:=x;⟨o,ho,hc⟩
theorem zd7.inj{h:Heap}{a:Addr}{x y:List (List K)}(hx:zd7 knd h x a)(hy:zd7 knd h y a):x=y:=by
 obtain⟨o,items,n,ho,_,hd,hi⟩:=hx;obtain⟨o',items',n',ho',_,hd',hi'⟩:=hy;obtain rfl:o=o':=uK (ho.symm.trans ho');rw[hd] at hd'
 injection hd' with h1 _
 subst h1;exact hi.inj hi'
theorem zd7.keeps{h h':Heap}{ks:List (List K)}{a d:Addr}{o:Obj}{es ep}(x:zd7 knd h ks a)(ho:h.get? d=some o)(hd:o.data=.dict es ep)(hs:Uo d h h'):zd7 knd h' ks a:=by
 obtain⟨o',items,n,ho',hc,hd',hi⟩:=x;have hne:a≠d:=by
  rintro rfl;obtain rfl:o'=o:=uK (ho'.symm.trans ho);rw[hd] at hd';exact nomatch hd'
 refine⟨o',items,n,(hs.2 a hne).trans ho',hc,hd',?_⟩;generalize items.toList=vs at hi
 induction hi with
 |nil=>exact .nil
 |cons h1 _ ih=>exact .cons (h1.keeps ho hd hs) ih
def zi4(knd:KeyKind prog w K)(ks:List (List K)):Int:=reduceHash (Qi (ks.map (jj knd)))
def zd5(ks:List (List K)):Nat:=(ks.map fun k=>k.length+1).sum
variable{A:pj}{E:kB->kC->Prop}{s:kC}
theorem zjw{ks:List (List K)}{a:Addr}{Q:Int->kC->Prop}(hu:A.units+2<cLine)(hk:zd7 knd s.heap ks a)(h:Q (zi4 knd ks) {s with toks:=s.toks+(zd5 ks+1)}):
  wpAny (model prog w) A (pyHash (.ref a)) Q E s:=by
 have hT:=hk.typeIs;obtain⟨o,items,n,ho,_,hd,hi⟩:=hk;unfold pyHash
 first|unfold pyHashByItsType|skip
 first|refine kA (wpAny_cRoomFor_or (.inr (by omega)) ?_)|skip
 refine kA (jS hT vK.lookup ?_);show wpAny _ _ (if(some (Value.builtin "tuple.__hash__")==some uA)=true then _ else _) Q E s;rw[if_neg (by rw[beq_builtin_none];exact pf)]
 refine kA (jS hT vK.lookup ?_);show wpAny _ _ (callSpecialIfBoundUnlessNone? (.ref a) "__hash__" _>>=_) Q E s;refine kA (wpAny_callSpecialIfBoundUnlessNone?_slot hT vK (Ue vK hT PySem.F.entry_tuple_hash ?_ (PySem.F.args_tuple_hash_1 _)));show wpAny _ _ (Builtin.Tuple.tupleItemsOf (.ref a)>>=_) _ _ s;refine kA (AL ho hd ?_);refine kA ?_;rw[←AM];refine jE _
  (fun rest(b:Array Int) s'=>∃done left,ks=done++left/\ze3 knd s.heap left rest/\b.toList=done.map (jj knd)/\s'={s with toks:=s.toks+zd5 done})
  _ ?_ ?_ _ _ ⟨[],ks,rfl,hi,rfl,rfl⟩
 ·rintro x rest b s' ⟨done,left,rfl,hl,hb,rfl⟩
  cases hl with
  |@cons k b' ks' _ h1 hl'=>
   refine kA ((uW knd).pyHash (k:=k) (QY (by omega)) h1 ?_)
   have e:zd5 (done++[k])=zd5 done+(k.length+1):=by simp[zd5]
   have eh:∀t,({({s with toks:=s.toks+zd5 done}:kC) with toks:=t}:kC)={s with toks:=t}:=fun _=>rfl
   first
    |exact kF ⟨done++[k],ks',by simp,hl',by simp[hb,uW],by rw[e,←vB];rfl⟩
    |exact kA (kF (kF ⟨done++[k],ks',by simp,hl',by simp[hb,uW],by rw[e,←vB];rfl⟩))
 ·rintro b s' ⟨done,left,rfl,hl,hb,rfl⟩
  cases hl;rw[uT] at h;show wpAny _ _ (retInt (Qi b.toList)) _ _ _;rw[hb];refine wpAny_ret_mkInt ?_;show wpAny _ _ (if(decide (-(2:Int)^63<=Qi (done.map (jj knd)))&&decide (Qi (done.map (jj knd))<2^63))=true then _ else _) Q E _;unfold zi4 reduceHash at h
  by_cases hr:(decide (-(2:Int)^63<=Qi (done.map (jj knd)))&&decide (Qi (done.map (jj knd))<2^63))=true
  ·rw[if_pos hr];rw[if_pos hr] at h;exact kF (by simpa[vB] using h)
  ·rw[if_neg hr];rw[if_neg hr] at h;exact kA (UE (kF (by simpa[vB] using h)))
theorem ziz{x y:List (List K)}{a b:Addr}{P:jC->kC->Prop}(hu:A.units<cLine)(hx:zd7 knd s.heap x a)(hy:zd7 knd s.heap y b)(h:P (.done (.ret (.bool (decide (x=y))))) s):
  wpAny (model prog w) A (vo.«tuple.__eq__» ⟨[.ref a,.ref b],[]⟩) P E s:=by
 have hTb:=hy.typeIs;obtain⟨oa,xs,na,hoa,_,hda,hia⟩:=hx;obtain⟨ob,ys,nb,hob,_,hdb,hib⟩:=hy;show wpAny _ _ (BN (.ref b) (.type "tuple")>>=_) _ _ s;refine kA (vJ hTb jx ?_);simp only[vf,kz,if_false];refine kA (AL hoa hda ?_);refine kA (AL hob hdb ?_);refine kA ?_;refine jE _
  (fun rest r s'=>r.1=none/\s'=s/\∃x' y' xs' ys',rest=List.zip xs' ys'/\ze3 knd s.heap x' xs'/\ze3 knd s.heap y' ys'/\decide (x'=y')=decide (x=y)/\(xs'.length==ys'.length)=(xs.size==ys.size))
  _ ?_ ?_ _ _ ⟨rfl,rfl,x,y,xs.toList,ys.toList,rfl,hia,hib,rfl,by simp⟩
 ·rintro⟨u,v⟩ rest r s' ⟨hr,rfl,x',y',xs',ys',hz,hx',hy',hdec,hlen⟩
  cases hx' with
  |nil=>simp at hz
  |@cons k1 u' x'' xs'' h1 hx''=>
   cases hy' with
   |nil=>simp at hz
   |@cons k2 v' y'' ys'' h2 hy''=>
    simp only[AH,vc,vg] at hz;obtain⟨⟨rfl,rfl⟩,rfl⟩:=hz;refine kA ((uW knd).eqBool (x:=k1) (y:=k2) hu h1 h2 ?_)
    by_cases hk:k1=k2
    ·subst hk;rw[decide_eq_true rfl];simp only[vf,kz,if_false];refine kF ⟨rfl,rfl,x'',y'',xs'',ys'',rfl,hx'',hy'',?_,by simpa using hlen⟩
     rw[←hdec]
     by_cases hxy:x''=y''
     ·simp[hxy]
     ·simp[hxy]
    ·rw[decide_eq_false hk];simp only[Dr,if_true];have hf:decide (x=y)=false:=by rw[←hdec];simp[hk]
     rw[hf] at h;exact kA (kF (kF (kF h)))
 ·rintro⟨r1,r2⟩ s' ⟨hr,rfl,x',y',xs',ys',hz,hx',hy',hdec,hlen⟩
  simp only at hr
  subst hr;refine kF ?_;have hfin:(xs.size==ys.size)=decide (x=y):=by
   rw[←hdec,←hlen]
   cases hx' with
   |nil=>
    cases hy' with
    |nil=>simp
    |cons _ _=>simp
   |cons _ _=>
    cases hy' with
    |nil=>simp
    |cons _ _=>simp at hz
  show P (.done (.ret (.bool (xs.size==ys.size)))) s'
  rw[hfin];exact h
theorem zkl{x y:List (List K)}{a b:Addr}{Q:Bool->kC->Prop}(hu:A.units+2<cLine)(hx:zd7 knd s.heap x a)(hy:zd7 knd s.heap y b)(h:Q (decide (x=y)) s):
  wpAny (model prog w) A (eqBool (.ref a) (.ref b)) Q E s:=by
 unfold eqBool
 try with_reducible refine uq ?_
 show wpAny _ _ (if(kZ a==kZ b)=true then _ else _) Q E s
 by_cases hab:(kZ a==kZ b)=true
 ·rw[if_pos hab];have e:a=b:=by have:=pP hab;injection this
  subst e;obtain rfl:=hx.inj hy;exact kA (UE (kF (by simpa using h)))
 ·rw[if_neg hab];exact kA (wpAny_richCompare_same_room (op:=.Eq) hx.typeIs hy.typeIs vh
   (Ue vh hx.typeIs PySem.F.entry_tuple_eq (ziz (QY (knd:=knd) (by omega)) hx hy ⟨_,rfl,(fun e=>nomatch e),Qz h⟩) (PySem.F.args_tuple_eq_2 _ _)) (by omega))
theorem zm6(n:Nat){ks:List K}{a:Addr}{Q:Bool->kC->Prop}(hk:IsTupleKey knd s.heap ks a)(h:Q true s):wpAny (model prog w) A (DJ (n+1) (.ref a)) Q E s:=by
 have hT:=hk.typeIs;obtain⟨o,items,m,ho,_,hd,hi⟩:=hk;unfold DJ;refine kA (jS hT vh.lookup ?_);show wpAny _ _ (BN (.ref a) (.type "tuple")>>=_) _ _ s;refine kA (vJ hT jx ?_);simp only[vf,kz,if_false];refine kA (UM ho hd ?_);refine kA ?_;show wpAny _ _ (forIn items _ _) _ _ s;rw[←AM];refine jE _ (fun rest r s'=>r.1=none/\s'=s/\∀v∈rest,carriedByValue v=true) _ ?_ ?_ _ _ ⟨rfl,rfl,hi.byValue⟩
 ·rintro v rest r s' ⟨hr,rfl,hall⟩;rw[eqIsQuiet_byValue _ (hall v uJ)];refine kA (kF ?_);simp only[vf,kz,if_false];exact kF ⟨rfl,rfl,fun u hu'=>hall u (kT _ hu')⟩
 ·rintro⟨r1,r2⟩ s' ⟨hr,rfl,_⟩
  simp only at hr
  subst hr;exact kF h
theorem zmu{ks:List (List K)}{a:Addr}{Q:Bool->kC->Prop}(hk:zd7 knd s.heap ks a)(h:Q true s):wpAny (model prog w) A (DJ 8 (.ref a)) Q E s:=by
 have hT:=hk.typeIs;obtain⟨o,items,n,ho,_,hd,hi⟩:=hk;unfold DJ;refine kA (jS hT vh.lookup ?_);show wpAny _ _ (BN (.ref a) (.type "tuple")>>=_) _ _ s;refine kA (vJ hT jx ?_);simp only[vf,kz,if_false];refine kA (UM ho hd ?_);refine kA ?_;show wpAny _ _ (forIn items _ _) _ _ s;rw[←AM];refine jE _ (fun rest r s'=>r.1=none/\s'=s/\∃left,ze3 knd s.heap left rest) _ ?_ ?_ _ _ ⟨rfl,rfl,ks,hi⟩
 ·rintro v rest r s' ⟨hr,rfl,left,hl⟩
  cases hl with
  |@cons k b ks' _ h1 hl'=>
   refine kA (zm6 6 h1 ?_);simp only[vf,kz,if_false];exact kF ⟨rfl,rfl,ks',hl'⟩
 ·rintro⟨r1,r2⟩ s' ⟨hr,rfl,_⟩
  simp only at hr
  subst hr;exact kF h
end
def zem{prog:kq}{w:pX}{K:Type}[DecidableEq K](knd:KeyKind prog w K):HeapKind prog w (List (List K)) where
 is:=zd7 knd
 hash:=zi4 knd
 draws:=fun ks=>zd5 ks+1
 room:=fun A=>A.units+2<cLine
 inj:=fun hx hy=>hx.inj hy
 keeps:=fun x ho hd hs=>x.keeps ho hd hs
 pyHash:=fun hu hk h=>zjw hu hk h
 eqBool:=fun hu hx hy h=>zkl hu hx hy h
 quiet:=fun hk h=>zmu hk h
theorem zjd{prog:kq}{w:pX}{K:Type}[DecidableEq K]{knd:KeyKind prog w K}{A:pj}(hu:A.units+3<cLine):(zem knd).room A.in1:=by
 show A.in1.units+2<cLine
 simp
 omega
abbrev K2:=List (List Key)
def NK(H:Hp)(b:Addr)(ks:K2):Prop:=∃cs:List Addr,H b=some (.tup (cs.map V.ref))/\jZ (fun(c:Addr)(k:List Key)=>H c=some (.tup (k.map kV))) cs ks
theorem NK.ts{H H':Hp}{b:Addr}{ks:K2}(h:NK H b ks)(g:∀b xs,H b=some (.tup xs)->H' b=some (.tup xs)):NK H' b ks:=by
 obtain⟨cs,h1,h2⟩:=h;exact⟨cs,g _ _ h1,Paired.mapP h2 fun _ _ z=>g _ _ z⟩
theorem NK.two{H:Hp}{b c d:Addr}{k l:List Key}(h:H b=some (.tup [.ref c,.ref d]))(h1:H c=some (.tup (k.map kV)))(h2:H d=some (.tup (l.map kV))):NK H b [k,l]:=⟨[c,d],h,.cons h1 (.cons h2 .nil)⟩
section
variable{P:kq}{w:pX}{H:Hp}{h:Heap}{a b:Addr}
theorem zmk{cs:List Addr}{its:List kB}{ks:K2}(ok:HOk P w H h)(r:Vals (cs.map V.ref) its)(p:jZ (fun(c:Addr)(k:List Key)=>H c=some (.tup (k.map kV))) cs ks):ze3 (zac P w) h ks its:=by
 induction p generalizing its with
 |nil=>cases r;exact .nil
 |@cons c k cs ks h1 _ ih=>
  rw[ki] at r
  cases r with
  |cons r1 r2=>
   cases r1;exact .cons (zeo ok h1) (ih r2)
theorem zid{ks:K2}(ok:HOk P w H h)(e:NK H b ks):(zem (zac P w)).is h ks b:=by
 obtain⟨cs,e1,e2⟩:=e;obtain⟨_,its,r,o,h1,h2,n,h3⟩:=(show zdf P w H h b (.tup (cs.map V.ref)) from ok b _ e1);exact⟨o,its.toArray,n,h1,h2,h3,by simpa using zmk ok r e2⟩
end
abbrev N3:=K2×Addr×V
def KNp:List N3->List (K2×Addr×kB)->Prop:=jZ fun p q=>p.1=q.1/\p.2.1=q.2.1/\RelV p.2.2 q.2.2
def nD(P:kq)(w:pX)(a:Addr)(kvs:List N3):HO:=.ext fun h=>(a==Qr)=false/\kvs.length<=sizeLine/\(kvs.map (·.1)).Nodup/\∃xs,KNp kvs xs/\∃o es ep,h.get? a=some o/\o.ExactDict/\o.data=.dict es ep/\es.toList=xs.map (Df (zem (zac P w)))
def KN(H:Hp)(kvs:List N3):Prop:=∀p,p∈kvs->NK H p.2.1 p.1
theorem KN.ts{H H':Hp}{kvs:List N3}(h:KN H kvs)(g:∀b xs,H b=some (.tup xs)->H' b=some (.tup xs)):KN H' kvs:=fun p hp=>(h p hp).ts g
def valN(kvs:List N3)(k:K2):Option V:=(kvs.find? fun kv=>decide (kv.1=k)).map (·.2.2)
def putN(kvs:List N3)(k:K2)(b:Addr)(v:V):List N3:=if(valN kvs k).isSome=true then kvs.map (fun kv=>if kv.1=k then(kv.1,kv.2.1,v) else kv) else kvs++[(k,b,v)]
theorem zlg{p:N3}{r:List N3}{k:K2}(e:p.1=k):valN (p::r) k=some p.2.2:=by simp[valN,Qa,e]
theorem zlv{p:N3}{r:List N3}{k:K2}(e:¬p.1=k):valN (p::r) k=valN r k:=by simp[valN,Qa,e]
theorem zd2{kvs:List N3}{k:K2}:(valN kvs k).isSome=true↔k∈kvs.map (·.1):=by
 induction kvs with
 |nil=>simp[valN]
 |cons p r ih=>
  by_cases e:p.1=k
  ·rw[zlg e];simp[e]
  ·rw[zlv e,ih,ki,pF];exact⟨.inr,fun h=>h.elim (fun z=>absurd z.symm e) id⟩
theorem zg9(kvs:List N3)(k:K2)(b:Addr)(v:V):(putN kvs k b v).length<=kvs.length+1:=by
 unfold putN
 split
 ·rw[kL];omega
 ·simp
theorem zgb(kvs:List N3)(k:K2)(b:Addr)(v:V):(putN kvs k b v).map (·.1)=if(valN kvs k).isSome=true then kvs.map (·.1) else kvs.map (·.1)++[k]:=by
 unfold putN
 split
 ·rw[Ud];refine Ua fun kv _=>?_;show(if kv.1=k then(kv.1,kv.2.1,v) else kv).1=kv.1
  split<;>rfl
 ·simp
theorem zho{kvs:List N3}{k:K2}{b:Addr}{v:V}(h:(kvs.map (·.1)).Nodup):((putN kvs k b v).map (·.1)).Nodup:=by
 rw[zgb]
 split
 ·exact h
 ·rename_i n
  refine US.mpr ⟨h,uw _ _,fun x hx y hy e=>?_⟩;rw[kU.mp hy] at e;subst e;exact n (zd2.mpr hx)
theorem KN.put{H:Hp}{kvs:List N3}{k:K2}{b:Addr}{v:V}(h:KN H kvs)(hb:NK H b k):KN H (putN kvs k b v):=by
 unfold putN
 split
 ·intro p hp;obtain⟨q,hq,e⟩:=km.mp hp;have:=h q hq;rw[←e]
  split
  ·exact this
  ·exact this
 ·intro p hp;rcases kW.mp hp with hp|hp
  ·exact h p hp
  ·rw[kU.mp hp];exact hb
theorem KNp.val{kvs:List N3}{xs:List (K2×Addr×kB)}(r:KNp kvs xs)(k:K2):RelO (valN kvs k) ((atKey xs k).map (·.2)):=by
 unfold KNp at r
 induction r with
 |nil=>exact jA
 |@cons p q ps qs h t ih=>
  obtain⟨h1,_,h2⟩:=h
  by_cases e:p.1=k
  ·have e':q.1=k:=h1.symm.trans e;have b:atKey (q::qs) k=some q.2:=by simp[atKey,Qa,e']
   rw[zlg e,b];exact h2
  ·have e':¬q.1=k:=fun z=>e (h1.trans z);have b:atKey (q::qs) k=atKey qs k:=by simp[atKey,Qa,e']
   rw[zlv e,b];exact ih
theorem KNp.put{kvs:List N3}{xs:List (K2×Addr×kB)}(r:KNp kvs xs)(k:K2){b:Addr}{y:V}{u:kB}(ry:RelV y u):KNp (putN kvs k b y) (Co xs k b u):=by
 have e:(valN kvs k).isSome=(atKey xs k).isSome:=by rw[(r.val k).isSome_eq,vp]
 unfold putN Co;rw[e]
 by_cases q:(atKey xs k).isSome=true
 ·rw[if_pos q,if_pos q];unfold KNp at*;clear e q
  induction r with
  |nil=>exact .nil
  |@cons p q ps qs h t ih=>
   rw[ki,ki];refine .cons ?_ ih;obtain⟨h1,h2,h3⟩:=h;unfold putAt
   by_cases e:p.1=k
   ·rw[if_pos e,if_pos (h1.symm.trans e)];exact⟨h1,h2,ry⟩
   ·rw[if_neg e,if_neg (fun z=>e (h1.trans z))];exact⟨h1,h2,h3⟩
 ·rw[if_neg q,if_neg q];exact DT r ⟨rfl,rfl,ry⟩
theorem KNp.keys{kvs:List N3}{xs:List (K2×Addr×kB)}(r:KNp kvs xs):xs.map (·.1)=kvs.map (·.1)/\xs.map (fun q=>q.2.1)=kvs.map (fun p=>p.2.1):=by
 unfold KNp at r
 induction r with
 |nil=>exact⟨rfl,rfl⟩
 |cons h _ ih=>rw[ki,ki,ki,ki,ih.1,ih.2,h.1,h.2.1];exact⟨rfl,rfl⟩
section
variable{P:kq}{w:pX}{H:Hp}{h:Heap}{a:Addr}{kvs:List N3}
theorem nd_rd(ok:HOk P w H h)(e:Rd H a (nD P w a kvs))(kn:KN H kvs):kvs.length<=sizeLine/\(a==Qr)=false/\∃xs,KNp kvs xs/\h.DictOfH (zem (zac P w)) a xs:=by
 obtain⟨⟨hd,z,nd,xs,r,o,es,ep,h1,h2,h3,h4⟩,_⟩:=(show zdf P w H h a (nD P w a kvs) from e.ok ok);refine⟨z,hd,xs,r,o,es,ep,h1,h2,h3,h4,fun x hx=>?_,by rw[r.keys.1];exact nd⟩
 have all:∀{l:List N3}{m:List (K2×Addr×kB)},KNp l m->(∀p,p∈l->NK H p.2.1 p.1)->∀x∈m,(zem (zac P w)).is h x.1 x.2.1:=by
  intro l m q;unfold KNp at q
  induction q with
  |nil=>intro _ x hx;exact nomatch hx
  |@cons p q ps qs hq t ih=>
   intro hl x hx;rcases pF.mp hx with e|hx
   ·subst e;rw[←hq.1,←hq.2.1];exact zid ok (hl p (by simp))
   ·exact ih (fun p hp=>hl p (kT _ hp)) x hx
 exact all r kn x hx
theorem nd_ok{H':Hp}{h':Heap}{xs:List (K2×Addr×kB)}(z:kvs.length<=sizeLine)(hd:(a==Qr)=false)(nd:(kvs.map (·.1)).Nodup)(r:KNp kvs xs)(dd:h'.DictOfH (zem (zac P w)) a xs):zdf P w H' h' a (nD P w a kvs):=by
 obtain⟨o,es,ep,h1,h2,h3,h4,_⟩:=dd;refine⟨⟨hd,z,nd,xs,r,o,es,ep,h1,h2,h3,h4⟩,⟨o,h1⟩,?_⟩;rintro k1 k2 ⟨hd,z,nd,xs,r,o,es,ep,h1,h2,h3,h4⟩ k;exact⟨hd,z,nd,xs,r,o,es,ep,k _ h1,h2,h3,h4⟩
end
def zgf(P:kq)(w:pX)(ty td:TE):TE:=fun σ H Q=>ty σ H fun y H1=>td σ H1 fun x H2=>∃a kvs b k,x=.ref a/\y=.ref b/\Rd H2 a (nD P w a kvs)/\KN H2 kvs/\NK H2 b k/\Q (.bl (!(valN kvs k).isSome)) H2
def sNPut(P:kq)(w:pX)(td ty tv:TE):TS:=fun D σ H=>tv σ H fun v H1=>td σ H1 fun x H2=>ty σ H2 fun y H3=>∃a kvs b k,x=.ref a/\y=.ref b/\H3 a=some (nD P w a kvs)/\KN H3 kvs/\NK H3 b k/\kvs.length<sizeLine/\D.nx σ (upd H3 a (nD P w a (putN kvs k b v)))
def tNNew(P:kq)(w:pX):TE:=fun _ H Q=>∀p,H p=none->Q (.ref p) (upd H p (nD P w p []))
section
variable{X:Cx}{P:kq}{w:pX}{o i e value:Expr}{pos pos' tpos:Pos}{td ty tv:TE}
theorem zkc(hP:X.prog=P)(hw:X.w=w):PE X (.Dict [] [] pos) (tNNew P w):=fun pins s σ H Q I h=>by
 subst hP hw;exact DI ⟨.ref s.heap.objs.size,_,I.laid (a:=s.heap.objs.size) (o:=nD X.prog X.w s.heap.objs.size []) (t':=s.toks) (fun _ _ q=>kN _ q) (kJ _)
  (nd_ok (pY _) (beq_eq_false_iff_ne.mpr (jP (uH I.big))) vG .nil (Heap.DictOfH.new s.heap)),rfl,h _ (I.hok.fresh (kJ _))⟩
theorem zfa(hP:X.prog=P)(hw:X.w=w)(hu:X.A.units+64<cLine)(hi:PE X i ty)(ho:PE X o td):PC X .NotIn i o (zgf P w ty td):=by
 subst hP hw;intro pins s σ H Q I h;refine thn (hi pins s σ H _ I h) fun iv s1⟨y,H1,I1,ry,q1⟩=>thn (ho pins s1 σ H1 _ I1 q1) fun u s2⟨x,H2,I2,rx,a,kvs,b,k,ex,ey,e,kn,nk,q2⟩=>?_;subst ex ey;obtain rfl:u=kZ a:=rx;obtain rfl:iv=kZ b:=ry;obtain⟨z,hd,xs,rel,dd⟩:=nd_rd I2.hok e kn;refine DH (zjd (by omega)) (zid I2.hok nk) hd dd ?_
 have q:=(rel.val k).isSome_eq;rw[vp] at q;rw[←q];exact⟨.bl _,H2,I2.tok _,rfl,q2⟩
theorem zke(hP:X.prog=P)(hw:X.w=w)(hu:X.A.units+64<cLine)(ho:PE X o td)(hi:PE X i ty)(hv:PE X value tv)(hs:CF value (some (.Subscript o i pos')) pos.line X.env=pure false):
  PS X (.Assign [.Subscript o i pos'] value pos) (sNPut P w td ty tv):=by
 subst hP hw;intro pins s σ H D I h;refine BJ (thn (hv pins s σ H _ I h) fun r s1⟨v,H1,I1,rv,q1⟩=>thn (ho pins s1 σ H1 _ I1 q1) fun u s2⟨x,H2,I2,rx,q2⟩=>thn (hi pins s2 σ H2 _ I2 q2) fun iv s3⟨y,H3,I3,ry,a,kvs,b,k,ex,ey,e,kn,nk,l,q3⟩=>?_) hs;subst ex ey;obtain rfl:u=kZ a:=rx;obtain rfl:iv=kZ b:=ry;obtain⟨z,hd,xs,rel,dd⟩:=nd_rd I3.hok (.inl e) kn;have hz:xs.length<=sizeLine:=by rw[←ve rel];exact z
 have hl:(putN kvs k b v).length<=sizeLine:=by have:=zg9 kvs k b v;omega
 obtain⟨⟨_,_,nd,_⟩,_⟩:=I3.hok a _ e;refine CV (hsz:=hz) (zjd (by omega)) (zid I3.hok nk) dd fun h' dd' hs=>⟨σ,_,?_,q3⟩
 have he:∃q,h'.get? a=some q:=let⟨q,_,_,hq,_⟩:=dd';⟨q,hq⟩;exact zfu I3 (by rw[e];exact jA) hs he (nd_ok hl hd (zho nd) (rel.put k rv) dd')
end
def Itf(d:Addr)(o:Obj)(u:HO)(bs:List Addr):It:=
 ⟨fun i H=>i<bs.length/\H d=some (.frz o u),fun i H x H'=>H'=H/\∃b,bs[i]?=some b/\x=.ref b,fun i H=>bs.length<=i/\H d=some (.frz o u)⟩
theorem zmy{P:kq}{w:pX}{K:kM}{tg:Expr}{d it:Addr}{o:Obj}{u:HO}{es:Array At}{ep:Nat}{bs:List Addr}(hd:o.data=.dict es ep)(hb:es.toList.map (·.key)=bs.map kZ):
  Turn P w K tg (Itf d o u bs) [it] it (fun i h=>h.IsKeyIter it d i es.size ep) where
 mem:=by simp
 obj:=fun i h st b z=>by
  rw[kU.mp z];obtain⟨u,e,_,c⟩:=st;exact⟨u,e,fun v y=>by rw[c] at y;cases y⟩
 keep:=fun i h h' st k=>by
  obtain⟨u,e,c⟩:=st;exact⟨u,k it (by simp) u e,c⟩
 item:=by
  intro X hP hw hK hc i pins s σ H E I hf st hg;subst hP hw hK;obtain⟨f0,f1,f2,f3,f4,f5⟩:=hf it (by simp)
  have lb:es.size=bs.length:=by
   have:=congrArg Ab hb
   simpa using this
  have hi:i<es.size:=by rw[lb];exact hg.1
  have od:=(I.hok d _ hg.2).1;refine zm5 st od hd hi fun h' st' sb=>?_;have I1:Inv X pins σ H {s with heap:=h'}:=I.turned (t':=s.toks) (fun b o hb e=>(sb.2 b hb).trans e) f0 f1 f3 f4 f5;have hib:i<bs.length:=hg.1;have ek:es[i].key=.ref bs[i]:=by
   have z:=congrArg (fun l=>l[i]?) hb;simp only[pS,UD,uV hi,kI hib,QL,vn] at z;exact z
  obtain⟨u,e,c,dd⟩:=id st';exact⟨_,rfl,go_of (s:={s with heap:=h'}) e c dd (by decide) ⟨.ref bs[i],H,I1,ek,⟨rfl,bs[i],kI hib,rfl⟩,st',fun b z=>(hf b z).1⟩⟩
 done:=by
  intro X hP hw hK hc i pins s σ H E I hf st hg;subst hP hw hK;obtain⟨f0,f1,f2,f3,f4,f5⟩:=hf it (by simp)
  have lb:es.size=bs.length:=by
   have:=congrArg Ab hb
   simpa using this
  exact zpv (I.ok.hd hc) st (I.hok d _ hg.2).1 hd (by rw[lb];exact hg.1) fun h' eb=>⟨rfl,I.turned (t':=s.toks) (fun b o z e=>eb b o z e) f0 f1 f3 f4 f5⟩
 self:=fun A i s Q E st h=>wpAny_pyIter_keyiter st h
section
variable{X:Cx}{tg:Expr}{pins:List (Addr×Obj)}{σ:St}{H:Hp}{s:kC}{P:kq}{w:pX}
theorem Inv.freezeN{d:Addr}{o:Obj}{kvs:List N3}(I:Inv X pins σ H s)(e:H d=some (nD P w d kvs))(ho:s.heap.get? d=some o):Inv X pins σ (upd H d (.frz o (nD P w d kvs))) s:=by
 have ne:∀b u,H b=some u->u≠nD P w d kvs->b≠d:=fun b u q n z=>by rw[z,e] at q;cases q;exact n rfl
 have J:=I.step (g':=s.gens) (d':=s.drawn) (t':=s.toks) (h':=s.heap) (H':=upd H d (.frz o (nD P w d kvs))) (ch:=[]) (fun _ z=>nomatch z) (fun b u _ _ _ q _=>q) (fun b u _ _ _ q _=>⟨u.slots,q⟩) (fun b u _ _ n=>by rw[za6 fun z=>by rw[z,e] at n;cases n];exact n)
  (fun b u _ q=>⟨u,q⟩) (fun b xs q=>by rw[za6 (ne b _ q fun z=>nomatch z)];exact q) (fun b u v q=>by rw[za6 (ne b _ q fun z=>nomatch z)];exact q) (fun b ps q=>⟨#[],by rw[za6 (ne b _ q fun z=>nomatch z),q];simp⟩) (fun m hm=>hm) (fun b u q=>?_) I.bare
 ·exact J
 ·by_cases z:b=d
  ·subst z;rw[upd_same] at q
   cases q;refine⟨ho,((I.hok b _ e).stay (fun c v _ r=>r) (fun c r=>?_) fun c xs r=>?_)⟩
   ·rw[za6 (ne c _ r fun z=>nomatch z)];exact r
   ·rw[za6 (ne c _ r fun z=>nomatch z)];exact r
  ·rw[za6 z] at q;refine(I.hok b u q).stay (fun c v _ r=>r) (fun c r=>?_) fun c xs r=>?_
   ·rw[za6 (ne c _ r fun z=>nomatch z)];exact r
   ·rw[za6 (ne c _ r fun z=>nomatch z)];exact r
def iDictN(P:kq)(w:pX)(td:TE):TI:=fun σ H R=>td σ H fun x H1=>∃d kvs,x=.ref d/\H1 d=some (nD P w d kvs)/\∀o,R (Itf d o (nD P w d kvs) (kvs.map fun p=>p.2.1)) (upd H1 d (.frz o (nD P w d kvs)))
theorem pi_dictN{l:Expr}{tl:TE}(hP:X.prog=P)(hw:X.w=w)(hl:PE X l tl):PI X tg l (iDictN P w tl):=by
 subst hP hw;intro pins s σ H R I h;refine thn (hl pins s σ H _ I h) fun v s1⟨x,H1,I1,r1,q1⟩=>?_;obtain⟨d,kvs,rfl,e,q⟩:=q1
 cases r1;obtain⟨⟨hd,z,nd,xs,rel,o,es,ep,ho,hx,hdat,he⟩,_⟩:=I1.hok d _ e;have hk:es.toList.map (·.key)=(kvs.map fun p=>p.2.1).map kZ:=by
  rw[he,Ud,←rel.keys.2,Ud];rfl
 have F:=I1.freezeN e ho;have nw:∀b o',s1.heap.get? b=some o'->(s1.heap.push {cls:=.type "dict_keyiterator",data:=.fields #[.ref d,.int 0 0,.int es.size 0,.int ep 0]}).get? b=some o':=fun b o' e'=>kN _ e';refine zor hd ho hx.1 hdat ⟨s1.heap.objs.size,[s1.heap.objs.size],_,Itf d o (nD X.prog X.w d kvs) (kvs.map fun p=>p.2.1),_,rfl,F.kept (t':=s1.toks) nw,zmy hdat hk,⟨_,pJ _ rfl,rfl,rfl⟩,fun b hb=>?_,q o⟩;rw[kU.mp hb];exact F.fpOk (kJ _) (F.hok.fresh (kJ _))
end
theorem zmn{d D:Addr}{o:Obj}{u:HO}{bs:List Addr}{g:TG}{ti:TT}{te:TE}{σ':St}{H:Hp}{Q:VK}(Pv:Nat->List V->Hp->Prop)(h0:Pv 0 [] (upd H D (.lst [])))(hl:∀i ys H,Pv i ys H->H d=some (.frz o u))
  (hs:∀i ys H b,bs[i]?=some b->Pv i ys H->g (.ref b) σ' H fun σ4 H4=>ti σ4 H4 fun b H5=>if b=true then te σ4 H5 fun y H6=>CPut bs.length Pv D i y H6 else CSkip bs.length Pv i H5)
  (hd:∀ys H,Pv bs.length ys H->Q (.ref D) H):CompW (Itf d o u bs) D g ti te σ' H Q:=by
 refine zno bs.length Pv h0 (fun i ys H hi p=>⟨hi,hl i ys H p⟩) (fun ys H p=>⟨kJ _,hl _ ys H p⟩) (fun i ys H x H3 hi p y=>?_) hd;obtain⟨e,b,hb,ex⟩:=y;subst e ex;exact hs i ys _ b hb p
def gallop':Bool->ke->Array ke->Nat->Nat->Nat->StateT uZ Sem (Option Nat):=sortPriv%PySem.Builtin.gallop
def mergeLo':Array ke->Array ke->StateT uZ Sem (Array ke):=sortPriv%PySem.Builtin.mergeLo
def mergeHi':Array ke->Array ke->StateT uZ Sem (Array ke):=sortPriv%PySem.Builtin.mergeHi
section
variable{prog:kq}{w:pX}{A:pj}{E:kB->kC->Prop}{s:kC}{a₀:Array ke}{κ:QM}
theorem zal{arr:Array ke}{i:Nat}{st:uZ}{Q:ke->uZ->Prop}(h:i<arr.size)(q:Q arr[i] st):wpS (model prog w) A E s (elem' arr i) Q st:=by
 rw[elem'_eq,uV h];exact kG q
end
section
variable{prog:kq}{w:pX}{A:pj}{E:kB->kC->Prop}{s:kC}{a₀:Array ke}{κ:QM}
def Prm(a b out:Array ke)(ia ib:Nat):Prop:=(out.toList++(a.toList.drop ia++b.toList.drop ib)).Perm (a.toList++b.toList)/\ia<=a.size/\ib<=b.size
theorem zb5(a:Array ke)(i j:Nat):(a.extract i j).toList=(a.toList.drop i).take (j-i):=by simp
theorem zec(a:Array ke)(i:Nat):(a.extract i).toList=a.toList.drop i:=by
 rw[zb5];exact kX (by rw[kj,kc];omega)
theorem zh1(a:Array ke)(i k:Nat):(a.extract i (i+k)).toList=(a.toList.drop i).take k:=by rw[zb5,Nat.add_sub_cancel_left]
theorem prm_done{a b out:Array ke}{ia ib:Nat}(h:Prm a b out ia ib):(out++a.extract ia++b.extract ib).toList.Perm (a.toList++b.toList):=by
 rw[ku,ku,zec,zec,pL];exact h.1
theorem prm_last{a b out:Array ke}{ia ib:Nat}(h:Prm a b out ia ib):(out++b.extract ib++a.extract ia).toList.Perm (a.toList++b.toList):=by
 rw[ku,ku,zec,zec,pL];exact(ug _ QU).trans h.1
theorem prm_b{a b out:Array ke}{ia ib:Nat}(h:Prm a b out ia ib)(k:Nat)(hk:ib+k<=b.size):Prm a b (out++b.extract ib (ib+k)) ia (ib+k):=by
 refine⟨?_,h.2.1,hk⟩;rw[ku,zh1,pL];refine(ug _ ?_).trans h.1;have e2:b.toList.drop ib=(b.toList.drop ib).take k++b.toList.drop (ib+k):=by rw[←UL,uE]
 generalize b.toList.drop (ib+k)=t at*;generalize (b.toList.drop ib).take k=u at*;rw[e2,←pL,←pL];exact List.perm_append_comm.append_right _
theorem prm_a{a b out:Array ke}{ia ib:Nat}(h:Prm a b out ia ib)(k:Nat)(hk:ia+k<=a.size):Prm a b (out++a.extract ia (ia+k)) (ia+k) ib:=by
 refine⟨?_,hk,h.2.2⟩;rw[ku,zh1,pL,←pL ((a.toList.drop ia).take k),←UL,uE];exact h.1
theorem zg3(out a:Array ke)(i:Nat)(h:i<a.size):out.push a[i]=out++a.extract i (i+1):=by
 apply jD.mp
 rw[ku,zh1,Ae]
 congr 1
 have h':i<a.toList.length:=by simpa using h
 rw[QF h']
 simp
theorem prm_b1{a b out:Array ke}{ia ib:Nat}(h:Prm a b out ia ib)(hk:ib<b.size):Prm a b (out.push b[ib]) ia (ib+1):=by rw[zg3];exact prm_b h 1 hk
theorem prm_0{a b:Array ke}(hb:0<b.size):Prm a b #[b[0]] 0 1:=by
 have h:Prm a b #[] 0 0:=⟨by simp,pY _,pY _⟩
 exact prm_b1 h hb
abbrev gSt(st:uZ)(g:Nat):uZ:=hV (kindOf st) (arrOf st) (pQ st) g (vC st)
end
section
variable{prog:kq}{w:pX}{A:pj}{E:kB->kC->Prop}{s:kC}{a₀:Array ke}{κ:QM}
def PrmH(a b out:Array ke)(na nb:Nat):Prop:=((a.toList.take na++b.toList.take nb)++out.toList).Perm (a.toList++b.toList)/\na<=a.size/\nb<=b.size
theorem zix(a:Array ke)(n:Nat):(a.extract 0 n).toList=a.toList.take n:=by rw[zb5,vE,EK]
theorem zoa{a b out:Array ke}{na nb:Nat}(h:PrmH a b out na nb):(a.extract 0 na++b.extract 0 nb++out.reverse).toList.Perm (a.toList++b.toList):=by
 rw[ku,ku,zix,zix,QZ];exact(ug _ (jk _)).trans h.1
theorem zmx{a b out:Array ke}{na nb:Nat}(h:PrmH a b out na nb):(b.extract 0 nb++a.extract 0 na++out.reverse).toList.Perm (a.toList++b.toList):=by
 rw[ku,ku,zix,zix,QZ];exact(List.Perm.append QU (jk _)).trans h.1
theorem zl9{l:List ke}{k n:Nat}(h:k<=n):l.take n=l.take k++(l.drop k).take (n-k):=by
 rw[←uE k (l.take n),AN,Qd h,jl]
theorem prmh_a{a b out:Array ke}{na nb:Nat}(h:PrmH a b out na nb)(k:Nat)(hk:k<=na):PrmH a b (out++(a.extract k na).reverse) k nb:=by
 refine⟨?_,pV hk h.2.1,h.2.2⟩;refine gc ?_ h.1;rw[ku,QZ,zb5,zl9 hk];generalize a.toList.take k=x;generalize (a.toList.drop k).take (na-k)=y;generalize b.toList.take nb=z;generalize out.toList=o;have:(o++y.reverse).Perm (y++o):=(ug _ (jk _)).trans QU;refine(ug _ this).trans ?_;rw[pL,pL,pL];refine ug _ ?_;rw[←pL,←pL];exact List.Perm.append_right _ QU
theorem prmh_b{a b out:Array ke}{na nb:Nat}(h:PrmH a b out na nb)(k:Nat)(hk:k<=nb):PrmH a b (out++(b.extract k nb).reverse) na k:=by
 refine⟨?_,h.2.1,pV hk h.2.2⟩;refine gc ?_ h.1;rw[ku,QZ,zb5,zl9 hk];generalize b.toList.take k=x;generalize (b.toList.drop k).take (nb-k)=y;generalize a.toList.take na=z;generalize out.toList=o;have:(o++y.reverse).Perm (y++o):=(ug _ (jk _)).trans QU;refine(ug _ this).trans ?_;rw[pL,pL,pL]
theorem zhs(out a:Array ke)(n:Nat)(h0:0<n)(h:n-1<a.size):out.push a[n-1]=out++(a.extract (n-1) n).reverse:=by
 obtain⟨m,rfl⟩:∃m,n=m+1:=⟨n-1,by omega⟩
 have e:=zg3 out a m h;simp only[vW] at*;rw[e]
 congr 1
 apply jD.mp
 have h':m<a.toList.length:=by simpa using h
 rw[QZ,zh1,QF h']
 simp
theorem prmh_a1{a b out:Array ke}{na nb:Nat}(h:PrmH a b out na nb)(h0:0<na):PrmH a b (out.push (a[na-1]'(by have:=h.2.1;omega))) (na-1) nb:=by rw[zhs _ _ _ h0];exact prmh_a h (na-1) (by omega)
theorem prmh_0{a b:Array ke}(ha:0<a.size):PrmH a b #[a[a.size-1]] (a.size-1) b.size:=by
 have h:PrmH a b #[] a.size b.size:=⟨by rw[kX (by simp),kX (by simp)];simp,kJ _,kJ _⟩
 exact prmh_a1 h ha
end
section
variable{prog:kq}{w:pX}{A:pj}{E:kB->kC->Prop}{s:kC}{a₀:Array ke}{κ:QM}
theorem zk4(sa:Nat):∀(l:List ke)(k:Nat)(a:Array ke),sa+k+l.length<=a.size->((l.zipIdx k).foldl (fun a(x:ke×Nat)=>match x with|(p,j)=>a.setIfInBounds (sa+j) p) a).toList=a.toList.take (sa+k)++l++a.toList.drop (sa+k+l.length)
 |[],k,a,_=>by simp
 |p::l,k,a,h=>by
  rw[List.zipIdx_cons,List.foldl_cons];have hk:sa+k<a.toList.length:=by simp only[uD] at h;rw[kc];omega
  have:=zk4 sa l (k+1) (a.setIfInBounds (sa+k) p) (by rw[Array.size_setIfInBounds];simp only[uD] at h;omega)
  rw[this,Array.toList_setIfInBounds];have e1:(a.toList.set (sa+k) p).take (sa+(k+1))=a.toList.take (sa+k)++[p]:=by
   rw[show sa+(k+1)=sa+k+1 by omega,uC,List.take_set_of_le (kJ _),vQ hk]
   rfl
  have e2:(a.toList.set (sa+k) p).drop (sa+(k+1)+l.length)=a.toList.drop (sa+k+(p::l).length):=by
   rw[List.drop_set_of_lt (by omega),uD]
   congr 1
   omega
  rw[e1,e2]
  simp[pL]
theorem zgw{a m:Array ke}{sa sb nb:Nat}(h1:sa<=sb)(h2:sb+nb<=a.size)(hm:m.toList.Perm ((a.extract sa sb).toList++(a.extract sb (sb+nb)).toList)):
  (m.toList.zipIdx.foldl (fun a(x:ke×Nat)=>match x with|(p,j)=>a.setIfInBounds (sa+j) p) a).Perm a:=by
 have lm:m.toList.length=sb+nb-sa:=by
  rw[hm.length_eq,kK,zb5,zb5,kY,kY,kj,kj,kc];omega
 apply Array.perm_iff_toList_perm.mpr
 rw[zk4 sa m.toList 0 a (by omega),BQ]
 have e:a.toList=a.toList.take sa++((a.toList.drop sa).take (sb-sa)++(a.toList.drop sb).take nb)++a.toList.drop (sa+m.toList.length):=by
  rw[lm,show sa+(sb+nb-sa)=sb+nb by omega]
  have x1:(a.toList.drop sb).take nb++a.toList.drop (sb+nb)=a.toList.drop sb:=by rw[←UL,uE]
  have x2:(a.toList.drop sa).take (sb-sa)++a.toList.drop sb=a.toList.drop sa:=by
   have:a.toList.drop sb=(a.toList.drop sa).drop (sb-sa):=by rw[UL,show sa+(sb-sa)=sb by omega]
   rw[this,uE]
  rw[pL,pL,x1,x2,uE]
 rw[zb5,zh1] at hm;refine gc ((ug _ hm).append_right _) ?_;rw[←e]
theorem zhw{a:Array ke}{i j:Nat}{x:ke}(h:x∈a.extract i j):x∈a:=by
 have:x∈(a.extract i j).toList:=By.mpr h;rw[zb5] at this;exact Array.mem_toList_iff.mp (Uv (Qw this))
theorem wpS_set{st st':uZ}{Q:PUnit->uZ->Prop}(h:Q ⟨⟩ st'):wpS (model prog w) A E s (set st':StateT uZ Sem PUnit) Q st:=by
 unfold wpS;rw[StateT.run_set];exact kF ⟨rfl,h⟩
abbrev pSt(st:uZ)(xs:Array ke)(p:Array (Nat×Nat×Nat))(g:Nat):uZ:=hV (kindOf st) xs p g (vC st)
end
def Cov:List (Nat×Nat×Nat)->Nat->Nat->Prop
 |[],b,e=>b=e
 |(a,n,_)::r,b,e=>a=b/\0<n/\Cov r (b+n) e
theorem Cov.le:∀{l:List (Nat×Nat×Nat)}{b e:Nat},Cov l b e->b<=e
 |[],b,e,h=>Qp h
 |(a,n,_)::r,b,e,h=>pV (Nat.le_add_right _ _) (Cov.le h.2.2)
theorem Cov.push:∀{l:List (Nat×Nat×Nat)}{b e n p:Nat},Cov l b e->0<n->Cov (l++[(e,n,p)]) b (e+n)
 |[],b,e,n,p,h,hn=>by
  have h:b=e:=h;subst h;exact⟨rfl,hn,rfl⟩
 |(a,m,q)::r,b,e,n,p,h,hn=>⟨h.1,h.2.1,Cov.push h.2.2 hn⟩
theorem Cov.at:∀{l:List (Nat×Nat×Nat)}{b e i a n p a' n' p':Nat},Cov l b e->l[i]?=some (a,n,p)->l[i+1]?=some (a',n',p')->a'=a+n/\0<n/\0<n'/\a+n+n'<=e/\Cov ((l.set i (a,n+n',p)).eraseIdx (i+1)) b e
 |(x,m,q)::(x',m',q')::r,b,e,0,a,n,p,a',n',p',h,e1,e2=>by
  cases e1;cases e2;obtain⟨h1,h2,h3,h4,h5⟩:=h;have:=Cov.le h5;refine⟨by omega,h2,h4,by omega,h1,by omega,?_⟩
  rw[←vB];exact h5
 |(x,m,q)::r,b,e,i+1,a,n,p,a',n',p',h,e1,e2=>by
  obtain⟨h1,h2,h3⟩:=h;obtain⟨g1,g2,g3,g4,g5⟩:=Cov.at h3 (by simpa using e1) (by simpa using e2)
  exact⟨g1,g2,g3,g4,h1,h2,g5⟩
 |[],b,e,i,a,n,p,a',n',p',h,e1,e2=>by cases i<;>cases e1
 |[_],b,e,0,a,n,p,a',n',p',h,e1,e2=>by simp at e2
theorem Cov.power(w:Nat):∀{l:List (Nat×Nat×Nat)}{b e i:Nat},Cov l b e->Cov (l.modify i fun x=>(x.1,x.2.1,w)) b e
 |[],b,e,i,h=>by cases i<;>exact h
 |(x,m,q)::r,b,e,0,h=>h
 |(x,m,q)::r,b,e,i+1,h=>⟨h.1,h.2.1,Cov.power w h.2.2⟩
section
variable{prog:kq}{w:pX}{A:pj}{E:kB->kC->Prop}{s:kC}{a₀:Array ke}{κ:QM}
def SIv(a₀:Array ke)(κ:QM)(lo:Nat)(st:uZ):Prop:=(arrOf st).Perm a₀/\kindOf st=κ/\vC st=none/\Cov (pQ st).toList 0 lo/\lo<=a₀.size
theorem ite_lt{c:Prop}[Decidable c]{x y z:Nat}(h1:x+1<z)(h2:y+1<z):(if c then x else y)+1<z:=by
 by_cases h:c
 ·rw[if_pos h];exact h1
 ·rw[if_neg h];exact h2
theorem push_iv{lo n:Nat}{st:uZ}(iv:SIv a₀ κ lo st)(hn:0<n)(hz:lo+n<=a₀.size):SIv a₀ κ (lo+n) (CZ st ((pQ st).push (lo,n,0))):=by
 obtain⟨h1,h2,h3,h4,h5⟩:=iv;refine⟨h1,h2,h3,?_,hz⟩;show Cov ((pQ st).push (lo,n,0)).toList 0 (lo+n);rw[Ae];exact h4.push hn
theorem power_iv{lo j w:Nat}{st:uZ}(iv:SIv a₀ κ lo st):SIv a₀ κ lo (CZ st ((pQ st).modify j fun x=>(x.1,x.2.1,w))):=by
 obtain⟨h1,h2,h3,h4,h5⟩:=iv;refine⟨h1,h2,h3,?_,h5⟩;show Cov ((pQ st).modify j fun x=>(x.1,x.2.1,w)).toList 0 lo;rw[CK];exact h4.power w
end
open PySem.W (kas_sort kas_ask)
open PySem.W (KasT kas_asc kas_desc kas_rev kas_tail3 kas_descPart kas_count kas_place kas_bin kas_sort)
structure Wk(ans:Nat->Nat->Bool):Prop where
 irr:∀i,ans i i=false
 tr:∀i j k,ans i j=true->ans j k=true->ans i k=true
 cut:∀i j k,ans i j=false->ans j k=false->ans i k=false
open PySem.W (kla_fn kla_obj envX tabObj CodeHd)
open PySem.W (kla_fn kla_obj envX tabObj CodeHd KasT kas_sort kas_ask)
open PySem.W (kla_fn kla_obj envX tabObj CodeHd KasT kas_sort kas_ask kas_item)
section
variable{prog:kq}{w:pX}{A:pj}{E:kB->kC->Prop}{s:kC}{vs ks:List kB}{g:Heap}{a kS:Addr}{e e1:Nat}{f:kB}
theorem zld{x:ke}(h:x∈ks.toArray.zip vs.toArray):x.1∈ks:=by
 have h:x∈(ks.toArray.zip vs.toArray).toList:=By.mpr h;rw[DL] at h;exact(gX h).1
end
structure WkT{α:Type}(an:α->α->Bool):Prop where
 irr:∀i,an i i=false
 tr:∀i j k,an i j=true->an j k=true->an i k=true
 cut:∀i j k,an i j=false->an j k=false->an i k=false
theorem WkT.asymm{α:Type}{an:α->α->Bool}(T:WkT an){a b:α}(h:an a b=true):an b a=false:=by
 cases e:an b a with
 |false=>rfl
 |true=>have:=T.tr _ _ _ h e;rw[T.irr] at this;cases this
def UpL{α:Type}(an:α->α->Bool)(l:List α):Prop:=l.Pairwise fun x y=>an y x=false
section
variable{prog:kq}{w:pX}{A:pj}{E:kB->kC->Prop}{s:kC}{a₀:Array ke}{κ:QM}{an:ke->ke->Bool}
def QR(prog:kq)(w:pX)(A:pj)(E:kB->kC->Prop)(s:kC)(κ:QM)(a₀:Array ke)(an:ke->ke->Bool):Prop:=
 ∀(x y:ke)(st:uZ)(Q:Option Bool->uZ->Prop),x∈a₀->y∈a₀->kindOf st=κ->Q (some (an x y)) st->wpS (model prog w) A E s (lt' x y) Q st
theorem zow(hq:QR prog w A E s κ a₀ an){left:Bool}{key:ke}{arr:Array ke}{base n hint:Nat}{st:uZ}{Q:Option Nat->uZ->Prop}(hk:key∈a₀)(ha:∀x,x∈arr->x∈a₀)(hb:base+n<=arr.size)(hh:hint<n)(hκ:kindOf st=κ)
  (be:Nat->Bool)(hbe:∀i(h:base+i<arr.size),i<n->be i=if left=true then an arr[base+i] key else !an key arr[base+i])(mono:∀i j,i<j->j<n->be j=true->be i=true)
  (h:∀k,k<=n->(∀i,i<k->be i=true)->(∀i,k<=i->i<n->be i=false)->Q (some k) st):
  wpS (model prog w) A E s (gallop' left key arr base n hint) Q st:=by
 have bey:∀(i:Nat)(Q:Option Bool->uZ->Prop),i<n->Q (some (be i)) st->wpS (model prog w) A E s ((do let x ←elem' arr (base+i);if left then lt' x key else return(←lt' key x).map (!·)):StateT uZ Sem (Option Bool)) Q st:=by
  intro i Q hi hQ;refine kH (zal (by omega) ?_)
  have hx:arr[base+i]∈a₀:=ha _ (Qm _);have e:=hbe i (by omega) hi
  cases left with
  |true=>
   rw[if_pos rfl] at e;exact hq _ _ _ _ hx hk hκ (by rw[←e];exact hQ)
  |false=>
   rw[if_neg (by decide)] at e
   exact kH (hq _ _ _ _ hk hx hκ (kG (by show Q (some (!an key arr[base+i])) st;rw[←e];exact hQ)))
 have mono':∀i j,i<=j->j<n->be i=false->be j=false:=fun i j hij hj hi=>by
  cases e:be j with
  |false=>rfl
  |true=>
   rcases Qu hij with z|z
   ·rw[mono i j z hj e] at hi;cases hi
   ·rw[z,e] at hi;cases hi
 have monoT:∀i j,i<=j->j<n->be j=true->be i=true:=fun i j hij hj hi=>by
  rcases Qu hij with z|z
  ·exact mono i j z hj hi
  ·rw[z];exact hi
 refine kH (bey hint _ hh ?_)
 cases er:be hint with
 |true=>
  show wpS _ _ _ _ (_>>=_) _ _
  refine kH (Qj (uN (I:=fun x(c:Option (Option Nat)×Nat×Nat) st'=>st=st'/\c.1=none/\c.2.1<c.2.2/\hint+c.2.1<n/\be (hint+c.2.1)=true/\x+1<=c.2.2) (Q:=fun c st'=>st=st'/\c.1=none/\c.2.1<c.2.2/\hint+c.2.1<n/\be (hint+c.2.1)=true/\(n-hint<=c.2.2∨(hint+c.2.2<n/\be (hint+c.2.2)=false))) ?_ ?_ ⟨rfl,rfl,Ba,hh,er,kJ _⟩) ?_)
  ·rintro x ⟨r,lastofs,ofs⟩ st' _ hx ⟨rfl,e,q1,q2,q3,q4⟩;dsimp only at e q1 q2 q3 q4⊢
   by_cases c:ofs≥n-hint
   ·rw[if_pos c];exact kG ⟨rfl,rfl,q1,q2,q3,.inl c⟩
   ·rw[if_neg c];refine kH (bey (hint+ofs) _ (by omega) ?_)
    cases eb:be (hint+ofs) with
    |true=>exact kG ⟨rfl,rfl,(by show ofs<2*ofs+1;omega),(by show hint+ofs<n;omega),eb,(by show x+1+1<=2*ofs+1;omega)⟩
    |false=>exact kG ⟨rfl,rfl,q1,q2,q3,.inr ⟨(by show hint+ofs<n;omega),eb⟩⟩
  ·rintro⟨r,lastofs,ofs⟩ st' ⟨rfl,e,q1,q2,q3,q4⟩;dsimp only at e q1 q2 q3 q4⊢;exact⟨rfl,e,q1,q2,q3,.inl (by omega)⟩
  ·rintro⟨r,lastofs,ofs⟩ st' ⟨rfl,e,q1,q2,q3,q4⟩;dsimp only at e q1 q2 q3 q4⊢;subst e;have h3:∀i,i<hint+lastofs+1->be i=true:=fun i hi=>monoT i _ (by omega) q2 q3
   have h4:∀i,hint+min ofs (n-hint)<=i->i<n->be i=false:=fun i hi hn=>by
       rcases q4 with z|⟨z1,z2⟩
       ·omega
       ·exact mono' (hint+ofs) i (by omega) hn z2
   have h1:hint+lastofs+1<=hint+min ofs (n-hint):=by omega
   have h2:hint+min ofs (n-hint)<=n:=by omega
   show wpS _ _ _ _ (_>>=_) _ _
   refine kH (Qj (uN (I:=fun x(c:Option (Option Nat)×Nat×Nat) st'=>st=st'/\c.1=none/\c.2.1<=c.2.2/\c.2.2<=n/\(∀i,i<c.2.1->be i=true)/\(∀i,c.2.2<=i->i<n->be i=false)/\c.2.2-c.2.1<=n-x) (Q:=fun c st'=>st=st'/\c.1=none/\c.2.2<=n/\(∀i,i<c.2.2->be i=true)/\(∀i,c.2.2<=i->i<n->be i=false)) ?_ ?_ ⟨rfl,rfl,h1,h2,h3,h4,by show hint+min ofs (n-hint)-(hint+lastofs+1)<=n-0;omega⟩) ?_)
   ·rintro x ⟨r,lo,hi⟩ st' _ hx ⟨rfl,e,q1,q2,q3,q4,q5⟩;dsimp only at e q1 q2 q3 q4 q5⊢
    by_cases c:lo≥hi
    ·rw[if_pos c];have el:lo=hi:=by omega
     subst el;exact kG ⟨rfl,rfl,q2,q3,q4⟩
    ·rw[if_neg c];refine kH (bey (lo+(hi-lo)/2) _ (by omega) ?_)
     cases eb:be (lo+(hi-lo)/2) with
     |true=>exact kG ⟨rfl,rfl,(by show lo+(hi-lo)/2+1<=hi;omega),q2,fun i hi'=>monoT i _ (by have:i<lo+(hi-lo)/2+1:=hi';omega) (by omega) eb,q4,(by show hi-(lo+(hi-lo)/2+1)<=n-(x+1);omega)⟩
     |false=>exact kG ⟨rfl,rfl,(by show lo<=lo+(hi-lo)/2;omega),(by show lo+(hi-lo)/2<=n;omega),q3,fun i hi' hn=>mono' _ i hi' hn eb,(by show lo+(hi-lo)/2-lo<=n-(x+1);omega)⟩
   ·rintro⟨r,lo,hi⟩ st' ⟨rfl,e,q1,q2,q3,q4,q5⟩;dsimp only at e q1 q2 q3 q4 q5⊢;have el:lo=hi:=by omega
    subst el;exact⟨rfl,e,q2,q3,q4⟩
   ·rintro⟨r,lo,hi⟩ st' ⟨rfl,e,q2,q3,q4⟩;dsimp only at e q2 q3 q4⊢;subst e;exact kG (h hi q2 q3 q4)
 |false=>
  show wpS _ _ _ _ (_>>=_) _ _
  refine kH (Qj (uN (I:=fun x(c:Option (Option Nat)×Nat×Nat) st'=>st=st'/\c.1=none/\c.2.1<c.2.2/\c.2.1<=hint/\be (hint-c.2.1)=false/\x+1<=c.2.2) (Q:=fun c st'=>st=st'/\c.1=none/\c.2.1<c.2.2/\c.2.1<=hint/\be (hint-c.2.1)=false/\(hint+1<=c.2.2∨(c.2.2<=hint/\be (hint-c.2.2)=true))) ?_ ?_ ⟨rfl,rfl,Ba,pY _,er,kJ _⟩) ?_)
  ·rintro x ⟨r,lastofs,ofs⟩ st' _ hx ⟨rfl,e,q1,q2,q3,q4⟩;dsimp only at e q1 q2 q3 q4⊢
   by_cases c:ofs≥hint+1
   ·rw[if_pos c];exact kG ⟨rfl,rfl,q1,q2,q3,.inl c⟩
   ·rw[if_neg c];refine kH (bey (hint-ofs) _ (by omega) ?_)
    cases eb:be (hint-ofs) with
    |true=>exact kG ⟨rfl,rfl,q1,q2,q3,.inr ⟨(by show ofs<=hint;omega),eb⟩⟩
    |false=>exact kG ⟨rfl,rfl,(by show ofs<2*ofs+1;omega),(by show ofs<=hint;omega),eb,(by show x+1+1<=2*ofs+1;omega)⟩
  ·rintro⟨r,lastofs,ofs⟩ st' ⟨rfl,e,q1,q2,q3,q4⟩;dsimp only at e q1 q2 q3 q4⊢;exact⟨rfl,e,q1,q2,q3,.inl (by omega)⟩
  ·rintro⟨r,lastofs,ofs⟩ st' ⟨rfl,e,q1,q2,q3,q4⟩;dsimp only at e q1 q2 q3 q4⊢;subst e;have h3:∀i,i<hint+1-min ofs (hint+1)->be i=true:=fun i hi=>by
       rcases q4 with z|⟨z1,z2⟩
       ·omega
       ·exact monoT i (hint-ofs) (by omega) (by omega) z2
   have h4:∀i,hint-lastofs<=i->i<n->be i=false:=fun i hi hn=>mono' (hint-lastofs) i hi hn q3;have h1:hint+1-min ofs (hint+1)<=hint-lastofs:=by omega
   have h2:hint-lastofs<=n:=by omega
   show wpS _ _ _ _ (_>>=_) _ _
   refine kH (Qj (uN (I:=fun x(c:Option (Option Nat)×Nat×Nat) st'=>st=st'/\c.1=none/\c.2.1<=c.2.2/\c.2.2<=n/\(∀i,i<c.2.1->be i=true)/\(∀i,c.2.2<=i->i<n->be i=false)/\c.2.2-c.2.1<=n-x) (Q:=fun c st'=>st=st'/\c.1=none/\c.2.2<=n/\(∀i,i<c.2.2->be i=true)/\(∀i,c.2.2<=i->i<n->be i=false)) ?_ ?_ ⟨rfl,rfl,h1,h2,h3,h4,by show hint-lastofs-(hint+1-min ofs (hint+1))<=n-0;omega⟩) ?_)
   ·rintro x ⟨r,lo,hi⟩ st' _ hx ⟨rfl,e,q1,q2,q3,q4,q5⟩;dsimp only at e q1 q2 q3 q4 q5⊢
    by_cases c:lo≥hi
    ·rw[if_pos c];have el:lo=hi:=by omega
     subst el;exact kG ⟨rfl,rfl,q2,q3,q4⟩
    ·rw[if_neg c];refine kH (bey (lo+(hi-lo)/2) _ (by omega) ?_)
     cases eb:be (lo+(hi-lo)/2) with
     |true=>exact kG ⟨rfl,rfl,(by show lo+(hi-lo)/2+1<=hi;omega),q2,fun i hi'=>monoT i _ (by have:i<lo+(hi-lo)/2+1:=hi';omega) (by omega) eb,q4,(by show hi-(lo+(hi-lo)/2+1)<=n-(x+1);omega)⟩
     |false=>exact kG ⟨rfl,rfl,(by show lo<=lo+(hi-lo)/2;omega),(by show lo+(hi-lo)/2<=n;omega),q3,fun i hi' hn=>mono' _ i hi' hn eb,(by show lo+(hi-lo)/2-lo<=n-(x+1);omega)⟩
   ·rintro⟨r,lo,hi⟩ st' ⟨rfl,e,q1,q2,q3,q4,q5⟩;dsimp only at e q1 q2 q3 q4 q5⊢;have el:lo=hi:=by omega
    subst el;exact⟨rfl,e,q2,q3,q4⟩
   ·rintro⟨r,lo,hi⟩ st' ⟨rfl,e,q2,q3,q4⟩;dsimp only at e q2 q3 q4⊢;subst e;exact kG (h hi q2 q3 q4)
end
section
variable{prog:kq}{w:pX}{A:pj}{E:kB->kC->Prop}{s:kC}{a₀:Array ke}{κ:QM}{an:ke->ke->Bool}
def SrtS(an:ke->ke->Bool)(arr:Array ke)(base n:Nat):Prop:=∀i j(_:i<j)(_:j<n)(hi:base+i<arr.size)(hj:base+j<arr.size),an arr[base+j] arr[base+i]=false
theorem galR(T:WkT an)(hq:QR prog w A E s κ a₀ an){key:ke}{arr:Array ke}{base n hint:Nat}{st:uZ}{Q:Option Nat->uZ->Prop}(hk:key∈a₀)(ha:∀x,x∈arr->x∈a₀)(hb:base+n<=arr.size)(hh:hint<n)(hκ:kindOf st=κ)(so:SrtS an arr base n)
  (h:∀k,k<=n->(∀i,i<k->∀(h:base+i<arr.size),an key arr[base+i]=false)->(∀i,k<=i->i<n->∀(h:base+i<arr.size),an key arr[base+i]=true)->Q (some k) st):
  wpS (model prog w) A E s (gallop' false key arr base n hint) Q st:=by
 refine zow hq hk ha hb hh hκ (fun i=> !an key (arr.getD (base+i) key)) (fun i hi hn=>?_) (fun i j hij hj e=>?_) fun k hk' h1 h2=>h k hk' (fun i hi hb'=>?_) fun i hi hn hb'=>?_
 ·rw[if_neg (by decide)]
  simp only[UF,hi,dite_true];rfl
 ·have bi:base+i<arr.size:=by omega
  have bj:base+j<arr.size:=by omega
  simp only[UF,bi,bj,dite_true,Cq] at e⊢;exact T.cut _ _ _ e (so i j hij hj bi bj)
 ·have:=h1 i hi;simp only[UF,hb',dite_true,Cq] at this;exact this
 ·have:=h2 i hi hn;simp only[UF,hb',dite_true,Bool.not_eq_false'] at this;exact this
theorem galL(T:WkT an)(hq:QR prog w A E s κ a₀ an){key:ke}{arr:Array ke}{base n hint:Nat}{st:uZ}{Q:Option Nat->uZ->Prop}(hk:key∈a₀)(ha:∀x,x∈arr->x∈a₀)(hb:base+n<=arr.size)(hh:hint<n)(hκ:kindOf st=κ)(so:SrtS an arr base n)
  (h:∀k,k<=n->(∀i,i<k->∀(h:base+i<arr.size),an arr[base+i] key=true)->(∀i,k<=i->i<n->∀(h:base+i<arr.size),an arr[base+i] key=false)->Q (some k) st):
  wpS (model prog w) A E s (gallop' true key arr base n hint) Q st:=by
 refine zow hq hk ha hb hh hκ (fun i=>an (arr.getD (base+i) key) key) (fun i hi hn=>?_) (fun i j hij hj e=>?_) fun k hk' h1 h2=>h k hk' (fun i hi hb'=>?_) fun i hi hn hb'=>?_
 ·rw[if_pos rfl];simp only[UF,hi,dite_true];rfl
 ·have bi:base+i<arr.size:=by omega
  have bj:base+j<arr.size:=by omega
  simp only[UF,bi,bj,dite_true] at e⊢
  cases z:an (arr.getInternal (base+i) bi) key with
  |true=>rfl
  |false=>
   have:=T.cut _ _ _ (so i j hij hj bi bj) z;rw[show an arr[base+j] key=true from e] at this
   cases this
 ·have:=h1 i hi;simp only[UF,hb',dite_true] at this;exact this
 ·have:=h2 i hi hn;simp only[UF,hb',dite_true] at this;exact this
structure LoIv(an:ke->ke->Bool)(a b:Array ke)(J:Array ke->Nat->Nat->Prop)(R:Array ke->Prop):Prop where
 z:∀h:0<b.size,J #[b[0]] 0 1
 done:∀{out ia ib},J out ia ib->ib=b.size∨ia=a.size->R (out++a.extract ia++b.extract ib)
 last:∀{out ia ib},J out ia ib->ia+1=a.size->R (out++b.extract ib++a.extract ia)
 b1:∀{out ia ib},J out ia ib->∀(ha:ia<a.size)(hb:ib<b.size),an b[ib] a[ia]=true->J (out.push b[ib]) ia (ib+1)
 a1:∀{out ia ib},J out ia ib->∀(ha:ia<a.size)(hb:ib<b.size),an b[ib] a[ia]=false->J (out.push a[ia]) (ia+1) ib
 ak:∀{out ia ib k},J out ia ib->∀hb:ib<b.size,ia+k<=a.size->(∀i,i<k->∀(h:ia+i<a.size),an b[ib] a[ia+i]=false)->J (out++a.extract ia (ia+k)) (ia+k) ib
 bk:∀{out ia ib k},J out ia ib->∀ha:ia<a.size,ib+k<=b.size->(∀i,i<k->∀(h:ib+i<b.size),an b[ib+i] a[ia]=true)->J (out++b.extract ib (ib+k)) ia (ib+k)
theorem zc0{an:ke->ke->Bool}{arr:Array ke}{n base m:Nat}(h:SrtS an arr 0 n)(hb:base+m<=n):SrtS an arr base m:=fun i j hij hj hi hj'=>by
 have e:∀{k:Nat}(h1:base+k<arr.size)(h2:0+(base+k)<arr.size),arr[base+k]=arr[0+(base+k)]:=fun h1 h2=>by congr 1;omega
 rw[e hi (by omega),e hj' (by omega)]
 exact h (base+i) (base+j) (by omega) (by omega) (by omega) (by omega)
theorem loG(T:WkT an)(hq:QR prog w A E s κ a₀ an){J:Array ke->Nat->Nat->Prop}{R:Array ke->Prop}{a b:Array ke}{st:uZ}{Q:Array ke->uZ->Prop}(ha:∀x,x∈a->x∈a₀)(hb:∀x,x∈b->x∈a₀)(a1:0<a.size)(b1:0<b.size)(hκ:kindOf st=κ)(L:LoIv an a b J R)(sa:SrtS an a 0 a.size)(sb:SrtS an b 0 b.size)
  (h:∀r g,R r->Q r (gSt st g)):wpS (model prog w) A E s (mergeLo' a b) Q st:=by
 have ea:∀{i:Nat}(h:i<a.size),a[i]∈a₀:=fun h=>ha _ (Qm h);have eb:∀{i:Nat}(h:i<b.size),b[i]∈a₀:=fun h=>hb _ (Qm h);have est:gSt st (Bz st)=st:=rfl;refine kH (AO (UE ⟨rfl,?_⟩));refine kH (zal b1 ?_);dsimp only
 by_cases c1:(1==b.size)=true
 ·rw[if_pos c1];exact kG (est▸h _ (Bz st) (L.done (L.z b1) (.inl (pP c1).symm.symm)))
 rw[if_neg c1]
 by_cases c2:(0+1==a.size)=true
 ·rw[if_pos c2];exact kG (est▸h _ (Bz st) (L.last (L.z b1) (pP c2)))
 rw[if_neg c2];have c1':1≠b.size:=fun z=>c1 (by rw[←z];rfl)
 have c2':1≠a.size:=fun z=>c2 (by rw[←z];rfl)
 refine kH (jT ?_);refine kH (Qj (uN
  (I:=fun x(c:Option (Array ke)×Array ke×Nat×Nat×Nat) st'=>(c.1=none/\J c.2.1 c.2.2.1 c.2.2.2.1/\c.2.2.1+1<a.size/\c.2.2.2.1<b.size/\x+1<=c.2.2.1+c.2.2.2.1)/\∃g,st'=gSt st g)
  (Q:=fun c st'=>∃r,c.1=some r/\R r/\∃g,st'=gSt st g) ?_ ?_ ⟨⟨rfl,L.z b1,by show 0+1<_;omega,by show 1<_;omega,by show 0+1<=0+1;omega⟩,_,rfl⟩) ?_)
 ·rintro x ⟨r0,out,ia,ib,mg⟩ st' _ hx ⟨⟨e0,hp,hia,hib,hlo⟩,g,rfl⟩;dsimp only at e0 hp hia hib hlo⊢;refine kH (Qj (uN
   (I:=fun y(c:Option (Array ke)×Array ke×Nat×Nat×Nat×Nat) st'=>(c.1=none/\J c.2.1 c.2.2.1 c.2.2.2.1/\c.2.2.1+1<a.size/\c.2.2.2.1<b.size/\ia+ib+min y 1<=c.2.2.1+c.2.2.2.1)/\∃g,st'=gSt st g)
   (Q:=fun c st'=>((∃r,c.1=some r/\R r)∨(c.1=none/\J c.2.1 c.2.2.1 c.2.2.2.1/\c.2.2.1+1<a.size/\c.2.2.2.1<b.size/\ia+ib+1<=c.2.2.1+c.2.2.2.1))/\∃g,st'=gSt st g) ?_ ?_ ⟨⟨rfl,hp,hia,hib,by show ia+ib+min 0 1<=ia+ib;omega⟩,_,rfl⟩) ?_)
  ·rintro y ⟨r1,out,ja,jb,ac,bc⟩ st' _ hy ⟨⟨e1,hp,hja,hjb,hl1⟩,g,rfl⟩;dsimp only at e1 hp hja hjb hl1⊢;refine kH (zal hjb (kH (zal (show ja<a.size by omega) (kH (hq _ _ _ _ (eb hjb) (ea (by omega)) hκ ?_)))))
   cases ebw:an b[jb] a[ja] with
   |true=>
    refine kH (zal hjb ?_)
    try dsimp only
    have hp1:=L.b1 hp (by omega) hjb ebw
    by_cases d:(jb+1==b.size)=true
    ·rw[if_pos d];exact kG ⟨.inl ⟨_,rfl,L.done hp1 (.inl (pP d))⟩,_,rfl⟩
    rw[if_neg d];have d':jb+1≠b.size:=fun z=>d (by rw[z];exact beq_self_eq_true _)
    by_cases f:bc+1≥mg
    ·rw[if_pos f];exact kG ⟨.inr ⟨rfl,hp1,hja,(by show jb+1<b.size;omega),(by show ia+ib+1<=ja+(jb+1);omega)⟩,_,rfl⟩
    ·rw[if_neg f];exact kG ⟨⟨rfl,hp1,hja,(by show jb+1<b.size;omega),(by show ia+ib+min (y+1) 1<=ja+(jb+1);omega)⟩,_,rfl⟩
   |false=>
    refine kH (zal (show ja<a.size by omega) ?_)
    try dsimp only
    have hp1:=L.a1 hp (by omega) hjb ebw
    by_cases d:(ja+1+1==a.size)=true
    ·rw[if_pos d];exact kG ⟨.inl ⟨_,rfl,L.last hp1 (pP d)⟩,_,rfl⟩
    rw[if_neg d];have d':ja+1+1≠a.size:=fun z=>d (by rw[z];exact beq_self_eq_true _)
    by_cases f:ac+1≥mg
    ·rw[if_pos f];exact kG ⟨.inr ⟨rfl,hp1,(by show ja+1+1<a.size;omega),hjb,(by show ia+ib+1<=ja+1+jb;omega)⟩,_,rfl⟩
    ·rw[if_neg f];exact kG ⟨⟨rfl,hp1,(by show ja+1+1<a.size;omega),hjb,(by show ia+ib+min (y+1) 1<=ja+1+jb;omega)⟩,_,rfl⟩
  ·rintro c st' ⟨⟨e1,hp,hja,hjb,hl1⟩,g⟩;exact⟨.inr ⟨e1,hp,hja,hjb,by omega⟩,g⟩
  ·rintro⟨r1,out,ja,jb,ac,bc⟩ st' ⟨hc,g,rfl⟩;dsimp only at hc⊢;rcases hc with⟨r,rfl,hr⟩|⟨rfl,hp,hja,hjb,hl1⟩
   ·exact kG ⟨r,rfl,hr,_,rfl⟩
   dsimp only;refine kH (AO (UE ⟨rfl,?_⟩));refine kH (Qj (uN
    (I:=fun y(c:Option (Array ke)×Array ke×Nat×Nat×Nat×Nat×Nat) st'=>(c.1=none/\J c.2.1 c.2.2.1 c.2.2.2.1/\c.2.2.1+1<a.size/\c.2.2.2.1<b.size/\ia+ib+1<=c.2.2.1+c.2.2.2.1)/\∃g,st'=gSt st g)
    (Q:=fun c st'=>((∃r,c.1=some r/\R r)∨(c.1=none/\J c.2.1 c.2.2.1 c.2.2.2.1/\c.2.2.1+1<a.size/\c.2.2.2.1<b.size/\ia+ib+1<=c.2.2.1+c.2.2.2.1))/\∃g,st'=gSt st g) ?_ (fun c st' z=>⟨.inr z.1,z.2⟩) ⟨⟨rfl,hp,hja,hjb,hl1⟩,_,rfl⟩) ?_)
   ·rintro y ⟨r2,out,ka,kb,mg2,ac2,bc2⟩ st' _ hy ⟨⟨e2,hp,hka,hkb,hl2⟩,g,rfl⟩;dsimp only at e2 hp hka hkb hl2⊢
    by_cases mm:mg2>1
    ·rw[if_pos mm];refine kH (uf ?_);refine kH (zal hkb ?_);refine kH (galR T hq (eb hkb) ha (by omega) (by omega) hκ (zc0 sa (by omega)) fun k hk t1 t2=>?_)
     try dsimp only
     by_cases k0:k>0
     ·rw[if_pos k0];have hp1:=L.ak hp hkb (by omega) t1
      by_cases d1:(ka+k+1==a.size)=true
      ·rw[if_pos d1];exact kG ⟨.inl ⟨_,rfl,L.last hp1 (pP d1)⟩,_,rfl⟩
      rw[if_neg d1];have d1':ka+k+1≠a.size:=fun z=>d1 (by rw[z];exact beq_self_eq_true _)
      by_cases d2:(ka+k==a.size)=true
      ·rw[if_pos d2];exact kG ⟨.inl ⟨_,rfl,L.done hp1 (.inr (pP d2))⟩,_,rfl⟩
      rw[if_neg d2];have d2':ka+k≠a.size:=fun z=>d2 (by rw[z];exact beq_self_eq_true _)
      refine kH (zal hkb ?_)
      try dsimp only
      have hp2:=L.b1 hp1 (by omega) hkb (t2 k (kJ _) (by omega) (by omega))
      by_cases d3:(kb+1==b.size)=true
      ·rw[if_pos d3];exact kG ⟨.inl ⟨_,rfl,L.done hp2 (.inl (pP d3))⟩,_,rfl⟩
      rw[if_neg d3];have d3':kb+1≠b.size:=fun z=>d3 (by rw[z];exact beq_self_eq_true _)
      refine kH (zal (show ka+k<a.size by omega) ?_)
      refine kH (galL T hq (ea (by omega)) hb (by omega) (by omega) hκ (zc0 sb (by omega)) fun k2 hk2 u1 u2=>?_)
      try dsimp only
      by_cases k20:k2>0
      ·rw[if_pos k20];have hp3:=L.bk hp2 (by omega) (by omega) u1
       by_cases d4:(kb+1+k2==b.size)=true
       ·rw[if_pos d4];exact kG ⟨.inl ⟨_,rfl,L.done hp3 (.inl (pP d4))⟩,_,rfl⟩
       rw[if_neg d4];have d4':kb+1+k2≠b.size:=fun z=>d4 (by rw[z];exact beq_self_eq_true _)
       refine kH (zal (show ka+k<a.size by omega) ?_)
       try dsimp only
       have hp4:=L.a1 hp3 (by omega) (by omega) (u2 k2 (kJ _) (by omega) (by omega))
       by_cases d5:(ka+k+1+1==a.size)=true
       ·rw[if_pos d5];exact kG ⟨.inl ⟨_,rfl,L.last hp4 (pP d5)⟩,_,rfl⟩
       rw[if_neg d5];have d5':ka+k+1+1≠a.size:=fun z=>d5 (by rw[z];exact beq_self_eq_true _)
       by_cases d6:(decide (k<7)&&decide (k2<7))=true
       ·rw[if_pos d6];exact kG ⟨.inr ⟨rfl,hp4,(by show ka+k+1+1<a.size;omega),(by show kb+1+k2<b.size;omega),(by show ia+ib+1<=ka+k+1+(kb+1+k2);omega)⟩,_,rfl⟩
       ·rw[if_neg d6];exact kG ⟨⟨rfl,hp4,(by show ka+k+1+1<a.size;omega),(by show kb+1+k2<b.size;omega),(by show ia+ib+1<=ka+k+1+(kb+1+k2);omega)⟩,_,rfl⟩
      ·rw[if_neg k20];refine kH (zal (show ka+k<a.size by omega) ?_)
       try dsimp only
       have hp4:=L.a1 hp2 (by omega) (by omega) (u2 0 (by omega) (by omega) (by omega))
       by_cases d5:(ka+k+1+1==a.size)=true
       ·rw[if_pos d5];exact kG ⟨.inl ⟨_,rfl,L.last hp4 (pP d5)⟩,_,rfl⟩
       rw[if_neg d5];have d5':ka+k+1+1≠a.size:=fun z=>d5 (by rw[z];exact beq_self_eq_true _)
       by_cases d6:(decide (k<7)&&decide (k2<7))=true
       ·rw[if_pos d6];exact kG ⟨.inr ⟨rfl,hp4,(by show ka+k+1+1<a.size;omega),(by show kb+1<b.size;omega),(by show ia+ib+1<=ka+k+1+(kb+1);omega)⟩,_,rfl⟩
       ·rw[if_neg d6];exact kG ⟨⟨rfl,hp4,(by show ka+k+1+1<a.size;omega),(by show kb+1<b.size;omega),(by show ia+ib+1<=ka+k+1+(kb+1);omega)⟩,_,rfl⟩
     ·rw[if_neg k0];refine kH (zal hkb ?_)
      try dsimp only
      have hp2:=L.b1 hp (by omega) hkb (t2 0 (by omega) (by omega) (by omega))
      by_cases d3:(kb+1==b.size)=true
      ·rw[if_pos d3];exact kG ⟨.inl ⟨_,rfl,L.done hp2 (.inl (pP d3))⟩,_,rfl⟩
      rw[if_neg d3];have d3':kb+1≠b.size:=fun z=>d3 (by rw[z];exact beq_self_eq_true _)
      refine kH (zal (show ka<a.size by omega) ?_)
      refine kH (galL T hq (ea (by omega)) hb (by omega) (by omega) hκ (zc0 sb (by omega)) fun k2 hk2 u1 u2=>?_)
      try dsimp only
      by_cases k20:k2>0
      ·rw[if_pos k20];have hp3:=L.bk hp2 (by omega) (by omega) u1
       by_cases d4:(kb+1+k2==b.size)=true
       ·rw[if_pos d4];exact kG ⟨.inl ⟨_,rfl,L.done hp3 (.inl (pP d4))⟩,_,rfl⟩
       rw[if_neg d4];have d4':kb+1+k2≠b.size:=fun z=>d4 (by rw[z];exact beq_self_eq_true _)
       refine kH (zal (show ka<a.size by omega) ?_)
       try dsimp only
       have hp4:=L.a1 hp3 (by omega) (by omega) (u2 k2 (kJ _) (by omega) (by omega))
       by_cases d5:(ka+1+1==a.size)=true
       ·rw[if_pos d5];exact kG ⟨.inl ⟨_,rfl,L.last hp4 (pP d5)⟩,_,rfl⟩
       rw[if_neg d5];have d5':ka+1+1≠a.size:=fun z=>d5 (by rw[z];exact beq_self_eq_true _)
       by_cases d6:(decide (k<7)&&decide (k2<7))=true
       ·rw[if_pos d6];exact kG ⟨.inr ⟨rfl,hp4,(by show ka+1+1<a.size;omega),(by show kb+1+k2<b.size;omega),(by show ia+ib+1<=ka+1+(kb+1+k2);omega)⟩,_,rfl⟩
       ·rw[if_neg d6];exact kG ⟨⟨rfl,hp4,(by show ka+1+1<a.size;omega),(by show kb+1+k2<b.size;omega),(by show ia+ib+1<=ka+1+(kb+1+k2);omega)⟩,_,rfl⟩
      ·rw[if_neg k20];refine kH (zal (show ka<a.size by omega) ?_)
       try dsimp only
       have hp4:=L.a1 hp2 (by omega) (by omega) (u2 0 (by omega) (by omega) (by omega))
       by_cases d5:(ka+1+1==a.size)=true
       ·rw[if_pos d5];exact kG ⟨.inl ⟨_,rfl,L.last hp4 (pP d5)⟩,_,rfl⟩
       rw[if_neg d5];have d5':ka+1+1≠a.size:=fun z=>d5 (by rw[z];exact beq_self_eq_true _)
       by_cases d6:(decide (k<7)&&decide (k2<7))=true
       ·rw[if_pos d6];exact kG ⟨.inr ⟨rfl,hp4,(by show ka+1+1<a.size;omega),(by show kb+1<b.size;omega),(by show ia+ib+1<=ka+1+(kb+1);omega)⟩,_,rfl⟩
       ·rw[if_neg d6];exact kG ⟨⟨rfl,hp4,(by show ka+1+1<a.size;omega),(by show kb+1<b.size;omega),(by show ia+ib+1<=ka+1+(kb+1);omega)⟩,_,rfl⟩
    ·rw[if_neg mm];refine kH (uf ?_);refine kH (zal hkb ?_);refine kH (galR T hq (eb hkb) ha (by omega) (by omega) hκ (zc0 sa (by omega)) fun k hk t1 t2=>?_)
     try dsimp only
     by_cases k0:k>0
     ·rw[if_pos k0];have hp1:=L.ak hp hkb (by omega) t1
      by_cases d1:(ka+k+1==a.size)=true
      ·rw[if_pos d1];exact kG ⟨.inl ⟨_,rfl,L.last hp1 (pP d1)⟩,_,rfl⟩
      rw[if_neg d1];have d1':ka+k+1≠a.size:=fun z=>d1 (by rw[z];exact beq_self_eq_true _)
      by_cases d2:(ka+k==a.size)=true
      ·rw[if_pos d2];exact kG ⟨.inl ⟨_,rfl,L.done hp1 (.inr (pP d2))⟩,_,rfl⟩
      rw[if_neg d2];have d2':ka+k≠a.size:=fun z=>d2 (by rw[z];exact beq_self_eq_true _)
      refine kH (zal hkb ?_)
      try dsimp only
      have hp2:=L.b1 hp1 (by omega) hkb (t2 k (kJ _) (by omega) (by omega))
      by_cases d3:(kb+1==b.size)=true
      ·rw[if_pos d3];exact kG ⟨.inl ⟨_,rfl,L.done hp2 (.inl (pP d3))⟩,_,rfl⟩
      rw[if_neg d3];have d3':kb+1≠b.size:=fun z=>d3 (by rw[z];exact beq_self_eq_true _)
      refine kH (zal (show ka+k<a.size by omega) ?_)
      refine kH (galL T hq (ea (by omega)) hb (by omega) (by omega) hκ (zc0 sb (by omega)) fun k2 hk2 u1 u2=>?_)
      try dsimp only
      by_cases k20:k2>0
      ·rw[if_pos k20];have hp3:=L.bk hp2 (by omega) (by omega) u1
       by_cases d4:(kb+1+k2==b.size)=true
       ·rw[if_pos d4];exact kG ⟨.inl ⟨_,rfl,L.done hp3 (.inl (pP d4))⟩,_,rfl⟩
       rw[if_neg d4];have d4':kb+1+k2≠b.size:=fun z=>d4 (by rw[z];exact beq_self_eq_true _)
       refine kH (zal (show ka+k<a.size by omega) ?_)
       try dsimp only
       have hp4:=L.a1 hp3 (by omega) (by omega) (u2 k2 (kJ _) (by omega) (by omega))
       by_cases d5:(ka+k+1+1==a.size)=true
       ·rw[if_pos d5];exact kG ⟨.inl ⟨_,rfl,L.last hp4 (pP d5)⟩,_,rfl⟩
       rw[if_neg d5];have d5':ka+k+1+1≠a.size:=fun z=>d5 (by rw[z];exact beq_self_eq_true _)
       by_cases d6:(decide (k<7)&&decide (k2<7))=true
       ·rw[if_pos d6];exact kG ⟨.inr ⟨rfl,hp4,(by show ka+k+1+1<a.size;omega),(by show kb+1+k2<b.size;omega),(by show ia+ib+1<=ka+k+1+(kb+1+k2);omega)⟩,_,rfl⟩
       ·rw[if_neg d6];exact kG ⟨⟨rfl,hp4,(by show ka+k+1+1<a.size;omega),(by show kb+1+k2<b.size;omega),(by show ia+ib+1<=ka+k+1+(kb+1+k2);omega)⟩,_,rfl⟩
      ·rw[if_neg k20];refine kH (zal (show ka+k<a.size by omega) ?_)
       try dsimp only
       have hp4:=L.a1 hp2 (by omega) (by omega) (u2 0 (by omega) (by omega) (by omega))
       by_cases d5:(ka+k+1+1==a.size)=true
       ·rw[if_pos d5];exact kG ⟨.inl ⟨_,rfl,L.last hp4 (pP d5)⟩,_,rfl⟩
       rw[if_neg d5];have d5':ka+k+1+1≠a.size:=fun z=>d5 (by rw[z];exact beq_self_eq_true _)
       by_cases d6:(decide (k<7)&&decide (k2<7))=true
       ·rw[if_pos d6];exact kG ⟨.inr ⟨rfl,hp4,(by show ka+k+1+1<a.size;omega),(by show kb+1<b.size;omega),(by show ia+ib+1<=ka+k+1+(kb+1);omega)⟩,_,rfl⟩
       ·rw[if_neg d6];exact kG ⟨⟨rfl,hp4,(by show ka+k+1+1<a.size;omega),(by show kb+1<b.size;omega),(by show ia+ib+1<=ka+k+1+(kb+1);omega)⟩,_,rfl⟩
     ·rw[if_neg k0];refine kH (zal hkb ?_)
      try dsimp only
      have hp2:=L.b1 hp (by omega) hkb (t2 0 (by omega) (by omega) (by omega))
      by_cases d3:(kb+1==b.size)=true
      ·rw[if_pos d3];exact kG ⟨.inl ⟨_,rfl,L.done hp2 (.inl (pP d3))⟩,_,rfl⟩
      rw[if_neg d3];have d3':kb+1≠b.size:=fun z=>d3 (by rw[z];exact beq_self_eq_true _)
      refine kH (zal (show ka<a.size by omega) ?_)
      refine kH (galL T hq (ea (by omega)) hb (by omega) (by omega) hκ (zc0 sb (by omega)) fun k2 hk2 u1 u2=>?_)
      try dsimp only
      by_cases k20:k2>0
      ·rw[if_pos k20];have hp3:=L.bk hp2 (by omega) (by omega) u1
       by_cases d4:(kb+1+k2==b.size)=true
       ·rw[if_pos d4];exact kG ⟨.inl ⟨_,rfl,L.done hp3 (.inl (pP d4))⟩,_,rfl⟩
       rw[if_neg d4];have d4':kb+1+k2≠b.size:=fun z=>d4 (by rw[z];exact beq_self_eq_true _)
       refine kH (zal (show ka<a.size by omega) ?_)
       try dsimp only
       have hp4:=L.a1 hp3 (by omega) (by omega) (u2 k2 (kJ _) (by omega) (by omega))
       by_cases d5:(ka+1+1==a.size)=true
       ·rw[if_pos d5];exact kG ⟨.inl ⟨_,rfl,L.last hp4 (pP d5)⟩,_,rfl⟩
       rw[if_neg d5];have d5':ka+1+1≠a.size:=fun z=>d5 (by rw[z];exact beq_self_eq_true _)
       by_cases d6:(decide (k<7)&&decide (k2<7))=true
       ·rw[if_pos d6];exact kG ⟨.inr ⟨rfl,hp4,(by show ka+1+1<a.size;omega),(by show kb+1+k2<b.size;omega),(by show ia+ib+1<=ka+1+(kb+1+k2);omega)⟩,_,rfl⟩
       ·rw[if_neg d6];exact kG ⟨⟨rfl,hp4,(by show ka+1+1<a.size;omega),(by show kb+1+k2<b.size;omega),(by show ia+ib+1<=ka+1+(kb+1+k2);omega)⟩,_,rfl⟩
      ·rw[if_neg k20];refine kH (zal (show ka<a.size by omega) ?_)
       try dsimp only
       have hp4:=L.a1 hp2 (by omega) (by omega) (u2 0 (by omega) (by omega) (by omega))
       by_cases d5:(ka+1+1==a.size)=true
       ·rw[if_pos d5];exact kG ⟨.inl ⟨_,rfl,L.last hp4 (pP d5)⟩,_,rfl⟩
       rw[if_neg d5];have d5':ka+1+1≠a.size:=fun z=>d5 (by rw[z];exact beq_self_eq_true _)
       by_cases d6:(decide (k<7)&&decide (k2<7))=true
       ·rw[if_pos d6];exact kG ⟨.inr ⟨rfl,hp4,(by show ka+1+1<a.size;omega),(by show kb+1<b.size;omega),(by show ia+ib+1<=ka+1+(kb+1);omega)⟩,_,rfl⟩
       ·rw[if_neg d6];exact kG ⟨⟨rfl,hp4,(by show ka+1+1<a.size;omega),(by show kb+1<b.size;omega),(by show ia+ib+1<=ka+1+(kb+1);omega)⟩,_,rfl⟩
   ·rintro⟨r2,out,ka,kb,mg2,ac2,bc2⟩ st' ⟨hc,g,rfl⟩;dsimp only at hc⊢;rcases hc with⟨r,rfl,hr⟩|⟨rfl,hp,hka,hkb,hl2⟩
    ·exact kG ⟨r,rfl,hr,_,rfl⟩
    dsimp only;refine kH (uf (kG ⟨⟨rfl,hp,hka,hkb,(by show x+1+1<=ka+kb;omega)⟩,_,rfl⟩))
 ·rintro c st' ⟨⟨e0,hp,hia,hib,hlo⟩,_⟩
  exfalso
  omega
 ·rintro⟨r0,out,ia,ib,mg⟩ st' ⟨r,e,hr,g,rfl⟩;dsimp only at e⊢;subst e;exact kG (h r g hr)
end
section
variable{prog:kq}{w:pX}{A:pj}{E:kB->kC->Prop}{s:kC}{a₀:Array ke}{κ:QM}{an:ke->ke->Bool}
structure HiIv(an:ke->ke->Bool)(a b:Array ke)(J:Array ke->Nat->Nat->Prop)(R:Array ke->Prop):Prop where
 z:∀h:0<a.size,J #[a[a.size-1]] (a.size-1) b.size
 le:∀{out na nb},J out na nb->na<=a.size/\nb<=b.size
 done:∀{out na nb},J out na nb->na=0∨nb=0->R (a.extract 0 na++b.extract 0 nb++out.reverse)
 first:∀{out na nb},J out na nb->nb=1->R (b.extract 0 nb++a.extract 0 na++out.reverse)
 a1:∀{out na nb},J out na nb->∀(_:0<na)(_:0<nb)(ha:na-1<a.size)(hb:nb-1<b.size),an b[nb-1] a[na-1]=true->J (out.push a[na-1]) (na-1) nb
 b1:∀{out na nb},J out na nb->∀(_:0<na)(_:0<nb)(ha:na-1<a.size)(hb:nb-1<b.size),an b[nb-1] a[na-1]=false->J (out.push b[nb-1]) na (nb-1)
 ak:∀{out na nb k},J out na nb->∀(_:0<nb)(hb:nb-1<b.size),k<=na->(∀i,k<=i->i<na->∀(h:0+i<a.size),an b[nb-1] a[0+i]=true)->J (out++(a.extract k na).reverse) k nb
 bk:∀{out na nb k},J out na nb->∀(_:0<na)(ha:na-1<a.size),k<=nb->(∀i,k<=i->i<nb->∀(h:0+i<b.size),an b[0+i] a[na-1]=false)->J (out++(b.extract k nb).reverse) na k
theorem hiG(T:WkT an)(hq:QR prog w A E s κ a₀ an){J:Array ke->Nat->Nat->Prop}{R:Array ke->Prop}{a b:Array ke}{st:uZ}{Q:Array ke->uZ->Prop}(ha:∀x,x∈a->x∈a₀)(hb:∀x,x∈b->x∈a₀)(a1:0<a.size)(b1:0<b.size)(hκ:kindOf st=κ)(L:HiIv an a b J R)(sa:SrtS an a 0 a.size)(sb:SrtS an b 0 b.size)
  (h:∀r g,R r->Q r (gSt st g)):wpS (model prog w) A E s (mergeHi' a b) Q st:=by
 have ea:∀{i:Nat}(h:i<a.size),a[i]∈a₀:=fun h=>ha _ (Qm h);have eb:∀{i:Nat}(h:i<b.size),b[i]∈a₀:=fun h=>hb _ (Qm h);have est:gSt st (Bz st)=st:=rfl;refine kH (AO (UE ⟨rfl,?_⟩));refine kH (zal (show a.size-1<a.size by omega) ?_)
 try dsimp only
 by_cases c1:(a.size-1==0)=true
 ·rw[if_pos c1];exact kG (est▸h _ (Bz st) (L.done (L.z a1) (.inl (pP c1))))
 rw[if_neg c1]
 by_cases c2:(b.size==1)=true
 ·rw[if_pos c2]
  exact kG (est▸h _ (Bz st) (L.first (L.z a1) (pP c2)))
 rw[if_neg c2];have c1':a.size-1≠0:=fun z=>c1 (by rw[z];rfl)
 have c2':b.size≠1:=fun z=>c2 (by rw[z];rfl)
 refine kH (jT ?_);refine kH (Qj (uN
  (I:=fun x(c:Option (Array ke)×Nat×Nat×Array ke×Nat) st'=>((c.1=none/\J c.2.2.2.1 c.2.1 c.2.2.1/\0<c.2.1/\1<c.2.2.1)/\c.2.1+c.2.2.1+x+1<=a.size+b.size)/\∃g,st'=gSt st g)
  (Q:=fun c st'=>∃r,c.1=some r/\R r/\∃g,st'=gSt st g) ?_ ?_ ⟨⟨⟨rfl,L.z a1,by show 0<a.size-1;omega,by show 1<b.size;omega⟩,by show a.size-1+b.size+0+1<=_;omega⟩,_,rfl⟩) ?_)
 ·rintro x ⟨r0,na,nb,out,mg⟩ st' _ hx ⟨⟨⟨e0,hp,hna,hnb⟩,hlo⟩,g,rfl⟩;dsimp only at e0 hp hna hnb hlo⊢;have lna:=(L.le hp).1;have lnb:=(L.le hp).2;refine kH (Qj (uN
   (I:=fun y(c:Option (Array ke)×Nat×Nat×Array ke×Nat×Nat) st'=>((c.1=none/\J c.2.2.2.1 c.2.1 c.2.2.1/\0<c.2.1/\1<c.2.2.1)/\c.2.1+c.2.2.1+min y 1<=na+nb)/\∃g,st'=gSt st g)
   (Q:=fun c st'=>((∃r,c.1=some r/\R r)∨((c.1=none/\J c.2.2.2.1 c.2.1 c.2.2.1/\0<c.2.1/\1<c.2.2.1)/\c.2.1+c.2.2.1+1<=na+nb))/\∃g,st'=gSt st g) ?_ ?_ ⟨⟨⟨rfl,hp,hna,hnb⟩,by show na+nb+min 0 1<=na+nb;omega⟩,_,rfl⟩) ?_)
  ·rintro y ⟨r1,ja,jb,out,ac,bc⟩ st' _ hy ⟨⟨⟨e1,hp,hja,hjb⟩,hl1⟩,g,rfl⟩;dsimp only at e1 hp hja hjb hl1⊢;have lja:=(L.le hp).1;have ljb:=(L.le hp).2;refine kH (zal (show jb-1<b.size by omega) (kH (zal (show ja-1<a.size by omega) (kH (hq _ _ _ _ (eb (by omega)) (ea (by omega)) hκ ?_)))))
   cases ebw:an b[jb-1] a[ja-1] with
   |true=>
    refine kH (zal (show ja-1<a.size by omega) ?_)
    try dsimp only
    have hp1:=L.a1 hp hja (by omega) (by omega) (by omega) ebw
    by_cases d:(ja-1==0)=true
    ·rw[if_pos d];exact kG ⟨.inl ⟨_,rfl,L.done hp1 (.inl (pP d))⟩,_,rfl⟩
    rw[if_neg d];have d':ja-1≠0:=fun z=>d (by rw[z];rfl)
    by_cases f:ac+1≥mg
    ·rw[if_pos f];exact kG ⟨.inr ⟨⟨rfl,hp1,(by show 0<ja-1;omega),hjb⟩,(by show ja-1+jb+1<=na+nb;omega)⟩,_,rfl⟩
    ·rw[if_neg f];exact kG ⟨⟨⟨rfl,hp1,(by show 0<ja-1;omega),hjb⟩,(by show ja-1+jb+min (y+1) 1<=na+nb;omega)⟩,_,rfl⟩
   |false=>
    refine kH (zal (show jb-1<b.size by omega) ?_)
    try dsimp only
    have hp1:=L.b1 hp hja (by omega) (by omega) (by omega) ebw
    by_cases d:(jb-1==1)=true
    ·rw[if_pos d]
     exact kG ⟨.inl ⟨_,rfl,L.first hp1 (pP d)⟩,_,rfl⟩
    rw[if_neg d];have d':jb-1≠1:=fun z=>d (by rw[z];rfl)
    by_cases f:bc+1≥mg
    ·rw[if_pos f];exact kG ⟨.inr ⟨⟨rfl,hp1,hja,(by show 1<jb-1;omega)⟩,(by show ja+(jb-1)+1<=na+nb;omega)⟩,_,rfl⟩
    ·rw[if_neg f];exact kG ⟨⟨⟨rfl,hp1,hja,(by show 1<jb-1;omega)⟩,(by show ja+(jb-1)+min (y+1) 1<=na+nb;omega)⟩,_,rfl⟩
  ·rintro c st' ⟨⟨i1,hl1⟩,g⟩;exact⟨.inr ⟨i1,by omega⟩,g⟩
  ·rintro⟨r1,ja,jb,out,ac,bc⟩ st' ⟨hc,g,rfl⟩;dsimp only at hc⊢;rcases hc with⟨r,rfl,hr⟩|⟨⟨rfl,hp,hja,hjb⟩,hl1⟩
   ·exact kG ⟨r,rfl,hr,_,rfl⟩
   dsimp only;refine kH (AO (UE ⟨rfl,?_⟩));refine kH (Qj (uN
    (I:=fun y(c:Option (Array ke)×Nat×Nat×Array ke×Nat×Nat×Nat) st'=>((c.1=none/\J c.2.2.2.1 c.2.1 c.2.2.1/\0<c.2.1/\1<c.2.2.1)/\c.2.1+c.2.2.1+1<=na+nb)/\∃g,st'=gSt st g)
    (Q:=fun c st'=>((∃r,c.1=some r/\R r)∨((c.1=none/\J c.2.2.2.1 c.2.1 c.2.2.1/\0<c.2.1/\1<c.2.2.1)/\c.2.1+c.2.2.1+1<=na+nb))/\∃g,st'=gSt st g) ?_ (fun c st' z=>⟨.inr z.1,z.2⟩) ⟨⟨⟨rfl,hp,hja,hjb⟩,hl1⟩,_,rfl⟩) ?_)
   ·rintro y ⟨r2,ka,kb,out,mg2,ac2,bc2⟩ st' _ hy ⟨⟨⟨e2,hp,hka,hkb⟩,hl2⟩,g,rfl⟩;dsimp only at e2 hp hka hkb hl2⊢;have lka:=(L.le hp).1;have lkb:=(L.le hp).2
    by_cases mm:mg2>1
    ·rw[if_pos mm];refine kH (uf ?_);refine kH (zal (show kb-1<b.size by omega) ?_)
     refine kH (galR T hq (eb (by omega)) ha (by omega) (by omega) hκ (zc0 sa (by omega)) fun k hk t1 t2=>?_)
     try dsimp only
     by_cases k0:ka-k>0
     ·rw[if_pos k0];have hp1:=L.ak hp (by omega) (by omega) hk t2
      by_cases d1:(k==0)=true
      ·rw[if_pos d1];exact kG ⟨.inl ⟨_,rfl,L.done hp1 (.inl (pP d1))⟩,_,rfl⟩
      rw[if_neg d1];have d1':k≠0:=fun z=>d1 (by rw[z];rfl)
      refine kH (zal (show kb-1<b.size by omega) ?_)
      try dsimp only
      have hp2:=L.b1 hp1 (by omega) (by omega) (by omega) (by omega) (by have:=t1 (k-1) (by omega) (by omega);simpa using this)
      by_cases d3:(kb-1==1)=true
      ·rw[if_pos d3]
       exact kG ⟨.inl ⟨_,rfl,L.first hp2 (pP d3)⟩,_,rfl⟩
      rw[if_neg d3];have d3':kb-1≠1:=fun z=>d3 (by rw[z];rfl)
      refine kH (zal (show k-1<a.size by omega) ?_)
      refine kH (galL T hq (ea (by omega)) hb (by omega) (by omega) hκ (zc0 sb (by omega)) fun k2 hk2 u1 u2=>?_)
      try dsimp only
      by_cases k20:kb-1-k2>0
      ·rw[if_pos k20];have hp3:=L.bk hp2 (by omega) (by omega) hk2 u2
       by_cases d4:(k2==1)=true
       ·rw[if_pos d4]
        exact kG ⟨.inl ⟨_,rfl,L.first hp3 (pP d4)⟩,_,rfl⟩
       rw[if_neg d4];have d4':k2≠1:=fun z=>d4 (by rw[z];rfl)
       by_cases d7:(k2==0)=true
       ·rw[if_pos d7];exact kG ⟨.inl ⟨_,rfl,L.done hp3 (.inr (pP d7))⟩,_,rfl⟩
       rw[if_neg d7];have d7':k2≠0:=fun z=>d7 (by rw[z];rfl)
       refine kH (zal (show k-1<a.size by omega) ?_)
       try dsimp only
       have hp4:=L.a1 hp3 (by omega) (by omega) (by omega) (by omega) (by have:=u1 (k2-1) (by omega) (by omega);simpa using this)
       by_cases d5:(k-1==0)=true
       ·rw[if_pos d5];exact kG ⟨.inl ⟨_,rfl,L.done hp4 (.inl (pP d5))⟩,_,rfl⟩
       rw[if_neg d5];have d5':k-1≠0:=fun z=>d5 (by rw[z];rfl)
       by_cases d6:(decide (ka-k<7)&&decide (kb-1-k2<7))=true
       ·rw[if_pos d6];exact kG ⟨.inr ⟨⟨rfl,hp4,(by show 0<k-1;omega),(by show 1<k2;omega)⟩,(by show k-1+(k2)+1<=na+nb;omega)⟩,_,rfl⟩
       ·rw[if_neg d6];exact kG ⟨⟨⟨rfl,hp4,(by show 0<k-1;omega),(by show 1<k2;omega)⟩,(by show k-1+(k2)+1<=na+nb;omega)⟩,_,rfl⟩
      ·rw[if_neg k20];refine kH (zal (show k-1<a.size by omega) ?_)
       try dsimp only
       have hp4:=L.a1 hp2 (by omega) (by omega) (by omega) (by omega) (by have:=u1 (kb-1-1) (by omega) (by omega);simpa using this)
       by_cases d5:(k-1==0)=true
       ·rw[if_pos d5];exact kG ⟨.inl ⟨_,rfl,L.done hp4 (.inl (pP d5))⟩,_,rfl⟩
       rw[if_neg d5];have d5':k-1≠0:=fun z=>d5 (by rw[z];rfl)
       by_cases d6:(decide (ka-k<7)&&decide (kb-1-k2<7))=true
       ·rw[if_pos d6];exact kG ⟨.inr ⟨⟨rfl,hp4,(by show 0<k-1;omega),(by show 1<kb-1;omega)⟩,(by show k-1+(kb-1)+1<=na+nb;omega)⟩,_,rfl⟩
       ·rw[if_neg d6];exact kG ⟨⟨⟨rfl,hp4,(by show 0<k-1;omega),(by show 1<kb-1;omega)⟩,(by show k-1+(kb-1)+1<=na+nb;omega)⟩,_,rfl⟩
     ·rw[if_neg k0];refine kH (zal (show kb-1<b.size by omega) ?_)
      try dsimp only
      have hp2:=L.b1 hp (by omega) (by omega) (by omega) (by omega) (by have:=t1 (ka-1) (by omega) (by omega);simpa using this)
      by_cases d3:(kb-1==1)=true
      ·rw[if_pos d3]
       exact kG ⟨.inl ⟨_,rfl,L.first hp2 (pP d3)⟩,_,rfl⟩
      rw[if_neg d3];have d3':kb-1≠1:=fun z=>d3 (by rw[z];rfl)
      refine kH (zal (show ka-1<a.size by omega) ?_)
      refine kH (galL T hq (ea (by omega)) hb (by omega) (by omega) hκ (zc0 sb (by omega)) fun k2 hk2 u1 u2=>?_)
      try dsimp only
      by_cases k20:kb-1-k2>0
      ·rw[if_pos k20];have hp3:=L.bk hp2 (by omega) (by omega) hk2 u2
       by_cases d4:(k2==1)=true
       ·rw[if_pos d4]
        exact kG ⟨.inl ⟨_,rfl,L.first hp3 (pP d4)⟩,_,rfl⟩
       rw[if_neg d4];have d4':k2≠1:=fun z=>d4 (by rw[z];rfl)
       by_cases d7:(k2==0)=true
       ·rw[if_pos d7];exact kG ⟨.inl ⟨_,rfl,L.done hp3 (.inr (pP d7))⟩,_,rfl⟩
       rw[if_neg d7];have d7':k2≠0:=fun z=>d7 (by rw[z];rfl)
       refine kH (zal (show ka-1<a.size by omega) ?_)
       try dsimp only
       have hp4:=L.a1 hp3 (by omega) (by omega) (by omega) (by omega) (by have:=u1 (k2-1) (by omega) (by omega);simpa using this)
       by_cases d5:(ka-1==0)=true
       ·rw[if_pos d5];exact kG ⟨.inl ⟨_,rfl,L.done hp4 (.inl (pP d5))⟩,_,rfl⟩
       rw[if_neg d5];have d5':ka-1≠0:=fun z=>d5 (by rw[z];rfl)
       by_cases d6:(decide (ka-k<7)&&decide (kb-1-k2<7))=true
       ·rw[if_pos d6];exact kG ⟨.inr ⟨⟨rfl,hp4,(by show 0<ka-1;omega),(by show 1<k2;omega)⟩,(by show ka-1+(k2)+1<=na+nb;omega)⟩,_,rfl⟩
       ·rw[if_neg d6];exact kG ⟨⟨⟨rfl,hp4,(by show 0<ka-1;omega),(by show 1<k2;omega)⟩,(by show ka-1+(k2)+1<=na+nb;omega)⟩,_,rfl⟩
      ·rw[if_neg k20];refine kH (zal (show ka-1<a.size by omega) ?_)
       try dsimp only
       have hp4:=L.a1 hp2 (by omega) (by omega) (by omega) (by omega) (by have:=u1 (kb-1-1) (by omega) (by omega);simpa using this)
       by_cases d5:(ka-1==0)=true
       ·rw[if_pos d5];exact kG ⟨.inl ⟨_,rfl,L.done hp4 (.inl (pP d5))⟩,_,rfl⟩
       rw[if_neg d5];have d5':ka-1≠0:=fun z=>d5 (by rw[z];rfl)
       by_cases d6:(decide (ka-k<7)&&decide (kb-1-k2<7))=true
       ·rw[if_pos d6];exact kG ⟨.inr ⟨⟨rfl,hp4,(by show 0<ka-1;omega),(by show 1<kb-1;omega)⟩,(by show ka-1+(kb-1)+1<=na+nb;omega)⟩,_,rfl⟩
       ·rw[if_neg d6];exact kG ⟨⟨⟨rfl,hp4,(by show 0<ka-1;omega),(by show 1<kb-1;omega)⟩,(by show ka-1+(kb-1)+1<=na+nb;omega)⟩,_,rfl⟩
    ·rw[if_neg mm];refine kH (uf ?_);refine kH (zal (show kb-1<b.size by omega) ?_)
     refine kH (galR T hq (eb (by omega)) ha (by omega) (by omega) hκ (zc0 sa (by omega)) fun k hk t1 t2=>?_)
     try dsimp only
     by_cases k0:ka-k>0
     ·rw[if_pos k0];have hp1:=L.ak hp (by omega) (by omega) hk t2
      by_cases d1:(k==0)=true
      ·rw[if_pos d1];exact kG ⟨.inl ⟨_,rfl,L.done hp1 (.inl (pP d1))⟩,_,rfl⟩
      rw[if_neg d1];have d1':k≠0:=fun z=>d1 (by rw[z];rfl)
      refine kH (zal (show kb-1<b.size by omega) ?_)
      try dsimp only
      have hp2:=L.b1 hp1 (by omega) (by omega) (by omega) (by omega) (by have:=t1 (k-1) (by omega) (by omega);simpa using this)
      by_cases d3:(kb-1==1)=true
      ·rw[if_pos d3]
       exact kG ⟨.inl ⟨_,rfl,L.first hp2 (pP d3)⟩,_,rfl⟩
      rw[if_neg d3];have d3':kb-1≠1:=fun z=>d3 (by rw[z];rfl)
      refine kH (zal (show k-1<a.size by omega) ?_)
      refine kH (galL T hq (ea (by omega)) hb (by omega) (by omega) hκ (zc0 sb (by omega)) fun k2 hk2 u1 u2=>?_)
      try dsimp only
      by_cases k20:kb-1-k2>0
      ·rw[if_pos k20];have hp3:=L.bk hp2 (by omega) (by omega) hk2 u2
       by_cases d4:(k2==1)=true
       ·rw[if_pos d4]
        exact kG ⟨.inl ⟨_,rfl,L.first hp3 (pP d4)⟩,_,rfl⟩
       rw[if_neg d4];have d4':k2≠1:=fun z=>d4 (by rw[z];rfl)
       by_cases d7:(k2==0)=true
       ·rw[if_pos d7];exact kG ⟨.inl ⟨_,rfl,L.done hp3 (.inr (pP d7))⟩,_,rfl⟩
       rw[if_neg d7];have d7':k2≠0:=fun z=>d7 (by rw[z];rfl)
       refine kH (zal (show k-1<a.size by omega) ?_)
       try dsimp only
       have hp4:=L.a1 hp3 (by omega) (by omega) (by omega) (by omega) (by have:=u1 (k2-1) (by omega) (by omega);simpa using this)
       by_cases d5:(k-1==0)=true
       ·rw[if_pos d5];exact kG ⟨.inl ⟨_,rfl,L.done hp4 (.inl (pP d5))⟩,_,rfl⟩
       rw[if_neg d5];have d5':k-1≠0:=fun z=>d5 (by rw[z];rfl)
       by_cases d6:(decide (ka-k<7)&&decide (kb-1-k2<7))=true
       ·rw[if_pos d6];exact kG ⟨.inr ⟨⟨rfl,hp4,(by show 0<k-1;omega),(by show 1<k2;omega)⟩,(by show k-1+(k2)+1<=na+nb;omega)⟩,_,rfl⟩
       ·rw[if_neg d6];exact kG ⟨⟨⟨rfl,hp4,(by show 0<k-1;omega),(by show 1<k2;omega)⟩,(by show k-1+(k2)+1<=na+nb;omega)⟩,_,rfl⟩
      ·rw[if_neg k20];refine kH (zal (show k-1<a.size by omega) ?_)
       try dsimp only
       have hp4:=L.a1 hp2 (by omega) (by omega) (by omega) (by omega) (by have:=u1 (kb-1-1) (by omega) (by omega);simpa using this)
       by_cases d5:(k-1==0)=true
       ·rw[if_pos d5];exact kG ⟨.inl ⟨_,rfl,L.done hp4 (.inl (pP d5))⟩,_,rfl⟩
       rw[if_neg d5];have d5':k-1≠0:=fun z=>d5 (by rw[z];rfl)
       by_cases d6:(decide (ka-k<7)&&decide (kb-1-k2<7))=true
       ·rw[if_pos d6];exact kG ⟨.inr ⟨⟨rfl,hp4,(by show 0<k-1;omega),(by show 1<kb-1;omega)⟩,(by show k-1+(kb-1)+1<=na+nb;omega)⟩,_,rfl⟩
       ·rw[if_neg d6];exact kG ⟨⟨⟨rfl,hp4,(by show 0<k-1;omega),(by show 1<kb-1;omega)⟩,(by show k-1+(kb-1)+1<=na+nb;omega)⟩,_,rfl⟩
     ·rw[if_neg k0];refine kH (zal (show kb-1<b.size by omega) ?_)
      try dsimp only
      have hp2:=L.b1 hp (by omega) (by omega) (by omega) (by omega) (by have:=t1 (ka-1) (by omega) (by omega);simpa using this)
      by_cases d3:(kb-1==1)=true
      ·rw[if_pos d3]
       exact kG ⟨.inl ⟨_,rfl,L.first hp2 (pP d3)⟩,_,rfl⟩
      rw[if_neg d3];have d3':kb-1≠1:=fun z=>d3 (by rw[z];rfl)
      refine kH (zal (show ka-1<a.size by omega) ?_)
      refine kH (galL T hq (ea (by omega)) hb (by omega) (by omega) hκ (zc0 sb (by omega)) fun k2 hk2 u1 u2=>?_)
      try dsimp only
      by_cases k20:kb-1-k2>0
      ·rw[if_pos k20];have hp3:=L.bk hp2 (by omega) (by omega) hk2 u2
       by_cases d4:(k2==1)=true
       ·rw[if_pos d4]
        exact kG ⟨.inl ⟨_,rfl,L.first hp3 (pP d4)⟩,_,rfl⟩
       rw[if_neg d4];have d4':k2≠1:=fun z=>d4 (by rw[z];rfl)
       by_cases d7:(k2==0)=true
       ·rw[if_pos d7];exact kG ⟨.inl ⟨_,rfl,L.done hp3 (.inr (pP d7))⟩,_,rfl⟩
       rw[if_neg d7];have d7':k2≠0:=fun z=>d7 (by rw[z];rfl)
       refine kH (zal (show ka-1<a.size by omega) ?_)
       try dsimp only
       have hp4:=L.a1 hp3 (by omega) (by omega) (by omega) (by omega) (by have:=u1 (k2-1) (by omega) (by omega);simpa using this)
       by_cases d5:(ka-1==0)=true
       ·rw[if_pos d5];exact kG ⟨.inl ⟨_,rfl,L.done hp4 (.inl (pP d5))⟩,_,rfl⟩
       rw[if_neg d5];have d5':ka-1≠0:=fun z=>d5 (by rw[z];rfl)
       by_cases d6:(decide (ka-k<7)&&decide (kb-1-k2<7))=true
       ·rw[if_pos d6];exact kG ⟨.inr ⟨⟨rfl,hp4,(by show 0<ka-1;omega),(by show 1<k2;omega)⟩,(by show ka-1+(k2)+1<=na+nb;omega)⟩,_,rfl⟩
       ·rw[if_neg d6];exact kG ⟨⟨⟨rfl,hp4,(by show 0<ka-1;omega),(by show 1<k2;omega)⟩,(by show ka-1+(k2)+1<=na+nb;omega)⟩,_,rfl⟩
      ·rw[if_neg k20];refine kH (zal (show ka-1<a.size by omega) ?_)
       try dsimp only
       have hp4:=L.a1 hp2 (by omega) (by omega) (by omega) (by omega) (by have:=u1 (kb-1-1) (by omega) (by omega);simpa using this)
       by_cases d5:(ka-1==0)=true
       ·rw[if_pos d5];exact kG ⟨.inl ⟨_,rfl,L.done hp4 (.inl (pP d5))⟩,_,rfl⟩
       rw[if_neg d5];have d5':ka-1≠0:=fun z=>d5 (by rw[z];rfl)
       by_cases d6:(decide (ka-k<7)&&decide (kb-1-k2<7))=true
       ·rw[if_pos d6];exact kG ⟨.inr ⟨⟨rfl,hp4,(by show 0<ka-1;omega),(by show 1<kb-1;omega)⟩,(by show ka-1+(kb-1)+1<=na+nb;omega)⟩,_,rfl⟩
       ·rw[if_neg d6];exact kG ⟨⟨⟨rfl,hp4,(by show 0<ka-1;omega),(by show 1<kb-1;omega)⟩,(by show ka-1+(kb-1)+1<=na+nb;omega)⟩,_,rfl⟩
   ·rintro⟨r2,ka,kb,out,mg2,ac2,bc2⟩ st' ⟨hc,g,rfl⟩;dsimp only at hc⊢;rcases hc with⟨r,rfl,hr⟩|⟨⟨rfl,hp,hka,hkb⟩,hl2⟩
    ·exact kG ⟨r,rfl,hr,_,rfl⟩
    dsimp only;refine kH (uf (kG ⟨⟨⟨rfl,hp,hka,hkb⟩,(by show ka+kb+(x+1)+1<=a.size+b.size;omega)⟩,_,rfl⟩))
 ·rintro c st' ⟨⟨⟨e0,hp,hna,hnb⟩,hlo⟩,_⟩
  exfalso
  omega
 ·rintro⟨r0,na,nb,out,mg⟩ st' ⟨r,e,hr,g,rfl⟩;dsimp only at e⊢;subst e;exact kG (h r g hr)
end
section
variable{an:ke->ke->Bool}{a b:Array ke}
theorem zaq{l m:List ke}:UpL an (l++m)↔UpL an l/\UpL an m/\∀x,x∈l->∀y,y∈m->an y x=false:=by
 unfold UpL;rw[List.pairwise_append]
theorem ze0{l:List ke}(h:UpL an l)(n:Nat):UpL an (l.drop n):=Bi (Cr n l) h
theorem zdz{l:List ke}(h:UpL an l)(n:Nat):UpL an (l.take n):=Bi (Ac n l) h
theorem zi2(T:WkT an){a:Array ke}(h:UpL an a.toList){i:Nat}(hi:i<a.size):∀y,y∈a.toList.drop i->an y a[i]=false:=fun y hy=>by
 have hi':i<a.toList.length:=by simpa using hi
 have e:a.toList[i]=a[i]:=by simp
 have d:=ze0 h i;rw[QF hi',e] at d hy;rcases pF.mp hy with z|z
 ·rw[z];exact T.irr _
 ·exact(AQ.mp d).1 y z
theorem zij(T:WkT an){a:Array ke}(h:UpL an a.toList){n:Nat}(h0:0<n)(hn:n-1<a.size):∀y,y∈a.toList.take n->an a[n-1] y=false:=fun y hy=>by
 have hn':n-1<a.toList.length:=by simpa using hn
 have e:a.toList[n-1]=a[n-1]:=by simp
 have d:=zdz h n;have en:n=n-1+1:=by omega
 rw[en,jm hn',e] at d hy;rcases kW.mp hy with z|z
 ·exact(zaq.mp d).2.2 y z _ (kU.mpr rfl)
 ·rw[kU.mp z];exact T.irr _
def LoJ(an:ke->ke->Bool)(a b out:Array ke)(ia ib:Nat):Prop:=Prm a b out ia ib/\UpL an out.toList/\(∀x,x∈out.toList->∀y,y∈a.toList.drop ia->an y x=false)/\∀x,x∈out.toList->∀y,y∈b.toList.drop ib->an y x=false
def MgR(an:ke->ke->Bool)(a b r:Array ke):Prop:=r.toList.Perm (a.toList++b.toList)/\UpL an r.toList
theorem zg6(l:List ke)(i k:Nat):l.drop i=(l.drop i).take k++l.drop (i+k):=by rw[←UL,uE]
theorem loIv(T:WkT an)(ua:UpL an a.toList)(ub:UpL an b.toList)(a1:0<a.size)(b1:0<b.size)(hz:∀y,y∈a.toList->an y b[0]=false)(hl:∀y,y∈b.toList->an a[a.size-1] y=false):LoIv an a b (LoJ an a b) (MgR an a b):=by
 have ak:∀{out:Array ke}{ia ib k:Nat},LoJ an a b out ia ib->∀hb:ib<b.size,ia+k<=a.size->(∀i,i<k->∀(h:ia+i<a.size),an b[ib] a[ia+i]=false)->LoJ an a b (out++a.extract ia (ia+k)) (ia+k) ib:=fun{out ia ib k} J hb hk h=>by
  obtain⟨p,u,ja,jb⟩:=J;have et:(out++a.extract ia (ia+k)).toList=out.toList++(a.toList.drop ia).take k:=by rw[ku,zh1]
  have cut:=ze0 ua ia;rw[zg6 a.toList ia k,zaq] at cut;have sub:∀y,y∈(a.toList.drop ia).take k->y∈a.toList.drop ia:=fun y hy=>Qw hy;have subd:∀y,y∈a.toList.drop (ia+k)->y∈a.toList.drop ia:=fun y hy=>by rw[zg6 a.toList ia k];exact kh _ hy
  have hx:∀x,x∈(a.toList.drop ia).take k->an b[ib] x=false:=fun x hx=>by
   obtain⟨i,hi,e⟩:=pN.mp hx;rw[kY,kj,kc] at hi;rw[←e,uk,ud,uM];exact h i (by omega) (by omega)
  refine⟨prm_a p k hk,?_,?_,?_⟩
  ·rw[et,zaq];exact⟨u,cut.1,fun x hx y hy=>ja x hx y (sub y hy)⟩
  ·rw[et];intro x hx' y hy;rcases kW.mp hx' with z|z
   ·exact ja x z y (subd y hy)
   ·exact cut.2.2 x z y hy
  ·rw[et];intro x hx' y hy;rcases kW.mp hx' with z|z
   ·exact jb x z y hy
   ·exact T.cut _ _ _ (zi2 T ub hb y hy) (hx x z)
 have bk:∀{out:Array ke}{ia ib k:Nat},LoJ an a b out ia ib->∀ha:ia<a.size,ib+k<=b.size->(∀i,i<k->∀(h:ib+i<b.size),an b[ib+i] a[ia]=true)->LoJ an a b (out++b.extract ib (ib+k)) ia (ib+k):=fun{out ia ib k} J ha hk h=>by
  obtain⟨p,u,ja,jb⟩:=J;have et:(out++b.extract ib (ib+k)).toList=out.toList++(b.toList.drop ib).take k:=by rw[ku,zh1]
  have cut:=ze0 ub ib;rw[zg6 b.toList ib k,zaq] at cut;have sub:∀y,y∈(b.toList.drop ib).take k->y∈b.toList.drop ib:=fun y hy=>Qw hy;have subd:∀y,y∈b.toList.drop (ib+k)->y∈b.toList.drop ib:=fun y hy=>by rw[zg6 b.toList ib k];exact kh _ hy
  have hx:∀x,x∈(b.toList.drop ib).take k->an x a[ia]=true:=fun x hx=>by
   obtain⟨i,hi,e⟩:=pN.mp hx;rw[kY,kj,kc] at hi;rw[←e,uk,ud,uM];exact h i (by omega) (by omega)
  refine⟨prm_b p k hk,?_,?_,?_⟩
  ·rw[et,zaq];exact⟨u,cut.1,fun x hx y hy=>jb x hx y (sub y hy)⟩
  ·rw[et];intro x hx' y hy;rcases kW.mp hx' with z|z
   ·exact ja x z y hy
   ·exact T.cut _ _ _ (zi2 T ua ha y hy) (T.asymm (hx x z))
  ·rw[et];intro x hx' y hy;rcases kW.mp hx' with z|z
   ·exact jb x z y (subd y hy)
   ·exact cut.2.2 x z y hy
 refine⟨fun h=>?_,fun{out ia ib} J h=>?_,fun{out ia ib} J h=>?_,fun{out ia ib} J ha hb e=>?_,fun{out ia ib} J ha hb e=>?_,ak,bk⟩
 ·refine⟨prm_0 h,uw _ _,fun x hx y hy=>?_,fun x hx y hy=>?_⟩
  ·rw[show x=b[0] by simpa using hx]
   exact hz y (by simpa using hy)
  ·rw[show x=b[0] by simpa using hx]
   exact zi2 T ub h y (Uv (i:=1) (by simpa using hy))
 ·obtain⟨p,u,ja,jb⟩:=J;refine⟨prm_done p,?_⟩;rw[ku,ku,zec,zec];rcases h with h|h
  ·have e:b.toList.drop ib=[]:=jn (by rw[kc];omega)
   rw[e,uT,zaq];exact⟨u,ze0 ua _,ja⟩
  ·have e:a.toList.drop ia=[]:=jn (by rw[kc];omega)
   rw[e,uT,zaq];exact⟨u,ze0 ub _,jb⟩
 ·obtain⟨p,u,ja,jb⟩:=J;refine⟨prm_last p,?_⟩;rw[ku,ku,zec,zec,zaq,zaq];refine⟨⟨u,ze0 ub _,jb⟩,ze0 ua _,fun x hx y hy=>?_⟩;have hi:ia<a.toList.length:=by rw[kc];omega
  have ey:y=a[a.size-1]:=by
   rw[QF hi,jn (by rw[kc];omega),kU] at hy
   rw[hy,uM]
   congr 1
   omega
  rcases kW.mp hx with z|z
  ·exact ja x z y hy
  ·rw[ey];exact hl x (Uv z)
 ·rw[zg3 _ _ _ hb];refine bk J ha (by omega) fun i hi h=>?_
  have e0:i=0:=by omega
  subst e0;exact e
 ·rw[zg3 _ _ _ ha];refine ak J hb (by omega) fun i hi h=>?_
  have e0:i=0:=by omega
  subst e0;exact e
def HiJ(an:ke->ke->Bool)(a b out:Array ke)(na nb:Nat):Prop:=PrmH a b out na nb/\UpL an out.toList.reverse/\(∀x,x∈out.toList->∀y,y∈a.toList.take na->an x y=false)/\∀x,x∈out.toList->∀y,y∈b.toList.take nb->an x y=false
theorem zfd(l:List ke){k n:Nat}(h:k<=n):l.take n=l.take k++(l.take n).drop k:=by
 have:=uE k (l.take n);rw[AN,Qd h] at this;exact this.symm
theorem zos(a:Array ke)(k n:Nat):(a.extract k n).reverse.toList=((a.toList.take n).drop k).reverse:=by
 rw[QZ,zb5,jl]
theorem hiIv(T:WkT an)(ua:UpL an a.toList)(ub:UpL an b.toList)(a1:0<a.size)(b1:0<b.size)(hz:∀y,y∈a.toList->an y b[0]=false)(hl:∀y,y∈b.toList->an a[a.size-1] y=false):HiIv an a b (HiJ an a b) (MgR an a b):=by
 have ak:∀{out:Array ke}{na nb k:Nat},HiJ an a b out na nb->∀(_:0<nb)(hb:nb-1<b.size),k<=na->(∀i,k<=i->i<na->∀(h:0+i<a.size),an b[nb-1] a[0+i]=true)->HiJ an a b (out++(a.extract k na).reverse) k nb:=fun{out na nb k} J h0 hb hk h=>by
  obtain⟨p,u,ja,jb⟩:=J;have lna:=p.2.1;have et:(out++(a.extract k na).reverse).toList=out.toList++((a.toList.take na).drop k).reverse:=by rw[ku,zos]
  have cut:=zdz ua na;rw[zfd a.toList hk,zaq] at cut;have sub:∀y,y∈(a.toList.take na).drop k->y∈a.toList.take na:=fun y hy=>Uv hy;have subd:∀y,y∈a.toList.take k->y∈a.toList.take na:=fun y hy=>by rw[zfd a.toList hk];exact uP _ hy
  have hx:∀x,x∈(a.toList.take na).drop k->an b[nb-1] x=true:=fun x hx=>by
   obtain⟨i,hi,e⟩:=pN.mp hx;rw[kj,kY,kc] at hi;rw[←e,ud,uk,uM];have:=h (k+i) (by omega) (by omega) (by omega)
   simpa using this
  refine⟨prmh_a p k hk,?_,?_,?_⟩
  ·rw[et,CL,CA,zaq];exact⟨cut.2.1,u,fun x hx y hy=>ja y (Qh.mp hy) x (sub x hx)⟩
  ·rw[et];intro x hx' y hy;rcases kW.mp hx' with z|z
   ·exact ja x z y (subd y hy)
   ·exact cut.2.2 y hy x (Qh.mp z)
  ·rw[et];intro x hx' y hy;rcases kW.mp hx' with z|z
   ·exact jb x z y hy
   ·exact T.cut _ _ _ (T.asymm (hx x (Qh.mp z))) (zij T ub h0 hb y hy)
 have bk:∀{out:Array ke}{na nb k:Nat},HiJ an a b out na nb->∀(_:0<na)(ha:na-1<a.size),k<=nb->(∀i,k<=i->i<nb->∀(h:0+i<b.size),an b[0+i] a[na-1]=false)->HiJ an a b (out++(b.extract k nb).reverse) na k:=fun{out na nb k} J h0 ha hk h=>by
  obtain⟨p,u,ja,jb⟩:=J;have lnb:=p.2.2;have et:(out++(b.extract k nb).reverse).toList=out.toList++((b.toList.take nb).drop k).reverse:=by rw[ku,zos]
  have cut:=zdz ub nb;rw[zfd b.toList hk,zaq] at cut;have sub:∀y,y∈(b.toList.take nb).drop k->y∈b.toList.take nb:=fun y hy=>Uv hy;have subd:∀y,y∈b.toList.take k->y∈b.toList.take nb:=fun y hy=>by rw[zfd b.toList hk];exact uP _ hy
  have hx:∀x,x∈(b.toList.take nb).drop k->an x a[na-1]=false:=fun x hx=>by
   obtain⟨i,hi,e⟩:=pN.mp hx;rw[kj,kY,kc] at hi;rw[←e,ud,uk,uM];have:=h (k+i) (by omega) (by omega) (by omega)
   simpa using this
  refine⟨prmh_b p k hk,?_,?_,?_⟩
  ·rw[et,CL,CA,zaq];exact⟨cut.2.1,u,fun x hx y hy=>jb y (Qh.mp hy) x (sub x hx)⟩
  ·rw[et];intro x hx' y hy;rcases kW.mp hx' with z|z
   ·exact ja x z y hy
   ·exact T.cut _ _ _ (hx x (Qh.mp z)) (zij T ua h0 ha y hy)
  ·rw[et];intro x hx' y hy;rcases kW.mp hx' with z|z
   ·exact jb x z y (subd y hy)
   ·exact cut.2.2 y hy x (Qh.mp z)
 refine⟨fun h=>?_,fun{out na nb} J=>J.1.2,fun{out na nb} J h=>?_,fun{out na nb} J h=>?_,fun{out na nb} J h0 h1 ha hb e=>?_,fun{out na nb} J h0 h1 ha hb e=>?_,ak,bk⟩
 ·refine⟨prmh_0 h,uw _ _,fun x hx y hy=>?_,fun x hx y hy=>?_⟩
  ·rw[show x=a[a.size-1] by simpa using hx]
   exact zij T ua h (by omega) y (by rw[kX (by rw[kc];exact kJ _)];exact Qw hy)
  ·rw[show x=a[a.size-1] by simpa using hx]
   exact hl y (Qw hy)
 ·obtain⟨p,u,ja,jb⟩:=J;refine⟨zoa p,?_⟩;rw[ku,ku,zix,zix,QZ];have ju:∀x,x∈a.toList.take na->∀y,y∈out.toList.reverse->an y x=false:=fun x hx y hy=>ja y (Qh.mp hy) x hx;have jv:∀x,x∈b.toList.take nb->∀y,y∈out.toList.reverse->an y x=false:=fun x hx y hy=>jb y (Qh.mp hy) x hx;rcases h with h|h
  ·subst h;rw[uz,UY,zaq];exact⟨zdz ub _,u,jv⟩
  ·subst h;rw[uz,uT,zaq];exact⟨zdz ua _,u,ju⟩
 ·obtain⟨p,u,ja,jb⟩:=J;refine⟨zmx p,?_⟩;rw[ku,ku,zix,zix,QZ,zaq,zaq];subst h;refine⟨⟨zdz ub _,zdz ua _,fun x hx y hy=>?_⟩,u,fun x hx y hy=>?_⟩
  ·have hb':0<b.toList.length:=by rw[kc];exact b1
   have ex:x=b[0]:=by
    rw[show(1:Nat)=0+1 from rfl,jm hb',uz,UY,kU] at hx;rw[hx,uM]
   rw[ex];exact hz y (Qw hy)
  ·rcases kW.mp hx with z|z
   ·exact jb y (Qh.mp hy) x z
   ·exact ja y (Qh.mp hy) x z
 ·rw[zhs _ _ _ h0 ha];refine ak J h1 hb (by omega) fun i hi hi' h=>?_
  have e0:i=na-1:=by omega
  subst e0
  simpa using e
 ·rw[zhs _ _ _ h1 hb];refine bk J h0 ha (by omega) fun i hi hi' h=>?_
  have e0:i=nb-1:=by omega
  subst e0
  simpa using e
end
section
variable{prog:kq}{w:pX}{A:pj}{E:kB->kC->Prop}{s:kC}{a₀:Array ke}{κ:QM}{an:ke->ke->Bool}
abbrev gK(xs:Array ke)(lo k:Nat):ke:=xs.getD (lo+k) (.none,.none)
def UpF(an:ke->ke->Bool)(f:Nat->ke)(m:Nat):Prop:=∀i j,i<j->j<m->an (f j) (f i)=false
def DnF(an:ke->ke->Bool)(f:Nat->ke)(m:Nat):Prop:=∀i j,i<j->j<m->an (f i) (f j)=false
def EqF(an:ke->ke->Bool)(f:Nat->ke)(m q:Nat):Prop:=∀i j,m<=i+q+1->i<m->m<=j+q+1->j<m->an (f i) (f j)=false
def FrL(xs ys:Array ke)(lo:Nat):Prop:=∀k,k<lo->xs[k]?=ys[k]?
theorem UpF.step(T:WkT an){f:Nat->ke}{m:Nat}(u:UpF an f m)(h:1<=m->an (f m) (f (m-1))=false):UpF an f (m+1):=fun i j hij hj=>by
 by_cases e:j=m
 ·subst e;have h':=h (by omega)
  by_cases e2:i=j-1
  ·rw[e2];exact h'
  ·exact T.cut _ _ _ h' (u i (j-1) (by omega) (by omega))
 ·exact u i j hij (by omega)
theorem DnF.step(T:WkT an){f:Nat->ke}{m:Nat}(u:DnF an f m)(h:1<=m->an (f (m-1)) (f m)=false):DnF an f (m+1):=fun i j hij hj=>by
 by_cases e:j=m
 ·subst e;have h':=h (by omega)
  by_cases e2:i=j-1
  ·rw[e2];exact h'
  ·exact T.cut _ _ _ (u i (j-1) (by omega) (by omega)) h'
 ·exact u i j hij (by omega)
theorem zeq{xs:Array ke}{lo a m:Nat}(hm:lo+m<=xs.size)(k:Nat):gK (mirror xs (lo+a) (lo+m) ((lo+m-(lo+a))/2)) lo k=if a<=k/\k<m then gK xs lo (a+m-1-k) else gK xs lo k:=by
 unfold gK;rw[pC,gr hm]
 by_cases c:a<=k/\k<m
 ·rw[if_pos c,if_pos (by omega),pC]
  congr 2
  omega
 ·rw[if_neg c,if_neg (by omega),pC]
theorem zdt{xs ys:Array ke}{lo a m:Nat}(hm:lo+m<=xs.size)(h:FrL xs ys lo):FrL (mirror xs (lo+a) (lo+m) ((lo+m-(lo+a))/2)) ys lo:=fun k hk=>by
 rw[gr hm,if_neg (by omega)]
 exact h k hk
theorem zn8(T:WkT an){xs:Array ke}{lo m q:Nat}(hm:lo+m<=xs.size)(d:DnF an (gK xs lo) m)(e:EqF an (gK xs lo) m q):DnF an (gK (mirror xs (lo+(m-(q+1))) (lo+m) ((lo+m-(lo+(m-(q+1))))/2)) lo) m:=fun i j hij hj=>by
 rw[zeq hm,zeq hm]
 by_cases c1:m-(q+1)<=i/\i<m
 ·rw[if_pos c1,if_pos (by omega)]
  exact e _ _ (by omega) (by omega) (by omega) (by omega)
 ·rw[if_neg c1]
  by_cases c2:m-(q+1)<=j/\j<m
  ·rw[if_pos c2];exact d _ _ (by omega) (by omega)
  ·rw[if_neg c2];exact d _ _ hij hj
theorem zl8{xs:Array ke}{lo m:Nat}(hm:lo+m<=xs.size)(d:DnF an (gK xs lo) m):UpF an (gK (mirror xs (lo+0) (lo+m) ((lo+m-(lo+0))/2)) lo) m:=fun i j hij hj=>by
 rw[zeq hm,zeq hm,if_pos (by omega),if_pos (by omega)]
 exact d _ _ (by omega) (by omega)
theorem zpf(T:WkT an){xs:Array ke}{lo m q:Nat}(hm:lo+m<xs.size)(h1:q+1<=m)(d:DnF an (gK xs lo) m)(e:EqF an (gK xs lo) m q)(c:an (gK xs lo m) (gK xs lo (m-1))=true):DnF an (gK (mirror xs (lo+(m-(q+1))) (lo+m) ((lo+m-(lo+(m-(q+1))))/2)) lo) (m+1):=by
 refine(zn8 T (by omega) d e).step T fun h1=>?_
 rw[zeq (by omega),zeq (by omega),if_pos (by omega),if_neg (by omega)]
 refine T.asymm ?_
 cases y:an (gK xs lo m) (gK xs lo (m-(q+1)+m-1-(m-1))) with
 |true=>rfl
 |false=>
  have:=T.cut _ _ _ y (e (m-(q+1)+m-1-(m-1)) (m-1) (by omega) (by omega) (by omega) (by omega))
  rw[c] at this
  cases this
theorem zh2(T:WkT an){f:Nat->ke}(m:Nat):EqF an f (m+1) 0:=fun i j a b a' b'=>by
 have e1:i=m:=by omega
 have e2:j=m:=by omega
 rw[e1,e2];exact T.irr _
theorem zn7(T:WkT an){f:Nat->ke}{m q:Nat}(h1:1<=m)(e:EqF an f m q)(c:an (f m) (f (m-1))=false)(y:an (f (m-1)) (f m)=false):EqF an f (m+1) (q+1):=fun i j i1 i2 j1 j2=>by
 by_cases ei:i=m
 ·subst ei
  by_cases ej:j=i
  ·rw[ej];exact T.irr _
  ·exact T.cut _ _ _ c (e (i-1) j (by omega) (by omega) (by omega) (by omega))
 ·by_cases ej:j=m
  ·subst ej;exact T.cut _ _ _ (e i (j-1) (by omega) (by omega) (by omega) (by omega)) y
  ·exact e i j (by omega) (by omega) (by omega) (by omega)
theorem all_eq(T:WkT an){f:Nat->ke}{m:Nat}(u:UpF an f m)(c:an (f 0) (f (m-1))=false):∀i j,i<m->j<m->an (f i) (f j)=false:=fun i j hi hj=>by
 have le:∀a b,a<=b->b<m->an (f b) (f a)=false:=fun a b hab hb=>by
  rcases Qu hab with z|z
  ·exact u a b z hb
  ·rw[z];exact T.irr _
 exact T.cut _ _ _ (T.cut _ _ _ (le 0 i (by omega) hi) c) (le j (m-1) (by omega) (by omega))
theorem ltG(hq:QR prog w A E s κ a₀ an){lo i j i' j':Nat}{st:uZ}{Q:Option Bool->uZ->Prop}(hp:(arrOf st).Perm a₀)(ei:i'=lo+i)(ej:j'=lo+j)(hi:lo+i<a₀.size)(hj:lo+j<a₀.size)(hκ:kindOf st=κ)(h:Q (some (an (gK (arrOf st) lo i) (gK (arrOf st) lo j))) st):wpS (model prog w) A E s (ltAt' i' j') Q st:=by
 have sz:(arrOf st).size=a₀.size:=hp.size_eq;subst ei ej;rw[ltAt'_eq];refine kH (jT ?_);refine kH (zal (show lo+i<(arrOf st).size by omega) (kH (zal (show lo+j<(arrOf st).size by omega) ?_)))
 refine hq _ _ _ _ (hp.mem_iff.mp (Qm _)) (hp.mem_iff.mp (Qm _)) hκ ?_;have e:∀{k:Nat}(h:lo+k<(arrOf st).size),gK (arrOf st) lo k=(arrOf st)[lo+k]:=fun{k} h=>by
  unfold gK;rw[pC,uV h];rfl
 rw[e (by omega),e (by omega)] at h
 exact h
theorem countG(T:WkT an)(hq:QR prog w A E s κ a₀ an){lo nrem:Nat}{st:uZ}{Q:Option Nat->uZ->Prop}(hp:(arrOf st).Perm a₀)(h1:1<=nrem)(hz:lo+nrem<=a₀.size)(hκ:kindOf st=κ)
  (h:∀m xs,1<=m->m<=nrem->xs.Perm a₀->FrL xs (arrOf st) lo->UpF an (gK xs lo) m->Q (some m) (ur st xs)):wpS (model prog w) A E s (countRun' lo nrem) Q st:=by
 have sz:(arrOf st).size=a₀.size:=hp.size_eq;have f0:FrL (arrOf st) (arrOf st) lo:=fun _ _=>rfl;refine kH (Qj (uN (I:=fun x(c:Option (Option Nat)×Nat) st'=>st=st'/\c.1=none/\1<=c.2/\c.2=x/\UpF an (gK (arrOf st) lo) c.2) (Q:=fun c st'=>st=st'/\c.1=none/\1<=c.2/\c.2<=nrem/\UpF an (gK (arrOf st) lo) c.2/\(c.2<nrem->an (gK (arrOf st) lo c.2) (gK (arrOf st) lo (c.2-1))=true)) ?_ ?_ ⟨rfl,rfl,kJ _,rfl,fun i j _ hj=>(by have:j<1:=hj;omega)⟩) ?_)
 ·rintro x ⟨r,n⟩ st' hx1 hx ⟨rfl,e,hn1,hn2,u⟩;dsimp only at e hn1 hn2 u⊢;refine kH (ltG hq hp (i:=n) (j:=n-1) rfl (by omega) (by omega) (by omega) hκ ?_)
  cases eb:an (gK (arrOf st) lo n) (gK (arrOf st) lo (n-1)) with
  |true=>exact kG ⟨rfl,rfl,hn1,(by show n<=nrem;omega),u,fun _=>eb⟩
  |false=>exact kG ⟨rfl,rfl,(by show 1<=n+1;omega),(by show n+1=x+1;omega),u.step T fun _=>eb⟩
 ·rintro⟨r,n⟩ st' ⟨e,e1,hn1,hn2,u⟩;dsimp only at e e1 hn1 hn2 u⊢;exact⟨e,e1,hn1,by show n<=nrem;omega,u,fun z=>by have:n<nrem:=z;omega⟩
 rintro⟨r,n⟩ st' ⟨rfl,e,hn1,hn2,u,us⟩;dsimp only at e hn1 hn2 u us⊢;subst e;dsimp only
 by_cases c1:(n==nrem)=true
 ·rw[if_pos c1];exact kG (h n (arrOf st) hn1 hn2 hp f0 u)
 rw[if_neg c1];have c1':n≠nrem:=fun z=>c1 (by rw[z];exact beq_self_eq_true _)
 have us':=us (by omega)
 by_cases c2:n>1
 ·rw[if_pos c2];refine kH (ltG hq hp (i:=0) (j:=n-1) rfl (by omega) (by omega) (by omega) hκ ?_)
  cases er:an (gK (arrOf st) lo 0) (gK (arrOf st) lo (n-1)) with
  |true=>exact kG (h n (arrOf st) hn1 hn2 hp f0 u)
  |false=>
   have al:=all_eq T u er;have d1:DnF an (gK (mirror (arrOf st) (lo+0) (lo+n) ((lo+n-(lo+0))/2)) lo) (n+1):=by
    refine DnF.step T (fun i j hij hj=>?_) fun _=>?_
    ·rw[zeq (by omega),zeq (by omega),if_pos (by omega),if_pos (by omega)]
     exact al _ _ (by omega) (by omega)
    ·rw[zeq (by omega),zeq (by omega),if_pos (by omega),if_neg (by omega)]
     refine T.asymm ?_
     cases y:an (gK (arrOf st) lo n) (gK (arrOf st) lo (0+n-1-(n-1))) with
     |true=>rfl
     |false=>
      have:=T.cut _ _ _ y (al (0+n-1-(n-1)) (n-1) (by omega) (by omega))
      rw[us'] at this
      cases this
   refine kH (uf ?_);refine kH (AO (UE ⟨rfl,?_⟩));refine kH (Qj (uN (I:=fun x(c:Option (Option Nat)×Nat×Nat) st'=>(c.1=none/\1<=c.2.1/\c.2.1=x/\c.2.2+1<=c.2.1)/\∃xs,xs.Perm a₀/\FrL xs (arrOf st) lo/\DnF an (gK xs lo) c.2.1/\EqF an (gK xs lo) c.2.1 c.2.2/\st'=ur st xs) (Q:=fun c st'=>(c.1=none/\1<=c.2.1/\c.2.1<=nrem/\c.2.2+1<=c.2.1)/\∃xs,xs.Perm a₀/\FrL xs (arrOf st) lo/\DnF an (gK xs lo) c.2.1/\EqF an (gK xs lo) c.2.1 c.2.2/\st'=ur st xs) ?_ ?_ ⟨⟨rfl,(by show 1<=n+1;omega),rfl,(by show 0+1<=n+1;omega)⟩,_,(Ur _ _ _ _).trans hp,zdt (a:=0) (by omega) f0,d1,zh2 T n,rfl⟩) ?_)
   ·rintro x ⟨r,n2,q2⟩ st' hx1 hx ⟨⟨e,hn1,hn2,hq2⟩,xs,px,fx,dx,ex,rfl⟩;dsimp only at e hn1 hn2 hq2 dx ex⊢;have sx:xs.size=a₀.size:=px.size_eq;refine kH (ltG hq px (i:=n2) (j:=n2-1) rfl (by omega) (by omega) (by omega) hκ ?_)
    cases eb:an (gK (arrOf (ur st xs)) lo n2) (gK (arrOf (ur st xs)) lo (n2-1)) with
    |true=>
     try dsimp only
     rw[if_pos rfl]
     by_cases qq:q2>0
     ·rw[if_pos qq];refine kH (uf (kG ⟨⟨rfl,(by show 1<=n2+1;omega),(by show n2+1=x+1;omega),(by show 0+1<=n2+1;omega)⟩,mirror xs (lo+(n2-(q2+1))) (lo+n2) ((lo+n2-(lo+(n2-(q2+1))))/2),(Ur _ _ _ _).trans px,zdt (by omega) fx,zpf T (by omega) hq2 dx ex eb,zh2 T n2,?_⟩))
      rw[show lo+n2-(q2+1)=lo+(n2-(q2+1)) by omega];rfl
     ·rw[if_neg qq];exact kG ⟨⟨rfl,(by show 1<=n2+1;omega),(by show n2+1=x+1;omega),(by show 0+1<=n2+1;omega)⟩,_,px,fx,dx.step T fun _=>T.asymm eb,zh2 T n2,rfl⟩
    |false=>
     refine kH (ltG hq px (i:=n2-1) (j:=n2) (by omega) rfl (by omega) (by omega) hκ ?_)
     cases ec:an (gK (arrOf (ur st xs)) lo (n2-1)) (gK (arrOf (ur st xs)) lo n2) with
     |true=>exact kG ⟨⟨rfl,hn1,(by show n2<=nrem;omega),hq2⟩,_,px,fx,dx,ex,rfl⟩
     |false=>exact kG ⟨⟨rfl,(by show 1<=n2+1;omega),(by show n2+1=x+1;omega),(by show q2+1+1<=n2+1;omega)⟩,_,px,fx,dx.step T fun _=>ec,zn7 T hn1 ex eb ec,rfl⟩
   ·rintro⟨r,n2,q2⟩ st' ⟨⟨e,hn1,hn2,hq2⟩,z⟩;dsimp only at e hn1 hn2 hq2 z⊢;exact⟨⟨e,hn1,by show n2<=nrem;omega,hq2⟩,z⟩
   ·rintro⟨r,n2,q2⟩ st' ⟨⟨e,hn1,hn2,hq2⟩,xs2,px2,fx2,dx2,ex2,rfl⟩;dsimp only at e hn1 hn2 hq2 dx2 ex2⊢;subst e;dsimp only;have sx:xs2.size=a₀.size:=px2.size_eq
    by_cases qq:q2>0
    ·rw[if_pos qq];have dr:=zn8 T (by omega) dx2 ex2
     have er:lo+n2-(q2+1)=lo+(n2-(q2+1)):=by omega
     refine kH (uf ?_);refine kH (uf ?_);rw[er];have pr:(mirror xs2 (lo+(n2-(q2+1))) (lo+n2) ((lo+n2-(lo+(n2-(q2+1))))/2)).Perm a₀:=(Ur _ _ _ _).trans px2;have fr:FrL (mirror xs2 (lo+(n2-(q2+1))) (lo+n2) ((lo+n2-(lo+(n2-(q2+1))))/2)) (arrOf st) lo:=zdt (by omega) fx2
     have sx3:(mirror xs2 (lo+(n2-(q2+1))) (lo+n2) ((lo+n2-(lo+(n2-(q2+1))))/2)).size=a₀.size:=pr.size_eq;refine kH (Qj (uN (I:=fun x(c:Option (Option Nat)×Nat) st'=>(c.1=none/\1<=c.2/\c.2=x)/\∃xs,xs.Perm a₀/\FrL xs (arrOf st) lo/\UpF an (gK xs lo) c.2/\st'=ur st xs) (Q:=fun c st'=>(c.1=none/\1<=c.2/\c.2<=nrem)/\∃xs,xs.Perm a₀/\FrL xs (arrOf st) lo/\UpF an (gK xs lo) c.2/\st'=ur st xs) ?_ ?_ ⟨⟨rfl,(by show 1<=n2;omega),rfl⟩,_,(Ur _ _ _ _).trans pr,zdt (a:=0) (by omega) fr,zl8 (by omega) dr,rfl⟩) ?_)
     ·rintro x ⟨r,n3⟩ st' hx1 hx ⟨⟨e,hn1,hn2'⟩,xs,px,fx,ux,rfl⟩;dsimp only at e hn1 hn2' ux⊢;refine kH (ltG hq px (i:=n3) (j:=n3-1) rfl (by omega) (by omega) (by omega) hκ ?_)
      cases eb:an (gK (arrOf (ur st xs)) lo n3) (gK (arrOf (ur st xs)) lo (n3-1)) with
      |true=>exact kG ⟨⟨rfl,hn1,(by show n3<=nrem;omega)⟩,_,px,fx,ux,rfl⟩
      |false=>exact kG ⟨⟨rfl,(by show 1<=n3+1;omega),(by show n3+1=x+1;omega)⟩,_,px,fx,ux.step T fun _=>eb,rfl⟩
     ·rintro⟨r,n3⟩ st' ⟨⟨e,hn1,hn2'⟩,z⟩;dsimp only at e hn1 hn2' z⊢;exact⟨⟨e,hn1,by show n3<=nrem;omega⟩,z⟩
     ·rintro⟨r,n3⟩ st' ⟨⟨e,hn1,hn2'⟩,xs,px,fx,ux,rfl⟩;dsimp only at e hn1 hn2' ux⊢;subst e;exact kG (h n3 xs hn1 hn2' px fx ux)
    ·rw[if_neg qq];refine kH (uf ?_);refine kH (Qj (uN (I:=fun x(c:Option (Option Nat)×Nat) st'=>(c.1=none/\1<=c.2/\c.2=x)/\∃xs,xs.Perm a₀/\FrL xs (arrOf st) lo/\UpF an (gK xs lo) c.2/\st'=ur st xs) (Q:=fun c st'=>(c.1=none/\1<=c.2/\c.2<=nrem)/\∃xs,xs.Perm a₀/\FrL xs (arrOf st) lo/\UpF an (gK xs lo) c.2/\st'=ur st xs) ?_ ?_ ⟨⟨rfl,(by show 1<=n2;omega),rfl⟩,_,(Ur _ _ _ _).trans px2,zdt (a:=0) (by omega) fx2,zl8 (by omega) dx2,rfl⟩) ?_)
     ·rintro x ⟨r,n3⟩ st' hx1 hx ⟨⟨e,hn1,hn2'⟩,xs,px,fx,ux,rfl⟩;dsimp only at e hn1 hn2' ux⊢;refine kH (ltG hq px (i:=n3) (j:=n3-1) rfl (by omega) (by omega) (by omega) hκ ?_)
      cases eb:an (gK (arrOf (ur st xs)) lo n3) (gK (arrOf (ur st xs)) lo (n3-1)) with
      |true=>exact kG ⟨⟨rfl,hn1,(by show n3<=nrem;omega)⟩,_,px,fx,ux,rfl⟩
      |false=>exact kG ⟨⟨rfl,(by show 1<=n3+1;omega),(by show n3+1=x+1;omega)⟩,_,px,fx,ux.step T fun _=>eb,rfl⟩
     ·rintro⟨r,n3⟩ st' ⟨⟨e,hn1,hn2'⟩,z⟩;dsimp only at e hn1 hn2' z⊢;exact⟨⟨e,hn1,by show n3<=nrem;omega⟩,z⟩
     ·rintro⟨r,n3⟩ st' ⟨⟨e,hn1,hn2'⟩,xs,px,fx,ux,rfl⟩;dsimp only at e hn1 hn2' ux⊢;subst e;exact kG (h n3 xs hn1 hn2' px fx ux)
 ·rw[if_neg c2];have n1:n=1:=by omega
  have d1:DnF an (gK (arrOf st) lo) (n+1):=DnF.step T (fun i j hij hj=>by omega) fun _=>T.asymm us'
  refine kH (AO (UE ⟨rfl,?_⟩));refine kH (Qj (uN (I:=fun x(c:Option (Option Nat)×Nat×Nat) st'=>(c.1=none/\1<=c.2.1/\c.2.1=x/\c.2.2+1<=c.2.1)/\∃xs,xs.Perm a₀/\FrL xs (arrOf st) lo/\DnF an (gK xs lo) c.2.1/\EqF an (gK xs lo) c.2.1 c.2.2/\st'=ur st xs) (Q:=fun c st'=>(c.1=none/\1<=c.2.1/\c.2.1<=nrem/\c.2.2+1<=c.2.1)/\∃xs,xs.Perm a₀/\FrL xs (arrOf st) lo/\DnF an (gK xs lo) c.2.1/\EqF an (gK xs lo) c.2.1 c.2.2/\st'=ur st xs) ?_ ?_ ⟨⟨rfl,(by show 1<=n+1;omega),rfl,(by show 0+1<=n+1;omega)⟩,_,hp,f0,d1,zh2 T n,rfl⟩) ?_)
  ·rintro x ⟨r,n2,q2⟩ st' hx1 hx ⟨⟨e,hn1,hn2,hq2⟩,xs,px,fx,dx,ex,rfl⟩;dsimp only at e hn1 hn2 hq2 dx ex⊢;have sx:xs.size=a₀.size:=px.size_eq;refine kH (ltG hq px (i:=n2) (j:=n2-1) rfl (by omega) (by omega) (by omega) hκ ?_)
   cases eb:an (gK (arrOf (ur st xs)) lo n2) (gK (arrOf (ur st xs)) lo (n2-1)) with
   |true=>
    try dsimp only
    rw[if_pos rfl]
    by_cases qq:q2>0
    ·rw[if_pos qq];refine kH (uf (kG ⟨⟨rfl,(by show 1<=n2+1;omega),(by show n2+1=x+1;omega),(by show 0+1<=n2+1;omega)⟩,mirror xs (lo+(n2-(q2+1))) (lo+n2) ((lo+n2-(lo+(n2-(q2+1))))/2),(Ur _ _ _ _).trans px,zdt (by omega) fx,zpf T (by omega) hq2 dx ex eb,zh2 T n2,?_⟩))
     rw[show lo+n2-(q2+1)=lo+(n2-(q2+1)) by omega];rfl
    ·rw[if_neg qq];exact kG ⟨⟨rfl,(by show 1<=n2+1;omega),(by show n2+1=x+1;omega),(by show 0+1<=n2+1;omega)⟩,_,px,fx,dx.step T fun _=>T.asymm eb,zh2 T n2,rfl⟩
   |false=>
    refine kH (ltG hq px (i:=n2-1) (j:=n2) (by omega) rfl (by omega) (by omega) hκ ?_)
    cases ec:an (gK (arrOf (ur st xs)) lo (n2-1)) (gK (arrOf (ur st xs)) lo n2) with
    |true=>exact kG ⟨⟨rfl,hn1,(by show n2<=nrem;omega),hq2⟩,_,px,fx,dx,ex,rfl⟩
    |false=>exact kG ⟨⟨rfl,(by show 1<=n2+1;omega),(by show n2+1=x+1;omega),(by show q2+1+1<=n2+1;omega)⟩,_,px,fx,dx.step T fun _=>ec,zn7 T hn1 ex eb ec,rfl⟩
  ·rintro⟨r,n2,q2⟩ st' ⟨⟨e,hn1,hn2,hq2⟩,z⟩;dsimp only at e hn1 hn2 hq2 z⊢;exact⟨⟨e,hn1,by show n2<=nrem;omega,hq2⟩,z⟩
  ·rintro⟨r,n2,q2⟩ st' ⟨⟨e,hn1,hn2,hq2⟩,xs2,px2,fx2,dx2,ex2,rfl⟩;dsimp only at e hn1 hn2 hq2 dx2 ex2⊢;subst e;dsimp only;have sx:xs2.size=a₀.size:=px2.size_eq
   by_cases qq:q2>0
   ·rw[if_pos qq];have dr:=zn8 T (by omega) dx2 ex2
    have er:lo+n2-(q2+1)=lo+(n2-(q2+1)):=by omega
    refine kH (uf ?_);refine kH (uf ?_);rw[er];have pr:(mirror xs2 (lo+(n2-(q2+1))) (lo+n2) ((lo+n2-(lo+(n2-(q2+1))))/2)).Perm a₀:=(Ur _ _ _ _).trans px2;have fr:FrL (mirror xs2 (lo+(n2-(q2+1))) (lo+n2) ((lo+n2-(lo+(n2-(q2+1))))/2)) (arrOf st) lo:=zdt (by omega) fx2
    have sx3:(mirror xs2 (lo+(n2-(q2+1))) (lo+n2) ((lo+n2-(lo+(n2-(q2+1))))/2)).size=a₀.size:=pr.size_eq;refine kH (Qj (uN (I:=fun x(c:Option (Option Nat)×Nat) st'=>(c.1=none/\1<=c.2/\c.2=x)/\∃xs,xs.Perm a₀/\FrL xs (arrOf st) lo/\UpF an (gK xs lo) c.2/\st'=ur st xs) (Q:=fun c st'=>(c.1=none/\1<=c.2/\c.2<=nrem)/\∃xs,xs.Perm a₀/\FrL xs (arrOf st) lo/\UpF an (gK xs lo) c.2/\st'=ur st xs) ?_ ?_ ⟨⟨rfl,(by show 1<=n2;omega),rfl⟩,_,(Ur _ _ _ _).trans pr,zdt (a:=0) (by omega) fr,zl8 (by omega) dr,rfl⟩) ?_)
    ·rintro x ⟨r,n3⟩ st' hx1 hx ⟨⟨e,hn1,hn2'⟩,xs,px,fx,ux,rfl⟩;dsimp only at e hn1 hn2' ux⊢;refine kH (ltG hq px (i:=n3) (j:=n3-1) rfl (by omega) (by omega) (by omega) hκ ?_)
     cases eb:an (gK (arrOf (ur st xs)) lo n3) (gK (arrOf (ur st xs)) lo (n3-1)) with
     |true=>exact kG ⟨⟨rfl,hn1,(by show n3<=nrem;omega)⟩,_,px,fx,ux,rfl⟩
     |false=>exact kG ⟨⟨rfl,(by show 1<=n3+1;omega),(by show n3+1=x+1;omega)⟩,_,px,fx,ux.step T fun _=>eb,rfl⟩
    ·rintro⟨r,n3⟩ st' ⟨⟨e,hn1,hn2'⟩,z⟩;dsimp only at e hn1 hn2' z⊢;exact⟨⟨e,hn1,by show n3<=nrem;omega⟩,z⟩
    ·rintro⟨r,n3⟩ st' ⟨⟨e,hn1,hn2'⟩,xs,px,fx,ux,rfl⟩;dsimp only at e hn1 hn2' ux⊢;subst e;exact kG (h n3 xs hn1 hn2' px fx ux)
   ·rw[if_neg qq];refine kH (uf ?_);refine kH (Qj (uN (I:=fun x(c:Option (Option Nat)×Nat) st'=>(c.1=none/\1<=c.2/\c.2=x)/\∃xs,xs.Perm a₀/\FrL xs (arrOf st) lo/\UpF an (gK xs lo) c.2/\st'=ur st xs) (Q:=fun c st'=>(c.1=none/\1<=c.2/\c.2<=nrem)/\∃xs,xs.Perm a₀/\FrL xs (arrOf st) lo/\UpF an (gK xs lo) c.2/\st'=ur st xs) ?_ ?_ ⟨⟨rfl,(by show 1<=n2;omega),rfl⟩,_,(Ur _ _ _ _).trans px2,zdt (a:=0) (by omega) fx2,zl8 (by omega) dx2,rfl⟩) ?_)
    ·rintro x ⟨r,n3⟩ st' hx1 hx ⟨⟨e,hn1,hn2'⟩,xs,px,fx,ux,rfl⟩;dsimp only at e hn1 hn2' ux⊢;refine kH (ltG hq px (i:=n3) (j:=n3-1) rfl (by omega) (by omega) (by omega) hκ ?_)
     cases eb:an (gK (arrOf (ur st xs)) lo n3) (gK (arrOf (ur st xs)) lo (n3-1)) with
     |true=>exact kG ⟨⟨rfl,hn1,(by show n3<=nrem;omega)⟩,_,px,fx,ux,rfl⟩
     |false=>exact kG ⟨⟨rfl,(by show 1<=n3+1;omega),(by show n3+1=x+1;omega)⟩,_,px,fx,ux.step T fun _=>eb,rfl⟩
    ·rintro⟨r,n3⟩ st' ⟨⟨e,hn1,hn2'⟩,z⟩;dsimp only at e hn1 hn2' z⊢;exact⟨⟨e,hn1,by show n3<=nrem;omega⟩,z⟩
    ·rintro⟨r,n3⟩ st' ⟨⟨e,hn1,hn2'⟩,xs,px,fx,ux,rfl⟩;dsimp only at e hn1 hn2' ux⊢;subst e;exact kG (h n3 xs hn1 hn2' px fx ux)
end
section
variable{prog:kq}{w:pX}{A:pj}{E:kB->kC->Prop}{s:kC}{a₀:Array ke}{κ:QM}{an:ke->ke->Bool}
theorem gK_bub{xs:Array ke}{lo l k:Nat}(hk:lo+k<xs.size)(hl:l<=k)(j:Nat):gK (bubble xs (lo+k) (lo+k-(lo+l))) lo j=if j=l then gK xs lo k else if l<j/\j<=k then gK xs lo (j-1) else gK xs lo j:=by
 unfold gK;rw[pC,BZ hk _ (by omega)]
 by_cases c1:j=l
 ·rw[if_pos c1,if_pos (by omega),pC]
 ·rw[if_neg c1,if_neg (by omega)]
  by_cases c2:l<j/\j<=k
  ·rw[if_pos c2,if_pos (by omega),pC]
   congr 2
   omega
  ·rw[if_neg c2,if_neg (by omega),pC]
theorem frL_bub{xs ys:Array ke}{lo l k:Nat}(hk:lo+k<xs.size)(hl:l<=k)(h:FrL xs ys lo):FrL (bubble xs (lo+k) (lo+k-(lo+l))) ys lo:=fun j hj=>by
 rw[BZ hk _ (by omega),if_neg (by omega),if_neg (by omega)]
 exact h j hj
theorem up_bub(T:WkT an){xs:Array ke}{lo l k:Nat}(hk:lo+k<xs.size)(hl:l<=k)(u:UpF an (gK xs lo) k)(h1:∀i,i<l->an (gK xs lo k) (gK xs lo i)=false)(h2:∀i,l<=i->i<k->an (gK xs lo k) (gK xs lo i)=true):UpF an (gK (bubble xs (lo+k) (lo+k-(lo+l))) lo) (k+1):=fun i j hij hj=>by
 rw[gK_bub hk hl,gK_bub hk hl]
 by_cases a1:j=l
 ·rw[if_pos a1,if_neg (by omega),if_neg (by omega)]
  exact h1 i (by omega)
 ·rw[if_neg a1]
  by_cases a2:l<j/\j<=k
  ·rw[if_pos a2]
   by_cases b1:i=l
   ·rw[if_pos b1];exact T.asymm (h2 (j-1) (by omega) (by omega))
   ·rw[if_neg b1]
    by_cases b2:l<i/\i<=k
    ·rw[if_pos b2];exact u (i-1) (j-1) (by omega) (by omega)
    ·rw[if_neg b2];exact u i (j-1) (by omega) (by omega)
  ·rw[if_neg a2,if_neg (by omega),if_neg (by omega)]
   exact u i j hij (by omega)
theorem binG(T:WkT an)(hq:QR prog w A E s κ a₀ an){lo n ok:Nat}{st:uZ}{Q:Bool->uZ->Prop}(hp:(arrOf st).Perm a₀)(hz:lo+n<=a₀.size)(hκ:kindOf st=κ)(u:UpF an (gK (arrOf st) lo) ok)
  (h:∀xs,xs.Perm a₀->FrL xs (arrOf st) lo->UpF an (gK xs lo) n->Q true (ur st xs)):wpS (model prog w) A E s (binarySort' lo n ok) Q st:=by
 refine kH (Qj (uN (I:=fun x(c:Option Bool×Unit) st'=>c.1=none/\∃xs,xs.Perm a₀/\FrL xs (arrOf st) lo/\UpF an (gK xs lo) x/\st'=ur st xs) (Q:=fun c st'=>c.1=none/\∃xs,xs.Perm a₀/\FrL xs (arrOf st) lo/\UpF an (gK xs lo) n/\st'=ur st xs) ?_ ?_ ⟨rfl,_,hp,fun _ _=>rfl,fun i j hij hj=>?_,rfl⟩) ?_)
 ·rintro x ⟨r,un⟩ st' hx1 hx ⟨e,xs,px,fx,ux,rfl⟩;dsimp only at e⊢;have sx:xs.size=a₀.size:=px.size_eq;refine kH (Qj (uN (I:=fun y(c:Option Bool×Nat×Nat) st'=>c.1=none/\(c.2.1<=c.2.2/\c.2.2<=x/\c.2.2-c.2.1<=x-y)/\(∀i,i<c.2.1->an (gK xs lo x) (gK xs lo i)=false)/\(∀i,c.2.2<=i->i<x->an (gK xs lo x) (gK xs lo i)=true)/\st'=ur st xs) (Q:=fun c st'=>c.1=none/\c.2.1<=x/\(∀i,i<c.2.1->an (gK xs lo x) (gK xs lo i)=false)/\(∀i,c.2.1<=i->i<x->an (gK xs lo x) (gK xs lo i)=true)/\st'=ur st xs) ?_ ?_ ⟨rfl,⟨pY _,kJ _,(by show x-0<=x-0;omega)⟩,fun i hi=>absurd hi (Bb _),fun i hi hi'=>(by have:x<=i:=hi;omega),rfl⟩) ?_)
  ·rintro y ⟨r1,l,r⟩ st' _ hy ⟨e1,⟨q1,q2,q3⟩,q4,q5,rfl⟩;dsimp only at e1 q1 q2 q3 q4 q5⊢
   by_cases c:l≥r
   ·rw[if_pos c];have el:l=r:=by omega
    subst el;exact kG ⟨rfl,q2,q4,q5,rfl⟩
   ·rw[if_neg c];refine kH (ltG hq px (i:=x) (j:=(l+r)/2) rfl rfl (by omega) (by omega) hκ ?_)
    cases eb:an (gK (arrOf (ur st xs)) lo x) (gK (arrOf (ur st xs)) lo ((l+r)/2)) with
    |true=>
     refine kG ⟨rfl,⟨(by show l<=(l+r)/2;omega),(by show(l+r)/2<=x;omega),(by show(l+r)/2-l<=x-(y+1);omega)⟩,q4,fun i hi hi'=>?_,rfl⟩
     have hi2:(l+r)/2<=i:=hi
     cases z:an (gK xs lo x) (gK xs lo i) with
     |true=>rfl
     |false=>
      rcases Qu hi2 with y1|y1
      ·have:=T.cut _ _ _ z (ux _ i y1 hi');rw[show an (gK xs lo x) (gK xs lo ((l+r)/2))=true from eb] at this
       cases this
      ·rw[←y1] at z;rw[show an (gK xs lo x) (gK xs lo ((l+r)/2))=true from eb] at z
       cases z
    |false=>
     refine kG ⟨rfl,⟨(by show(l+r)/2+1<=r;omega),q2,(by show r-((l+r)/2+1)<=x-(y+1);omega)⟩,fun i hi=>?_,q5,rfl⟩
     have hi2:i<(l+r)/2+1:=hi;rcases Qu (Nat.le_of_lt_succ hi2) with y1|y1
     ·exact T.cut _ _ _ eb (ux i _ y1 (by omega))
     ·rw[y1];exact eb
  ·rintro⟨r1,l,r⟩ st' ⟨e1,⟨q1,q2,q3⟩,q4,q5,rfl⟩;dsimp only at e1 q1 q2 q3 q4 q5⊢;have el:l=r:=by omega
   subst el;exact⟨e1,q2,q4,q5,rfl⟩
  ·rintro⟨r1,l,r⟩ st' ⟨e1,q2,q4,q5,rfl⟩;dsimp only at e1 q2 q4 q5⊢;subst e1;exact kH (uf (kG ⟨rfl,_,(DR _ _ _).trans px,frL_bub (by omega) q2 fx,up_bub T (by omega) q2 ux q4 q5,rfl⟩))
 ·rintro⟨r,un⟩ st' ⟨e,xs,px,fx,ux,rfl⟩;exact⟨e,xs,px,fx,fun i j hij hj=>ux i j hij (by omega),rfl⟩
 ·by_cases o:ok=0
  ·have:j<max ok 1:=hj;omega
  ·exact u i j hij (by have:j<max ok 1:=hj;omega)
 ·rintro⟨r,un⟩ st' ⟨e,xs,px,fx,ux,rfl⟩;dsimp only at e⊢;subst e;exact kG (h xs px fx ux)
end
section
variable{prog:kq}{w:pX}{A:pj}{E:kB->kC->Prop}{s:kC}{a₀:Array ke}{κ:QM}{an:ke->ke->Bool}
theorem zea{xs:Array ke}{lo k:Nat}(h:lo+k<xs.size):gK xs lo k=xs[lo+k]:=by
 unfold gK;rw[pC,uV h];rfl
theorem ze7{xs:Array ke}{lo n:Nat}(h:lo+n<=xs.size):UpF an (gK xs lo) n↔UpL an ((xs.toList.drop lo).take n):=by
 have ln:((xs.toList.drop lo).take n).length=n:=by rw[kY,kj,kc];omega
 have at_:∀{i:Nat}(hi:i<((xs.toList.drop lo).take n).length),((xs.toList.drop lo).take n)[i]=gK xs lo i:=fun{i} hi=>by
  rw[ln] at hi;rw[uk,ud,uM,zea (by omega)]
 unfold UpL;rw[UC]
 constructor
 ·intro u i j hi hj hij;rw[at_ hi,at_ hj];exact u i j hij (by omega)
 ·intro u i j hij hj;have:=u i j (by omega) (by omega) hij
  rw[at_ (by omega),at_ (by omega)] at this
  exact this
theorem zk0{xs:Array ke}{lo n:Nat}(u:UpF an (gK xs lo) n):SrtS an xs lo n:=fun i j hij hj hi hj'=>by
 have:=u i j hij hj;rw[zea hj',zea hi] at this;exact this
theorem zia{a:Array ke}(u:UpL an a.toList):SrtS an a 0 a.size:=zk0 ((ze7 (by omega)).mpr (by
 rw[vE,kX (by rw[kc];exact kJ _)]
 exact u))
def FrO(xs ys:Array ke)(lo hi:Nat):Prop:=∀k,k<lo∨hi<=k->xs[k]?=ys[k]?
theorem mergedS(T:WkT an){arr m:Array ke}{sa na nb k n:Nat}(hz:sa+na+nb<=arr.size)(hk:k<na)(hn:n<=nb)(ua:UpF an (gK arr sa) na)(ub:UpF an (gK arr (sa+na)) nb)
  (h1:∀i,i<k->an (gK arr (sa+na) 0) (gK arr sa i)=false)(h0:0<nb)(h2:∀i,n<=i->i<nb->an (gK arr (sa+na) i) (gK arr sa (na-1))=false)
  (hm:m.toList.Perm ((arr.extract (sa+k) (sa+na)).toList++(arr.extract (sa+na) (sa+na+n)).toList))(um:UpL an m.toList):
  UpF an (gK (m.toList.zipIdx.foldl (fun a(x:ke×Nat)=>match x with|(p,j)=>a.setIfInBounds (sa+k+j) p) arr) sa) (na+nb)/\
  FrO (m.toList.zipIdx.foldl (fun a(x:ke×Nat)=>match x with|(p,j)=>a.setIfInBounds (sa+k+j) p) arr) arr sa (sa+na+nb):=by
 have lm:m.toList.length=na-k+n:=by
  rw[hm.length_eq,kK,zb5,zb5,kY,kY,kj,kj,kc];omega
 have e:=zk4 (sa+k) m.toList 0 arr (by omega)
 rw[BQ,lm] at e;have pm:(m.toList.zipIdx.foldl (fun a(x:ke×Nat)=>match x with|(p,j)=>a.setIfInBounds (sa+k+j) p) arr).Perm arr:=zgw (sa:=sa+k) (sb:=sa+na) (nb:=n) (by omega) (by omega) hm
 have sz:=pm.size_eq;generalize m.toList.zipIdx.foldl (fun a(x:ke×Nat)=>match x with|(p,j)=>a.setIfInBounds (sa+k+j) p) arr=ys at*
 rw[ze7 (by omega)] at ua ub
 have eA:(arr.toList.drop sa).take na=(arr.toList.drop sa).take k++(arr.extract (sa+k) (sa+na)).toList:=by
  rw[zb5,show sa+na-(sa+k)=na-k by omega,←UL]
  have:=uE k ((arr.toList.drop sa).take na);rw[AN,Qd (by omega),jl] at this
  exact this.symm
 have eB:(arr.toList.drop (sa+na)).take nb=(arr.extract (sa+na) (sa+na+n)).toList++((arr.toList.drop (sa+na)).take nb).drop n:=by
  rw[zh1];have:=uE n ((arr.toList.drop (sa+na)).take nb);rw[AN,Qd hn] at this;exact this.symm
 have ey:(ys.toList.drop sa).take (na+nb)=(arr.toList.drop sa).take k++m.toList++((arr.toList.drop (sa+na)).take nb).drop n:=by
  rw[e,pL,List.drop_append_of_le_length (by rw[kY,kc];omega),jl,show sa+k-sa=k by omega,pL]
  rw[DM,kY,kj,kc,kX (by rw[kY];omega)]
  rw[DM,kX (l:=m.toList) (by rw[lm];omega),lm]
  congr 2
  rw[jl,UL]
  congr 1
  ·omega
  ·congr 1
   omega
 rw[eA,zaq] at ua;rw[eB,zaq] at ub;have mA:∀x,x∈(arr.toList.drop sa).take k->an (gK arr (sa+na) 0) x=false:=fun x hx=>by
  obtain⟨i,hi,ei⟩:=pN.mp hx;rw[kY,kj,kc] at hi;rw[←ei,uk,ud,uM,←zea (by omega)]
  exact h1 i (by omega)
 have b0:∀y,y∈(arr.toList.drop (sa+na)).take nb->an y (gK arr (sa+na) 0)=false:=fun y hy=>by
  have u:=(ze7 (an:=an) (xs:=arr) (lo:=sa+na) (n:=nb) (by omega)).mpr (by rw[eB,zaq];exact ub)
  obtain⟨i,hi,ei⟩:=pN.mp hy;rw[kY,kj,kc] at hi;rw[←ei,uk,ud,uM,←zea (by omega)]
  by_cases z:i=0
  ·rw[z];exact T.irr _
  ·exact u 0 i (by omega) (by omega)
 have mB:∀y,y∈((arr.toList.drop (sa+na)).take nb).drop n->an y (gK arr sa (na-1))=false:=fun y hy=>by
  obtain⟨i,hi,ei⟩:=pN.mp hy;rw[kj,kY,kj,kc] at hi;rw[←ei,ud,uk,ud,uM,←zea (by omega)]
  exact h2 (n+i) (by omega) (by omega)
 have al:∀x,x∈(arr.extract (sa+k) (sa+na)).toList->an (gK arr sa (na-1)) x=false:=fun x hx=>by
  have u:=(ze7 (an:=an) (xs:=arr) (lo:=sa) (n:=na) (by omega)).mpr (by rw[eA,zaq];exact ua)
  rw[zb5] at hx;obtain⟨i,hi,ei⟩:=pN.mp hx;rw[kY,kj,kc] at hi;rw[←ei,uk,ud,uM];have ge:arr[sa+k+i]'(by omega)=gK arr sa (k+i):=by rw[zea (by omega)];congr 1;omega
  rw[ge]
  by_cases z:k+i=na-1
  ·rw[z];exact T.irr _
  ·exact u (k+i) (na-1) (by omega) (by omega)
 have mm:∀x,x∈m.toList->x∈(arr.extract (sa+k) (sa+na)).toList∨x∈(arr.extract (sa+na) (sa+na+n)).toList:=fun x hx=>kW.mp (hm.mem_iff.mp hx);have inB:∀x,x∈(arr.extract (sa+na) (sa+na+n)).toList->x∈(arr.toList.drop (sa+na)).take nb:=fun x hx=>by rw[eB];exact uP _ hx
 have inB2:∀x,x∈((arr.toList.drop (sa+na)).take nb).drop n->x∈(arr.toList.drop (sa+na)).take nb:=fun x hx=>by rw[eB];exact kh _ hx
 refine⟨(ze7 (by omega)).mpr ?_,fun j hj=>?_⟩
 ·rw[ey,zaq,zaq];refine⟨⟨ua.1,um,fun x hx y hy=>?_⟩,ub.2.1,fun x hx y hy=>?_⟩
  ·rcases mm y hy with z|z
   ·exact ua.2.2 x hx y z
   ·exact T.cut _ _ _ (b0 y (inB y z)) (mA x hx)
  ·rcases kW.mp hx with hx|hx
   ·exact T.cut _ _ _ (b0 y (inB2 y hy)) (mA x hx)
   ·rcases mm x hx with z|z
    ·exact T.cut _ _ _ (mB y hy) (al x z)
    ·exact ub.2.2 x z y hy
 ·rw[←UD,e,←UD];rcases hj with hj|hj
  ·rw[pL,po (by rw[kY,kc];omega),AR,if_pos (by omega)]
  ·rw[pd (by rw[kK,kY,kc,lm];omega),kK,kY,kc,lm,Uh]
   congr 1
   omega
end
section
variable{prog:kq}{w:pX}{A:pj}{E:kB->kC->Prop}{s:kC}{a₀:Array ke}{κ:QM}{an:ke->ke->Bool}
theorem zj5(xs:Array ke)(a n j:Nat):gK xs a (n+j)=gK xs (a+n) j:=by unfold gK;rw[vB]
theorem upF_cat(T:WkT an){arr:Array ke}{sa na nb:Nat}(ua:UpF an (gK arr sa) na)(ub:UpF an (gK arr (sa+na)) nb)(h:∀i,i<na->an (gK arr (sa+na) 0) (gK arr sa i)=false):UpF an (gK arr sa) (na+nb):=fun i j hij hj=>by
 by_cases c1:j<na
 ·exact ua i j hij c1
 ·have ej:j=na+(j-na):=by omega
  have bj:∀x,x<nb->an (gK arr (sa+na) x) (gK arr (sa+na) 0)=false:=fun x hx=>by
   by_cases z:x=0
   ·rw[z];exact T.irr _
   ·exact ub 0 x (by omega) hx
  by_cases c2:i<na
  ·rw[ej,zj5];exact T.cut _ _ _ (bj _ (by omega)) (h i c2)
  ·have ei:i=na+(i-na):=by omega
   rw[ej,ei,zj5,zj5];exact ub _ _ (by omega) (by omega)
theorem mergeG(T:WkT an)(hq:QR prog w A E s κ a₀ an){i sa na p1 nb p2:Nat}{st:uZ}{Q:Bool->uZ->Prop}(hp:(arrOf st).Perm a₀)(hκ:kindOf st=κ)(hf:vC st=none)(e1:(pQ st)[i]?=some (sa,na,p1))(e2:(pQ st)[i+1]?=some (sa+na,nb,p2))(n1:0<na)(n2:0<nb)(hz:sa+na+nb<=a₀.size)
  (ua:UpF an (gK (arrOf st) sa) na)(ub:UpF an (gK (arrOf st) (sa+na)) nb)
  (h:∀xs g,xs.Perm a₀->FrO xs (arrOf st) sa (sa+na+nb)->UpF an (gK xs sa) (na+nb)->Q true (pSt st xs (((pQ st).setIfInBounds i (sa,na+nb,p1)).eraseIdxIfInBounds (i+1)) g)):wpS (model prog w) A E s (mergeAt' i) Q st:=by
 have sz:(arrOf st).size=a₀.size:=hp.size_eq;have mem:∀x,x∈arrOf st->x∈a₀:=fun x hx=>hp.mem_iff.mp hx;refine kH (jT ?_);show wpS _ _ _ _ (match((pQ st)[i]?,(pQ st)[i+1]?) with|_=>_) _ _
 rw[e1,e2];dsimp only;refine kH (wpS_set ?_);refine kH (zal (show sa+na<(arrOf st).size by omega) ?_)
 refine kH (galR T hq (mem _ (Qm _)) mem (by show sa+na<=(arrOf st).size;omega) n1 hκ (zk0 ua) fun k hk t1 t2=>?_)
 dsimp only;have g0:gK (arrOf st) (sa+na) 0=(arrOf st)[sa+na]:=zea (by omega)
 have r1:∀j,j<k->an (gK (arrOf st) (sa+na) 0) (gK (arrOf st) sa j)=false:=fun j hj=>by
  rw[g0,zea (by omega)]
  exact t1 j hj (show sa+j<(arrOf st).size by omega)
 have r2:∀j,k<=j->j<na->an (gK (arrOf st) (sa+na) 0) (gK (arrOf st) sa j)=true:=fun j hj hj'=>by
  rw[g0,zea (by omega)]
  exact t2 j hj hj' (show sa+j<(arrOf st).size by omega)
 by_cases c1:(na-k==0)=true
 ·rw[if_pos c1];have z:na-k=0:=pP c1;exact kG (h _ _ hp (fun _ _=>rfl) (upF_cat T ua ub fun j hj=>r1 j (by omega)))
 rw[if_neg c1];have c1':na-k≠0:=fun z=>c1 (by rw[z];rfl)
 refine kH (zal (show sa+k+(na-k)-1<(arrOf st).size by omega) ?_)
 refine kH (galL T hq (mem _ (Qm _)) mem (by show sa+na+nb<=(arrOf st).size;omega) (by omega) hκ (zk0 ub) fun m hm u1 u2=>?_)
 dsimp only;have gl:(arrOf st)[sa+k+(na-k)-1]'(by omega)=gK (arrOf st) sa (na-1):=by
  rw[zea (by omega)]
  congr 1
  omega
 have v1:∀j,j<m->an (gK (arrOf st) (sa+na) j) (gK (arrOf st) sa (na-1))=true:=fun j hj=>by
  rw[zea (by omega),←gl]
  exact u1 j hj (show sa+na+j<(arrOf st).size by omega)
 have v2:∀j,m<=j->j<nb->an (gK (arrOf st) (sa+na) j) (gK (arrOf st) sa (na-1))=false:=fun j hj hj'=>by
  rw[zea (by omega),←gl]
  exact u2 j hj hj' (show sa+na+j<(arrOf st).size by omega)
 by_cases c2:(m==0)=true
 ·exfalso
  have z:m=0:=pP c2;have x1:=v2 0 (by omega) n2
  rw[r2 (na-1) (by omega) (by omega)] at x1
  cases x1
 rw[if_neg c2];have c2':m≠0:=fun z=>c2 (by rw[z];rfl)
 have s1:0<((arrOf st).extract (sa+k) (sa+na)).size:=by rw[jU];omega
 have s2:0<((arrOf st).extract (sa+na) (sa+na+m)).size:=by rw[jU];omega
 have z1:((arrOf st).extract (sa+k) (sa+na)).size=na-k:=by rw[jU];omega
 have z2:((arrOf st).extract (sa+na) (sa+na+m)).size=m:=by rw[jU];omega
 have inX:∀y,y∈((arrOf st).extract (sa+k) (sa+na)).toList->∃j,k<=j/\j<na/\y=gK (arrOf st) sa j:=fun y hy=>by
  rw[zb5] at hy;obtain⟨j,hj,ej⟩:=pN.mp hy;rw[kY,kj,kc] at hj;refine⟨k+j,by omega,by omega,?_⟩
  rw[←ej,uk,ud,uM,zea (by omega)]
  congr 1
  omega
 have inY:∀y,y∈((arrOf st).extract (sa+na) (sa+na+m)).toList->∃j,j<m/\y=gK (arrOf st) (sa+na) j:=fun y hy=>by
  rw[zh1] at hy;obtain⟨j,hj,ej⟩:=pN.mp hy;rw[kY,kj,kc] at hj;exact⟨j,by omega,by rw[←ej,uk,ud,uM,zea (by omega)]⟩
 have ux:UpL an ((arrOf st).extract (sa+k) (sa+na)).toList:=by
  have:UpF an (gK (arrOf st) (sa+k)) (na-k):=fun a b hab hb=>by
   rw[←zj5,←zj5];exact ua _ _ (by omega) (by omega)
  rw[ze7 (by omega)] at this
  rw[zb5,show sa+na-(sa+k)=na-k by omega]
  exact this
 have uy:UpL an ((arrOf st).extract (sa+na) (sa+na+m)).toList:=by
  have:UpF an (gK (arrOf st) (sa+na)) m:=fun a b hab hb=>ub a b hab (by omega)
  rw[ze7 (by omega)] at this
  rw[zh1];exact this
 have hz':∀y,y∈((arrOf st).extract (sa+k) (sa+na)).toList->an y ((arrOf st).extract (sa+na) (sa+na+m))[0]=false:=fun y hy=>by
  obtain⟨j,hj,hj',ey⟩:=inX y hy;have e0:((arrOf st).extract (sa+na) (sa+na+m))[0]=gK (arrOf st) (sa+na) 0:=by rw[Bj,zea (by omega)]
  rw[e0,ey];exact T.asymm (r2 j hj hj')
 have hl':∀y,y∈((arrOf st).extract (sa+na) (sa+na+m)).toList->an (((arrOf st).extract (sa+k) (sa+na))[((arrOf st).extract (sa+k) (sa+na)).size-1]'(by omega)) y=false:=fun y hy=>by
  obtain⟨j,hj,ey⟩:=inY y hy;have e0:((arrOf st).extract (sa+k) (sa+na))[((arrOf st).extract (sa+k) (sa+na)).size-1]'(by omega)=gK (arrOf st) sa (na-1):=by
   rw[Bj,zea (by omega)]
   congr 1
   omega
  rw[e0,ey];exact T.asymm (v1 j hj)
 have fin:∀(r:Array ke)(g:Nat),MgR an ((arrOf st).extract (sa+k) (sa+na)) ((arrOf st).extract (sa+na) (sa+na+m)) r->Q true (pSt st (r.toList.zipIdx.foldl (fun a(x:ke×Nat)=>match x with|(p,j)=>a.setIfInBounds (sa+k+j) p) (arrOf st)) (((pQ st).setIfInBounds i (sa,na+nb,p1)).eraseIdxIfInBounds (i+1)) g):=fun r g hr=>by
  have ms:=mergedS T (by omega) (show k<na by omega) hm ua ub r1 n2 v2 hr.1 hr.2
  exact h _ g ((zgw (by omega) (show sa+na+m<=(arrOf st).size by omega) hr.1).trans hp) ms.2 ms.1
 by_cases c3:na-k<=m
 ·rw[if_pos c3];refine kH (loG T hq (fun x hx=>mem x (zhw hx)) (fun x hx=>mem x (zhw hx)) s1 s2 hκ (loIv T ux uy s1 s2 hz' hl') (zia ux) (zia uy) fun r g hr=>?_);refine kH (uf (kH (jT (kG ?_))));show Q (vC st).isNone _;rw[hf];exact fin r g hr
 ·rw[if_neg c3];refine kH (hiG T hq (fun x hx=>mem x (zhw hx)) (fun x hx=>mem x (zhw hx)) s1 s2 hκ (hiIv T ux uy s1 s2 hz' hl') (zia ux) (zia uy) fun r g hr=>?_);refine kH (uf (kH (jT (kG ?_))));show Q (vC st).isNone _;rw[hf];exact fin r g hr
end
theorem Cov.in_:∀{l:List (Nat×Nat×Nat)}{b e j a n p:Nat},Cov l b e->l[j]?=some (a,n,p)->b<=a/\a+n<=e
 |(x,m,q)::r,b,e,0,a,n,p,h,e1=>by
  cases e1;obtain⟨h1,h2,h3⟩:=h;have:=Cov.le h3;exact⟨by omega,by omega⟩
 |(x,m,q)::r,b,e,j+1,a,n,p,h,e1=>by
  obtain⟨h1,h2,h3⟩:=h;have:=Cov.in_ h3 (show r[j]?=some (a,n,p) by simpa using e1)
  exact⟨by omega,this.2⟩
 |[],b,e,j,a,n,p,h,e1=>by cases j<;>cases e1
theorem Cov.lt_:∀{l:List (Nat×Nat×Nat)}{b e i j a n p a' n' p':Nat},Cov l b e->l[i]?=some (a,n,p)->l[j]?=some (a',n',p')->i<j->a+n<=a'
 |(x,m,q)::r,b,e,0,j+1,a,n,p,a',n',p',h,e1,e2,hij=>by
  cases e1;obtain⟨h1,h2,h3⟩:=h;have:=Cov.in_ h3 (show r[j]?=some (a',n',p') by simpa using e2)
  omega
 |(x,m,q)::r,b,e,i+1,j+1,a,n,p,a',n',p',h,e1,e2,hij=>Cov.lt_ h.2.2 (show r[i]?=some (a,n,p) by simpa using e1) (show r[j]?=some (a',n',p') by simpa using e2) (by omega)
 |[],b,e,i,j,a,n,p,a',n',p',h,e1,e2,hij=>by cases i<;>cases e1
 |_::_,b,e,i,0,a,n,p,a',n',p',h,e1,e2,hij=>by omega
theorem Cov.len:∀{l:List (Nat×Nat×Nat)}{b e:Nat},Cov l b e->l.length+b<=e
 |[],b,e,h=>by
  have h:b=e:=h
  simp[h]
 |(x,m,q)::r,b,e,h=>by
  obtain⟨h1,h2,h3⟩:=h;have:=Cov.len h3;rw[uD];omega
theorem zmp{α:Type}{l:List α}{i:Nat}{x y:α}(h:y∈(l.set i x).eraseIdx (i+1)):y=x∨∃j,j≠i/\j≠i+1/\l[j]?=some y:=by
 obtain⟨j,hj⟩:=pW.mp h;rw[List.getElem?_eraseIdx] at hj
 by_cases c:j<i+1
 ·rw[if_pos c] at hj
  by_cases e:i=j
  ·subst e
   by_cases c2:i<l.length
   ·rw[vQ c2] at hj;exact .inl (uK hj).symm
   ·rw[uS (by rw[Db];omega)] at hj
    cases hj
  ·rw[vt e] at hj;exact .inr ⟨j,fun z=>e z.symm,by omega,hj⟩
 ·rw[if_neg c,vt (by omega)] at hj
  exact .inr ⟨j+1,by omega,by omega,hj⟩
section
variable{prog:kq}{w:pX}{A:pj}{E:kB->kC->Prop}{s:kC}{a₀:Array ke}{κ:QM}{an:ke->ke->Bool}
theorem zle{xs ys:Array ke}{a n:Nat}(h:∀k,a<=k->k<a+n->xs[k]?=ys[k]?)(u:UpF an (gK ys a) n):UpF an (gK xs a) n:=fun i j hij hj=>by
 have e:∀k,k<n->gK xs a k=gK ys a k:=fun k hk=>by
  unfold gK;rw[pC,pC,h (a+k) (by omega) (by omega)]
 rw[e i (by omega),e j hj]
 exact u i j hij hj
def SIvG(an:ke->ke->Bool)(a₀:Array ke)(κ:QM)(lo:Nat)(st:uZ):Prop:=SIv a₀ κ lo st/\∀a n p,(a,n,p)∈(pQ st).toList->UpF an (gK (arrOf st) a) n
theorem zgq(T:WkT an)(hq:QR prog w A E s κ a₀ an){i lo:Nat}{st:uZ}{Q:Bool->uZ->Prop}(iv:SIvG an a₀ κ lo st)(hi:i+1<(pQ st).size)(h:∀st',SIvG an a₀ κ lo st'->(pQ st').size+1=(pQ st).size->(∀k,lo<=k->(arrOf st')[k]?=(arrOf st)[k]?)->Q true st'):wpS (model prog w) A E s (mergeAt' i) Q st:=by
 obtain⟨⟨h1,h2,h3,h4,h5⟩,hr⟩:=iv;have e1:(pQ st)[i]?=some (pQ st)[i]:=uV (by omega)
 have e2:(pQ st)[i+1]?=some (pQ st)[i+1]:=uV hi;generalize (pQ st)[i]=u1 at e1;generalize (pQ st)[i+1]=u2 at e2;obtain⟨sa,na,p1⟩:=u1;obtain⟨sb,nb,p2⟩:=u2;have l1:(pQ st).toList[i]?=some (sa,na,p1):=by rw[UD];exact e1
 have l2:(pQ st).toList[i+1]?=some (sb,nb,p2):=by rw[UD];exact e2
 obtain⟨g1,g2,g3,g4,g5⟩:=h4.at l1 l2;subst g1;have ee:(((pQ st).setIfInBounds i (sa,na+nb,p1)).eraseIdxIfInBounds (i+1)).toList=((pQ st).toList.set i (sa,na+nb,p1)).eraseIdx (i+1):=by simp
 refine mergeG T hq h1 h2 h3 e1 e2 g2 g3 (by omega) (hr _ _ _ (ko l1)) (hr _ _ _ (ko l2)) fun xs g px fo uo=>h _ ⟨⟨px,h2,h3,?_,h5⟩,fun a n p hm=>?_⟩ ?_ fun k hk=>fo k (.inr (by omega))
 ·show Cov (((pQ st).setIfInBounds i (sa,na+nb,p1)).eraseIdxIfInBounds (i+1)).toList 0 lo
  rw[ee];exact g5
 ·have hm':(a,n,p)∈(((pQ st).setIfInBounds i (sa,na+nb,p1)).eraseIdxIfInBounds (i+1)).toList:=hm;rw[ee] at hm';rcases zmp hm' with z|⟨j,j1,j2,j3⟩
  ·cases z;exact uo
  ·refine zle (fun k k1 k2=>fo k ?_) (hr a n p (ko j3));rcases Uu j i with z|z
   ·have:=Cov.lt_ h4 j3 l1 z;exact .inl (by omega)
   ·have:=Cov.lt_ h4 l2 j3 (by omega)
    exact .inr (by omega)
 ·show(((pQ st).setIfInBounds i (sa,na+nb,p1)).eraseIdxIfInBounds (i+1)).size+1=_
  have:=congrArg Ab ee;rw[kc,List.length_eraseIdx,Db,kc,if_pos hi] at this;omega
theorem zg7{lo n:Nat}{st:uZ}(iv:SIvG an a₀ κ lo st)(hn:0<n)(hz:lo+n<=a₀.size)(u:UpF an (gK (arrOf st) lo) n):SIvG an a₀ κ (lo+n) (CZ st ((pQ st).push (lo,n,0))):=by
 refine⟨push_iv iv.1 hn hz,fun a m p hm=>?_⟩;have hm':(a,m,p)∈((pQ st).push (lo,n,0)).toList:=hm;rw[Ae] at hm';rcases kW.mp hm' with z|z
 ·exact iv.2 a m p z
 ·cases kU.mp z;exact u
theorem zjg{lo j w:Nat}{st:uZ}(iv:SIvG an a₀ κ lo st):SIvG an a₀ κ lo (CZ st ((pQ st).modify j fun x=>(x.1,x.2.1,w))):=by
 refine⟨power_iv iv.1,fun a m p hm=>?_⟩;have hm':(a,m,p)∈((pQ st).modify j fun x=>(x.1,x.2.1,w)).toList:=hm;rw[CK] at hm';obtain⟨k,hk⟩:=pW.mp hm';rw[List.getElem?_modify] at hk
 cases e:(pQ st).toList[k]? with
 |none=>rw[e] at hk;cases hk
 |some y=>
  rw[e] at hk;obtain⟨y1,y2,y3⟩:=y
  by_cases c:j=k
  ·simp only[c,if_true,QL,vn,vg] at hk;obtain⟨rfl,rfl,_⟩:=hk;exact iv.2 _ _ _ (ko e)
  ·simp only[c,if_false,QL,vn,vg] at hk;have hk':(y1,y2,y3)=(a,m,p):=by simpa using hk
   cases hk';exact iv.2 _ _ _ (ko e)
theorem SIvG.arr{lo:Nat}{st:uZ}{xs:Array ke}(iv:SIvG an a₀ κ lo st)(px:xs.Perm a₀)(fx:FrL xs (arrOf st) lo):SIvG an a₀ κ lo (ur st xs):=by
 refine⟨⟨px,iv.1.2.1,iv.1.2.2.1,iv.1.2.2.2.1,iv.1.2.2.2.2⟩,fun a n p hm=>?_⟩;have hm':(a,n,p)∈(pQ st).toList:=hm;obtain⟨j,hj⟩:=pW.mp hm';have:=Cov.in_ iv.1.2.2.2.1 hj;exact zle (fun k k1 k2=>fx k (by omega)) (iv.2 a n p hm')
theorem runsG(T:WkT an)(hq:QR prog w A E s κ a₀ an){st:uZ}{Q:Unit->uZ->Prop}(iv:SIvG an a₀ κ 0 st)(h:∀st',(arrOf st').Perm a₀->vC st'=none->UpL an (arrOf st').toList->Q () st'):wpS (model prog w) A E s sortRuns' Q st:=by
 have sz:(arrOf st).size=a₀.size:=iv.1.1.size_eq;rw[sortRuns'_eq];refine kH (jT ?_);dsimp only;rw[sz];refine kH (Qj (uN (I:=fun x(c:Option Unit×Nat) st'=>c.1=none/\SIvG an a₀ κ c.2 st'/\x<=c.2) (Q:=fun c st'=>c.1=none/\SIvG an a₀ κ c.2 st'/\a₀.size<=c.2) ?_ (fun c _ z=>⟨z.1,z.2.1,pV (DN _ _) z.2.2⟩) ⟨rfl,iv,pY _⟩) ?_)
 ·rintro x ⟨r,lo⟩ st' _ hx ⟨e,iv,xl⟩;dsimp only at e iv xl⊢
  by_cases c1:lo≥a₀.size
  ·rw[if_pos c1];exact kG ⟨rfl,iv,c1⟩
  rw[if_neg c1];refine kH (countG T hq iv.1.1 (by omega) (by omega) iv.1.2.1 fun m xs hm1 hm2 px fx ux=>?_)
  dsimp only;have iv1:SIvG an a₀ κ lo (ur st' xs):=iv.arr px fx
  by_cases c2:m<minRun' a₀.size a₀.size 0
  ·rw[if_pos c2];generalize minRun' a₀.size a₀.size 0=mr at*;refine kH (AO (UE ⟨rfl,?_⟩));refine kH (binG T hq (st:=ur st' xs) px (by omega) iv.1.2.1 ux fun ys py fy uy=>?_)
   rw[if_neg (by simp)]
   have iv2:SIvG an a₀ κ lo (ur st' ys):=SIvG.arr (st:=ur st' xs) iv1 py fy;refine kH (jT ?_)
   cases eb:(pQ (ur st' ys)).back? with
   |none=>
    dsimp only;exact kH (uf (kG ⟨rfl,zg7 iv2 (by omega) (by omega) uy,(by show x+1<=lo+_;omega)⟩))
   |some q=>
    obtain⟨s1,n1,p1⟩:=q;dsimp only;refine kH (Qj (uN (I:=fun _(c:Option Unit×Unit) st2=>c.1=none/\SIvG an a₀ κ lo st2/\UpF an (gK (arrOf st2) lo) (min (a₀.size-lo) mr)) (Q:=fun c st2=>c.1=none/\SIvG an a₀ κ lo st2/\UpF an (gK (arrOf st2) lo) (min (a₀.size-lo) mr)) ?_ (fun _ _ z=>z) ⟨rfl,iv2,uy⟩) ?_)
    ·rintro y ⟨r2,u⟩ st2 _ _ ⟨e2,iv2,uu⟩;dsimp only at e2 iv2 uu⊢;refine kH (jT ?_)
     by_cases c2:(pQ st2).size>1
     ·rw[if_pos c2,uV (show(pQ st2).size-2<(pQ st2).size by omega)]
      generalize (pQ st2)[(pQ st2).size-2]=q3;obtain⟨q31,q32,q33⟩:=q3;dsimp only
      split
      ·exact kG ⟨rfl,iv2,uu⟩
      ·exact kH (zgq T hq iv2 (by omega) fun st3 iv3 _ fr3=>kG ⟨rfl,iv3,zle (fun k k1 _=>fr3 k k1) uu⟩)
     ·rw[if_neg c2];exact kG ⟨rfl,iv2,uu⟩
    ·rintro⟨r2,u⟩ st2 ⟨e2,iv2,uu⟩;dsimp only at e2 iv2 uu⊢;subst e2;exact kH (uf (kH (uf (kG ⟨rfl,zg7 (zjg iv2) (by omega) (by omega) uu,(by show x+1<=lo+_;omega)⟩))))
  ·rw[if_neg c2];refine kH (jT ?_)
   cases eb:(pQ (ur st' xs)).back? with
   |none=>
    dsimp only;exact kH (uf (kG ⟨rfl,zg7 iv1 (by omega) (by omega) ux,(by show x+1<=lo+_;omega)⟩))
   |some q=>
    obtain⟨s1,n1,p1⟩:=q;dsimp only;refine kH (Qj (uN (I:=fun _(c:Option Unit×Unit) st2=>c.1=none/\SIvG an a₀ κ lo st2/\UpF an (gK (arrOf st2) lo) (m)) (Q:=fun c st2=>c.1=none/\SIvG an a₀ κ lo st2/\UpF an (gK (arrOf st2) lo) (m)) ?_ (fun _ _ z=>z) ⟨rfl,iv1,ux⟩) ?_)
    ·rintro y ⟨r2,u⟩ st2 _ _ ⟨e2,iv2,uu⟩;dsimp only at e2 iv2 uu⊢;refine kH (jT ?_)
     by_cases c2:(pQ st2).size>1
     ·rw[if_pos c2,uV (show(pQ st2).size-2<(pQ st2).size by omega)]
      generalize (pQ st2)[(pQ st2).size-2]=q3;obtain⟨q31,q32,q33⟩:=q3;dsimp only
      split
      ·exact kG ⟨rfl,iv2,uu⟩
      ·exact kH (zgq T hq iv2 (by omega) fun st3 iv3 _ fr3=>kG ⟨rfl,iv3,zle (fun k k1 _=>fr3 k k1) uu⟩)
     ·rw[if_neg c2];exact kG ⟨rfl,iv2,uu⟩
    ·rintro⟨r2,u⟩ st2 ⟨e2,iv2,uu⟩;dsimp only at e2 iv2 uu⊢;subst e2;exact kH (uf (kH (uf (kG ⟨rfl,zg7 (zjg iv2) (by omega) (by omega) uu,(by show x+1<=lo+_;omega)⟩))))
 ·rintro⟨r,lo⟩ st' ⟨e,iv,xl⟩;dsimp only at e iv xl⊢;subst e;dsimp only;have el:lo=a₀.size:=by have:=iv.1.2.2.2.2;omega
  have pl:(pQ st').size<=a₀.size:=by
   have:=Cov.len iv.1.2.2.2.1;rw[kc] at this;omega
  refine kH (Qj (uN (I:=fun y(c:Option Unit×Unit) st2=>c.1=none/\SIvG an a₀ κ lo st2/\((pQ st2).size<=1∨(pQ st2).size+y<=a₀.size)) (Q:=fun c st2=>c.1=none/\SIvG an a₀ κ lo st2/\(pQ st2).size<=1) ?_ (fun c _ z=>⟨z.1,z.2.1,z.2.2.elim id fun z=>by have:=DN 0 a₀.size;omega⟩) ⟨rfl,iv,.inr pl⟩) ?_)
  ·rintro y ⟨r2,u⟩ st2 _ _ ⟨e2,iv2,ps⟩;dsimp only at e2 iv2 ps⊢;refine kH (jT ?_)
   by_cases c2:(pQ st2).size<=1
   ·rw[if_pos c2];exact kG ⟨rfl,iv2,c2⟩
   ·rw[if_neg c2];exact kH (zgq T hq iv2 (ite_lt (by omega) (by omega)) fun st3 iv3 z3 _=>kG ⟨rfl,iv3,.inr (by omega)⟩)
  ·rintro⟨r2,u⟩ st2 ⟨e2,iv2,ps⟩;dsimp only at e2 iv2 ps⊢;subst e2;refine kG (h st2 iv2.1.1 iv2.1.2.2.1 ?_);have s2:(arrOf st2).size=a₀.size:=iv2.1.1.size_eq;have all:UpF an (gK (arrOf st2) 0) a₀.size:=by
    have cv:=iv2.1.2.2.2.1;have rr:=iv2.2;rw[el] at cv
    cases ep:(pQ st2).toList with
    |nil=>
     rw[ep] at cv;have z:0=a₀.size:=cv;exact fun i j hij hj=>by omega
    |cons q l=>
     obtain⟨qa,qn,qp⟩:=q;have hl:l=[]:=by
      have:=congrArg Ab ep;rw[kc,uD] at this;exact List.length_eq_zero_iff.mp (by omega)
     subst hl;rw[ep] at cv;obtain⟨z1,z2,z3⟩:=cv;have z3':0+qn=a₀.size:=z3;have:=rr qa qn qp (by rw[ep];exact kU.mpr rfl)
     rw[z1,show qn=a₀.size by omega] at this
     exact this
   rw[ze7 (by omega),vE,kX (by rw[kc];omega)] at all
   exact all
end
open PySem.W (kla_fn kla_obj envX tabObj CodeHd KasT kas_sort kas_ask kas_item)
theorem zj0{α β:Type}{g:α->β}:∀{l:List β}{m:List α},l.Perm (m.map g)->∃p:List α,p.Perm m/\l=p.map g:=by
 intro l m h;generalize e:m.map g=r at h
 induction h generalizing m with
 |nil=>
  cases m with
  |nil=>exact⟨[],.refl _,rfl⟩
  |cons x xs=>cases e
 |@cons x l1 l2 _ ih=>
  cases m with
  |nil=>cases e
  |cons y ys=>
   rw[ki] at e
   cases e;obtain⟨p,h1,h2⟩:=ih rfl;exact⟨y::p,h1.cons y,by rw[h2,ki]⟩
 |swap x y l=>
  cases m with
  |nil=>cases e
  |cons a as=>
   cases as with
   |nil=>cases e
   |cons b bs=>
    rw[ki,ki] at e
    cases e;exact⟨b::a::bs,.swap a b bs,rfl⟩
 |trans _ _ i1 i2=>
  obtain⟨p2,h1,h2⟩:=i2 e;obtain⟨p1,h3,h4⟩:=i1 h2.symm;exact⟨p1,h3.trans h1,h4⟩
section
variable{prog:kq}{w:pX}{A:pj}{E:kB->kC->Prop}{s:kC}{vs ks:List kB}{g:Heap}{a kS:Addr}{e e1:Nat}{f:kB}
open Classical in
noncomputable def kIdx(ks:List kB)(u:kB):Nat:=if h:∃i,i<ks.length/\ks[i]?=some u then Classical.choose h else 0
theorem zhv{ks:List kB}{i:Nat}{u:kB}(h:ks[i]?=some u):kIdx ks u<ks.length/\ks[kIdx ks u]?=some u:=by
 have ex:∃i,i<ks.length/\ks[i]?=some u:=⟨i,(kD.mp h).1,h⟩;unfold kIdx;rw[dif_pos ex];exact Classical.choose_spec ex
theorem qr_ofK{κ:QM}{ans:Nat->Nat->Bool}(hc:∀i j,i<ks.length->j<ks.length->∀C,C (ans i j) s->wpAny (model prog w) A (Dn κ (ks.getD i .none) (ks.getD j .none)) C (fun _ _=>False) s):QR prog w A E s κ (ks.toArray.zip vs.toArray) (fun x y=>ans (kIdx ks x.1) (kIdx ks y.1)):=by
 intro x y st Q hx hy hκ h;rw[lt'_eq];refine kH (jT ?_);rw[hκ];obtain⟨i,hi⟩:=pW.mp (zld hx);obtain⟨j,hj⟩:=pW.mp (zld hy);obtain⟨i1,i2⟩:=zhv hi;obtain⟨j1,j2⟩:=zhv hj;have z:=hc _ _ i1 j1 (fun b s'=>b=ans (kIdx ks x.1) (kIdx ks y.1)/\s'=s) ⟨rfl,rfl⟩;rw[kR,kR,i2,j2] at z;refine kH (AO (Ak (QQ z (fun b s' e=>?_) fun _ _ z=>z.elim)));obtain⟨e1,e2⟩:=e;subst e1 e2;exact⟨rfl,kG h⟩
end
open PySem.W (kla_fn kla_obj envX tabObj CodeHd KasT kas_sort kas_ask kas_item)
theorem zei(x y:Int×Int)(xs ys:List (Int×Int)):ltL (x::xs) (y::ys)=if x=y then ltL xs ys else lt2 x y:=by rw[ltL,lex2]
theorem ltL_tr:∀(a b c:List (Int×Int)),ltL a b=true->ltL b c=true->ltL a c=true
 |[],[],[],_,h2=>h2
 |[],_::_,[],_,h2=>by rw[ltL] at h2;cases h2
 |[],_,_::_,_,_=>by rw[ltL];exact decide_eq_true (gu _)
 |_::_,[],_,h1,_=>by rw[ltL] at h1;cases h1
 |_::_,_::_,[],_,h2=>by rw[ltL] at h2;cases h2
 |x::xs,y::ys,z::zs,h1,h2=>by
  rw[zei] at*
  by_cases e1:x=y
  ·rw[if_pos e1] at h1
   by_cases e2:y=z
   ·rw[if_pos e2] at h2;rw[if_pos (e1.trans e2)];exact ltL_tr xs ys zs h1 h2
   ·rw[if_neg e2] at h2;rw[e1,if_neg e2];exact h2
  ·rw[if_neg e1] at h1
   by_cases e2:y=z
   ·rw[←e2,if_neg e1];exact h1
   ·rw[if_neg e2] at h2;have t:=sto2.tr _ _ _ h1 h2;rw[if_neg (fun e=>by rw[e,sto2.irr] at t;cases t)]
    exact t
theorem zq1:∀(a b:List (Int×Int)),a≠b->ltL a b=true∨ltL b a=true
 |[],[],n=>absurd rfl n
 |[],_::_,_=>.inl (by rw[ltL];exact decide_eq_true (gu _))
 |_::_,[],_=>.inr (by rw[ltL];exact decide_eq_true (gu _))
 |x::xs,y::ys,n=>by
  rw[zei,zei]
  by_cases e:x=y
  ·rw[if_pos e,if_pos e.symm];exact zq1 xs ys fun z=>n (by rw[e,z])
  ·rw[if_neg e,if_neg (fun z=>e z.symm)];exact sto2.tot _ _ e
theorem zpc:∀a:List (Int×Int),ltL a a=false
 |[]=>rfl
 |x::xs=>by rw[zei,if_pos rfl];exact zpc xs
open PySem.W (kas_sort kas_ask)
def rSortL:List V->Hp->VK->Prop:=fun xs H Q=>∃(l:Addr)(vs:List V)(d:Nat->List (Int×Int)),xs=[.ref l]/\H l=some (.lst vs)/\vs.length<64/\(∀i,i<vs.length->LsI H (vs.getD i .non) (d i))/\
 ∀D p,H D=none->Ord vs.length p->(2<=vs.length->p=ansT (fun i j=>ltL (d i) (d j)) (kas_sort vs.length))->Q (.ref D) (upd H D (.lst (p.toList.map fun i=>vs.getD i .non)))
theorem LstI.keeps{g h:Heap}{v:kB}{ns:List (Int×Int)}(t:LstI g v ns)(k:Keeps g h):LstI h v ns:=by
 obtain⟨a,its,n,e,o,l,r⟩:=t;exact⟨a,its,n,e,k _ _ o,l,fun i u q h1 h2=>(r i u q h1 h2).keeps k⟩
section
variable{X:Cx}{pins:List (Addr×Obj)}{σ:St}{H:Hp}{s:kC}
theorem zmh(hu:X.A.units+100<cLine):zey X (.builtin "sorted") rSortL:=by
 intro pins s σ H xs us Q I r h;obtain⟨l,vs,d,rfl,hl,h64,hf,q⟩:=h;obtain⟨u,rfl,ru⟩:=vals1 r
 cases ru;obtain⟨its,rv,pl,hz⟩:=I.list (.of hl);have len:vs.length=its.length:=rv.length;have hd:∀i,i<its.length->LstI s.heap (its.getD i uA) (d i):=fun i hi=>zom I (hf i (by omega)) (zcv rv i (by omega))
 refine zph (κ:=Dq) (ans:=fun i j=>ltL (d i) (d j)) pl.isList (by omega) (fun h2 h' k Q' q'=>?_) (fun h2 h' k i j C hi hj c=>?_) fun p h' c k or ep ho=>?_
 ·refine zj2 (by omega) (fun v hv=>?_) q'
  obtain⟨i,hi,e⟩:=pN.mp hv;have t:=hd i hi;have e':its.getD i uA=v:=by simp[hi,e]
  rw[e'] at t;exact⟨_,t.keeps k⟩
 ·exact lt_lst ((hd i hi).keeps k) ((hd j hj).keeps k) (by show X.A.units+1+1+70<_;omega) c
 ·have lo:p.toList.length=its.length:=by rw[or.length_eq,uO]
  refine⟨.ref _,upd H (s.heap.objs.size+1) (.lst (p.toList.map fun i=>vs.getD i .non)),I.laid (t':=s.toks) k (Qv _) ⟨?_,_,c,zf2 _ (fun i hi=>zcv rv i ?_),ho⟩,rfl,q _ _ (I.hok.fresh (Qv _)) (by rw[len];exact or) (by rw[len];exact ep)⟩
  ·rw[kL,lo];exact pV (uv (by omega:its.length<64)) (by decide)
  ·have:=pO.mp (or.mem_iff.mp hi);omega
end
theorem pi_listK{X:Cx}{tg l:Expr}{tl:TE}{K':kM}(hK:X.K=K')(hl:PE X l tl):PI X tg l (zcu K' tl):=by
 subst hK;exact zc3 hl
section
variable{prog:kq}{w:pX}{A:pj}{R:DB->kC->Prop}{I:Addr}{fp wr:List Addr}{n:Nat}{P:Nat->kB->Prop}{St:Nat->Heap->Prop}{g:Heap}
def CmpK(prog:kq)(w:pX)(A:pj)(g:Heap)(P:Nat->kB->Prop)(bt:Nat->Nat->Bool):Prop:=
 ∀i j vi vj(s:kC)(Q:kB->kC->Prop)(E:kB->kC->Prop),Keeps g s.heap->P i vi->P j vj->Q (.bool (bt i j)) s->wpAny (model prog w) A (gJ .Lt vi vj) Q E s
theorem minK_on(W:Walks prog w A.in1 I fp wr n P St)(bt:Nat->Nat->Bool)(hc:CmpK prog w A.in1 g P bt)(S:Addr)(nS:S∉fp)(gS:g.objs.size<=S)(gw:∀b,b∈wr->g.objs.size<=b):∀(k j:Nat)(s:kC)(vb:kB)(c:Nat),n-(j+1)=k->j+1<=n->Keeps g s.heap->St (j+1) s.heap->P (Qg bt j) vb->
  s.heap.get? S=some {cls:=.type "list",dict:=none,data:=.seq #[vb,vb] c,slots:=#[]}->(∀v h' tk,P (Qg bt (n-1)) v->Keeps g h'->R (.ok (.ret v)) {s with heap:=h',toks:=tk})->
  vk (model prog w) A (.builtin "min.loop" ⟨[.ref I,.none,.ref S],[]⟩) R s:=by
 have nw:S∉wr:=fun z=>nS (W.sub _ z);have nm:(vH "min"++vH ".loop":String)="min.loop":=by decide
 have kw:∀{h h':Heap},Keeps g h->(∀b o,b∉wr->h.get? b=some o->h'.get? b=some o)->Keeps g h':=fun k0 kp b o e=>kp b o (fun z=>CU.mpr (gw b z) (pK e)) (k0 b o e);intro k
 induction k with
 |zero=>
  intro j s vb c hk hj kg st hb oS q;have ej:j+1=n:=by omega
  refine Qb Ax ?_;rw[uY Qx _];refine kA (m:=gz (.ref S)) (UM oS rfl (kA (UN (W.done s _ _ (ej▸st) fun h' tk kp=>?_))));refine kA (vZ (kp S _ nw oS) rfl (kA (Us (kF ?_))));exact q vb _ tk (by rw[←ej];exact hb) ((kw kg kp).upd gS)
 |succ k ih=>
  intro j s vb c hk hj kg st hb oS q;refine Qb Ax ?_;rw[uY Qx _];refine kA (m:=gz (.ref S)) (UM oS rfl (kA (UN (W.item (j+1) s _ _ (by omega) st fun v h' tk hP st' kp=>?_))))
  have oS':=kp S _ nw oS;have kg':=kw kg kp;refine kA (kF ?_);refine kA (m:=tryCatch (holding [v,v] (gJ CmpOp.Lt v vb>>=_)) _) (UN (uq (kA (hc (j+1) (Qg bt j) v vb _ _ _ kg' hP hb (kA (uq (Qz (kA (Us (kF ?_))))))))))
  cases bb:bt (j+1) (Qg bt j) with
  |true=>
   simp only[if_true];refine kA (vZ oS' rfl (kA (Us ?_)));rw[nm];exact kF ⟨QN Qx _,ih (j+1) _ v _ (by omega) (by omega) (kg'.upd gS) (W.frame _ _ _ st' fun b hf o e=>(QJ _ _ (fun z:S=b=>nS (by rw[z];exact hf))).trans e) (by simp only[Qg,bb,if_true];exact hP) (Qn _ oS' rfl) fun v' h'' tk'' hP' kp'=>q v' h'' tk'' hP' kp'⟩
  |false=>
   simp only[kz,if_false];refine kA (Us ?_);rw[nm];exact kF ⟨QN Qx _,ih (j+1) _ vb c (by omega) (by omega) kg' st' (by simp only[Qg,bb,kz,if_false];exact hb) oS' fun v' h'' tk'' hP' kp'=>q v' h'' tk'' hP' kp'⟩
theorem zhp(W:Walks prog w A.in1 I fp wr n P St)(bt:Nat->Nat->Bool)(hc:CmpK prog w A.in1 g P bt)(S:Addr)(nS:S∉fp)(gS:g.objs.size<=S)(gw:∀b,b∈wr->g.objs.size<=b){s:kC}{c:Nat}(hn:0<n)(kg:Keeps g s.heap)(st:St 0 s.heap)
  (oS:s.heap.get? S=some {cls:=.type "list",dict:=none,data:=.seq #[] c,slots:=#[]})
  (q:∀v h' tk,P (Qg bt (n-1)) v->Keeps g h'->R (.ok (.ret v)) {s with heap:=h',toks:=tk}):
  vk (model prog w) A (.builtin "min.loop" ⟨[.ref I,.none,.ref S],[]⟩) R s:=by
 have nw:S∉wr:=fun z=>nS (W.sub _ z);have nm:(vH "min"++vH ".loop":String)="min.loop":=by decide
 have kw:∀{h h':Heap},Keeps g h->(∀b o,b∉wr->h.get? b=some o->h'.get? b=some o)->Keeps g h':=fun k0 kp b o e=>kp b o (fun z=>CU.mpr (gw b z) (pK e)) (k0 b o e);refine Qb Ax ?_;rw[uY Qx _];refine kA (m:=gz (.ref S)) (UM oS rfl (kA (UN (W.item 0 s _ _ (by omega) st fun v h' tk hP st' kp=>?_))))
 refine kA (kF ?_);refine kA (vZ (kp S _ nw oS) rfl ?_);rw[nm];exact kF ⟨QN Qx _,minK_on W bt hc S nS gS gw _ 0 _ v _ rfl (by omega) ((kw kg kp).upd gS) (W.frame _ _ _ st' fun b hf o e=>(QJ _ _ (fun z:S=b=>nS (by rw[z];exact hf))).trans e) hP (Qn _ (kp S _ nw oS) rfl) fun v' h'' tk'' hP' kp'=>q v' h'' tk'' hP' kp'⟩
end
theorem zog(val:Nat->Int×Int):∀k,Qg (fun i j=>lt2 (val i) (val j)) k<=k/\∀i,i<=k->lt2 (val i) (val (Qg (fun i j=>lt2 (val i) (val j)) k))=false
 |0=>⟨kJ _,fun i hi=>by rw[ER.mp hi];exact sto2.irr _⟩
 |k+1=>by
  obtain⟨h1,h2⟩:=zog val k;unfold Qg
  cases c:lt2 (val (k+1)) (val (Qg (fun i j=>lt2 (val i) (val j)) k)) with
  |true=>
   rw[if_pos rfl];refine⟨kJ _,fun i hi=>?_⟩
   by_cases e:i=k+1
   ·rw[e];exact sto2.irr _
   ·have:=h2 i (by omega)
    cases d:lt2 (val i) (val (k+1)) with
    |false=>rfl
    |true=>rw[sto2.tr _ _ _ d c] at this;cases this
  |false=>
   rw[if_neg (by decide)]
   refine⟨by omega,fun i hi=>?_⟩
   by_cases e:i=k+1
   ·rw[e];exact c
   ·exact h2 i (by omega)
def rMinP:List V->Hp->VK->Prop:=fun xs H Q=>∃(v:V)(ks:List (Int×Int)),xs=[v]/\LsI H v ks/\0<ks.length/\∀(b:Addr)(j:Nat)(k:Int×Int),ks[j]?=some k->H b=some (.tup [.int k.1,.int k.2])->(∀x,x∈ks->lt2 x k=false)->Q (.ref b) H
section
variable{X:Cx}
theorem znl(hcalm:X.calm=true)(hu:X.A.units+100<cLine):zey X (.builtin "min") rMinP:=by
 intro pins s σ H xs us Q I r h;obtain⟨v,ks,rfl,⟨p,vs,rfl,hp,hl,he⟩,hn,q⟩:=h;obtain⟨u,rfl,ru⟩:=vals1 r
 cases ru;obtain⟨its,rv,pl,hz⟩:=I.list (.of hp);have len:vs.length=its.length:=rv.length;have ne:p≠s.heap.objs.size:=uH pl.lt;have nm:(vH "min"++vH ".loop":String)="min.loop":=by decide
 have it:∀i v,its.toArray[i]?=some v->∃b,v=kZ b/\H b=some (.tup [.int (ks.getD i (0,0)).1,.int (ks.getD i (0,0)).2])/\TupI s.heap v [(ks.getD i (0,0)).1,(ks.getD i (0,0)).2]:=fun i v hv=>by
  have hv:its[i]?=some v:=by simpa using hv
  obtain⟨z,z1,z2⟩:=vals_get? rv hv;have hi:i<ks.length:=by have:=(kD.mp hv).1;omega
  obtain⟨b,b1,b2⟩:=he i _ (kI hi);rw[b1] at z1
  cases z1
  cases(show v=kZ b from z2);have e:ks.getD i (0,0)=ks[i]:=by simp[hi]
  rw[e];exact⟨b,rfl,b2,zde I (ns:=[ks[i].1,ks[i].2]) b2⟩
 refine Ca F.kind_min F.plain_min F.entry_min (F.args_min1 _) ?_;refine kA (m:=QV "min" ["key","default"] 0 ⟨[],[]⟩) (Bu (show QV "min" ["key","default"] 0 ⟨[],[]⟩=pure [none,none] from rfl) (kA (kF (kA (AY pl.isList (kA (Uz ?_ (pY _))))))));rw[nm];have W:=Ec (prog:=X.prog) (w:=X.w) (A:=X.A.in1) (show X.A.in1.handled=none from I.ok.hd hcalm) s.heap.objs.size p ne its.toArray;have sz:(s.heap.push {cls:=.type "list_iterator",data:=.fields #[.ref p,.int 0 0]}).objs.size=s.heap.objs.size+1:=by rw[jf]
 have kg:Keeps s.heap ((s.heap.push {cls:=.type "list_iterator",data:=.fields #[.ref p,.int 0 0]}).push (pI "list" #[] 0)):=fun b o e=>kN _ (kN _ e);refine kF ⟨QN Qx _,zhp (g:=s.heap) W (fun i j=>lt2 (ks.getD i (0,0)) (ks.getD j (0,0))) (fun i j vi vj s' Q' E' k hi hj q'=>?_) _ (fun z=>?_) ?_ (fun b hb=>?_) (by show 0<its.length;omega) kg (st:=W.frame 0 _ _ ⟨⟨_,pJ _ rfl,rfl,rfl⟩,pl.isList.push _⟩ fun b _ o e=>kN _ e) (pJ _ rfl) fun v h' tk hv kp=>?_⟩
 ·obtain⟨_,_,_,t1⟩:=it i vi hi;obtain⟨_,_,_,t2⟩:=it j vj hj;exact zkm (t1.keeps k) (t2.keeps k) (by show X.A.units+1+64<_;omega) (by rw[lex2];exact q')
 ·rw[sz] at z;have l2:p<s.heap.objs.size:=pl.lt;rcases pF.mp z with z|z
  ·exact absurd z (vR (jF _))
  ·exact absurd (kU.mp z) (vR (jh l2))
 ·rw[sz];exact Qv _
 ·rw[kU.mp hb];exact kJ _
 ·obtain⟨b,rfl,hb,_⟩:=it _ _ hv;obtain⟨b1,b2⟩:=zog (fun i=>ks.getD i (0,0)) (its.toArray.size-1);have zi:its.toArray.size=its.length:=rfl;rw[zi] at b1 b2 hb;have lt:Qg (fun i j=>lt2 (ks.getD i (0,0)) (ks.getD j (0,0))) (its.length-1)<ks.length:=by omega
  have J:Inv X pins σ H {s with heap:=h',toks:=tk}:=I.kept kp;refine⟨.ref b,H,J,rfl,q b (Qg (fun i j=>lt2 (ks.getD i (0,0)) (ks.getD j (0,0))) (its.length-1)) (ks.getD (Qg (fun i j=>lt2 (ks.getD i (0,0)) (ks.getD j (0,0))) (its.length-1)) (0,0)) ?_ hb fun x hx=>?_⟩
  ·rw[kR,kI lt];rfl
  ·obtain⟨i,hi,e⟩:=pN.mp hx;have:=b2 i (by omega)
   have e':ks.getD i (0,0)=x:=by simp[hi,e]
   rw[e'] at this;exact this
theorem TupI.uniq{h:Heap}{v:kB}{ns ms:List Int}(a:TupI h v ns)(b:TupI h v ms):ns=ms:=by
 obtain⟨p,its,n,dd,sl,rfl,o,i⟩:=a;obtain⟨p',its',n',dd',sl',e,o',i'⟩:=b
 cases e;rw[o] at o'
 cases o';have:∀{vs:List kB}{xs ys:List Int},vm vs xs->vm vs ys->xs=ys:=by
  intro vs xs ys h1
  induction h1 generalizing ys with
  |nil=>intro h2;cases h2;rfl
  |cons n t _ ih=>intro h2;cases h2 with|cons m u r=>rw[ih r]
 exact this i i'
def rIndex:V->List V->Hp->VK->Prop:=fun x vs H Q=>∃(b:Addr)(k:Int×Int)(ks:List (Int×Int))(j:Nat),vs=[.ref b]/\LsI H x ks/\H b=some (.tup [.int k.1,.int k.2])/\ks[j]?=some k/\(∀i,i<j->ks[i]?≠some k)/\Q (.int j) H
theorem zg4(hu:X.A.units+100<cLine):MtM X "list.index" rIndex:=by
 intro pins s σ H x vs v us Q I rx rv h;obtain⟨b,k,ks,j,rfl,⟨l,xs,rfl,hH,hlen,he⟩,hb,hj,hno,q⟩:=h
 cases rx;obtain⟨u,rfl,ru⟩:=rv.one
 cases(show u=kZ b from ru);obtain⟨z,its,n,r,hl,e⟩:=I.lstM hH;have len:xs.length=its.length:=r.length;have tb:=zde I (ns:=[k.1,k.2]) hb;have ti:∀i(hi:i<its.length) k',ks[i]?=some k'->TupI s.heap its[i] [k'.1,k'.2]:=fun i hi k' hk=>by
  obtain⟨c,c1,c2⟩:=he i k' hk;obtain⟨z,z1,z2⟩:=vals_get? r (kI hi);rw[c1] at z1
  cases z1;rw[show its[i]=kZ c from z2];exact zde I (ns:=[k'.1,k'.2]) c2
 have hjk:j<ks.length:=(kD.mp hj).1;have hji:j<its.length:=by omega
 classical
 have small:(j:Int)<2^63-1:=by
  have:sizeLine<=2^60:=by decide
  have:its.length<=sizeLine:=by rw[←len];exact z
  omega
 refine BH F.slot_list_index ⟨_,e,rfl⟩ F.entry_list_index (F.args_list_index_2 _ _) (PySem.SeqAt.list_indexAt l its.toArray n none #[] (.ref b) (fun y=>decide (TupI s.heap y [k.1,k.2])) j (by simpa using hji) small ?_ ?_) ⟨e,fun y hy prog w E' Q' q'=>?_,?_⟩
 ·exact decide_eq_true (ti j hji k hj)
 ·intro m hm hlt;have hm:m<its.length:=by simpa using hm
  have hmk:m<ks.length:=by omega
  refine decide_eq_false fun t=>hno m hlt ?_;have:=TupI.uniq (ti m hm _ (kI hmk)) t
  injection this with a1 a2
  injection a2 with a2
  rw[kI hmk];exact congrArg some (ue a1 a2)
 ·have hy:y∈its:=by simpa using hy
  obtain⟨i,hi,rfl⟩:=pN.mp hy;have hik:i<ks.length:=by omega
  have t:=ti i hi _ (kI hik);refine ze1 t tb (by show X.A.units+1+64<_;omega) ?_
  have:decide ([ks[i].1,ks[i].2]=[k.1,k.2])=decide (TupI s.heap its[i] [k.1,k.2]):=by
   rw[decide_eq_decide];exact⟨fun z=>z▸t,fun z=>TupI.uniq t z⟩
  rw[this];exact q'
 ·exact⟨.int j,H,I.tok _,⟨_,rfl⟩,q⟩
end
def tDisp1(tk tv:TE):TE:=fun σ H Q=>∀p,H p=none->tk σ (upd H p (.dT [])) fun x H1=>tv σ H1 fun y H2=>∃k b,x=.ref b/\H2 b=some (.tup (k.map kV))/\H2 p=some (.dT [])/\Q (.ref p) (upd H2 p (.dT (putK [] k y)))
theorem pe_disp1{X:Cx}{pos:Pos}{e f:Expr}{tk tv:TE}(hu:X.A.units+1<cLine)(hk:PE X e tk)(hv:PE X f tv):PE X (.Dict [some e] [f] pos) (tDisp1 tk tv):=by
 intro pins s σ H Q I q;have hn:=I.hok.fresh (kJ s.heap.objs.size);have I1:=I.laid (a:=s.heap.objs.size) (o:=.dT []) (h':=s.heap.push {cls:=.type "dict",data:=.dict #[]}) (t':=s.toks) (fun _ _ q=>kN _ q) (kJ _) (zkw s.heap I.big);rw[arm_eval_Dict,zip_pairTrees [some e] [f] X.env pos rfl rfl,dictDisplay_pairs (pairTrees [some e] [f] X.env pos) (by intro z;cases z) (by rw[DO _ _ _ _ rfl rfl];show 1<17;decide)]
 refine kA (gC (kA ?_));unfold subDict;refine kA (wpAny_alloc ?_);refine kA (uq ?_);rw[if_pos (by rw[DO _ _ _ _ rfl rfl];show 1<=15;decide)]
 refine kA (pairTrees_cons_walk (thn (hk pins _ σ _ _ I1 (q _ hn)) fun u s1⟨x,H1,I2,rx,q1⟩=>thn (hv pins s1 σ H1 _ I2 q1) fun w2 s2⟨y,H2,I3,ry,k,b,ex,hb,hp,q2⟩=>pairTrees_nil_walk ?_));subst ex
 cases(show u=kZ b from rx);refine uq ?_;rw[BS];obtain⟨z,hd,xs,rel,dd⟩:=dt_of I3.hok hp;have hz:xs.length<=sizeLine:=by rw[←ve rel];exact z
 have hl:(putK ([]:List (List Key×V)) k y).length<=sizeLine:=by have:=zc2 ([]:List (List Key×V)) k y;exact pV this (by decide)
 refine kA (kA (kA (m:=dictSet s.heap.objs.size (kZ b) w2) (wpAny_dictSet_heap (hsz:=hz) (show X.A.units<cLine by omega) (zeo I3.hok hb) dd fun h' dd' hs=>kF ?_)))
 show wpAny _ _ (forIn [] Eb _) _ _ _
 rw[Dp];refine kF (kF (kF (kF ?_)));obtain⟨o,es,ep,ho,h2,h3,h4,_,h5⟩:=dd';refine⟨.ref s.heap.objs.size,upd H2 s.heap.objs.size (.dT (putK [] k y)),zfu I3 (by rw[hp];exact jA) hs ⟨o,ho⟩ ⟨hl,hd,_,(rel.put k hb ry).keeps fun c ys ec=>?_,o,es,ep,ho,h2,h3,h4,h5⟩,rfl,q2⟩
 rw[za6 (zn5 ec hp (fun z=>nomatch z))];exact ec
theorem zgg{α β:Type}(f:α->β):∀(l:List α)(i:Nat),(l.map f).eraseIdx i=(l.eraseIdx i).map f
 |[],_=>rfl
 |_::_,0=>rfl
 |x::l,i+1=>by
  show f x::(l.map f).eraseIdx i=f x::(l.eraseIdx i).map f
  rw[zgg f l i]
section
variable{prog:kq}{w:pX}{K:Type}[DecidableEq K]{knd:HeapKind prog w K}{A:pj}{E:kB->kC->Prop}{s:kC}
theorem zjq{d a:Addr}{xs:List (K×Addr×kB)}{k:K}{p:Addr×kB}{j:Nat}{Q:Option At->kC->Prop}(hu:knd.room A)(hkey:knd.is s.heap k a)(hm:s.heap.DictOfH knd d xs)(hz:xs.length<=sizeLine)(hj:xs[j]?=some (k,p))
  (q:∀e h',e.val=p.2->h'.DictOfH knd d (xs.eraseIdx j)->Uo d s.heap h'->Q (some e) {s with heap:=h',toks:=s.toks+knd.draws k}):
  wpAny (model prog w) A (CB d (.ref a)) Q E s:=by
 obtain⟨o,es,ep,ho,hc,hd,he,his,hn⟩:=hm;have hsz:es.size=xs.length:=BX he;unfold CB;refine uq (kA (knd.pyHash hu hkey (kA (CI (s:={s with toks:=s.toks+knd.draws k}) hu hkey ho hd he his hn (fun hno=>?_) fun i p' hi=>?_))))
 ·exact absurd hj (hno j p)
 ·have ij:i=j:=by
   have h1:=kD.mp hi;have h2:=kD.mp hj;have e:(xs.map (·.1))[i]?=(xs.map (·.1))[j]?:=by rw[pS,pS,hi,hj];rfl
   exact(Af (by rw[kL];exact h1.1) hn).mp e
  subst ij;rw[hj] at hi
  cases hi;refine kA (Ut (s:={s with toks:=s.toks+knd.draws k}) ho hd ?_);rw[entry_at he i,hj];refine kA (Bw (hz:=by omega) (s:={s with toks:=s.toks+knd.draws k}) ho hd (kF (q _ _ rfl ⟨_,_,ep+1,Qn _ ho (CJ (jB hd _)),hc.mapDictKeys _,jB hd _,?_,?_,?_⟩ (UB ..))))
  ·have hi:i<es.size:=by rw[hsz];exact(kD.mp hj).1
   rw[Array.eraseIdxIfInBounds,dif_pos hi,Array.toList_eraseIdx,he,zgg]
  ·intro x hx;exact knd.keeps (his x (List.mem_of_mem_eraseIdx hx)) ho hd (UB ..)
  ·rw[←zgg];exact hn.sublist (List.eraseIdx_sublist _ _)
theorem zne{d a:Addr}:MeetsIn prog w (vo.«dict.pop» ⟨[.ref d,.ref a],[]⟩) (fun A R s=>knd.room A.in1/\∃k xs j p,knd.is s.heap k a/\s.heap.DictOfH knd d xs/\xs.length<=sizeLine/\xs[j]?=some (k,p)/\
  ∀h',h'.DictOfH knd d (xs.eraseIdx j)->Uo d s.heap h'->R (.ok (.ret p.2)) {s with heap:=h',toks:=s.toks+knd.draws k}):=
 .of_wp fun A R s⟨hu,k,xs,j,p,hkey,hm,hz,hj,h⟩=>by
  unfold vo.«dict.pop» AJ;refine kA (kA (jt hm.typeIs ?_));show wpAny _ _ (pure (d,kZ a,none)) _ _ s;refine kF ?_;obtain⟨o,es,ep,ho,hc,hd,he,his,hn⟩:=id hm;have hsz:es.size=xs.length:=BX he;have ne:es.isEmpty=false:=by
   have:=(kD.mp hj).1;rw[Array.isEmpty];exact decide_eq_false (by omega)
  simp only[keyPart,Option.isSome_none,kz,if_false];refine kA (Ut ho hd (kA (kF ?_)));rw[ne];simp only[kz,if_false];refine kA (zjq hu hkey hm hz hj fun e h' ev hm' hs'=>?_);simp only[Option.isNone_some,kz,if_false];exact kA (Us (kF ⟨e.val,rfl,by rw[ev];exact h h' hm' hs'⟩))
end
theorem Paired.split{α β:Type}{F:α->β->Prop}{x:α}{r:List α}:∀{l:List α}{ys:List β},jZ F (l++x::r) ys->∃l' y r',ys=l'++y::r'/\l'.length=l.length/\jZ F l l'/\F x y/\jZ F r r'
 |[],_,.cons h t=>⟨[],_,_,rfl,rfl,.nil,h,t⟩
 |a::l,_,.cons h t=>by
  obtain⟨l',y,r',rfl,e,p1,p2,p3⟩:=Paired.split (l:=l) t;exact⟨_::l',y,r',rfl,by rw[uD,e,uD],.cons h p1,p2,p3⟩
theorem Paired.app{α β:Type}{F:α->β->Prop}{r:List α}{r':List β}(h:jZ F r r'):∀{l:List α}{l':List β},jZ F l l'->jZ F (l++r) (l'++r')
 |_,_,.nil=>h
 |_,_,.cons a t=>.cons a (Paired.app h t)
theorem zo0{α:Type}(l:List α)(y:α)(r:List α):(l++y::r).eraseIdx l.length=l++r:=by
 rw[List.eraseIdx_append_of_length_le (kJ _),jp];rfl
def zn4(td ty:TE):TE:=fun σ H Q=>td σ H fun x H1=>∃a,x=.ref a/\IsD H1 a/\ty σ H1 fun y H2=>∃l r k v b,H2 a=some (.dT (l++(k,v)::r))/\y=.ref b/\H2 b=some (.tup (k.map kV))/\Q v (upd H2 a (.dT (l++r)))
section
variable{X:Cx}{o e:Expr}{apos cpos:Pos}{td ty:TE}
theorem pe_dpopT(hu:X.A.units+1<cLine)(ho:PE X o td)(he:PE X e ty)(m:M1 X o "pop" apos e cpos):PE X (.Call (.Attribute o "pop" apos) [e] [] cpos) (zn4 td ty):=by
 intro pins s σ H Q I h;refine Ad m.base m.few m.line jW Bk PySem.F.type_dict_pop (thn (ho pins s σ H _ I h) fun u s1⟨x,H1,I1,rx,a,ex,d,q1⟩=>?_);subst ex;obtain rfl:u=kZ a:=rx;obtain⟨t1,t2,_⟩:=znf I1 d;refine⟨t1,t2,?_⟩;rw[m.trees];refine Ub rfl (vx (Ug (thn (he pins s1 σ H1 _ I1 q1) fun iv s2⟨y,H2,I2,ry,l,r,k,v,b,ea,ey,eb,q2⟩=>je ?_)));subst ey
 cases(show iv=kZ b from ry);obtain⟨z,hd,xs,rel,dd⟩:=dt_of I2.hok ea;have hz:xs.length<=sizeLine:=by rw[←ve rel];exact z
 obtain⟨l',p,r',rfl,el,p1,p2,p3⟩:=Paired.split rel;obtain⟨pk,pa,pv⟩:=p;obtain⟨e1,e2,e3⟩:=p2
 cases(show k=pk from e1);refine BK Bk dd.typeIs PySem.F.entry_dict_pop (PySem.F.args_dict_pop_2 _ _) (zne (knd:=uW (zac X.prog X.w))) ⟨QY hu,k,_,l'.length,(pa,pv),zeo I2.hok eb,dd,hz,by rw[pd (kJ _),jp];rfl,fun h' dd' hs=>?_⟩
 rw[zo0] at dd';obtain⟨q,es,ep,hq,h2,h3,h4,_,h5⟩:=dd';refine⟨v,upd H2 a (.dT (l++r)),zfu I2 (by rw[ea];exact jA) hs ⟨q,hq⟩ ⟨?_,hd,_,KT.keeps (Paired.app p3 p1) fun c ys ec=>?_,q,es,ep,hq,h2,h3,h4,h5⟩,e3,q2⟩
 ·rw[kK] at z⊢;rw[uD] at z;omega
 ·rw[za6 (zn5 ec ea (fun z=>nomatch z))];exact ec
end
theorem zl1(a b c d a' b' c' d':Int):ltP ([a,b],[c,d]) ([a',b'],[c',d'])=lt22 ((a,b),(c,d)) ((a',b'),(c',d')):=by
 unfold ltP;rw[lex2,lex2];show(if[a,b]=[a',b'] then(if[c,d]=[c',d'] then false else lt2 (c,d) (c',d')) else lt2 (a,b) (a',b'))=if(a,b)=(a',b') then lt2 (c,d) (c',d') else lt2 (a,b) (a',b')
 by_cases e:(a,b)=(a',b')
 ·rw[if_pos e,if_pos (by injection e with e1 e2;rw[e1,e2])]
  by_cases f:(c,d)=(c',d')
  ·rw[if_pos (by injection f with f1 f2;rw[f1,f2]),f,sto2.irr]
  ·rw[if_neg (fun z=>f (by injection z with z1 z2;injection z2 with z2;rw[z1,z2]))]
 ·rw[if_neg e,if_neg (fun z=>e (by injection z with z1 z2;injection z2 with z2;rw[z1,z2]))]
def F2D(H:Hp)(v:V)(e:(Int×Int)×(Int×Int)):Prop:=∃(p a b:Addr),v=.ref p/\H p=some (.tup [.ref a,.ref b])/\H a=some (.tup [.int e.1.1,.int e.1.2])/\H b=some (.tup [.int e.2.1,.int e.2.2])
theorem STO.wk{β:Type}{lt:β->β->Bool}(S:STO lt)(d:Nat->β):Wk fun i j=>lt (d i) (d j):=by
 refine⟨fun _=>S.irr _,fun _ _ _ h1 h2=>S.tr _ _ _ h1 h2,fun i j k h1 h2=>?_⟩
 cases h:lt (d i) (d k) with
 |false=>rfl
 |true=>
  exfalso
  by_cases e:d i=d j
  ·rw[e] at h;rw[h] at h2
   cases h2
  ·rcases S.tot _ _ e with z|z
   ·rw[z] at h1;cases h1
   ·rw[S.tr _ _ _ z h] at h2
    cases h2
section
variable{prog:kq}{w:pX}{A:pj}{E:kB->kC->Prop}{s:kC}{vs:List kB}{κ:QM}{g:Heap}{ans:Nat->Nat->Bool}
theorem sortG_at{a:Addr}{n:Nat}{P:jC->kC->Prop}(hg:Keeps g s.heap)(ga:g.objs.size<=a)(ho:s.heap.get? a=some (pI "list" vs.toArray n))(zl:vs.length<=sizeLine)(wk:Wk ans)(cons:∀i j,i<vs.length->j<vs.length->vs[i]?=vs[j]?->∀k,ans i k=ans j k/\ans k i=ans k j)
  (hk:2<=vs.length->∀h',Keeps g h'->∀Q',Q' κ {s with heap:=h'}->wpAny (model prog w) A (gI vs.toArray) Q' (fun _ _=>False) {s with heap:=h'})
  (hc:2<=vs.length->∀h',Keeps g h'->∀i j,i<vs.length->j<vs.length->∀C,C (ans i j) {s with heap:=h'}->wpAny (model prog w) A (Dn κ (vs.getD i .none) (vs.getD j .none)) C (fun _ _=>False) {s with heap:=h'})
  (q:∀(p:List Nat) h' c,Keeps g h'->p.Perm (uB vs.length)->p.Pairwise (fun i j=>ans j i=false)->h'.get? a=some (pI "list" (p.map fun i=>vs.getD i .none).toArray c)->P (.done (.ret .none)) {s with heap:=h'}):
  wpAny (model prog w) A (vo.«list.sort» ⟨[.ref a],[]⟩) P E s:=by
 have z0:vs.toArray.size=vs.length:=rfl;have k1:Keeps g (s.heap.update a (pT fun _=>(#[]:Array kB))):=hg.upd ga;obtain⟨e1,o1⟩:∃e1,(s.heap.update a (pT fun _=>(#[]:Array kB))).get? a=some (pI "list" #[] e1):=⟨_,Um ho _⟩;have k3:=(k1.push (pI "tuple" vs.toArray 0)).push (pI "list" #[] 0);have o3:=kN (pI "list" #[] 0) (kN (pI "tuple" vs.toArray 0) o1);have zz:(vs.toArray.zip vs.toArray).toList=(uB vs.length).map fun i=>(vs.getD i .none,vs.getD i .none):=by
  rw[DL];refine jq fun i=>?_;rw[pS]
  by_cases c:i<vs.length
  ·rw[jJ c,kI (by simp[c])]
   simp[List.getElem_zip,kR,c]
  ·rw[uS (by simp;omega),uS (by simp;omega)]
   rfl
 have tk:WkT (fun x y:ke=>ans (kIdx vs x.1) (kIdx vs y.1)):=⟨fun _=>wk.irr _,fun _ _ _ h1 h2=>wk.tr _ _ _ h1 h2,fun _ _ _ h1 h2=>wk.cut _ _ _ h1 h2⟩;have fin:∀(st:uZ),(arrOf st).Perm (vs.toArray.zip vs.toArray)->UpL (fun x y:ke=>ans (kIdx vs x.1) (kIdx vs y.1)) (arrOf st).toList->
   P (.done (.ret .none)) {s with heap:=(((s.heap.update a (pT fun _=>(#[]:Array kB))).push (pI "tuple" vs.toArray 0)).push (pI "list" #[] 0)).update a (pT fun _=>(arrOf st).map (·.2))}:=fun st hp hu=>by
  have h1:=AG.mp hp;rw[zz] at h1;obtain⟨p,p1,p2⟩:=zj0 h1;have e:(arrOf st).map (·.2)=(p.map fun i=>vs.getD i .none).toArray:=by
   apply jD.mp
   rw[Array.toList_map,p2,Ud];rfl
  obtain⟨c,hc'⟩:∃c,((((s.heap.update a (pT fun _=>(#[]:Array kB))).push (pI "tuple" vs.toArray 0)).push (pI "list" #[] 0)).update a (pT fun _=>(arrOf st).map (·.2))).get? a=some (pI "list" ((arrOf st).map (·.2)) c):=⟨_,Um o3 fun _=>(arrOf st).map (·.2)⟩;refine q p _ c (k3.upd ga) p1 ?_ (by rw[←e];exact hc')
  rw[p2] at hu;have hu':=uc.mp hu;refine List.Pairwise.imp_of_mem (fun{i j} hi hj z=>?_) hu';have bi:i<vs.length:=pO.mp (p1.mem_iff.mp hi);have bj:j<vs.length:=pO.mp (p1.mem_iff.mp hj);have gi:vs[i]?=some (vs.getD i .none):=by rw[kR,kI bi];rfl
  have gj:vs[j]?=some (vs.getD j .none):=by rw[kR,kI bj];rfl
  obtain⟨k1,k2⟩:=zhv gi;obtain⟨l1,l2⟩:=zhv gj;have c1:=(cons _ _ l1 bj (l2.trans gj.symm) (kIdx vs (vs.getD i .none))).1;have c2:=(cons _ _ k1 bi (k2.trans gi.symm) j).2;rw[←c2,←c1];exact z
 rw[DW];refine kA (uI ho rfl (kA (UJ ho rfl (kA (vz o1 rfl (kA (Bq (kA (Uz (uq ?_) (pY _))) zl)))) zl (pY _))));dsimp only;have szl:∀st:uZ,(arrOf st).Perm (vs.toArray.zip vs.toArray)->((arrOf st).map (·.2)).size<=sizeLine+1:=fun st hp=>by
  rw[Array.size_map,hp.size_eq,Array.size_zip];simp only[pZ];omega
 by_cases h2:vs.length<2
 ·rw[z0,if_pos h2,if_pos h2,DD];rw[BT];refine kA (kF (kA (vz o3 rfl (kA (UJ o3 rfl ?_ (pY _) (szl (hV general' (vs.toArray.zip vs.toArray) #[] 7 none) (Bc _)))))));simp only[show vC (hV general' (vs.toArray.zip vs.toArray) #[] 7 none)=none from rfl,bne_self_eq_false,kz,if_false];refine kF (fin _ (Bc _) ?_);show UpL _ (vs.toArray.zip vs.toArray).toList;have ll:(vs.toArray.zip vs.toArray).toList.length<2:=by rw[zz,kL,uO];exact h2
  generalize (vs.toArray.zip vs.toArray).toList=l at ll
  cases l with
  |nil=>exact .nil
  |cons x l=>cases l with
   |nil=>exact uw _ _
   |cons y l=>exact absurd ll (by simp only[uD];omega)
 ·have h2':2<=vs.length:=by omega
  rw[z0,if_neg h2,if_neg h2];refine kA (hk h2' _ k3 _ ?_|>fun x=>QQ x (fun _ _ y=>y) fun _ _ z=>z.elim);have run:=runsG (E:=E) tk (qr_ofK (vs:=vs) (hc h2' _ k3)) (st:=hV κ (vs.toArray.zip vs.toArray) #[] 7 none) (Q:=fun _ st'=>(arrOf st').Perm (vs.toArray.zip vs.toArray)/\vC st'=none/\UpL (fun x y:ke=>ans (kIdx vs x.1) (kIdx vs y.1)) (arrOf st').toList) ⟨⟨Bc _,rfl,rfl,rfl,pY _⟩,fun a n p hm=>by cases hm⟩ fun st' x y z=>⟨x,y,z⟩
  refine kA (QQ run ?_ fun _ _ e=>e);rintro⟨⟨⟩,st⟩ s' ⟨rfl,hp,hf,hu⟩;dsimp only at hp hf hu⊢;refine kA (vz o3 rfl (kA (UJ o3 rfl ?_ (pY _) (szl st hp))));rw[hf];simp only[bne_self_eq_false,kz,if_false];exact kF (fin st hp hu)
theorem zh5{l:Addr}{Q:kB->kC->Prop}(hl:s.heap.IsList l vs.toArray)(zl:vs.length<=sizeLine)(wk:Wk ans)(cons:∀i j,i<vs.length->j<vs.length->vs[i]?=vs[j]?->∀k,ans i k=ans j k/\ans k i=ans k j)
  (hk:2<=vs.length->∀h',Keeps s.heap h'->∀Q',Q' κ {s with heap:=h'}->wpAny (model prog w) A.in1.in1 (gI vs.toArray) Q' (fun _ _=>False) {s with heap:=h'})
  (hc:2<=vs.length->∀h',Keeps s.heap h'->∀i j,i<vs.length->j<vs.length->∀C,C (ans i j) {s with heap:=h'}->wpAny (model prog w) A.in1.in1 (Dn κ (vs.getD i .none) (vs.getD j .none)) C (fun _ _=>False) {s with heap:=h'})
  (q:∀(p:List Nat) h' c,Keeps s.heap h'->p.Perm (uB vs.length)->p.Pairwise (fun i j=>ans j i=false)->h'.get? (s.heap.objs.size+1)=some (pI "list" (p.map fun i=>vs.getD i .none).toArray c)->Q (.ref (s.heap.objs.size+1)) {s with heap:=h'}):
  wpAny (model prog w) A (call (.builtin "sorted") [.ref l]) Q E s:=by
 have k0:Keeps s.heap s.heap:=fun _ _ e=>e;have k2:=((k0.push (pI "list" #[] 0)).upd (a:=s.heap.objs.size) (f:=pT (·++vs.toArray)) (kJ _)).push (pI "list" vs.toArray 0);have z2:((s.heap.push (pI "list" #[] 0)).update s.heap.objs.size (pT (·++vs.toArray))).objs.size=s.heap.objs.size+1:=by
  rw[Aq,Dl]
 have o2:(((s.heap.push (pI "list" #[] 0)).update s.heap.objs.size (pT (·++vs.toArray))).push (pI "list" vs.toArray 0)).get? (s.heap.objs.size+1)=some (pI "list" vs.toArray 0):=
  z2▸pJ _ rfl
 refine AU DS Ck Cl (args_sorted1 _) ?_;unfold vo.«sorted»;refine kA (m:=Dm _ _ _ _) (kF (kA (Cm hl (kA (Uz ?_ zl)) zl)));rw[show(({s with heap:=(s.heap.push (pI "list" #[] 0)).update s.heap.objs.size (pT (·++vs.toArray))}:kC).heap.objs.size)=s.heap.objs.size+1 from z2];refine kA (uq (Ue Br ⟨_,o2,rfl⟩ BU (sortG_at (s:={s with heap:=_}) (κ:=κ) k2 (Qv _) o2 zl wk cons hk hc fun p h' c b1 b2 b4 b3=>⟨_,rfl,?_⟩) (args_list_sort _)));exact kF ⟨_,rfl,q p h' c b1 b2 b4 b3⟩
end
def rSort22G:List V->Hp->VK->Prop:=fun xs H Q=>∃(l:Addr)(vs:List V)(d:Nat->(Int×Int)×(Int×Int)),xs=[.ref l]/\H l=some (.lst vs)/\(∀i,i<vs.length->F2D H (vs.getD i .non) (d i))/\
 ∀(D:Addr)(p:List Nat),H D=none->p.Perm (uB vs.length)->p.Pairwise (fun i j=>lt22 (d j) (d i)=false)->Q (.ref D) (upd H D (.lst (p.map fun i=>vs.getD i .non)))
def F4D(H:Hp)(v:V)(e:((Int×Int)×(Int×Int))×((Int×Int)×(Int×Int))):Prop:=∃(p a b c d:Addr),v=.ref p/\H p=some (.tup [.ref a,.ref b,.ref c,.ref d])/\H a=some (.tup [.int e.1.1.1,.int e.1.1.2])/\H b=some (.tup [.int e.1.2.1,.int e.1.2.2])/\H c=some (.tup [.int e.2.1.1,.int e.2.1.2])/\H d=some (.tup [.int e.2.2.1,.int e.2.2.2])
def rSort44:List V->Hp->VK->Prop:=fun xs H Q=>∃(l:Addr)(vs:List V)(d:Nat->((Int×Int)×(Int×Int))×((Int×Int)×(Int×Int))),xs=[.ref l]/\H l=some (.lst vs)/\(∀i,i<vs.length->F4D H (vs.getD i .non) (d i))/\(∀i j,i<vs.length->j<vs.length->(d i).1=(d j).1->(d i).2=(d j).2)/\
 ∀(D:Addr)(p:List Nat),H D=none->p.Perm (uB vs.length)->p.Pairwise (fun i j=>lt22 (d j).1 (d i).1=false)->Q (.ref D) (upd H D (.lst (p.map fun i=>vs.getD i .non)))
def TupQ(h:Heap)(v:kB)(a b c d:List Int):Prop:=∃(p:Addr)(x y z t:kB)(n:Nat)(dd:Option Addr)(sl:Array (Option kB)),v=.ref p/\h.get? p=some {cls:=.type "tuple",dict:=dd,data:=.seq #[x,y,z,t] n,slots:=sl}/\TupI h x a/\TupI h y b/\TupI h z c/\TupI h t d
theorem TupQ.keeps{g h:Heap}{v:kB}{a b c d:List Int}(t:TupQ g v a b c d)(k:Keeps g h):TupQ h v a b c d:=by
 obtain⟨p,x,y,z,u,n,dd,sl,e,o,i,j,i',j'⟩:=t;exact⟨p,x,y,z,u,n,dd,sl,e,k _ _ o,i.keeps k,j.keeps k,i'.keeps k,j'.keeps k⟩
section
variable{prog:kq}{w:pX}{A:pj}{E:kB->kC->Prop}{s:kC}{C:Bool->kC->Prop}
theorem lt_tupQ{x y:kB}{a b c d a' b' c' d':List Int}(hx:TupQ s.heap x a b c d)(hy:TupQ s.heap y a' b' c' d')(l1:a.length=a'.length)(l2:b.length=b'.length)(same:a=a'->b=b'->c=c'/\d=d')(hu:A.units+64<cLine)(q:C (ltP (a,b) (a',b')) s):wpAny (model prog w) A (Dn (tuples' false) x y) C E s:=by
 obtain⟨p,x1,x2,x3,x4,n,dd,sl,rfl,o,i1,i2,i3,i4⟩:=hx;obtain⟨p',y1,y2,y3,y4,n',dd',sl',rfl,o',j1,j2,j3,j4⟩:=hy;unfold ltP at q;dsimp only at q;refine Do o rfl o' rfl (vD (ze1 i1 j1 hu ?_))
 by_cases c1:a=a'
 ·rw[if_pos c1] at q;rw[decide_eq_true c1];refine vY (vD (ze1 i2 j2 hu ?_))
  by_cases c2:b=b'
  ·rw[if_pos c2] at q;rw[decide_eq_true c2];obtain⟨e3,e4⟩:=same c1 c2;refine vY (vD (ze1 i3 j3 hu ?_));rw[decide_eq_true e3];refine vY (vD (ze1 i4 j4 hu ?_));rw[decide_eq_true e4];exact vY (DZ q)
  ·rw[if_neg c2] at q;rw[decide_eq_false c2];exact AI (zi3 i2 j2 l2 hu q)
 ·rw[if_neg c1] at q;rw[decide_eq_false c1];exact AI (zi3 i1 j1 l1 hu q)
end
open PySem.W (KatTups) in
theorem ktupsQ{h:Heap}:∀vs:List kB,(∀v,v∈vs->∃a b c d,TupQ h v a b c d)->∃fs,fs.length=vs.length/\KatTups h vs fs/\∀f,f∈fs->∃ns,TupI h f ns
 |[],_=>⟨[],rfl,.nil,fun f hf=>by cases hf⟩
 |v::vs,hv=>by
  obtain⟨fs,l,t,r⟩:=ktupsQ vs fun u hu=>hv u (kT _ hu);obtain⟨a,b,c,d,p,x,y,z,u,n,dd,sl,rfl,o,i,j⟩:=hv v (uJ ..);refine⟨x::fs,by simp[l],.cons o rfl rfl rfl t,fun f hf=>?_⟩
  rcases pF.mp hf with rfl|hf
  ·exact⟨_,i⟩
  ·exact r f hf
theorem zm8{M:Model}{A:pj}{E:kB->kC->Prop}{s:kC}{vs:List kB}{Q:QM->kC->Prop}(hn:0<vs.length)(hv:∀v,v∈vs->∃a b c d,TupQ s.heap v a b c d)(q:Q (tuples' false) s):wpAny M A (gI vs.toArray) Q E s:=by
 obtain⟨fs,l,t,r⟩:=ktupsQ vs hv;refine DG (T:=.type "tuple") t (by omega) (fun f hf=>?_) (by decide) ?_
 ·obtain⟨ns,a,its,n,dd,sl,rfl,o,_⟩:=r f hf;exact(As o).andThen .now
 ·rw[show(vq "tuple"!=vq "tuple")=false from by decide]
  exact q
theorem zm0{vs:List V}{us:List kB}(r:Vals vs us){i j:Nat}(hi:i<vs.length)(hj:j<vs.length){p q:Addr}(ei:vs.getD i .non=.ref p)(ej:vs.getD j .non=.ref q)(h:us[i]?=us[j]?):p=q:=by
 have h1:=zcv r i hi;have h2:=zcv r j hj;rw[ei] at h1;rw[ej] at h2;have e1:us.getD i uA=kZ p:=h1;have e2:us.getD j uA=kZ q:=h2;rw[kR,h,←kR,e2] at e1
 cases e1;rfl
section
variable{X:Cx}
theorem ziu(hu:X.A.units+100<cLine):zey X (.builtin "sorted") rSort22G:=by
 intro pins s σ H xs us Q I r h;obtain⟨l,vs,d,rfl,hl,hf,q⟩:=h;obtain⟨u,rfl,ru⟩:=vals1 r
 cases ru;obtain⟨its,rv,pl,hz⟩:=I.list (.of hl);have len:vs.length=its.length:=rv.length;have dd:∀i,i<its.length->TupP s.heap (its.getD i uA) [(d i).1.1,(d i).1.2] [(d i).2.1,(d i).2.2]:=fun i hi=>by
  obtain⟨p,a,b,e,hp,ha,hb⟩:=hf i (by omega)
  have rr:=zcv rv i (by omega)
  rw[e] at rr;rw[show its.getD i uA=kZ p from rr];have ta:=zde I (ns:=[(d i).1.1,(d i).1.2]) ha;have tb:=zde I (ns:=[(d i).2.1,(d i).2.2]) hb;obtain⟨its,r,⟨⟨cls,dd,data,sl⟩,ho,hc,n,hd⟩,_⟩:=I.tuple (.of hp)
  simp only at hc hd
  subst hc hd;obtain⟨u1,u2,rfl,r1,r2⟩:=vals2 r
  cases r1
  cases r2;exact⟨p,_,_,n,dd,sl,rfl,ho,ta,tb⟩
 have same:∀i j,i<its.length->j<its.length->its[i]?=its[j]?->d i=d j:=fun i j hi hj e=>by
  obtain⟨p,a,b,e1,hp,ha,hb⟩:=hf i (by omega)
  obtain⟨p',a',b',e1',hp',ha',hb'⟩:=hf j (by omega)
  have:=zm0 rv (by omega) (by omega) e1 e1' e
  subst this;rw[hp] at hp'
  cases hp';rw[ha] at ha';rw[hb] at hb'
  injection ha' with ha'
  injection ha' with ha'
  injection hb' with hb'
  injection hb' with hb'
  simp only[vc,V.int.injEq,and_true] at ha' hb';exact ue (ue ha'.1 ha'.2) (ue hb'.1 hb'.2)
 refine zh5 (κ:=tuples' false) (ans:=fun i j=>lt22 (d i) (d j)) pl.isList (by omega) (sto22.wk d) (fun i j hi hj e k=>by rw[same i j hi hj e];exact⟨rfl,rfl⟩) (fun h2 h' k Q' q'=>?_) (fun h2 h' k i j hi hj C c=>?_) fun p h' c k or ep ho=>?_
 ·refine zn1 (by omega) (fun v hv=>?_) q'
  obtain⟨i,hi,e⟩:=pN.mp hv;have t:=dd i hi;have e':its.getD i uA=v:=by simp[hi,e]
  rw[e'] at t;exact⟨_,_,(fun z=>by cases z),t.keeps k⟩
 ·refine lt_tupP (a:=([(d i).1.1,(d i).1.2],[(d i).2.1,(d i).2.2])) (b:=([(d j).1.1,(d j).1.2],[(d j).2.1,(d j).2.2])) ((dd i hi).keeps k) ((dd j hj).keeps k) rfl rfl (by show X.A.units+1+1+64<_;omega) ?_
  rw[zl1];exact c
 ·have lo:p.length=its.length:=by rw[or.length_eq,uO]
  refine⟨.ref _,upd H (s.heap.objs.size+1) (.lst (p.map fun i=>vs.getD i .non)),I.laid (t':=s.toks) k (Qv _) ⟨?_,_,c,zf2 _ (fun i hi=>zcv rv i ?_),ho⟩,rfl,q _ _ (I.hok.fresh (Qv _)) (by rw[len];exact or) ep⟩
  ·rw[kL,lo];omega
  ·have:=pO.mp (or.mem_iff.mp hi);omega
theorem zkk(hu:X.A.units+100<cLine):zey X (.builtin "sorted") rSort44:=by
 intro pins s σ H xs us Q I r h;obtain⟨l,vs,d,rfl,hl,hf,fn,q⟩:=h;obtain⟨u,rfl,ru⟩:=vals1 r
 cases ru;obtain⟨its,rv,pl,hz⟩:=I.list (.of hl);have len:vs.length=its.length:=rv.length;have dd:∀i,i<its.length->TupQ s.heap (its.getD i uA) [(d i).1.1.1,(d i).1.1.2] [(d i).1.2.1,(d i).1.2.2] [(d i).2.1.1,(d i).2.1.2] [(d i).2.2.1,(d i).2.2.2]:=fun i hi=>by
  obtain⟨p,a,b,c,e,ev,hp,ha,hb,hc1,he⟩:=hf i (by omega)
  have rr:=zcv rv i (by omega)
  rw[ev] at rr;rw[show its.getD i uA=kZ p from rr];have ta:=zde I (ns:=[(d i).1.1.1,(d i).1.1.2]) ha;have tb:=zde I (ns:=[(d i).1.2.1,(d i).1.2.2]) hb;have tc:=zde I (ns:=[(d i).2.1.1,(d i).2.1.2]) hc1;have te:=zde I (ns:=[(d i).2.2.1,(d i).2.2.2]) he;obtain⟨its,r,⟨⟨cls,dd,data,sl⟩,ho,hc,n,hd⟩,_⟩:=I.tuple (.of hp)
  simp only at hc hd
  subst hc hd
  cases r with
  |cons r1 r=>cases r with
   |cons r2 r=>cases r with
    |cons r3 r=>cases r with
     |cons r4 r=>
      cases r
      cases r1
      cases r2
      cases r3
      cases r4;exact⟨p,_,_,_,_,n,dd,sl,rfl,ho,ta,tb,tc,te⟩
 have same:∀i j,i<its.length->j<its.length->its[i]?=its[j]?->(d i).1=(d j).1:=fun i j hi hj e=>by
  obtain⟨p,a,b,c,f,e1,hp,ha,hb,_⟩:=hf i (by omega)
  obtain⟨p',a',b',c',f',e1',hp',ha',hb',_⟩:=hf j (by omega)
  have:=zm0 rv (by omega) (by omega) e1 e1' e
  subst this;rw[hp] at hp'
  cases hp';rw[ha] at ha';rw[hb] at hb'
  injection ha' with ha'
  injection ha' with ha'
  injection hb' with hb'
  injection hb' with hb'
  simp only[vc,V.int.injEq,and_true] at ha' hb';exact ue (ue ha'.1 ha'.2) (ue hb'.1 hb'.2)
 refine zh5 (κ:=tuples' false) (ans:=fun i j=>lt22 (d i).1 (d j).1) pl.isList (by omega) (sto22.wk fun i=>(d i).1) (fun i j hi hj e k=>by rw[same i j hi hj e];exact⟨rfl,rfl⟩) (fun h2 h' k Q' q'=>?_) (fun h2 h' k i j hi hj C c=>?_) fun p h' c k or ep ho=>?_
 ·refine zm8 (by omega) (fun v hv=>?_) q'
  obtain⟨i,hi,e⟩:=pN.mp hv;have t:=dd i hi;have e':its.getD i uA=v:=by simp[hi,e]
  rw[e'] at t;exact⟨_,_,_,_,t.keeps k⟩
 ·refine lt_tupQ ((dd i hi).keeps k) ((dd j hj).keeps k) rfl rfl (fun e1 e2=>?_) (by show X.A.units+1+1+64<_;omega) ?_
  ·simp only[vc,and_true] at e1 e2;have:=fn i j (by omega) (by omega) (ue (ue e1.1 e1.2) (ue e2.1 e2.2))
   rw[this];exact⟨rfl,rfl⟩
  ·rw[zl1];exact c
 ·have lo:p.length=its.length:=by rw[or.length_eq,uO]
  refine⟨.ref _,upd H (s.heap.objs.size+1) (.lst (p.map fun i=>vs.getD i .non)),I.laid (t':=s.toks) k (Qv _) ⟨?_,_,c,zf2 _ (fun i hi=>zcv rv i ?_),ho⟩,rfl,q _ _ (I.hok.fresh (Qv _)) (by rw[len];exact or) ep⟩
  ·rw[kL,lo];omega
  ·have:=pO.mp (or.mem_iff.mp hi);omega
end
def ltI2(a b:Int×(Int×Int)):Bool:=if a.1=b.1 then lt2 a.2 b.2 else decide (a.1<b.1)
def LstH(h:Heap)(v:kB)(e:Int×(Int×Int)):Prop:=∃(a:Addr)(t:Tok)(u:kB)(n:Nat),v=.ref a/\h.get? a=some (pI "list" [UP e.1 t,u].toArray n)/\TupI h u [e.2.1,e.2.2]
theorem LstH.keeps{g h:Heap}{v:kB}{e:Int×(Int×Int)}(t:LstH g v e)(k:Keeps g h):LstH h v e:=by
 obtain⟨a,t,u,n,e,o,i⟩:=t;exact⟨a,t,u,n,e,k _ _ o,i.keeps k⟩
section
variable{prog:kq}{w:pX}{A:pj}{E:kB->kC->Prop}{s:kC}
theorem lh_loop{R:DB->kC->Prop}{a b:Addr}{e f:Int×(Int×Int)}{t t':Tok}{u u':kB}{n m:Nat}(hu:A.units+70<cLine)(ha:s.heap.get? a=some (pI "list" [UP e.1 t,u].toArray n))(hb:s.heap.get? b=some (pI "list" [UP f.1 t',u'].toArray m))(tu:TupI s.heap u [e.2.1,e.2.2])(tu':TupI s.heap u' [f.2.1,f.2.2])(q:R (.ok (.ret (.bool (ltI2 e f)))) s):
  vk (model prog w) A (.builtin "list.__eq__.loop" ⟨[.ref a,.ref b,Qo ((0:Nat):Int),Qo 0],[]⟩) R s:=by
 refine Qb UT ?_;rw[uY uR _];refine kA (uI ha rfl (kA (uI hb rfl ?_)));simp only[Qo,Ql,ut,UU];refine kA (Cy ?_);unfold ltI2 at q
 by_cases c:e.1=f.1
 ·rw[if_pos c] at q;rw[show(e.1==f.1)=true from beq_iff_eq.mpr c];simp only[if_true];have z:vk (model prog w) A (.builtin "list.__eq__.loop" ⟨[.ref a,.ref b,Qo ((1:Nat):Int),Qo 0],[]⟩) R s:=by
   refine Qb UT ?_;rw[uY uR _];refine kA (uI ha rfl (kA (uI hb rfl ?_)));simp only[Qo,Ql,ut,vL,UU];refine kA (ze1 tu tu' (by show A.units+1+64<_;omega) ?_)
   by_cases c2:[e.2.1,e.2.2]=[f.2.1,f.2.2]
   ·rw[decide_eq_true c2];simp only[if_true];have e2:e.2=f.2:=by
     injection c2 with c3 c4
     injection c4 with c4
     exact ue c3 c4
    rw[e2,sto2.irr] at q;have z2:vk (model prog w) A (.builtin "list.__eq__.loop" ⟨[.ref a,.ref b,Qo ((2:Nat):Int),Qo 0],[]⟩) R s:=by
     refine Qb UT ?_;rw[uY uR _];refine kA (uI ha rfl (kA (uI hb rfl ?_)));simp only[Qo,Ql,ut,vL,List.getElem?_nil];exact kA (uI ha rfl (kA (uI hb rfl (kF q))))
    exact kF ⟨QN uR _,by simpa[Qo] using z2⟩
   ·rw[decide_eq_false c2];simp only[kz,if_false];refine kA (uI ha rfl (kA (uI hb rfl ?_)));simp only[ut,vL,UU];exact kA (zkm tu tu' (by show A.units+1+64<_;omega) (kF (by rw[lex2];exact q)))
  exact kF ⟨QN uR _,by simpa[Qo] using z⟩
 ·rw[if_neg c] at q;rw[show(e.1==f.1)=false from beq_eq_false_iff_ne.mpr c];simp only[kz,if_false];refine kA (uI ha rfl (kA (uI hb rfl ?_)));simp only[ut,UU];refine kA (CmpOf.ints_lt (P:=fun k v=>(k=0/\v=UP e.1 t)∨(k=1/\v=UP f.1 t')) (fun k=>if k=0 then e.1 else f.1) (fun k v hk=>?_) 0 1 _ _ _ _ _ (.inl ⟨rfl,rfl⟩) (.inr ⟨rfl,rfl⟩) (kF q));rcases hk with⟨rfl,rfl⟩|⟨rfl,rfl⟩
  ·exact⟨t,rfl⟩
  ·exact⟨t',rfl⟩
theorem listLtH(a b:Addr):Meets (vo.«list.__lt__» ⟨[.ref a,.ref b],[]⟩) (fun A R s=>A.units+70<cLine/\∃(e f:Int×(Int×Int))(t t':Tok)(u u':kB)(n m:Nat),s.heap.get? a=some (pI "list" [UP e.1 t,u].toArray n)/\s.heap.get? b=some (pI "list" [UP f.1 t',u'].toArray m)/\TupI s.heap u [e.2.1,e.2.2]/\TupI s.heap u' [f.2.1,f.2.2]/\R (.ok (.ret (.bool (ltI2 e f)))) s):=by
 intro prog w A R s h;obtain⟨hu,e,f,t,t',u,u',n,m,ha,hb,tu,tu',q⟩:=h;refine kA (m:=BN (.ref b) (.type "list")) (vJ (T:="list") (b:=true) ⟨_,hb,rfl⟩ BO ?_);exact kF ⟨QN uR _,lh_loop hu ha hb tu tu' q⟩
theorem rc_lstH{x y:kB}{e f:Int×(Int×Int)}{Q:kB->kC->Prop}(hx:LstH s.heap x e)(hy:LstH s.heap y f)(hu:A.units+75<cLine)(q:Q (.bool (ltI2 e f)) s):wpAny (model prog w) A (gJ .Lt x y) Q E s:=by
 obtain⟨a,t,u,n,rfl,o,i⟩:=hx;obtain⟨b,t',u',m,rfl,o',i'⟩:=hy;exact jg (op:=.Lt) ⟨_,o,rfl⟩ ⟨_,o',rfl⟩ gO Bh (BP _ _) (listLtH a b) ⟨by omega,e,f,t,t',u,u',n,m,o,o',i,i',(fun z=>nomatch z),q⟩ (by omega)
end
def rMinL:List V->Hp->VK->Prop:=fun xs H Q=>∃(p q b c:Addr)(e f:Int×(Int×Int)),xs=[.ref p,.ref q]/\H p=some (.lst [.int e.1,.ref b])/\H b=some (.tup [.int e.2.1,.int e.2.2])/\H q=some (.lst [.int f.1,.ref c])/\H c=some (.tup [.int f.2.1,.int f.2.2])/\Q (.ref (if ltI2 f e=true then q else p)) H
section
variable{X:Cx}{pins:List (Addr×Obj)}{σ:St}{H:Hp}{s:kC}
theorem zo8(I:Inv X pins σ H s){p b:Addr}{e:Int×(Int×Int)}(h:H p=some (.lst [.int e.1,.ref b]))(hb:H b=some (.tup [.int e.2.1,.int e.2.2])):LstH s.heap (.ref p) e:=by
 obtain⟨z,its,n,rv,hlen,eo⟩:=I.lstM h;obtain⟨u1,u2,rfl,⟨t,rfl⟩,r2⟩:=vals2 rv
 cases(show u2=kZ b from r2);exact⟨p,t,_,n,rfl,eo,zde I (ns:=[e.2.1,e.2.2]) hb⟩
theorem zp5(hcalm:X.calm=true)(hu:X.A.units+100<cLine):zey X (.builtin "min") rMinL:=by
 intro pins s σ H xs us Q I r h;obtain⟨p,q,b,c,e,f,rfl,hp,hb,hq,hc,qq⟩:=h;obtain⟨u,w',rfl,ru,rw'⟩:=vals2 r
 cases(show u=kZ p from ru)
 cases(show w'=kZ q from rw');have lp:=zo8 I hp hb;have lq:=zo8 I hq hc;have nm:(vH "min"++vH ".loop":String)="min.loop":=by decide
 have hT:(s.heap.push {cls:=.type "tuple",data:=.seq #[kZ p,kZ q]}).IsTuple s.heap.objs.size #[kZ p,kZ q]:=⟨_,pJ _ rfl,rfl,0,rfl⟩;have hsz:(s.heap.push {cls:=.type "tuple",data:=.seq #[kZ p,kZ q]}).objs.size=s.heap.objs.size+1:=jf ..;have hsz2:((s.heap.push {cls:=.type "tuple",data:=.seq #[kZ p,kZ q]}).push {cls:=vq "tuple_iterator",data:=gE #[kZ s.heap.objs.size,UP 0 0]}).objs.size=s.heap.objs.size+1+1:=by rw[jf,hsz]
 refine Ca F.kind_min F.plain_min F.entry_min (F.args_min2 _ _) ?_;show wpAny _ X.A.in1 (QV "min" ["key","default"] 0 ⟨[],[]⟩>>=_) _ _ s;refine kA (Bu (show QV "min" ["key","default"] 0 ⟨[],[]⟩=pure [none,none] from rfl) ?_);show wpAny _ X.A.in1 (newTuple [kZ p,kZ q]>>=_) _ _ s;refine kA (UR ?_);refine kA (wpAny_pyIter_tuple hT ?_);refine kA (UR ?_);rw[nm];have W:=Walks.tuple (prog:=X.prog) (w:=X.w) (A:=X.A.in1) (show X.A.in1.handled=none from I.ok.hd hcalm) (s.heap.push {cls:=.type "tuple",data:=.seq #[kZ p,kZ q]}).objs.size s.heap.objs.size (by rw[hsz];exact uH (jF _)) #[kZ p,kZ q]
 have val:∀k v,#[kZ p,kZ q][k]?=some v->(k=0/\v=kZ p)∨(k=1/\v=kZ q):=fun k v z=>by
  match k,z with
  |0,z=>exact .inl ⟨rfl,(uK z).symm⟩
  |1,z=>exact .inr ⟨rfl,(uK z).symm⟩
  |k+2,z=>simp at z
 have kg:Keeps s.heap (((s.heap.push {cls:=.type "tuple",data:=.seq #[kZ p,kZ q]}).push {cls:=vq "tuple_iterator",data:=gE #[kZ s.heap.objs.size,UP 0 0]}).push (pI "list" #[] 0)):=fun b o e=>kN _ (kN _ (kN _ e));refine kF ⟨QN Qx _,zhp (g:=s.heap) W (fun a b=>ltI2 (if a=0 then e else f) (if b=0 then e else f)) (fun a b va vb s' Q' E' k ha hb' q'=>?_) _ (fun z=>?_) ?_ (fun b hb'=>?_) (show 0<2 by decide) kg (st:=W.frame 0 _ _ ⟨⟨_,pJ _ rfl,rfl,rfl⟩,hT.push _⟩ fun b _ o e=>kN _ e) (pJ _ rfl) fun v h' tk hv kp=>?_⟩
 ·have la:∀{a va},((a=0/\va=kZ p)∨(a=1/\va=kZ q))->LstH s'.heap va (if a=0 then e else f):=fun z=>by
   rcases z with⟨rfl,rfl⟩|⟨rfl,rfl⟩
   ·exact lp.keeps k
   ·exact lq.keeps k
  exact rc_lstH (la (val _ _ ha)) (la (val _ _ hb')) (by show X.A.units+1+75<_;omega) q'
 ·have z':((s.heap.push {cls:=.type "tuple",data:=.seq #[kZ p,kZ q]}).push {cls:=vq "tuple_iterator",data:=gE #[kZ s.heap.objs.size,UP 0 0]}).objs.size∈[(s.heap.push {cls:=.type "tuple",data:=.seq #[kZ p,kZ q]}).objs.size,s.heap.objs.size]:=z;rw[hsz2,hsz] at z';simp only[pF,vF,or_false] at z';rcases z' with z'|z'
  ·exact absurd z' (vR (jF _))
  ·exact absurd z' (vR (jh (jF _)))
 ·show s.heap.objs.size<=((s.heap.push {cls:=.type "tuple",data:=.seq #[kZ p,kZ q]}).push {cls:=vq "tuple_iterator",data:=gE #[kZ s.heap.objs.size,UP 0 0]}).objs.size
  rw[hsz2];exact Nat.le_succ_of_le (Qv _)
 ·rw[kU.mp hb',hsz];exact Qv _
 ·have J:Inv X pins σ H {s with heap:=h',toks:=tk}:=I.kept kp;have hv':#[kZ p,kZ q][Qg (fun a b:Nat=>ltI2 (if a=0 then e else f) (if b=0 then e else f)) 1]?=some v:=hv;have ab:Qg (fun a b:Nat=>ltI2 (if a=0 then e else f) (if b=0 then e else f)) 1=if ltI2 f e=true then 1 else 0:=rfl;rw[ab] at hv';refine⟨.ref (if ltI2 f e=true then q else p),H,J,?_,qq⟩
  by_cases z:ltI2 f e=true
  ·rw[if_pos z] at hv'⊢;exact(uK hv').symm
  ·rw[if_neg z] at hv'⊢;exact(uK hv').symm
def rInL(K:kM):R2:=fun x y H Q=>∃d es,RdD K H d x/\RdD K H (.list es) y/\d.canLay0=true/\uQ es=true/\d.depth<=60/\Q (.bl (es.any fun e=>Qs e d)) H
theorem op_inL{K':kM}(hK:X.K=K')(hu:X.A.units+64<cLine):OpR X (UQ .In) (rInL K'):=by
 subst hK;intro pins s σ H x y v u Q I rx ry h;obtain⟨d,es,hd,he,c1,c2,c3,q⟩:=h;obtain⟨as,ra⟩:=zd0 I d x v hd rx;obtain⟨bs,rb⟩:=zd0 I _ y u he ry;exact SeqAt.in_list_reads rb ra c2 c1 (by omega) ⟨.bl _,H,I,rfl,q⟩
end
def rReve:V->List V->Hp->VK->Prop:=fun x vs H Q=>∃l xs,x=.ref l/\vs=[]/\H l=some (.lst xs)/\Q .non (upd H l (.lst xs.reverse))
theorem mt_reve{X}:MtM X "list.reverse" rReve:=by
 intro pins s σ H x vs v us Q I rx rv h;obtain⟨l,xs,rfl,rfl,hH,q⟩:=h
 cases rx;have hus:=rv.zero;subst hus;obtain⟨z,its,n,r,hl,e⟩:=I.lstM hH;refine BH F.slot_list_reverse ⟨_,e,rfl⟩ F.entry_list_reverse (F.args_list_reverse_1 _) (AutoSeq1.list_reverse_list_0 l its.toArray n (by rw[pZ];omega)) ⟨e,?_⟩
 exact⟨.non,_,I.lset (its':=its.reverse) hH e (by simp) r.reverse (by rw[List.length_reverse];omega),rfl,q⟩
section
variable{t u:TS}{te ta tb:TE}{c c':TT}{D:Ends}{σ:St}{H:Hp}{Q:VK}{g:TG}{gs:TGs}{a:TA}{v w x y:V}{xs l:List V}{p:Addr}{i j k:Int}{b:Bool}
def yB(v:V)(Q:Bool->Prop):Prop:=∃k,v=.bl k/\Q k
def yI(v:V)(Q:Int->Prop):Prop:=∃k,v=.int k/\Q k
def yTw(vs:List V)(Q:V->V->Prop):Prop:=∃v w,vs=[v,w]/\Q v w
def yX(xs:List V)(i:Int)(Q:V->Prop):Prop:=∃v,atI xs i=some v/\Q v
def yJ(o:Option Nat)(Q:Nat->Prop):Prop:=∃j,o=some j/\Q j
theorem yB_bl{Q:Bool->Prop}:yB (.bl b) Q=Q b:=propext ⟨fun⟨k,e,q⟩=>by cases e;exact q,fun q=>⟨_,rfl,q⟩⟩
theorem yI_int{Q:Int->Prop}:yI (.int i) Q=Q i:=propext ⟨fun⟨k,e,q⟩=>by cases e;exact q,fun q=>⟨_,rfl,q⟩⟩
theorem yTw_two{Q:V->V->Prop}:yTw [v,w] Q=Q v w:=propext ⟨fun⟨k,e,f,q⟩=>by cases f;exact q,fun q=>⟨_,_,rfl,q⟩⟩
theorem yX_of{Q:V->Prop}{v:V}(h:atI xs i=some v):yX xs i Q=Q v:=propext ⟨fun⟨k,e,q⟩=>by rw[h] at e;cases e;exact q,fun q=>⟨_,h,q⟩⟩
theorem yX_0{Q:V->Prop}{x0:V}:yX (x0::l) 0 Q=Q x0:=yX_of at0
theorem yX_1{Q:V->Prop}{x0 x1:V}:yX (x0::x1::l) 1 Q=Q x1:=yX_of at1
theorem yX_2{Q:V->Prop}{x0 x1 x2:V}:yX (x0::x1::x2::l) 2 Q=Q x2:=yX_of at2
theorem yX_3{Q:V->Prop}{x0 x1 x2 x3:V}:yX (x0::x1::x2::x3::l) 3 Q=Q x3:=yX_of at3
theorem y_next:tNext D σ H=D.nx σ H:=rfl
theorem y_seq:tSeq t u D σ H=t {D with nx:=u D} σ H:=rfl
theorem y_ret:tRet te D σ H=te σ H D.rt:=rfl
theorem y_ifS:tIfS c t u D σ H=c σ H fun b H1=>if b=true then t D σ H1 else u D σ H1:=rfl
theorem y_asg:tAsg te g D σ H=te σ H fun x H1=>g x σ H1 D.nx:=rfl
theorem y_drop:tDrop te D σ H=te σ H fun _ H1=>D.nx σ H1:=rfl
theorem y_par{i j:Nat}:tPar i j a D σ H=a σ H fun vs H1=>yTw vs fun v w=>gName i v σ H1 fun σ' H'=>gName j w σ' H' D.nx:=rfl
theorem y_c:tC v σ H Q=Q v H:=rfl
theorem y_op{r:R2}:tOp r ta tb σ H Q=ta σ H fun x H1=>tb σ H1 fun y H2=>r x y H2 Q:=rfl
theorem y_un{r:V->Hp->VK->Prop}:tUn r ta σ H Q=ta σ H fun x H1=>r x H1 Q:=rfl
theorem y_rI{C:Int->Int->Prop}{g:Int->Int->V}:rI C g (.int i) (.int j) H Q=(C i j/\Q (g i j) H):=propext ⟨fun⟨a,b,e,f,q⟩=>by cases e;cases f;exact q,fun q=>⟨_,_,rfl,rfl,q⟩⟩
theorem y_rI0{g:Int->Int->V}:rI0 g (.int i) (.int j) H Q=Q (g i j) H:=propext ⟨fun⟨a,b,e,f,q⟩=>by cases e;cases f;exact q,fun q=>⟨_,_,rfl,rfl,q⟩⟩
theorem y_rU{g:Int->V}:rU g (.int i) H Q=Q (g i) H:=propext ⟨fun⟨a,e,q⟩=>by cases e;exact q,fun q=>⟨_,rfl,q⟩⟩
theorem y_eq:rEq x y H Q=(scal x y=true/\Q (.bl (decide (x=y))) H):=rfl
theorem y_ne:rNe x y H Q=(scal x y=true/\Q (.bl (!decide (x=y))) H):=rfl
section
variable{Q:Bool->Hp->Prop}
theorem y_test:tTest te σ H Q=te σ H fun x H'=>yB x fun k=>Q k H':=rfl
theorem y_B:tB te σ H Q=te σ H fun x H'=>yB x fun k=>Q k H':=rfl
theorem y_not:tNot c σ H Q=c σ H fun c H1=>Q (!c) H1:=rfl
theorem y_or:tOr c c' σ H Q=c σ H fun b H1=>if b=true then Q true H1 else c' σ H1 Q:=rfl
theorem y_yes:tYes σ H Q=Q true H:=rfl
end
theorem y_andV:tAndV ta tb σ H Q=ta σ H fun x H1=>yB x fun c=>if c=true then tb σ H1 Q else Q (.bl false) H1:=rfl
theorem y_cb{r:List V->Hp->VK->Prop}:tCB r a σ H Q=a σ H fun vs H1=>r vs H1 Q:=rfl
theorem y_call{sp:Sp}{dvs:List V}{E:XK}:tCall sp dvs E a σ H Q=a σ H fun vs H1=>sp (vs++dvs) H1 Q E:=rfl
section
variable{Q:List V->Hp->Prop}
theorem y_nil:tNil σ H Q=Q [] H:=rfl
theorem y_cons:zbo te a σ H Q=te σ H fun x H1=>a σ H1 fun xs H2=>Q (x::xs) H2:=rfl
end
theorem y_tup:tTup a σ H Q=a σ H fun xs H1=>xs.length<=sizeLine/\∀p,H1 p=none->Q (.ref p) (upd H1 p (.tup xs)):=rfl
theorem y_lst:tLst a σ H Q=a σ H fun xs H1=>xs.length<=sizeLine/\∀p,H1 p=none->Q (.ref p) (upd H1 p (.lst xs)):=rfl
section
variable{Q:St->Hp->Prop}
theorem y_gnil:gNil [] σ H Q=Q σ H:=propext ⟨fun h=>h.2,fun h=>⟨rfl,h⟩⟩
theorem y_gcons:gCons g gs (v::l) σ H Q=g v σ H fun σ' H'=>gs l σ' H' Q:=propext ⟨fun⟨a,b,e,q⟩=>by cases e;exact q,fun q=>⟨_,_,rfl,q⟩⟩
theorem y_gtup{n:Nat}:gTupH n gs (.ref p) σ H Q=match H p with|some (.tup xs)=>(xs.length=n/\gs xs σ H Q)|_=>False:=by
 refine propext ⟨fun⟨a,xs,e,h,q⟩=>?_,fun q=>?_⟩
 ·cases e;rw[h];exact q
 ·split at q
  ·exact⟨_,_,rfl,‹_›,q⟩
  ·exact q.elim
end
theorem y_ixT:rIxTH (.ref p) (.int i) H Q=match H p with|some (.tup xs)=>yX xs i fun v=>Q v H|_=>False:=by
 refine propext ⟨fun⟨a,xs,k,v,e,f,h,g,q⟩=>?_,fun q=>?_⟩
 ·cases e;cases f;rw[h];exact⟨v,g,q⟩
 ·split at q
  ·obtain⟨v,g,q⟩:=q;exact⟨_,_,_,v,rfl,rfl,‹_›,g,q⟩
  ·exact q.elim
theorem y_ixL:rIxLH (.ref p) (.int i) H Q=match H p with|some (.lst xs)=>yX xs i fun v=>Q v H|_=>False:=by
 refine propext ⟨fun⟨a,xs,k,v,e,f,h,g,q⟩=>?_,fun q=>?_⟩
 ·cases e;cases f;rw[h];exact⟨v,g,q⟩
 ·split at q
  ·obtain⟨v,g,q⟩:=q;exact⟨_,_,_,v,rfl,rfl,‹_›,g,q⟩
  ·exact q.elim
theorem y_len:rLenH [.ref p] H Q=match H p with|some (.lst ys)=>Q (.int ys.length) H|some (.tup ys)=>Q (.int ys.length) H|_=>False:=by
 refine propext ⟨fun⟨a,xs,e,h,q⟩=>?_,fun q=>?_⟩
 ·cases e;rcases h with h|h<;>(rw[h];exact q)
 ·split at q
  ·exact⟨_,_,rfl,.inl ‹_›,q⟩
  ·exact⟨_,_,rfl,.inr ‹_›,q⟩
  ·exact q.elim
theorem y_slH{lo hi:Option Int}:rSlH (.ref p) lo hi H Q=match H p with|some (.lst xs)=>(∀q,H q=none->Q (.ref q) (upd H q (.lst (cutV xs lo hi))))|_=>False:=by
 refine propext ⟨fun⟨a,xs,e,h,q⟩=>?_,fun q=>?_⟩
 ·cases e;rw[h];exact q
 ·split at q
  ·exact⟨_,_,rfl,‹_›,q⟩
  ·exact q.elim
theorem y_intB:rIntB [.bl b] H Q=Q (.int (if b=true then 1 else 0)) H:=propext ⟨fun⟨k,e,q⟩=>by cases e;exact q,fun q=>⟨_,rfl,q⟩⟩
theorem y_append:rAppend (.ref p) [y] H Q=match H p with|some (.lst xs)=>(xs.length<sizeLine/\Q .non (upd H p (.lst (xs++[y]))))|_=>False:=by
 refine propext ⟨fun⟨a,xs,z,e,f,h,q⟩=>?_,fun q=>?_⟩
 ·cases e;cases f;rw[h];exact q
 ·split at q
  ·exact⟨_,_,_,rfl,rfl,‹_›,q⟩
  ·exact q.elim
theorem ym_tup{o:Option HO}{Q:List V->Prop}:(match o with|some (.tup xs)=>Q xs|_=>False)=∃xs,o=some (.tup xs)/\Q xs:=by
 refine propext ⟨fun q=>?_,fun⟨xs,e,q⟩=>by subst e;exact q⟩
 split at q
 ·exact⟨_,rfl,q⟩
 ·exact q.elim
theorem ym_lst{o:Option HO}{Q:List V->Prop}:(match o with|some (.lst xs)=>Q xs|_=>False)=∃xs,o=some (.lst xs)/\Q xs:=by
 refine propext ⟨fun q=>?_,fun⟨xs,e,q⟩=>by subst e;exact q⟩
 split at q
 ·exact⟨_,rfl,q⟩
 ·exact q.elim
theorem ym_two{o:Option HO}{Q:List V->Prop}:(match o with|some (.lst xs)=>Q xs|some (.tup xs)=>Q xs|_=>False)=∃xs,(o=some (.lst xs)∨o=some (.tup xs))/\Q xs:=by
 refine propext ⟨fun q=>?_,fun⟨xs,e,q⟩=>by rcases e with e|e<;>(subst e;exact q)⟩
 split at q
 ·exact⟨_,.inl rfl,q⟩
 ·exact⟨_,.inr rfl,q⟩
 ·exact q.elim
section
variable{Q:Option Int->Hp->Prop}
theorem y_nopart:zox σ H Q=Q none H:=rfl
theorem y_part:tPart te σ H Q=te σ H fun x H1=>yI x fun i=>Q (some i) H1:=rfl
end
theorem y_sl{r:V->Option Int->Option Int->Hp->VK->Prop}{tl th:TO}:tSl r te tl th σ H Q=te σ H fun x H1=>tl σ H1 fun l H2=>th σ H2 fun u H3=>r x l u H3 Q:=rfl
theorem y_bm0{K:kM}{T:String}{r:V->List V->Hp->VK->Prop}:tBM0 K T r te σ H Q=te σ H fun x H1=>tyV K T x H1/\r x [] H1 Q:=rfl
theorem y_bm{K:kM}{T:String}{r:V->List V->Hp->VK->Prop}:tBM K T r te a σ H Q=te σ H fun x H1=>tyV K T x H1/\a σ H1 fun xs H2=>r x xs H2 Q:=rfl
theorem y_v0:tVar 0 (some v::σ) H Q=Q v H:=propext ⟨fun⟨_,e,q⟩=>by cases e;exact q,fun q=>⟨v,rfl,q⟩⟩
theorem y_n0{a0:Option V}{Q:St->Hp->Prop}:gName 0 v (a0::σ) H Q=Q (some v::σ) H:=rfl
theorem y_v1{a0:Option V}:tVar 1 (a0::some v::σ) H Q=Q v H:=propext ⟨fun⟨_,e,q⟩=>by cases e;exact q,fun q=>⟨v,rfl,q⟩⟩
theorem y_n1{a0 a1:Option V}{Q:St->Hp->Prop}:gName 1 v (a0::a1::σ) H Q=Q (a0::some v::σ) H:=rfl
theorem y_v2{a0 a1:Option V}:tVar 2 (a0::a1::some v::σ) H Q=Q v H:=propext ⟨fun⟨_,e,q⟩=>by cases e;exact q,fun q=>⟨v,rfl,q⟩⟩
theorem y_n2{a0 a1 a2:Option V}{Q:St->Hp->Prop}:gName 2 v (a0::a1::a2::σ) H Q=Q (a0::a1::some v::σ) H:=rfl
theorem y_v3{a0 a1 a2:Option V}:tVar 3 (a0::a1::a2::some v::σ) H Q=Q v H:=propext ⟨fun⟨_,e,q⟩=>by cases e;exact q,fun q=>⟨v,rfl,q⟩⟩
theorem y_n3{a0 a1 a2 a3:Option V}{Q:St->Hp->Prop}:gName 3 v (a0::a1::a2::a3::σ) H Q=Q (a0::a1::a2::some v::σ) H:=rfl
theorem y_v4{a0 a1 a2 a3:Option V}:tVar 4 (a0::a1::a2::a3::some v::σ) H Q=Q v H:=propext ⟨fun⟨_,e,q⟩=>by cases e;exact q,fun q=>⟨v,rfl,q⟩⟩
theorem y_n4{a0 a1 a2 a3 a4:Option V}{Q:St->Hp->Prop}:gName 4 v (a0::a1::a2::a3::a4::σ) H Q=Q (a0::a1::a2::a3::some v::σ) H:=rfl
theorem y_v5{a0 a1 a2 a3 a4:Option V}:tVar 5 (a0::a1::a2::a3::a4::some v::σ) H Q=Q v H:=propext ⟨fun⟨_,e,q⟩=>by cases e;exact q,fun q=>⟨v,rfl,q⟩⟩
theorem y_n5{a0 a1 a2 a3 a4 a5:Option V}{Q:St->Hp->Prop}:gName 5 v (a0::a1::a2::a3::a4::a5::σ) H Q=Q (a0::a1::a2::a3::a4::some v::σ) H:=rfl
theorem y_v6{a0 a1 a2 a3 a4 a5:Option V}:tVar 6 (a0::a1::a2::a3::a4::a5::some v::σ) H Q=Q v H:=propext ⟨fun⟨_,e,q⟩=>by cases e;exact q,fun q=>⟨v,rfl,q⟩⟩
theorem y_n6{a0 a1 a2 a3 a4 a5 a6:Option V}{Q:St->Hp->Prop}:gName 6 v (a0::a1::a2::a3::a4::a5::a6::σ) H Q=Q (a0::a1::a2::a3::a4::a5::some v::σ) H:=rfl
theorem y_v7{a0 a1 a2 a3 a4 a5 a6:Option V}:tVar 7 (a0::a1::a2::a3::a4::a5::a6::some v::σ) H Q=Q v H:=propext ⟨fun⟨_,e,q⟩=>by cases e;exact q,fun q=>⟨v,rfl,q⟩⟩
theorem y_n7{a0 a1 a2 a3 a4 a5 a6 a7:Option V}{Q:St->Hp->Prop}:gName 7 v (a0::a1::a2::a3::a4::a5::a6::a7::σ) H Q=Q (a0::a1::a2::a3::a4::a5::a6::some v::σ) H:=rfl
theorem y_v8{a0 a1 a2 a3 a4 a5 a6 a7:Option V}:tVar 8 (a0::a1::a2::a3::a4::a5::a6::a7::some v::σ) H Q=Q v H:=propext ⟨fun⟨_,e,q⟩=>by cases e;exact q,fun q=>⟨v,rfl,q⟩⟩
theorem y_n8{a0 a1 a2 a3 a4 a5 a6 a7 a8:Option V}{Q:St->Hp->Prop}:gName 8 v (a0::a1::a2::a3::a4::a5::a6::a7::a8::σ) H Q=Q (a0::a1::a2::a3::a4::a5::a6::a7::some v::σ) H:=rfl
theorem y_v9{a0 a1 a2 a3 a4 a5 a6 a7 a8:Option V}:tVar 9 (a0::a1::a2::a3::a4::a5::a6::a7::a8::some v::σ) H Q=Q v H:=propext ⟨fun⟨_,e,q⟩=>by cases e;exact q,fun q=>⟨v,rfl,q⟩⟩
theorem y_n9{a0 a1 a2 a3 a4 a5 a6 a7 a8 a9:Option V}{Q:St->Hp->Prop}:gName 9 v (a0::a1::a2::a3::a4::a5::a6::a7::a8::a9::σ) H Q=Q (a0::a1::a2::a3::a4::a5::a6::a7::a8::some v::σ) H:=rfl
theorem y_n10{a0 a1 a2 a3 a4 a5 a6 a7 a8 a9 a10:Option V}{Q:St->Hp->Prop}:gName 10 v (a0::a1::a2::a3::a4::a5::a6::a7::a8::a9::a10::σ) H Q=Q (a0::a1::a2::a3::a4::a5::a6::a7::a8::a9::some v::σ) H:=rfl
theorem y_n11{a0 a1 a2 a3 a4 a5 a6 a7 a8 a9 a10 a11:Option V}{Q:St->Hp->Prop}:gName 11 v (a0::a1::a2::a3::a4::a5::a6::a7::a8::a9::a10::a11::σ) H Q=Q (a0::a1::a2::a3::a4::a5::a6::a7::a8::a9::a10::some v::σ) H:=rfl
theorem y_n12{a0 a1 a2 a3 a4 a5 a6 a7 a8 a9 a10 a11 a12:Option V}{Q:St->Hp->Prop}:gName 12 v (a0::a1::a2::a3::a4::a5::a6::a7::a8::a9::a10::a11::a12::σ) H Q=Q (a0::a1::a2::a3::a4::a5::a6::a7::a8::a9::a10::a11::some v::σ) H:=rfl
theorem y_n13{a0 a1 a2 a3 a4 a5 a6 a7 a8 a9 a10 a11 a12 a13:Option V}{Q:St->Hp->Prop}:gName 13 v (a0::a1::a2::a3::a4::a5::a6::a7::a8::a9::a10::a11::a12::a13::σ) H Q=Q (a0::a1::a2::a3::a4::a5::a6::a7::a8::a9::a10::a11::a12::some v::σ) H:=rfl
end
section
variable{K:kM}{a l l1 l2:Addr}{xs ys:List V}{lo:Int}{n:Nat}{g:TG}{tb:TS}{D:Ends}{σ:St}{H:Hp}
theorem zb0(Pv:Nat->St->Hp->Prop)(h0:Pv 0 σ H)(hl:∀i σ H,i<=xs.length->Pv i σ H->SqL K H a xs)(hs:∀bk ct i x σ H,xs[i]?=some x->Pv i σ H->g x σ H fun σ2 H2=>tb {D with nx:=Pv (i+1),ct:=ct,bk:=bk} σ2 H2)(hd:∀σ H,Pv xs.length σ H->D.nx σ H):ForW (Itl K a) g tb D σ H:=for_list Pv h0 hl (fun i=>hs D.nx (Pv (i+1)) i) hd
theorem zfv(Pv:Nat->St->Hp->Prop)(h0:Pv 0 σ H)(hs:∀bk ct i σ H,i<n->Pv i σ H->g (.int (lo+i)) σ H fun σ2 H2=>tb {D with nx:=Pv (i+1),ct:=ct,bk:=bk} σ2 H2)(hd:∀σ H,Pv n σ H->D.nx σ H):ForW (Itr lo n) g tb D σ H:=zpw Pv h0 (fun i=>hs D.nx (Pv (i+1)) i) hd
end
end L2
namespace My
def G(a b:Int):Int:=(Int.gcd a b:Nat)
theorem G_nonneg(a b:Int):0<=G a b:=Int.natCast_nonneg _
end My
namespace My
theorem zck{a b:Int}(h:b ∣ a):a.fdiv b*b=a:=by
 have e:=Bl a b;have z:a.fmod b=0:=Int.fmod_eq_zero_of_dvd h;rw[z] at e;rw[jG];omega
theorem zct{x f y:Int}(e:x*f=y)(hf:f≠0):x.natAbs<=y.natAbs:=by
 rw[←e,vM];exact Nat.le_mul_of_pos_right _ (by omega)
theorem zme{x f y:Int}(e:x*f=y)(h:(0<f/\0<y)∨(f<0/\y<0)):0<x:=by
 rcases(by omega:0<x∨x=0∨x<0) with hx|hx|hx
 ·exact hx
 ·rw[hx,BR] at e;omega
 ·exfalso
  rcases h with⟨h1,h2⟩|⟨h1,h2⟩
  ·have:=Int.mul_neg_of_neg_of_pos hx h1;omega
  ·have:=Int.mul_pos_of_neg_of_neg hx h1;omega
theorem zhl{a b:Int}{m n:Nat}(h1:a.natAbs<2^m)(h2:b.natAbs<2^n):(a*b).natAbs<2^(m+n):=by
 rw[vM,ET];exact DP h1 h2
theorem zoj{a b:Int}{m:Nat}(h1:a.natAbs<2^m)(h2:b.natAbs<2^m):(a-b).natAbs<2^(m+1):=by
 rw[Nat.pow_succ];omega
theorem zdl{a:Int}{m n:Nat}(h:a.natAbs<2^m)(hm:m<=n):a.natAbs<2^n:=pG h (Uq (by decide) hm)
end My
namespace My
end My
namespace My
end My
namespace My
def g3(a b c:Int):Nat:=Ed (Ed a.natAbs b.natAbs) c.natAbs
theorem G_nat(a b:Int):(G a b).natAbs=Ed a.natAbs b.natAbs:=by unfold G;rw[Int.natAbs_natCast];rfl
theorem G3(a b c:Int):G (G a b) c=(g3 a b c:Int):=by
 have h:(G (G a b) c).natAbs=g3 a b c:=by rw[G_nat,G_nat];rfl
 have h0:=G_nonneg (G a b) c;omega
theorem znv(a b c f:Int):g3 (a*f) (b*f) (c*f)=g3 a b c*f.natAbs:=by
 unfold g3;rw[vM,vM,vM,Ct,Ct]
theorem g3_pos{a b c:Int}(h:c≠0):0<g3 a b c:=by
 unfold g3;exact Nat.gcd_pos_of_pos_right _ (by omega)
theorem g3_da(a b c:Int):((g3 a b c:Nat):Int) ∣ a:=AS.mpr (EB (Ay _ _) (Ay _ _))
theorem g3_db(a b c:Int):((g3 a b c:Nat):Int) ∣ b:=AS.mpr (EB (Ay _ _) (Ag _ _))
theorem g3_dc(a b c:Int):((g3 a b c:Nat):Int) ∣ c:=AS.mpr (Ag _ _)
structure Pt(n:Nat)(x y w:Int):Prop where
 pos:0<w
 one:g3 x y w=1
 lx:x.natAbs<2^n
 ly:y.natAbs<2^n
 lw:w.natAbs<2^n
theorem Pt.ne{n:Nat}{x y w:Int}(h:Pt n x y w):w≠0:=by have:=h.pos;omega
theorem Pt.mono{m n:Nat}{x y w:Int}(h:Pt m x y w)(hm:m<=n):Pt n x y w:=⟨h.pos,h.one,zdl h.lx hm,zdl h.ly hm,zdl h.lw hm⟩
theorem pt_of{n:Nat}{x y w f:Int}(hf:f.natAbs=g3 x y w)(hs:(0<f/\0<w)∨(f<0/\w<0))(lx:x.natAbs<2^n)(ly:y.natAbs<2^n)(lw:w.natAbs<2^n):Pt n (x.fdiv f) (y.fdiv f) (w.fdiv f):=by
 have hd:∀z:Int,((g3 x y w:Nat):Int) ∣ z->f ∣ z:=fun z h=>by
  rw[←hf] at h;exact Int.natAbs_dvd.mp h
 have ex:=zck (hd x (g3_da x y w));have ey:=zck (hd y (g3_db x y w));have ew:=zck (hd w (g3_dc x y w));have hw:w≠0:=by omega
 have fn:f≠0:=by omega
 refine⟨zme ew hs,?_,ul (zct ex fn) lx,ul (zct ey fn) ly,ul (zct ew fn) lw⟩;have e:=znv (x.fdiv f) (y.fdiv f) (w.fdiv f) f;rw[ex,ey,ew,hf] at e;have hp:=g3_pos (a:=x) (b:=y) hw;have e':1*g3 x y w=g3 (x.fdiv f) (y.fdiv f) (w.fdiv f)*g3 x y w:=by omega
 exact(Nat.eq_of_mul_eq_mul_right hp e').symm
end My
namespace My
theorem g3_gt{x y w:Int}(hw:0<w):0<G (G x y) w:=by
 rw[G3];have:=g3_pos (a:=x) (b:=y) (c:=w) (by omega)
 omega
theorem g3_ne{x y w:Int}(hw:0<w):G (G x y) w≠0:=by have:=g3_gt (x:=x) (y:=y) hw;omega
theorem g3_abs(x y w:Int):(G (G x y) w).natAbs=g3 x y w:=by rw[G3];simp
theorem g3_lt{n:Nat}{x y w:Int}(hw:0<w)(lw:w.natAbs<2^n):(G (G x y) w).natAbs<2^n:=by
 rw[g3_abs];exact ul (Nat.le_of_dvd (by omega) (Ag _ _)) lw
theorem g3_pt{n:Nat}{x y w:Int}(hw:0<w)(lx:x.natAbs<2^n)(ly:y.natAbs<2^n)(lw:w.natAbs<2^n):Pt n (x.fdiv (G (G x y) w)) (y.fdiv (G (G x y) w)) (w.fdiv (G (G x y) w)):=
 pt_of (g3_abs x y w) (.inl ⟨g3_gt hw,hw⟩) lx ly lw
end My
namespace My
end My
namespace My
def sgn(z:Int):Int:=if 0<z then 1 else if z<0 then-1 else 0
def bef(x1 y1 w1 x2 y2 w2:Int):Bool:=if x1*w2=x2*w1 then decide (y1*w2<y2*w1) else decide (x1*w2<x2*w1)
theorem zk3{a b c u v w:Int}(hu:0<u)(hv:0<v)(hw:0<w)(h1:a*v<=b*u)(h2:b*w<=c*v):a*w<=c*u/\((a*v<b*u∨b*w<c*v)->a*w<c*u):=by
 have e1:(a*v)*w<=(b*u)*w:=vN h1 (vX hw);have e2:(b*w)*u<=(c*v)*u:=vN h2 (vX hu);have i1:v*(a*w)=(a*v)*w:=by grind
 have i2:v*(c*u)=(c*v)*u:=by grind
 have i3:(b*u)*w=(b*w)*u:=by grind
 refine⟨Int.le_of_mul_le_mul_left (by omega) hv,fun h=>AV (a:=v) ?_ (vX hv)⟩
 rcases h with h|h
 ·have:=gv h hw;omega
 ·have:=gv h hu;omega
theorem bef_irr(x y w:Int):bef x y w x y w=false:=by
 unfold bef;rw[if_pos rfl];exact decide_eq_false (by omega)
theorem zfm{x1 y1 w1 x2 y2 w2:Int}:bef x1 y1 w1 x2 y2 w2=true↔(x1*w2<x2*w1∨(x1*w2=x2*w1/\y1*w2<y2*w1)):=by
 unfold bef
 split
 ·rename_i h
  rw[decide_eq_true_iff];omega
 ·rename_i h
  rw[decide_eq_true_iff];omega
theorem zp8{x1 y1 w1 x2 y2 w2:Int}:bef x1 y1 w1 x2 y2 w2=false↔(x2*w1<x1*w2∨(x1*w2=x2*w1/\y2*w1<=y1*w2)):=by
 rw[←Bool.not_eq_true,zfm];omega
theorem znh{x1 y1 w1 x2 y2 w2 x3 y3 w3:Int}(h1:0<w1)(h2:0<w2)(h3:0<w3)(a:bef x1 y1 w1 x2 y2 w2=true)(b:bef x2 y2 w2 x3 y3 w3=true):bef x1 y1 w1 x3 y3 w3=true:=by
 rw[zfm] at a b⊢;have X:=zk3 (a:=x1) (b:=x2) (c:=x3) h1 h2 h3 (by omega) (by omega)
 rcases a with a|⟨a,a'⟩
 ·exact .inl (X.2 (.inl a))
 ·rcases b with b|⟨b,b'⟩
  ·exact .inl (X.2 (.inr b))
  ·have X':=zk3 (a:=x3) (b:=x2) (c:=x1) h3 h2 h1 (by omega) (by omega)
   have Y:=zk3 (a:=y1) (b:=y2) (c:=y3) h1 h2 h3 (by omega) (by omega)
   exact .inr ⟨Int.le_antisymm X.1 X'.1,Y.2 (.inl a')⟩
theorem pt_uniq{n:Nat}{x1 y1 w1 x2 y2 w2:Int}(p:Pt n x1 y1 w1)(q:Pt n x2 y2 w2)(ex:x1*w2=x2*w1)(ey:y1*w2=y2*w1):x1=x2/\y1=y2/\w1=w2:=by
 have a:=znv x1 y1 w1 w2;have b:=znv x2 y2 w2 w1;rw[p.one,EU] at a;rw[q.one,EU] at b;rw[ex,ey,jG w1 w2] at a;have hw:w1=w2:=by
  have:=p.pos;have:=q.pos;omega
 subst hw;exact⟨Ui p.ne ex,Ui p.ne ey,rfl⟩
theorem bef_tri{n:Nat}{x1 y1 w1 x2 y2 w2:Int}(p:Pt n x1 y1 w1)(q:Pt n x2 y2 w2)(h:bef x1 y1 w1 x2 y2 w2=bef x2 y2 w2 x1 y1 w1):x1=x2/\y1=y2/\w1=w2:=by
 cases e:bef x1 y1 w1 x2 y2 w2 with
 |true=>
  have e':=h.symm.trans e;rw[zfm] at e e';omega
 |false=>
  have e':=h.symm.trans e;rw[zp8] at e e';exact pt_uniq p q (by omega) (by omega)
def lnA(x1 y1 w1 x2 y2 w2:Int):Int:=y1*w2-w1*y2
def lnB(x1 y1 w1 x2 y2 w2:Int):Int:=w1*x2-x1*w2
def lnC(x1 y1 w1 x2 y2 w2:Int):Int:=x1*y2-y1*x2
def det3(x1 y1 w1 x2 y2 w2 x3 y3 w3:Int):Int:=lnA x1 y1 w1 x2 y2 w2*x3+lnB x1 y1 w1 x2 y2 w2*y3+lnC x1 y1 w1 x2 y2 w2*w3
end My
namespace My
end My
namespace My
end My
namespace My
end My
namespace My
theorem G_fmod(x y:Int):G y (x.fmod y)=G x y:=by
 unfold G;rw[Int.gcd_comm x y];have e:x.fmod y+x.fdiv y*y=x:=by rw[jG];exact Bl x y
 rw[←Int.gcd_add_mul_right_right y (x.fmod y) (x.fdiv y),e]
theorem zmi{x y:Int}(h:y≠0):(x.fmod y).natAbs<y.natAbs:=by
 have h0:=Bd x h;have h1:=Int.emod_lt x h;rw[Int.fmod_eq_emod]
 split
 ·omega
 ·rename_i c
  have hn:x%y≠0:=fun z=>c (.inr (Int.dvd_of_emod_eq_zero z));have hy:¬0<=y:=fun z=>c (.inl z);omega
theorem G_end(x:Int):(if x<0 then-x else x)=G x 0:=by
 unfold G;rw[Int.gcd_zero_right]
 split<;>omega
end My
namespace My
structure Q3 where
 x:Int
 y:Int
 w:Int
deriving DecidableEq
theorem sc{s A B C u v w:Int}(e:A*u=B*v+C*w):A*(s*u)=B*(s*v)+C*(s*w):=by
 have:A*(s*u)=s*(A*u):=by grind
 rw[this,e]
 grind
end My
namespace My
theorem fl_lt{a b c d G:Int}(hb:0<b)(hd:0<d)(h:a*d<c*b)(hG:b*d<=G):a*G/b<c*G/d:=by
 have g0:0<=G:=EL (vX (jX hb hd)) hG;have h0:a*G/b*b<=a*G:=Int.ediv_mul_le _ (by omega)
 have h1:=vN h0 (vX hd);have h2:G*(a*d+1)<=G*(c*b):=Int.mul_le_mul_of_nonneg_left (by omega) g0
 refine Int.lt_of_lt_of_le (Int.lt_succ _) (Int.le_ediv_of_mul_le hd (Int.le_of_mul_le_mul_right ?_ hb));generalize a*G/b=A at*
 calc (A+1)*d*b=A*b*d+b*d:=by grind
  _<=a*G*d+G:=Int.add_le_add h1 hG
  _=G*(a*d+1):=by grind
  _<=G*(c*b):=h2
  _=c*G*b:=by grind
theorem fl_eq{a b c d G:Int}(hb:0<b)(hd:0<d)(h:a*d=c*b):a*G/b=c*G/d:=by
 have e1:a*G/b=(a*G*d)/(b*d):=(gf (a*G) b hd).symm;have e2:c*G/d=(c*G*b)/(d*b):=(gf (c*G) d hb).symm;rw[e1,e2,jG d b]
 congr 1
 have:a*G*d=G*(a*d):=by grind
 rw[this,h]
 grind
def bq(a b:Q3):Bool:=bef a.x a.y a.w b.x b.y b.w
def PQ(n:Nat)(a:Q3):Prop:=Pt n a.x a.y a.w
theorem znu{n:Nat}{a b:Q3}(ha:PQ n a)(hb:PQ n b)(h1:bq a b=false)(h2:bq b a=false):a=b:=by
 obtain⟨e1,e2,e3⟩:=bef_tri ha hb (h1.trans h2.symm);obtain⟨x,y,w⟩:=a;obtain⟨x',y',w'⟩:=b
 simp only at e1 e2 e3
 rw[e1,e2,e3]
def kyQ(g:Int)(r:Q3):Int×Int:=(r.x*(g*g)/r.w,r.y*(g*g)/r.w)
theorem zn6{a b:Q3}{g:Int}(ha:0<a.w)(hb:0<b.w)(ga:a.w<=g)(gb:b.w<=g)(h:bq a b=true):L2.lt2 (kyQ g a) (kyQ g b)=true:=by
 have hG:a.w*b.w<=g*g:=Dt ga gb (vX hb) (EL (vX ha) ga);unfold bq at h;rw[zfm] at h;unfold L2.lt2 L2.lexB kyQ;rcases h with h|⟨h,h'⟩
 ·have:=fl_lt ha hb h hG;rw[if_neg (by omega)]
  exact decide_eq_true this
 ·rw[if_pos (fl_eq ha hb h)];exact decide_eq_true (fl_lt ha hb h' hG)
end My
namespace Mine
open PySem L2 My
local macro_rules
  | `(tactic| simp! [$xs,*]) => do let f := fun (s : String) => (s.splitOn " ").toArray.map fun x => Lean.mkIdent x.toName; let p := f "y_next y_seq y_ret y_ifS y_asg y_drop y_par y_c y_op y_un y_rI y_rI0 y_rU y_eq y_ne y_test y_B y_not y_or y_yes y_andV y_cb y_call y_nil y_cons y_tup y_lst y_gnil y_gcons y_gtup y_ixT y_ixL y_len y_slH y_intB y_append y_nopart y_part y_sl y_bm0 y_bm yB_bl yI_int yTw_two yX_0 yX_1 yX_2 yX_3 y_v0 y_v1 y_v2 y_v3 y_v4 y_v5 y_v6 y_v7 y_v8 y_v9 y_n0 y_n1 y_n2 y_n3 y_n4 y_n5 y_n6 y_n7 y_n8 y_n9 y_n10 y_n11 y_n12 y_n13"; let q := f "yB yI yTw yX yJ ym_tup ym_lst ym_two gName tVar rI rI0 rU rEq rNe gTup gCons gNil L2.start rIxT rIxL cx_K tyN_non tyN_bl tyN_int tyN_str scal_ii scal_bb sz0 sz1 sz2 sz3 sz4 List.map_cons List.map_nil List.length_cons List.length_nil List.replicate List.cons_append List.nil_append List.append_nil List.getElem?_cons_zero List.getElem?_cons_succ List.set_cons_zero List.set_cons_succ Option.some.injEq V.int.injEq V.bl.injEq V.ref.injEq V.ty.injEq List.cons.injEq and_true true_and exists_eq_left exists_eq_left' exists_and_left exists_and_right exists_eq exists_eq' and_assoc Nat.reduceAdd Nat.reduceSub Bool.not_true Bool.not_false Bool.false_eq_true if_true if_false reduceIte Nat.zero_add decide_true decide_false selC comp_K Option.join_some rIxTH rIxLH rLenH at0 at1 at2 at3 at4 HO.tup.injEq HO.lst.injEq reduceCtorEq false_or or_false tyF_non tyF_bl tyF_int tyF_str exists_const Int.reduceAdd Int.reduceMul Int.reduceSub rSlH upd_same upd_upd rIntB rAppend gTupH"; `(tactic| simp only [$[↓$p:term],*, $[$q:term],*, $xs,*])
local macro_rules
  | `(tactic| dsimp! [$xs,*]) => `(tactic| simp only [List.map_cons, List.map_nil, List.length_cons, List.length_nil, List.replicate, List.cons_append, List.nil_append, Nat.reduceAdd, Nat.reduceSub, Nat.zero_add, $xs,*])
def top(i:Nat):Stmt:=PySem.Challenge.pw_acre_k42_rings_by_left_turns.main.body.getD i (.Pass ⟨0,0,0,0⟩)
abbrev zc1:Stmt:=top 1
theorem zgv:zae ["P","Q","left","right"] ["P","Q"] (za0 zc1):=⟨rfl,rfl,rfl,by decide+kernel,rfl,by decide+kernel,by decide+kernel⟩
abbrev zcg:Stmt:=top 2
theorem zmr:zae ["number"] ["number"] (za0 zcg):=⟨rfl,rfl,rfl,by decide+kernel,rfl,by decide+kernel,by decide+kernel⟩
abbrev zcf:Stmt:=top 3
theorem zmf:zae ["P","Q"] ["P","Q"] (za0 zcf):=⟨rfl,rfl,rfl,by decide+kernel,rfl,by decide+kernel,by decide+kernel⟩
abbrev zch:Stmt:=top 4
theorem zmm:zae ["line","P"] ["line","P"] (za0 zch):=⟨rfl,rfl,rfl,by decide+kernel,rfl,by decide+kernel,by decide+kernel⟩
abbrev zf8:Stmt:=top 5
theorem sc_turn:zae ["P","Q","R"] ["P","Q","R"] (za0 zf8):=⟨rfl,rfl,rfl,by decide+kernel,rfl,by decide+kernel,by decide+kernel⟩
abbrev zap:Stmt:=top 6
theorem zca:zae ["points","greatest","scale","keys","P"] ["points"] (za0 zap):=⟨rfl,rfl,rfl,by decide+kernel,rfl,by decide+kernel,by decide+kernel⟩
abbrev zai:Stmt:=top 7
theorem zdh:zae ["things","points","thing","keys"] ["things"] (za0 zai):=⟨rfl,rfl,rfl,by decide+kernel,rfl,by decide+kernel,by decide+kernel⟩
abbrev zbj:Stmt:=top 9
theorem zdb:zae ["land","leaving","gone","rings","fence"] ["land"] (za0 zbj):=⟨rfl,rfl,rfl,by decide+kernel,rfl,by decide+kernel,by decide+kernel⟩
abbrev zay:Stmt:=top 10
theorem zcz:zae ["land","leaving","P","Q"] ["land"] (za0 zay):=⟨rfl,rfl,rfl,by decide+kernel,rfl,by decide+kernel,by decide+kernel⟩
abbrev zbg:Stmt:=top 11
theorem zao:zae ["start","leaving","gone","rings","way","places","fence","P","ring","Q"] ["start","leaving","gone"] (za0 zbg):=⟨rfl,rfl,rfl,by decide+kernel,rfl,by decide+kernel,by decide+kernel⟩
abbrev zam:Stmt:=top 12
theorem zcm:zae ["P","Q","tips","best","tip"] ["P","Q","tips"] (za0 zam):=⟨rfl,rfl,rfl,by decide+kernel,rfl,by decide+kernel,by decide+kernel⟩
abbrev zaj:Stmt:=top 13
theorem zcw:zae ["P","Q","one","other","side","other_side"] ["P","Q","one","other"] (za0 zaj):=⟨rfl,rfl,rfl,by decide+kernel,rfl,by decide+kernel,by decide+kernel⟩
abbrev zb1:Stmt:=top 14
theorem zcy:zae ["ring","least","k"] ["ring"] (za0 zb1):=⟨rfl,rfl,rfl,by decide+kernel,rfl,by decide+kernel,by decide+kernel⟩
abbrev zbu:Stmt:=top 16
theorem zet:zae ["_law_script","_law_k","_law_number"] ["_law_script","_law_k"] (za0 zbu):=⟨rfl,rfl,rfl,by decide+kernel,rfl,by decide+kernel,by decide+kernel⟩
abbrev zan:Stmt:=top 17
theorem zer:zae ["_law_one","_law_other"] ["_law_one","_law_other"] (za0 zan):=⟨rfl,rfl,rfl,by decide+kernel,rfl,by decide+kernel,by decide+kernel⟩
abbrev zbc:Stmt:=top 18
theorem zg0:zae ["_law_east","_law_north","_law_share","_law_many"] ["_law_east","_law_north","_law_share"] (za0 zbc):=⟨rfl,rfl,rfl,by decide+kernel,rfl,by decide+kernel,by decide+kernel⟩
abbrev zbe:Stmt:=top 19
theorem ze9:zae ["_law_script","_law_wide","_law_high","_law_cells_here","_law_k"] ["_law_script","_law_wide","_law_high"] (za0 zbe):=⟨rfl,rfl,rfl,by decide+kernel,rfl,by decide+kernel,by decide+kernel⟩
abbrev zbv:Stmt:=top 20
theorem zdw:zae ["_law_cell_here","_law_x","_law_y","_law_rim"] ["_law_cell_here"] (za0 zbv):=⟨rfl,rfl,rfl,by decide+kernel,rfl,by decide+kernel,by decide+kernel⟩
abbrev zb3:Stmt:=top 21
theorem zcq:zae ["_law_cells_here","_law_sides","_law_cell_here","_law_ends_here","_law_k"] ["_law_cells_here"] (za0 zb3):=⟨rfl,rfl,rfl,by decide+kernel,rfl,by decide+kernel,by decide+kernel⟩
abbrev zak:Stmt:=top 22
theorem zed:zae ["_law_starts","_law_begin","_law_end","_law_behind"] ["_law_starts","_law_begin","_law_end"] (za0 zak):=⟨rfl,rfl,rfl,by decide+kernel,rfl,by decide+kernel,by decide+kernel⟩
abbrev zb6:Stmt:=top 23
theorem zar:zae ["_law_edges_here","_law_starts","_law_first","_law_last","_law_ways","_law_back","_law_begin","_law_end"] ["_law_edges_here"] (za0 zb6):=⟨rfl,rfl,rfl,by decide+kernel,rfl,by decide+kernel,by decide+kernel⟩
abbrev zbd:Stmt:=top 24
theorem zb9:zae ["_law_script","_law_cell_here","_law_p","_law_q","_law_r","_law_far","_law_share"] ["_law_script"] (za0 zbd):=⟨rfl,rfl,rfl,by decide+kernel,rfl,by decide+kernel,by decide+kernel⟩
abbrev zbf:Stmt:=top 25
theorem zfx:zae ["_law_place","_law_frame_here","_law_east"] ["_law_place","_law_frame_here"] (za0 zbf):=⟨rfl,rfl,rfl,by decide+kernel,rfl,by decide+kernel,by decide+kernel⟩
abbrev zbk:Stmt:=top 26
theorem zgn:zae ["_law_cells_here","_law_frame_here","_law_ways"] ["_law_cells_here","_law_frame_here"] (za0 zbk):=⟨rfl,rfl,rfl,by decide+kernel,rfl,by decide+kernel,by decide+kernel⟩
abbrev zbl:Stmt:=top 27
theorem zkh:zae ["_law_ways","_law_share"] ["_law_ways","_law_share"] (za0 zbl):=⟨rfl,rfl,rfl,by decide+kernel,rfl,by decide+kernel,by decide+kernel⟩
abbrev zcc:Stmt:=top 28
theorem zfp:zae ["_law_one","_law_other","_law_x","_law_y"] ["_law_one","_law_other"] (za0 zcc):=⟨rfl,rfl,rfl,by decide+kernel,rfl,by decide+kernel,by decide+kernel⟩
abbrev zbt:Stmt:=top 29
theorem zcj:zae ["_law_ways","_law_begin","_law_end","_law_back","_law_best","_law_first","_law_last"] ["_law_ways","_law_begin","_law_end"] (za0 zbt):=⟨rfl,rfl,rfl,by decide+kernel,rfl,by decide+kernel,by decide+kernel⟩
abbrev zcd:Stmt:=top 30
theorem zcl:zae ["_law_ways","_law_first","_law_gone","_law_found","_law_path","_law_way_here","_law_at"] ["_law_ways","_law_first","_law_gone"] (za0 zcd):=⟨rfl,rfl,rfl,by decide+kernel,rfl,by decide+kernel,by decide+kernel⟩
abbrev zb4:Stmt:=top 31
theorem zb8:zae ["_law_ways","_law_frame_here","_law_gone","_law_found","_law_way_here","_law_turned","_law_ring","_law_moved_here","_law_at"] ["_law_ways","_law_frame_here"] (za0 zb4):=⟨rfl,rfl,rfl,by decide+kernel,rfl,by decide+kernel,by decide+kernel⟩
abbrev zeu:Stmt:=top 32
theorem zee:zae ["_law_script","_law_cells_here","_law_frame_here","_law_ways","_law_order","_law_due","_law_ring","_law_land_here","_law_found"] ["_law_script"] (za0 zeu):=⟨rfl,rfl,rfl,by decide+kernel,rfl,by decide+kernel,by decide+kernel⟩
structure FnAt(K:kM)(mg:Str->Option kB)(x:Str)(st:Stmt)(ps:List Str)(f:Addr)(fd:UZ):Prop where
 fn:Fun K x x st f fd
 bn:Binds K fd ps []
 mg:mg x=some (.ref f)
structure Txt(K:kM)(mg:Str->Option kB)(ad:Nat->Addr)(fd:Nat->UZ):Prop where
 before:FnAt K mg "before" zc1 ["P","Q"] (ad 0) (fd 0)
 sign_of:FnAt K mg "sign_of" zcg ["number"] (ad 1) (fd 1)
 line_of:FnAt K mg "line_of" zcf ["P","Q"] (ad 2) (fd 2)
 side_of:FnAt K mg "side_of" zch ["line","P"] (ad 3) (fd 3)
 turn:FnAt K mg "turn" zf8 ["P","Q","R"] (ad 4) (fd 4)
 order_keys:FnAt K mg "order_keys" zap ["points"] (ad 5) (fd 5)
 by_points:FnAt K mg "by_points" zai ["things"] (ad 6) (fd 6)
 by_points_c:FunC K "by_points" "by_points" zai (ad 6) (fd 6) (ad 30) (ad 31)
 rings_of:FnAt K mg "rings_of" zbj ["land"] (ad 7) (fd 7)
 leaving_of:FnAt K mg "leaving_of" zay ["land"] (ad 8) (fd 8)
 way_round:FnAt K mg "way_round" zbg ["start","leaving","gone"] (ad 9) (fd 9)
 first_right:FnAt K mg "first_right" zam ["P","Q","tips"] (ad 10) (fd 10)
 is_met_sooner:FnAt K mg "is_met_sooner" zaj ["P","Q","one","other"] (ad 11) (fd 11)
 from_least:FnAt K mg "from_least" zb1 ["ring"] (ad 12) (fd 12)
 law_cell:FnAt K mg "_law_cell" zbu ["_law_script","_law_k"] (ad 13) (fd 13)
 law_divisor:FnAt K mg "_law_divisor" zan ["_law_one","_law_other"] (ad 14) (fd 14)
 law_point:FnAt K mg "_law_point" zbc ["_law_east","_law_north","_law_share"] (ad 15) (fd 15)
 law_cells:FnAt K mg "_law_cells" zbe ["_law_script","_law_wide","_law_high"] (ad 16) (fd 16)
 law_ends:FnAt K mg "_law_ends" zbv ["_law_cell_here"] (ad 17) (fd 17)
 law_edges:FnAt K mg "_law_edges" zb3 ["_law_cells_here"] (ad 18) (fd 18)
 law_straight:FnAt K mg "_law_straight" zak ["_law_starts","_law_begin","_law_end"] (ad 19) (fd 19)
 law_long:FnAt K mg "_law_long" zb6 ["_law_edges_here"] (ad 20) (fd 20)
 law_frame:FnAt K mg "_law_frame" zbd ["_law_script"] (ad 21) (fd 21)
 law_moved:FnAt K mg "_law_moved" zbf ["_law_place","_law_frame_here"] (ad 22) (fd 22)
 law_land:FnAt K mg "_law_land" zbk ["_law_cells_here","_law_frame_here"] (ad 23) (fd 23)
 law_told:FnAt K mg "_law_told" zbl ["_law_ways","_law_share"] (ad 24) (fd 24)
 law_way:FnAt K mg "_law_way" zcc ["_law_one","_law_other"] (ad 25) (fd 25)
 law_next:FnAt K mg "_law_next" zbt ["_law_ways","_law_begin","_law_end"] (ad 26) (fd 26)
 law_cut:FnAt K mg "_law_cut" zcd ["_law_ways","_law_first","_law_gone"] (ad 27) (fd 27)
 law_rings:FnAt K mg "_law_rings" zb4 ["_law_ways","_law_frame_here"] (ad 28) (fd 28)
 law:FnAt K mg "law" zeu ["_law_script"] (ad 29) (fd 29)
 b_abs:mg "abs"=none
 b_int:mg "int"=none
 b_len:mg "len"=none
 b_max:mg "max"=none
 b_min:mg "min"=none
 b_range:mg "range"=none
 b_sorted:mg "sorted"=none
def zhk:Sp:=fun vs H Q _=>∃a b:Int,vs=[.int a,.int b]/\Q (.int (G a b)) H
def Bd3(n:Nat)(a b c:Int):Prop:=a.natAbs<2^n/\b.natAbs<2^n/\c.natAbs<2^n
def TB(n:Nat)(H:Hp)(p:Addr)(x y w:Int):Prop:=H p=some (.tup [.int x,.int y,.int w])/\Bd3 n x y w
theorem TB.same{n:Nat}{H H':Hp}{p:Addr}{x y w:Int}(h:TB n H p x y w)(g:Same H H'):TB n H' p x y w:=⟨g _ _ h.1,h.2⟩
theorem Pt.bd{m n:Nat}{x y w:Int}(h:Pt m x y w)(hm:m<=n:=by decide):Bd3 n x y w:=⟨zdl h.lx hm,zdl h.ly hm,zdl h.lw hm⟩
def zot:Sp:=fun vs H Q _=>∃(p q:Addr)(x1 y1 w1 x2 y2 w2:Int),vs=[.ref p,.ref q]/\TB 1000 H p x1 y1 w1/\TB 1000 H q x2 y2 w2/\Q (.bl (bef x1 y1 w1 x2 y2 w2)) H
def zo6:Sp:=fun vs H Q _=>∃z:Int,vs=[.int z]/\Q (.int (sgn z)) H
def zps:Sp:=fun vs H Q _=>∃(p q:Addr)(x1 y1 w1 x2 y2 w2:Int),vs=[.ref p,.ref q]/\TB 1000 H p x1 y1 w1/\TB 1000 H q x2 y2 w2/\∀(r:Addr)(H':Hp),Same H H'->
 H' r=some (.tup [.int (lnA x1 y1 w1 x2 y2 w2),.int (lnB x1 y1 w1 x2 y2 w2),.int (lnC x1 y1 w1 x2 y2 w2)])->Q (.ref r) H'
theorem ln_bd{x1 y1 w1 x2 y2 w2:Int}(p:Bd3 1000 x1 y1 w1)(q:Bd3 1000 x2 y2 w2):Bd3 2001 (lnA x1 y1 w1 x2 y2 w2) (lnB x1 y1 w1 x2 y2 w2) (lnC x1 y1 w1 x2 y2 w2):=
 ⟨zoj (zhl p.2.1 q.2.2) (zhl p.2.2 q.2.1),zoj (zhl p.2.2 q.1) (zhl p.1 q.2.2),zoj (zhl p.1 q.2.1) (zhl p.2.1 q.1)⟩
def zoe:Sp:=fun vs H Q _=>∃(l p:Addr)(a b c x y w:Int),vs=[.ref l,.ref p]/\H l=some (.tup [.int a,.int b,.int c])/\Bd3 2001 a b c/\H p=some (.tup [.int x,.int y,.int w])/\Bd3 5000 x y w/\Q (.int (sgn (a*x+b*y+c*w))) H
def sp_turn:Sp:=fun vs H Q _=>∃(p q r:Addr)(x1 y1 w1 x2 y2 w2 x3 y3 w3:Int),vs=[.ref p,.ref q,.ref r]/\TB 1000 H p x1 y1 w1/\TB 1000 H q x2 y2 w2/\TB 5000 H r x3 y3 w3/\∀H',Same H H'->Q (.int (sgn (det3 x1 y1 w1 x2 y2 w2 x3 y3 w3))) H'
def za9(H H':Hp):Prop:=∀b xs,H b=some (.tup xs)->H' b=some (.tup xs)
theorem za8{H H':Hp}(g:Same H H'):za9 H H':=fun b xs h=>g b _ h
theorem zc4{H:Hp}{D:Addr}{ys:List V}{o:HO}(h:H D=some (.lst ys)):za9 H (upd H D o):=fun b xs q=>by
 rw[za6 (zn5 q h (by intro z;cases z))]
 exact q
def iv_ldiv(a b:Int)(H₀:Hp):St->Hp->Prop:=fun σ H'=>H'=H₀/\∃x y:Int,σ=[some (.int x),some (.int y)]/\G x y=G a b
structure P3 where
 x:Int
 y:Int
 w:Int
theorem ziv(xs:List V):cutV xs (some 1) none=xs.drop 1:=by
 unfold cutV;rw[show(1:Int)=((1:Nat):Int) from rfl,HT.sIx_nat,HT.sIx_none];rcases xs with _|⟨x,xs⟩
 ·rfl
 ·rw[Qd (by rw[uD];omega),kX (by rw[kj];omega)]
structure I2 where
 x:Int
 y:Int
def lw(s:Int)(a:I2):P3:=⟨a.x.fdiv (G (G a.x a.y) s),a.y.fdiv (G (G a.x a.y) s),s.fdiv (G (G a.x a.y) s)⟩
theorem zjt{s:Int}(hs:0<s)(a:I2):∃g:Int,0<g/\(lw s a).x*g=a.x/\(lw s a).y*g=a.y/\(lw s a).w*g=s:=by
 refine⟨G (G a.x a.y) s,g3_gt hs,?_,?_,?_⟩
 ·exact zck (by rw[G3];exact g3_da _ _ _)
 ·exact zck (by rw[G3];exact g3_db _ _ _)
 ·exact zck (by rw[G3];exact g3_dc _ _ _)
theorem zc6{k a b:Int}(hk:0<k):k*a<k*b↔a<b:=⟨fun h=>AV h (vX hk),fun h=>Int.mul_lt_mul_of_pos_left h hk⟩
theorem zhz{x w x' w' g h X W X' W':Int}(hg:0<g)(hh:0<h)(e1:x*g=X)(e2:w*g=W)(e3:x'*h=X')(e4:w'*h=W'):(x*w'<x'*w)↔(X*W'<X'*W):=by
 rw[←zc6 (k:=g*h) (jX hg hh),←e1,←e2,←e3,←e4];have a1:g*h*(x*w')=x*g*(w'*h):=by grind
 have a2:g*h*(x'*w)=x'*h*(w*g):=by grind
 rw[a1,a2]
theorem zmv(g1 g2 g3 x1 y1 w1 x2 y2 w2 x3 y3 w3:Int):det3 (x1*g1) (y1*g1) (w1*g1) (x2*g2) (y2*g2) (w2*g2) (x3*g3) (y3*g3) (w3*g3)=g1*g2*g3*det3 x1 y1 w1 x2 y2 w2 x3 y3 w3:=by
 unfold det3 lnA lnB lnC;grind
theorem lw_inj{s:Int}(hs:0<s){a b:I2}(e1:(lw s a).x=(lw s b).x)(e2:(lw s a).y=(lw s b).y)(e3:(lw s a).w=(lw s b).w):a.x=b.x/\a.y=b.y:=by
 obtain⟨g1,hg1,a1,a2,a3⟩:=zjt hs a;obtain⟨g2,hg2,b1,b2,b3⟩:=zjt hs b;rw[e1] at a1;rw[e2] at a2;rw[e3] at a3;have wn:(lw s b).w≠0:=fun z=>by rw[z,BR] at b3;omega
 have g:g1=g2:=Int.eq_of_mul_eq_mul_left wn (a3.trans b3.symm);subst g;exact⟨a1.symm.trans b1,a2.symm.trans b2⟩
theorem bef_lw{s:Int}(hs:0<s)(a b:I2):bef (lw s a).x (lw s a).y (lw s a).w (lw s b).x (lw s b).y (lw s b).w=true↔(a.x<b.x∨(a.x=b.x/\a.y<b.y)):=by
 obtain⟨g1,hg1,a1,a2,a3⟩:=zjt hs a;obtain⟨g2,hg2,b1,b2,b3⟩:=zjt hs b;have c1:=zhz hg1 hg2 a1 a3 b1 b3;have c2:=zhz hg2 hg1 b1 b3 a1 a3;have c3:=zhz hg1 hg2 a2 a3 b2 b3;have m:∀u v:Int,u*s<v*s↔u<v:=fun u v=>by rw[jG u,jG v];exact zc6 hs
 rw[m] at c1 c2 c3;rw[zfm];omega
def LR{α:Type}(R:Hp->Addr->α->Prop)(H:Hp)(ys:List V)(as:List α):Prop:=ys.length=as.length/\∀(j:Nat)(v:V),ys[j]?=some v->∃(p:Addr)(a:α),v=.ref p/\as[j]?=some a/\R H p a
section
variable{α:Type}{R:Hp->Addr->α->Prop}
theorem LR.ts(hR:∀H H' p a,za9 H H'->R H p a->R H' p a){H H':Hp}{ys:List V}{as:List α}(h:LR R H ys as)(g:za9 H H'):LR R H' ys as:=⟨h.1,fun j v z=>by
 obtain⟨p,d,e,f,s⟩:=h.2 j v z;exact⟨p,d,e,f,hR _ _ _ _ g s⟩⟩
theorem LR.nil{H:Hp}:LR R H [] []:=⟨rfl,fun j v z=>by cases z⟩
theorem LR.app{H:Hp}{ys zs:List V}{as bs:List α}(h:LR R H ys as)(h':LR R H zs bs):LR R H (ys++zs) (as++bs):=by
 refine⟨by rw[kK,kK,h.1,h'.1],fun j v z=>?_⟩
 by_cases hj:j<ys.length
 ·rw[po hj] at z;obtain⟨q,e,f,g,t⟩:=h.2 j v z;exact⟨q,e,f,by rw[po (by rw[←h.1];exact hj)];exact g,t⟩
 ·rw[pd (by omega)] at z
  obtain⟨q,e,f,g,t⟩:=h'.2 _ v z;exact⟨q,e,f,by rw[pd (by rw[←h.1];omega),←h.1];exact g,t⟩
theorem LR.one{H:Hp}{p:Addr}{a:α}(s:R H p a):LR R H [.ref p] [a]:=⟨rfl,fun j v z=>by
 cases j with
 |zero=>cases z;exact⟨p,a,rfl,rfl,s⟩
 |succ n=>cases z⟩
theorem LR.snoc{H:Hp}{ys:List V}{as:List α}{p:Addr}{a:α}(h:LR R H ys as)(s:R H p a):LR R H (ys++[.ref p]) (as++[a]):=h.app (.one s)
theorem LR.drop{H:Hp}{ys:List V}{as:List α}(h:LR R H ys as)(n:Nat):LR R H (ys.drop n) (as.drop n):=by
 refine⟨by rw[kj,kj,h.1],fun j v z=>?_⟩
 rw[Uh] at z;obtain⟨q,e,f,g,t⟩:=h.2 _ v z;exact⟨q,e,f,by rw[Uh];exact g,t⟩
theorem LR.at{H:Hp}{ys:List V}{as:List α}(h:LR R H ys as){j:Nat}(hj:j<ys.length):∃(p:Addr)(a:α),ys[j]?=some (.ref p)/\as[j]?=some a/\R H p a:=by
 obtain⟨p,a,e,f,r⟩:=h.2 j ys[j] (kI hj);exact⟨p,a,by rw[kI hj,e],f,r⟩
theorem LR.map{β:Type}{f:β->α}{H:Hp}{ys:List V}{bs:List β}(h:LR (fun H p b=>R H p (f b)) H ys bs):LR R H ys (bs.map f):=by
 refine⟨by rw[kL,h.1],fun j v z=>?_⟩
 obtain⟨q,e,g,k,t⟩:=h.2 _ v z;exact⟨q,f e,g,by rw[pS,k];rfl,t⟩
theorem LR.cons_inv{H:Hp}{v:V}{vs:List V}{as:List α}(h:LR R H (v::vs) as):∃a as',as=a::as'/\(∃p,v=.ref p/\R H p a)/\LR R H vs as':=by
 cases as with
 |nil=>cases h.1
 |cons a as'=>
  refine⟨a,as',rfl,?_,EM h.1,fun j u z=>h.2 (j+1) u z⟩;obtain⟨p,b,e,f,r⟩:=h.2 0 v rfl
  cases f;exact⟨p,e,r⟩
theorem LR.cons{H:Hp}{v:V}{vs:List V}{a:α}{as:List α}(h:∃p,v=.ref p/\R H p a)(t:LR R H vs as):LR R H (v::vs) (a::as):=by
 obtain⟨p,rfl,r⟩:=h;exact(LR.one r).app t
def zh0(R:Hp->Addr->α->Prop)(as:List α)(H2:Hp)(D:Addr):Nat->List V->Hp->Prop:=fun i ys H'=>Same H2 H'/\H' D=some (.lst ys)/\ys.length=i/\LR R H' ys (as.take i)
theorem zdd{as:List α}{H2:Hp}{D:Addr}(hD:H2 D=none):zh0 R as H2 D 0 [] (upd H2 D (.lst [])):=⟨za2 hD _,upd_same,rfl,by rw[uz];exact .nil⟩
theorem zda(hR:∀H H' p a,za9 H H'->R H p a->R H' p a){m:Nat}{H2 H3 H4:Hp}{D:Addr}{i:Nat}{ys:List V}{p:Addr}{as:List α}{a:α}(hD:H2 D=none)(hm:m<100000)(iv:zh0 R as H2 D i ys H3)(hi:i<m)(ha:as[i]?=some a)(g4:Same H3 H4)(hp:R H4 p a):CPut m (zh0 R as H2 D) D i (.ref p) H4:=by
 obtain⟨g3',hD3,hy,hall⟩:=iv;have hD4:=g4 _ _ hD3;refine cw_put hi hD4 (by rw[hy];exact Cp hi (Cp hm (by decide))) ⟨zbh (g3'.trans g4) hD,upd_same,by rw[kK,hy];rfl,?_⟩
 rw[uC,ha];exact((hall.ts hR (za8 g4)).snoc hp).ts hR (zc4 hD4)
end
theorem zo7{X:Cx}{K':kM}(hK:X.K=K')(hu:X.A.units+64<cLine):OpR X (UQ .NotIn) (zki K'):=by subst hK;exact zoi hu
theorem zfc{H H' H'':Hp}(a:za9 H H')(b:za9 H' H''):za9 H H'':=fun p xs h=>b _ _ (a _ _ h)
def QH(H:Hp)(p:Addr)(r:Q3):Prop:=H p=some (.tup [.int r.x,.int r.y,.int r.w])/\PQ 700 r
theorem zbz:∀(H H':Hp)(p:Addr)(r:Q3),za9 H H'->QH H p r->QH H' p r:=fun _ _ _ _ g h=>⟨g _ _ h.1,h.2⟩
theorem QH.same{H H':Hp}{p:Addr}{r:Q3}(h:QH H p r)(g:Same H H'):QH H' p r:=⟨g _ _ h.1,h.2⟩
theorem QH.tb{H:Hp}{p:Addr}{r:Q3}(h:QH H p r){n:Nat}(hn:700<=n:=by decide):TB n H p r.x r.y r.w:=⟨h.1,Pt.bd h.2 hn⟩
theorem LR.same{H H':Hp}{ys:List V}{ps:List Q3}(h:LR QH H ys ps)(g:Same H H'):LR QH H' ys ps:=h.ts zbz (za8 g)
theorem LR.take{α:Type}{R:Hp->Addr->α->Prop}{H:Hp}{ys:List V}{as:List α}(h:LR R H ys as)(n:Nat):LR R H (ys.take n) (as.take n):=by
 refine⟨by rw[kY,kY,h.1],fun j v z=>?_⟩
 rw[AR] at z
 by_cases c:j<n
 ·rw[if_pos c] at z;obtain⟨q,e,f,g,t⟩:=h.2 _ v z;exact⟨q,e,f,by rw[AR,if_pos c];exact g,t⟩
 ·rw[if_neg c] at z
  cases z
section
variable{P:kq}{w:pX}{K:kM}{mg:Str->Option kB}{base:Heap}{ad:Nat->Addr}{fd:Nat->UZ}
theorem small10k{n:Nat}(h:n<=20000):n<sizeLine:=ul h (by decide)
def kQ(r:Q3):List Key:=[.inl r.x,.inl r.y,.inl r.w]
theorem zf3{p q:Q3}(h:kQ p=kQ q):p=q:=by
 obtain⟨x,y,w⟩:=p;obtain⟨x',y',w'⟩:=q;unfold kQ at h
 cases h;rfl
def KyOk(H:Hp)(kvs:List (List Key×V))(g:Int)(ps:List Q3):Prop:=∀p,p∈ps->∃b,valV kvs (kQ p)=some (.ref b)/\H b=some (.tup [.int (kyQ g p).1,.int (kyQ g p).2])
theorem KyOk.ts{H H':Hp}{kvs:List (List Key×V)}{g:Int}{ps:List Q3}(h:KyOk H kvs g ps)(t:za9 H H'):KyOk H' kvs g ps:=fun p hp=>by
 obtain⟨b,e,hb⟩:=h p hp;exact⟨b,e,t _ _ hb⟩
def sp_okeys:Sp:=fun vs H Q _=>∃(l:Addr)(ys:List V)(ps:List Q3),vs=[.ref l]/\H l=some (.lst ys)/\ys.length<=20000/\LR QH H ys ps/\
 ∀d kvs g(qs:List Q3) H',Same H H'->H' d=some (.dT kvs)->0<g->(∀p,p∈ps->p.w<=g)->KyOk H' kvs g ps->kvs.map Dv=qs.map kQ->qs.Nodup->(∀p,p∈qs↔p∈ps)->qs.length<=ps.length->Q (.ref d) H'
theorem zkp{H:Hp}{D:Addr}{kvs:List (List Key×V)}{o:HO}(h:H D=some (.dT kvs)):za9 H (upd H D o):=fun b xs q=>by
 rw[za6 (fun z=>by rw[z,h] at q;cases q)]
 exact q
theorem zil(T:Txt K mg ad fd):FnOk P w K mg base CX0 1 (ad 5) (fd 5) ["points"] sp_okeys:=by
 refine T.order_keys.fn.ok zca (fun vs H Q E h=>?_) (fun cdv A outer s H vs Q E hr h=>?_)
 ·obtain⟨l,ys,ps,rfl,_⟩:=h;rfl
 obtain⟨l,ys,ps,rfl,hl,hn,hp,k⟩:=h;have hs:∀p,p∈ps->0<p.w/\p.x.natAbs<2^720/\p.y.natAbs<2^720/\p.w.natAbs<2^720:=fun p hp'=>by
  obtain⟨j,hj⟩:=pW.mp hp';have hj':j<ys.length:=by rw[hp.1];exact(kD.mp hj).1
  obtain⟨b,r,_,e2,hr⟩:=hp.at hj';rw[hj] at e2
  cases e2;exact⟨hr.2.pos,zdl hr.2.lx (by decide),zdl hr.2.ly (by decide),zdl hr.2.lw (by decide)⟩
 have zV:=@pss5;have zd:=@zbn;have yn:=@zof;have zg:=@pa1;have zG:=@zfq;unfold L2.CompBody at zG;have zq:=@zc3;have qpv:=@pv;have zk:=@zby;have zH:=@zez;have zc:=@ze5;have za:=@zbr;have yo:=@pk_cons;have yp:=@pk_nil;have zb:=@zds;have zX:=@zhx;have zr:=@zdj;have zj:=@zaf;have zo:=@zen;have zP:=@zhn;have yq:=@zq4;have yd:=@zny;have zm:=@zdc;have zf:=@pa2;have zp:=@zbx;have ze:=@zav;generalize @L2.PE=QE,@L2.PT=QT,@L2.PW=QW,@L2.PA=QA,@L2.PS=QS,@L2.PSs=QSs,@L2.PG=QG,@L2.PGs=QGs,@L2.PI=QI,@L2.PO=QO,@L2.PIf=QIf,@L2.PC=QC,@L2.PK=QK at zV zd yn zg zG zq qpv zk zH zc za yo yp zb zX zr zj zo zP yq yd zm zf zp ze⊢;refine⟨_,
  (zV
   (zd (i:=1) zca.nd rfl (pB rfl) (yn (znr rfl) rfl T.b_max bt_max (zg (zG (dsc:=za0 zap) (N:=["points","greatest","scale","keys","P"]) (own:=["P"]) (ix:=[]) rfl rfl rfl ⟨rfl,by decide+kernel,by decide+kernel,by decide+kernel,by decide+kernel⟩ (zq (qpv 0)) (fun cl C fp s2 H2 xe=>⟨(zk (i:=0) (show UG (["P"]:List Str) from by decide+kernel) rfl (pB rfl)),zH,(zc za3 (qpv 0) za (fun _ _=>rfl))⟩)) zdy) (yo za yp)))
   (zd (i:=2) zca.nd rfl (pB rfl) (zb zas (qpv 1) (qpv 1)))
   (zd (i:=3) zca.nd rfl (pB rfl) zX)
   (zr pz rfl (zq (qpv 0)) (zk (i:=4) zca.nd rfl (pB rfl)) (zj (zo (zP (yq (zft hr) (qpv 4) (qpv 3))) (zj (yd (zft hr) (qpv 3) (qpv 4) (zm (zf (zb zdx (zb zas (zc za3 (qpv 4) za (fun _ _=>rfl)) (qpv 2)) (zc za3 (qpv 4) za (fun _ _=>rfl))) zaa (zb zdx (zb zas (zc za3 (qpv 4) za (fun _ _=>rfl)) (qpv 2)) (zc za3 (qpv 4) za (fun _ _=>rfl))) zaa)) rfl)) zp)))
   (ze (qpv 3)))
  ,?_⟩
 clear zV zd yn zg zG zq qpv zk zH zc za yo yp zb zX zr zj zo zP yq yd zm zf zp ze QE QT QW QA QS QSs QG QGs QI QO QIf QC QK
 dsimp! [L2.start]
 simp! [tCBK];refine zcn ?_;simp! [zcu];refine⟨⟨_,.of hl⟩,fun D hD=>?_⟩;refine zce (xs:=ys) (fun i zs H'=>Same H H'/\H' D=some (.lst zs)/\zs=((ps.take i).map fun p=>V.int p.w)) ⟨za2 hD _,upd_same,by rw[uz];rfl⟩ (fun i zs H' p=>.of (p.1 _ _ hl)) ?_ ?_
 ·rintro i zs H1 v hi hv ⟨g1,hD1,ez⟩;obtain⟨p,r,rfl,hr',hq⟩:=hp.2 i v hv;have hq1:H1 p=some (.tup [.int r.x,.int r.y,.int r.w]):=g1 _ _ hq.1;simp! [hq1];refine cw_put hi hD1 ?_ ⟨zbh g1 hD,upd_same,?_⟩
  ·rw[ez,kL,kY];exact small10k (by have:=DY i ps.length;omega)
  ·rw[uC,hr',ez,uL];rfl
 ·rintro zs H1 ⟨g1,hD1,ez⟩;rw[kX (by rw[hp.1];exact kJ _)] at ez
  refine⟨D,ps.map fun p=>p.w,1,rfl,rfl,by rw[hD1,ez,Ud];rfl,fun g gm gi=>?_⟩
  have g0:0<g:=by
   rcases gi with gi|gi
   ·obtain⟨p,hp',e⟩:=km.mp gi;have:=(hs p hp').1;omega
   ·omega
  have gs:g.natAbs<2^720:=by
   rcases gi with gi|gi
   ·obtain⟨p,hp',e⟩:=km.mp gi;rw[←e];exact(hs p hp').2.2.2
   ·rw[gi.2];decide
  refine⟨g,rfl,g,rfl,cbig gs gs,fun d hd=>?_⟩;have gg:(g*g).natAbs<2^1440:=by
   rw[vM];exact pG (DP gs gs) (by rw[←ET];exact Uq (by decide) (by decide))
  refine zbs ?_;simp! [zcu];have g2:=za2 hd (HO.dT []);refine⟨⟨_,.of (g2 _ _ (g1 _ _ hl))⟩,?_⟩;refine zb0 (K:=K) (a:=l) (xs:=ys) (fun i σ H'=>Same H1 H'/\∃(kvs:List (List Key×V))(o:Option V),σ=[some (.ref l),some (.int g),some (.int (g*g)),some (.ref d),o]/\H' d=some (.dT kvs)/\kvs.length<=i/\KyOk H' kvs g (ps.take i)/\(∀p,(valV kvs (kQ p)).isSome=true->p∈ps.take i)/\∃qs:List Q3,kvs.map Dv=qs.map kQ/\qs.Nodup/\(∀p,p∈qs↔p∈ps.take i)/\qs.length<=i)
   ⟨g2,[],none,rfl,upd_same,kJ _,fun p hp'=>(by rw[uz] at hp';cases hp'),fun p z=>(by cases z),[],rfl,.nil,fun p=>(by rw[uz]),kJ _⟩ (fun i σ H' _ iv=>.of (iv.1 _ _ (g1 _ _ hl))) ?_ ?_
  ·intro _ _;rintro i v σ H2 hi ⟨g3,kvs,o,rfl,hd2,hk,ky,kb,qs,q1,q2,q3,q4⟩;obtain⟨p,r,rfl,hr',hq⟩:=hp.2 i v hi;have hq2:H2 p=some (.tup [.int r.x,.int r.y,.int r.w]):=g3 _ _ (g1 _ _ hq.1);simp! [zou,sDPut,hq2];obtain⟨r0,rx,ry,rw'⟩:=hs r (ko hr');have wn:r.w≠0:=by omega
   rw[uC,hr'];refine⟨_,.t (k:=kQ r) hd2 hq2,ite2 (fun c=>⟨cbig rx gg,cdivb wn rw',cbig ry gg,cdivb wn rw',fun t ht=>?_⟩) fun c=>?_⟩
   ·rw[QX _ (by omega),QX _ (by omega)]
    have nv:valV kvs (kQ r)=none:=by
     cases e:valV kvs (kQ r) with
     |none=>rfl
     |some u=>rw[e] at c;cases c
    have g4:=za2 ht (HO.tup [V.int (r.x*(g*g)/r.w),V.int (r.y*(g*g)/r.w)]);have ht4:upd H2 t (HO.tup [V.int (r.x*(g*g)/r.w),V.int (r.y*(g*g)/r.w)]) t=some (HO.tup [V.int (r.x*(g*g)/r.w),V.int (r.y*(g*g)/r.w)]):=upd_same;generalize upd H2 t (HO.tup [V.int (r.x*(g*g)/r.w),V.int (r.y*(g*g)/r.w)])=H4 at*;have hd4:=g4 _ _ hd2;refine⟨_,.t (k:=kQ r) hd4 (g4 _ _ hq2) (small10k (by have:=(kD.mp hi).1;omega)),zbh (g3.trans g4) hd,_,upd_same,pV (zc2 _ _ _) (by omega),fun p' hp'=>?_,fun p' z=>?_,qs++[r],?_,?_,fun p'=>?_,by rw[kK];exact jH q4⟩
    ·rw[zdg]
     by_cases e:kQ p'=kQ r
     ·rw[if_pos e];have e':=zf3 e;subst e';exact⟨t,rfl,zkp hd4 _ _ ht4⟩
     ·rw[if_neg e];rcases kW.mp hp' with hp'|hp'
      ·obtain⟨b,e1,e2⟩:=ky p' hp';exact⟨b,e1,zkp hd4 _ _ (g4 _ _ e2)⟩
      ·have e':p'=r:=by simpa using hp'
       exact absurd (by rw[e']) e
    ·rw[zdg] at z
     by_cases e:kQ p'=kQ r
     ·rw[zf3 e];exact kh _ (by simp)
     ·rw[if_neg e] at z;exact uP _ (kb p' z)
    ·rw[zlc _ nv,uL,uL,q1];rfl
    ·exact US.mpr ⟨q2,uw _ _,fun a ha b hb e=>by
      rw[kU.mp hb] at e;subst e;obtain⟨b',e1,_⟩:=ky a ((q3 a).mp ha);rw[nv] at e1
      cases e1⟩
    ·rw[kW,kW,q3]
     simp
   ·have z:(valV kvs (kQ r)).isSome=true:=by
     cases e:(valV kvs (kQ r)).isSome with
     |true=>rfl
     |false=>exact absurd (by rw[e];rfl) c
    refine⟨g3,kvs,hd2,by omega,fun p' hp'=>?_,fun p' z'=>uP _ (kb p' z'),qs,q1,q2,fun p'=>?_,by omega⟩
    rcases kW.mp hp' with hp'|hp'
    ·exact ky p' hp'
    ·have e':p'=r:=by simpa using hp'
     rw[e'];exact ky r (kb r z)
    ·rw[kW,q3];refine⟨.inl,fun h=>h.elim id fun h=>?_⟩;have e':p'=r:=by simpa using h
     rw[e'];exact kb r z
  ·rintro σ H2 ⟨g3,kvs,o,rfl,hd2,hk,ky,kb,qs,q1,q2,q3,q4⟩;rw[kX (by rw[hp.1];exact kJ _)] at ky q3
   simp! [];exact k d kvs g qs H2 (g1.trans g3) hd2 g0 (fun p hp'=>gm _ (km.mpr ⟨p,hp',rfl⟩)) ky q1 q2 q3 (by rw[←hp.1];exact q4)
theorem zpb(T:Txt K mg ad fd):FnOk P w K mg base CX0 1 (ad 0) (fd 0) ["P","Q"] zot:=by
 refine T.before.fn.ok zgv (fun vs H Q E h=>?_) (fun cdv A outer s H vs Q E hr h=>?_)
 ·obtain⟨p,q,x1,y1,w1,x2,y2,w2,rfl,_⟩:=h;rfl
 obtain⟨p,q,x1,y1,w1,x2,y2,w2,rfl,⟨hp,pp⟩,⟨hq,pq⟩,k⟩:=h;have zE:=@pss4;have zd:=@zbn;have zb:=@zds;have zc:=@ze5;have qpv:=@pv;have za:=@zbr;have zo:=@zen;have zv:=@zcs;have zj:=@zaf;have ze:=@zav;have zK:=@zgt;have zp:=@zbx;generalize @L2.PE=QE,@L2.PT=QT,@L2.PW=QW,@L2.PA=QA,@L2.PS=QS,@L2.PSs=QSs,@L2.PG=QG,@L2.PGs=QGs,@L2.PI=QI,@L2.PO=QO,@L2.PIf=QIf at zE zd zb zc qpv za zo zv zj ze zK zp⊢;refine⟨_,
  (zE
   (zd (i:=2) zgv.nd rfl (pB rfl) (zb zas (zc za3 (qpv 0) za (fun _ _=>rfl)) (zc za3 (qpv 1) za (fun _ _=>rfl))))
   (zd (i:=3) zgv.nd rfl (pB rfl) (zb zas (zc za3 (qpv 1) za (fun _ _=>rfl)) (zc za3 (qpv 0) za (fun _ _=>rfl))))
   (zo (zv op_ne (qpv 2) (qpv 3) (nomark _)) (zj (ze (zK ziw (qpv 2) (qpv 3) (nomark _)))) zp)
   (ze (zK ziw (zb zas (zc za3 (qpv 0) za (fun _ _=>rfl)) (zc za3 (qpv 1) za (fun _ _=>rfl))) (zb zas (zc za3 (qpv 1) za (fun _ _=>rfl)) (zc za3 (qpv 0) za (fun _ _=>rfl))) (nomark _))))
  ,?_⟩
 clear zE zd zb zc qpv za zo zv zj ze zK zp QE QT QW QA QS QSs QG QGs QI QO QIf
 dsimp! [L2.start]
 simp! [hp,hq];refine⟨cbig pp.1 pq.2.2,cbig pq.1 pp.2.2,?_⟩;unfold bef at k;refine ite2 (fun c=>?_) (fun c=>⟨cbig pp.2.1 pq.2.2,cbig pq.2.1 pp.2.2,?_⟩)
 ·have c':¬x1*w2=x2*w1:=by simpa using c
  rw[if_neg c'] at k;exact k
 ·have c':x1*w2=x2*w1:=by simpa using c
  rw[if_pos c'] at k;exact k
theorem zmz(T:Txt K mg ad fd):FnOk P w K mg base CX0 1 (ad 1) (fd 1) ["number"] zo6:=by
 refine T.sign_of.fn.ok zmr (fun vs H Q E h=>?_) (fun cdv A outer s H vs Q E hr h=>?_)
 ·obtain⟨z,rfl,_⟩:=h;rfl
 obtain⟨z,rfl,k⟩:=h;have zB:=@pss3;have zo:=@zen;have zv:=@zcs;have qpv:=@pv;have za:=@zbr;have zj:=@zaf;have ze:=@zav;have zp:=@zbx;have zW:=@pe_un;generalize @L2.PE=QE,@L2.PT=QT,@L2.PW=QW,@L2.PA=QA,@L2.PS=QS,@L2.PSs=QSs,@L2.PG=QG,@L2.PGs=QGs,@L2.PI=QI,@L2.PO=QO,@L2.PIf=QIf at zB zo zv qpv za zj ze zp zW⊢;refine⟨_,
  (zB
   (zo (zv zpz (qpv 0) za (nomark _)) (zj (ze za)) zp)
   (zo (zv ziw (qpv 0) za (nomark _)) (zj (ze (zW zgd za))) zp)
   (ze za))
  ,?_⟩
 clear zB zo zv qpv za zj ze zp zW QE QT QW QA QS QSs QG QGs QI QO QIf
 dsimp! [L2.start]
 simp! [];unfold sgn at k;refine ite2 (fun c=>?_) (fun c=>ite2 (fun c2=>?_) (fun c2=>?_))
 ·rw[if_pos (of_decide_eq_true c)] at k;exact k
 ·rw[if_neg (fun z=>c (decide_eq_true z)),if_pos (of_decide_eq_true c2)] at k;exact k
 ·rw[if_neg (fun z=>c (decide_eq_true z)),if_neg (fun z=>c2 (decide_eq_true z))] at k;exact k
theorem zn0(T:Txt K mg ad fd):FnOk P w K mg base CX0 1 (ad 2) (fd 2) ["P","Q"] zps:=by
 refine T.line_of.fn.ok zmf (fun vs H Q E h=>?_) (fun cdv A outer s H vs Q E hr h=>?_)
 ·obtain⟨p,q,x1,y1,w1,x2,y2,w2,rfl,_⟩:=h;rfl
 obtain⟨p,q,x1,y1,w1,x2,y2,w2,rfl,⟨hp,pp⟩,⟨hq,pq⟩,k⟩:=h;have zj:=@zaf;have ze:=@zav;have zm:=@zdc;have zu:=@pa3;have zb:=@zds;have zc:=@ze5;have qpv:=@pv;have za:=@zbr;generalize @L2.PE=QE,@L2.PT=QT,@L2.PW=QW,@L2.PA=QA,@L2.PS=QS,@L2.PSs=QSs,@L2.PG=QG,@L2.PGs=QGs,@L2.PI=QI,@L2.PO=QO,@L2.PIf=QIf at zj ze zm zu zb zc qpv za⊢;refine⟨_,
  (zj (ze (zm (zu (zb zcx (zb zas (zc za3 (qpv 0) za (fun _ _=>rfl)) (zc za3 (qpv 1) za (fun _ _=>rfl))) (zb zas (zc za3 (qpv 0) za (fun _ _=>rfl)) (zc za3 (qpv 1) za (fun _ _=>rfl)))) zaa (zb zcx (zb zas (zc za3 (qpv 0) za (fun _ _=>rfl)) (zc za3 (qpv 1) za (fun _ _=>rfl))) (zb zas (zc za3 (qpv 0) za (fun _ _=>rfl)) (zc za3 (qpv 1) za (fun _ _=>rfl)))) zaa (zb zcx (zb zas (zc za3 (qpv 0) za (fun _ _=>rfl)) (zc za3 (qpv 1) za (fun _ _=>rfl))) (zb zas (zc za3 (qpv 0) za (fun _ _=>rfl)) (zc za3 (qpv 1) za (fun _ _=>rfl)))) zaa))))
  ,?_⟩
 clear zj ze zm zu zb zc qpv za QE QT QW QA QS QSs QG QGs QI QO QIf
 dsimp! [L2.start]
 simp! [hp,hq];exact⟨cbig pp.2.1 pq.2.2,cbig pp.2.2 pq.2.1,cbig pp.2.2 pq.1,cbig pp.1 pq.2.2,cbig pp.1 pq.2.1,cbig pp.2.1 pq.1,fun r hr=>k r _ (za2 hr _) upd_same⟩
theorem zms(T:Txt K mg ad fd):FnOk P w K mg base CX0 2 (ad 3) (fd 3) ["line","P"] zoe:=by
 refine T.side_of.fn.ok zmm (fun vs H Q E h=>?_) (fun cdv A outer s H vs Q E hr h=>?_)
 ·obtain⟨l,p,a,b,c,x,y,w,rfl,_⟩:=h;rfl
 obtain⟨l,p,a,b,c,x,y,w,rfl,hl,⟨la,lb,lc⟩,hp,⟨lx,ly,lw⟩,k⟩:=h;have zj:=@zaf;have ze:=@zav;have zh:=@zbb;have zg:=@pa1;have zb:=@zds;have zc:=@ze5;have qpv:=@pv;have za:=@zbr;generalize @L2.PE=QE,@L2.PT=QT,@L2.PW=QW,@L2.PA=QA,@L2.PS=QS,@L2.PSs=QSs,@L2.PG=QG,@L2.PGs=QGs,@L2.PI=QI,@L2.PO=QO,@L2.PIf=QIf at zj ze zh zg zb zc qpv za⊢;refine⟨_,
  (zj (ze (zh (zmz T) (hr.mono (by decide)) rfl T.sign_of.mg T.sign_of.fn.kp T.sign_of.bn .nil pass0 (zg (zb zbi (zb zbi (zb zas (zc za3 (qpv 0) za (fun _ _=>rfl)) (zc za3 (qpv 1) za (fun _ _=>rfl))) (zb zas (zc za3 (qpv 0) za (fun _ _=>rfl)) (zc za3 (qpv 1) za (fun _ _=>rfl)))) (zb zas (zc za3 (qpv 0) za (fun _ _=>rfl)) (zc za3 (qpv 1) za (fun _ _=>rfl)))) zaa))))
  ,?_⟩
 clear zj ze zh zg zb zc qpv za QE QT QW QA QS QSs QG QGs QI QO QIf
 dsimp! [L2.start]
 simp! [zo6,hl,hp];exact⟨cbig la lx,cbig lb ly,cbig lc lw,k⟩
theorem zkd(T:Txt K mg ad fd):FnOk P w K mg base CX0 3 (ad 4) (fd 4) ["P","Q","R"] sp_turn:=by
 refine T.turn.fn.ok sc_turn (fun vs H Q E h=>?_) (fun cdv A outer s H vs Q E hr h=>?_)
 ·obtain⟨p,q,r,x1,y1,w1,x2,y2,w2,x3,y3,w3,rfl,_⟩:=h;rfl
 obtain⟨p,q,r,x1,y1,w1,x2,y2,w2,x3,y3,w3,rfl,hp,hq,hr',k⟩:=h;have zj:=@zaf;have ze:=@zav;have zh:=@zbb;have zf:=@pa2;have qpv:=@pv;generalize @L2.PE=QE,@L2.PT=QT,@L2.PW=QW,@L2.PA=QA,@L2.PS=QS,@L2.PSs=QSs,@L2.PG=QG,@L2.PGs=QGs,@L2.PI=QI,@L2.PO=QO,@L2.PIf=QIf at zj ze zh zf qpv⊢;refine⟨_,
  (zj (ze (zh (zms T) (hr.mono (by decide)) rfl T.side_of.mg T.side_of.fn.kp T.side_of.bn .nil pass0 (zf (zh (zn0 T) (hr.mono (by decide)) rfl T.line_of.mg T.line_of.fn.kp T.line_of.bn .nil pass0 (zf (qpv 0) za1 (qpv 1) za1)) zbq (qpv 2) za1))))
  ,?_⟩
 clear zj ze zh zf qpv QE QT QW QA QS QSs QG QGs QI QO QIf
 dsimp! [L2.start]
 simp! [zps,zoe];exact⟨x1,y1,w1,hp,x2,y2,w2,hq,fun l H2 g2 hl=>⟨_,_,_,hl,ln_bd hp.2 hq.2,_,_,_,(hr'.same g2).1,hr'.2,k H2 g2⟩⟩
def sgD(a b c:Q3):Int:=sgn (det3 a.x a.y a.w b.x b.y b.w c.x c.y c.w)
def soon(a b c d:Q3):Bool:=if sgD a b c=sgD a b d then decide (sgD a c d<0) else decide (sgD a b c<sgD a b d)
def sp_soon:Sp:=fun vs H Q _=>∃(p q r t:Addr)(a b c d:Q3),vs=[.ref p,.ref q,.ref r,.ref t]/\QH H p a/\QH H q b/\QH H r c/\QH H t d/\∀H',Same H H'->Q (.bl (soon a b c d)) H'
theorem zg1(T:Txt K mg ad fd):FnOk P w K mg base CX0 4 (ad 11) (fd 11) ["P","Q","one","other"] sp_soon:=by
 refine T.is_met_sooner.fn.ok zcw (fun vs H Q E h=>?_) (fun cdv A outer s H vs Q E hr h=>?_)
 ·obtain⟨p,q,r,t,a,b,c,d,rfl,_⟩:=h;rfl
 obtain⟨p,q,r,t,a,b,c,d,rfl,hp,hq,hc,hd,k⟩:=h;have zE:=@pss4;have zd:=@zbn;have zh:=@zbb;have zu:=@pa3;have qpv:=@pv;have zo:=@zen;have zv:=@zcs;have zj:=@zaf;have ze:=@zav;have zK:=@zgt;have zp:=@zbx;have za:=@zbr;generalize @L2.PE=QE,@L2.PT=QT,@L2.PW=QW,@L2.PA=QA,@L2.PS=QS,@L2.PSs=QSs,@L2.PG=QG,@L2.PGs=QGs,@L2.PI=QI,@L2.PO=QO,@L2.PIf=QIf at zE zd zh zu qpv zo zv zj ze zK zp za⊢;refine⟨_,
  (zE
   (zd (i:=4) zcw.nd rfl (pB rfl) (zh (zkd T) (hr.mono (by decide)) rfl T.turn.mg T.turn.fn.kp T.turn.bn .nil pass0 (zu (qpv 0) za1 (qpv 1) za1 (qpv 2) za1)))
   (zd (i:=5) zcw.nd rfl (pB rfl) (zh (zkd T) (hr.mono (by decide)) rfl T.turn.mg T.turn.fn.kp T.turn.bn .nil pass0 (zu (qpv 0) za1 (qpv 1) za1 (qpv 3) za1)))
   (zo (zv op_ne (qpv 4) (qpv 5) (nomark _)) (zj (ze (zK ziw (qpv 4) (qpv 5) (nomark _)))) zp)
   (ze (zK ziw (zh (zkd T) (hr.mono (by decide)) rfl T.turn.mg T.turn.fn.kp T.turn.bn .nil pass0 (zu (qpv 0) za1 (qpv 2) za1 (qpv 3) za1)) za (nomark _))))
  ,?_⟩
 clear zE zd zh zu qpv zo zv zj ze zK zp za QE QT QW QA QS QSs QG QGs QI QO QIf
 dsimp! [L2.start]
 simp! [];refine⟨p,q,r,_,_,_,_,_,_,_,_,_,rfl,hp.tb,hq.tb,hc.tb,fun H1 g1=>?_⟩;refine⟨p,q,t,_,_,_,_,_,_,_,_,_,rfl,(hp.same g1).tb,(hq.same g1).tb,(hd.same g1).tb,fun H2 g2=>?_⟩;unfold soon sgD at k;refine⟨rfl,ite2 (fun c1=>?_) (fun c1=>?_)⟩
 ·have z:=k H2 (g1.trans g2)
  split at z
  ·next e=>exact absurd e (by simpa using c1)
  ·exact⟨_,rfl,_,rfl,z⟩
 ·have g12:=g1.trans g2;refine⟨p,r,t,_,_,_,_,_,_,_,_,_,rfl,(hp.same g12).tb,(hc.same g12).tb,(hd.same g12).tb,fun H3 g3=>?_⟩;have z:=k H3 (g12.trans g3)
  split at z
  ·exact⟨_,rfl,z⟩
  ·next e=>exact absurd (by simpa using c1) e
def zgz(a b:Q3)(c:Q3)(ts:List Q3):Q3:=ts.foldl (fun m t=>if soon a b t m=true then t else m) c
def zhi(a b:Q3):List Q3->Q3
 |[]=>a
 |c::ts=>zgz a b c ts
theorem zhb(a b c t:Q3)(ts:List Q3):zgz a b c (ts++[t])=if soon a b t (zgz a b c ts)=true then t else zgz a b c ts:=by
 unfold zgz;rw[List.foldl_append];rfl
def sp_first:Sp:=fun vs H Q _=>∃(p q l:Addr)(ys:List V)(a b:Q3)(ts:List Q3),vs=[.ref p,.ref q,.ref l]/\QH H p a/\QH H q b/\H l=some (.lst ys)/\ys.length<=200/\LR QH H ys ts/\ts≠[]/\∀r H',Same H H'->QH H' r (zhi a b ts)->Q (.ref r) H'
theorem zgy(T:Txt K mg ad fd):FnOk P w K mg base CX0 5 (ad 10) (fd 10) ["P","Q","tips"] sp_first:=by
 refine T.first_right.fn.ok zcm (fun vs H Q E h=>?_) (fun cdv A outer s H vs Q E hr h=>?_)
 ·obtain⟨p,q,l,ys,a,b,ts,rfl,_⟩:=h;rfl
 obtain⟨p,q,l,ys,a,b,ts,rfl,hp,hq,hl,hn,ht,ne,k⟩:=h;have zB:=@pss3;have zd:=@zbn;have zc:=@ze5;have qpv:=@pv;have za:=@zbr;have zr:=@zdj;have zq:=@zc3;have zM:=@zfh;have zN:=@zgh;have zO:=@zgk;have zk:=@zby;have zj:=@zaf;have zo:=@zen;have zQ:=@zl7;have zh:=@zbb;have ye:=@pa4;have zp:=@zbx;have ze:=@zav;generalize @L2.PE=QE,@L2.PT=QT,@L2.PW=QW,@L2.PA=QA,@L2.PS=QS,@L2.PSs=QSs,@L2.PG=QG,@L2.PGs=QGs,@L2.PI=QI,@L2.PO=QO,@L2.PIf=QIf at zB zd zc qpv za zr zq zM zN zO zk zj zo zQ zh ye zp ze⊢;refine⟨_,
  (zB
   (zd (i:=3) zcm.nd rfl (pB rfl) (zc zaz (qpv 2) za (fun _ _=>rfl)))
   (zr pz rfl (zq (zM zc9 (qpv 2) (zN za) zO)) (zk (i:=4) zcm.nd rfl (pB rfl)) (zj (zo (zQ (zh (zg1 T) (hr.mono (by decide)) rfl T.is_met_sooner.mg T.is_met_sooner.fn.kp T.is_met_sooner.bn .nil pass0 (ye (qpv 0) za1 (qpv 1) za1 (qpv 4) za1 (qpv 3) za1))) (zj (zd (i:=3) zcm.nd rfl (pB rfl) (qpv 4))) zp)))
   (ze (qpv 3)))
  ,?_⟩
 clear zB zd zc qpv za zr zq zM zN zO zk zj zo zQ zh ye zp ze QE QT QW QA QS QSs QG QGs QI QO QIf
 dsimp! [L2.start]
 obtain⟨c,cs,rfl⟩:∃c cs,ts=c::cs:=by
  cases ts with
  |nil=>exact absurd rfl ne
  |cons c cs=>exact⟨c,cs,rfl⟩
 obtain⟨y,ys,rfl⟩:∃y y',ys=y::y':=by
  cases ys with
  |nil=>cases ht.1
  |cons y y'=>exact⟨y,y',rfl⟩
 obtain⟨_,_,e,⟨pc,rfl,hc⟩,hys⟩:=ht.cons_inv
 cases e;simp! [hl];refine zbs ?_;simp! [zcu,hl,ziv,List.drop_succ_cons,vE];intro D hD;have g1:=za2 hD (HO.lst ys);have hD1:upd H D (HO.lst ys) D=some (.lst ys):=upd_same;show _;generalize upd H D (HO.lst ys)=H1 at*;refine⟨⟨_,.of hD1⟩,?_⟩;refine zb0 (K:=K) (a:=D) (xs:=ys) (fun i σ H'=>Same H1 H'/\∃(r:Addr)(o:Option V),σ=[some (V.ref p),some (V.ref q),some (V.ref l),some (V.ref r),o]/\QH H' r (zgz a b c (cs.take i))) ⟨.refl _,pc,none,rfl,hc.same g1⟩ (fun i σ H' _ iv=>.of (iv.1 _ _ hD1)) ?_ ?_
 ·intro _ _;rintro i v σ H2 hi ⟨g2,r,o,rfl,hr2⟩;obtain⟨t,d,rfl,hd',hd⟩:=hys.2 i v hi;have g02:=g1.trans g2;simp! [];refine⟨p,q,t,r,a,b,d,_,rfl,hp.same g02,hq.same g02,hd.same g02,hr2,fun H3 g3=>⟨_,rfl,?_⟩⟩;rw[uC,hd'];show _;refine ite2 (fun c1=>?_) (fun c1=>?_)
  ·refine⟨g2.trans g3,?_⟩;rw[show(some d).toList=[d] from rfl,zhb,if_pos c1];exact hd.same (g02.trans g3)
  ·refine⟨g2.trans g3,?_⟩;rw[show(some d).toList=[d] from rfl,zhb,if_neg c1];exact hr2.same g3
 ·rintro σ H2 ⟨g2,r,o,rfl,hr2⟩;simp! [];rw[kX (by rw[←hys.1];exact kJ _)] at hr2
  exact k r H2 (g1.trans g2) hr2
def z3:Q3:=⟨0,0,1⟩
def rot{α:Type}(r:List α)(i:Nat):List α:=r.drop i++r.take i
def nx(r:List Q3)(i:Nat):Q3:=r.getD (i%r.length) z3
theorem zf0{α:Type}(r:List α)(i:Nat):(rot r i).length=r.length:=by
 unfold rot;rw[kK,kj,kY];omega
theorem rot_at{α:Type}{r:List α}{i j:Nat}(hi:i<r.length)(hj:j<r.length):(rot r i)[j]?=r[(i+j)%r.length]?:=by
 unfold rot
 by_cases c:i+j<r.length
 ·rw[po (by rw[kj];omega),Uh,Az c]
 ·rw[pd (by rw[kj];omega),kj,Nat.mod_eq_sub_mod (by omega),Az (by omega),Uy (by omega)]
  congr 1
  omega
theorem zp4{α:Type}{r:List α}{i:Nat}{x:α}:x∈rot r i↔x∈r:=by
 unfold rot;rw[kW,or_comm,←kW,uE]
theorem zhf{r:List Q3}{i:Nat}(hi:i<r.length)(j:Nat):nx (rot r i) j=nx r (i+j):=by
 unfold nx;rw[zf0,kR,rot_at hi (Cb _ (by omega)),kR,Nat.add_mod_mod]
theorem ze6{r:List Q3}{i:Nat}(hi:i<r.length):nx r i=r[i]:=by
 unfold nx;rw[Az hi,kR,kI hi];rfl
theorem nx_at{r:List Q3}{i:Nat}(hi:i<r.length):r[i]?=some (nx r i):=by rw[ze6 hi,kI hi]
theorem zge(r:List Q3)(i:Nat):nx r (i%r.length)=nx r i:=by
 unfold nx;rw[Nat.mod_mod]
theorem nx_len(r:List Q3)(i:Nat):nx r (r.length+i)=nx r i:=by
 unfold nx;rw[Nat.add_mod_left]
theorem zhh{r:List Q3}(h:0<r.length)(i:Nat):nx r i∈r:=by
 rw[←zge,ze6 (Cb _ h)];exact QP _
theorem nx_inj{r:List Q3}(nd:r.Nodup){i j:Nat}(hi:i<r.length)(hj:j<r.length)(h:nx r i=nx r j):i=j:=by
 rw[ze6 hi,ze6 hj] at h;exact(Am nd).mp h
def sds(r:List Q3):List (Q3×Q3):=(uB r.length).map fun i=>(nx r i,nx r (i+1))
theorem sds_mem{r:List Q3}{e:Q3×Q3}:e∈sds r↔∃i,i<r.length/\e=(nx r i,nx r (i+1)):=by
 unfold sds;rw[km];exact⟨fun⟨i,h,e⟩=>⟨i,pO.mp h,e.symm⟩,fun⟨i,h,e⟩=>⟨i,pO.mpr h,e.symm⟩⟩
theorem zik{r:List Q3}(h:0<r.length)(i:Nat):(nx r i,nx r (i+1))∈sds r:=by
 refine sds_mem.mpr ⟨i%r.length,Cb _ h,?_⟩;rw[zge,←zge r (i+1),←zge r (i%r.length+1),Dc]
def leav(ss:List (Q3×Q3))(p:Q3):List Q3:=(ss.filter fun e=>decide (e.1=p)).map EV
theorem zdp(ss:List (Q3×Q3))(e:Q3×Q3)(p:Q3):leav (ss++[e]) p=leav ss p++if e.1=p then[e.2] else[]:=by
 unfold leav;rw[UH,uL]
 congr 1
 by_cases c:e.1=p
 ·rw[if_pos c,hX,if_pos (decide_eq_true c)];rfl
 ·rw[if_neg c,hX,if_neg (fun z=>c (of_decide_eq_true z))];rfl
theorem zig{ss:List (Q3×Q3)}{p q:Q3}:q∈leav ss p↔(p,q)∈ss:=by
 unfold leav;rw[km]
 constructor
 ·rintro⟨e,he,rfl⟩;obtain⟨h1,h2⟩:=UV.mp he;rw[←of_decide_eq_true h2];exact h1
 ·intro h;exact⟨(p,q),UV.mpr ⟨h,decide_eq_true rfl⟩,rfl⟩
theorem zkx(ss:List (Q3×Q3))(p:Q3):(leav ss p).length<=ss.length:=by
 unfold leav;rw[kL];exact Bm _ _
def zdn(q r:List Q3):Prop:=∃i,i<r.length/\q=rot r i/\∀x,x∈r->bq x (nx q 0)=false
theorem zdn.uniq{n:Nat}{q q' r:List Q3}(nd:r.Nodup)(pq:∀x,x∈r->PQ n x)(h:zdn q r)(h':zdn q' r):q=q':=by
 obtain⟨i,hi,rfl,l⟩:=h;obtain⟨j,hj,rfl,l'⟩:=h';have e0:nx (Mine.rot r i) 0=nx r i:=zhf hi 0;have e1:nx (Mine.rot r j) 0=nx r j:=zhf hj 0;rw[e0] at l;rw[e1] at l';have mi:=zhh (r:=r) (by omega) i
 have mj:=zhh (r:=r) (by omega) j
 have e:nx r i=nx r j:=by
  exact znu (pq _ mi) (pq _ mj) (l' _ mi) (l _ mj)
 rw[nx_inj nd hi hj e]
theorem zky{a b:Q3}:∀(ts:List Q3)(c:Q3),zgz a b c ts∈c::ts
 |[],c=>kU.mpr rfl
 |t::ts,c=>by
  show zgz a b (if soon a b t c=true then t else c) ts∈c::t::ts
  have:=zky (a:=a) (b:=b) ts (if soon a b t c=true then t else c);rcases pF.mp this with z|z
  ·rw[z]
   split
   ·exact kT _ (uJ ..)
   ·exact uJ ..
  ·exact kT _ (kT _ z)
theorem zq3{a b:Q3}{ts:List Q3}(h:ts≠[]):zhi a b ts∈ts:=by
 cases ts with
 |nil=>exact absurd rfl h
 |cons t ts=>exact zky ts t
def suc(ss:List (Q3×Q3))(e:Q3×Q3):Q3×Q3:=(e.2,zhi e.2 e.1 (leav ss e.2))
structure Fen(ss:List (Q3×Q3)):Prop where
 nd:ss.Nodup
 ne:∀e,e∈ss->e.1≠e.2
 rv:∀e,e∈ss->¬(e.2,e.1)∈ss
 out:∀e,e∈ss->leav ss e.2≠[]
 inj:∀e e',e∈ss->e'∈ss->suc ss e=suc ss e'->e=e'
def itr(ss:List (Q3×Q3))(e:Q3×Q3):Nat->Q3×Q3
 |0=>e
 |n+1=>suc ss (itr ss e n)
section
variable{ss:List (Q3×Q3)}{e:Q3×Q3}
theorem Fen.suc(F:Fen ss)(he:e∈ss):Mine.suc ss e∈ss:=zig.mp (zq3 (F.out e he))
theorem Fen.itr(F:Fen ss)(he:e∈ss):∀n,Mine.itr ss e n∈ss
 |0=>he
 |n+1=>F.suc (F.itr he n)
theorem Fen.back(F:Fen ss)(he:e∈ss)(d:Nat):∀i,Mine.itr ss e i=Mine.itr ss e (i+d)->e=Mine.itr ss e d
 |0,h=>by rw[Cu] at h;exact h
 |i+1,h=>by
  rw[Nat.add_right_comm] at h;exact F.back he d i (F.inj _ _ (F.itr he _) (F.itr he _) h)
theorem zd8{α:Type}[DecidableEq α]:∀(F os:List α),F.Nodup->(∀q,q∈F->q∈os)->F.length<=os.length
 |[],os,_,_=>pY _
 |a::F,os,nd,h=>by
  obtain⟨h1,h2⟩:=jQ.mp nd;have ha:=h a (by simp)
  have:=zd8 F (os.erase a) h2 fun q hq=>(List.mem_erase_of_ne (fun z=>h1 (by rw[←z];exact hq))).mpr (h q (kT _ hq))
  rw[List.length_erase_of_mem ha] at this;have:=List.length_pos_of_mem ha;rw[uD];omega
theorem Fen.orb(F:Fen ss)(he:e∈ss){t:Nat}(no:∀j,0<j->j<=t->Mine.itr ss e j≠e):((uB (t+1)).map (Mine.itr ss e)).Nodup:=by
 rw[pM,uc];refine List.pairwise_lt_range.imp_of_mem fun{i j} hi hj h z=>?_;have hj':=pO.mp hj;refine no (j-i) (by omega) (by omega) (F.back he (j-i) i ?_).symm
 rw[show i+(j-i)=j by omega]
 exact z
theorem Fen.few(F:Fen ss)(he:e∈ss){t:Nat}(no:∀j,0<j->j<=t->Mine.itr ss e j≠e):t<ss.length:=by
 have:=zd8 _ ss (F.orb he no) fun q hq=>by
  obtain⟨i,_,rfl⟩:=km.mp hq;exact F.itr he i
 rw[kL,uO] at this;omega
end
def psd(w:List Q3):List (Q3×Q3):=(uB (w.length-1)).map fun i=>(nx w i,nx w (i+1))
theorem zpa{w:List Q3}(h:0<w.length):sds w=psd w++[(nx w (w.length-1),nx w 0)]:=by
 unfold sds psd;have e:w.length=(w.length-1)+1:=by omega
 have e2:nx w (w.length-1+1)=nx w 0:=by rw[←e];exact nx_len w 0
 conv=>lhs;rw[e]
 rw[vd,uL,ki,Qe,e2]
theorem zit{w:List Q3}{p:Q3}{i:Nat}(h:i<w.length):nx (w++[p]) i=nx w i:=by
 rw[ze6 (by rw[kK];omega),ze6 h,List.getElem_append_left h]
theorem zk2{w:List Q3}{p:Q3}:nx (w++[p]) w.length=p:=by
 rw[ze6 (by rw[kK,pg];omega),List.getElem_append_right (kJ _)]
 simp
theorem zgm{w:List Q3}{i j:Nat}(hi:i<w.length)(hj:j<=i):nx (w.take (i+1)) j=nx w j:=by
 rw[ze6 (by rw[kY];omega),ze6 (by omega),uk]
theorem zi9{w:List Q3}{i j:Nat}(h:i+j<w.length):nx (w.drop i) j=nx w (i+j):=by
 rw[ze6 (by rw[kj];omega),ze6 h,ud]
theorem psd_snoc{w:List Q3}{p:Q3}(h:0<w.length):psd (w++[p])=psd w++[(nx w (w.length-1),p)]:=by
 unfold psd;rw[kK,pg,vW];have e:w.length=(w.length-1)+1:=by omega
 conv=>lhs;rw[e]
 rw[vd,uL,ki,Qe,zit (by omega),show w.length-1+1=w.length by omega,zk2]
 congr 1
 refine Ua fun i hi=>?_;have:=pO.mp hi;rw[zit (by omega),zit (by omega)]
theorem psd_cut{w:List Q3}{i:Nat}(h:i<w.length):psd w=psd (w.take (i+1))++psd (w.drop i):=by
 unfold psd;rw[kY,kj,Qd (by omega),vW,show w.length-1=i+(w.length-i-1) by omega,List.range_add,uL,Ud]
 congr 1
 ·refine Ua fun j hj=>?_;have:=pO.mp hj;rw[zgm h (by omega),zgm h (by omega)]
 ·refine Ua fun j hj=>?_;have:=pO.mp hj;show(nx w (i+j),nx w (i+j+1))=_;rw[zi9 (by omega),zi9 (by omega),vB]
def wyF(ss:List (Q3×Q3))(e:Q3×Q3):Nat->List Q3×List (List Q3)
 |0=>([e.1],[])
 |t+1=>if(itr ss e t).2∈(wyF ss e t).1 then((wyF ss e t).1.take ((wyF ss e t).1.idxOf (itr ss e t).2+1),(wyF ss e t).2++[(wyF ss e t).1.drop ((wyF ss e t).1.idxOf (itr ss e t).2)]) else((wyF ss e t).1++[(itr ss e t).2],(wyF ss e t).2)
structure Way(ss:List (Q3×Q3))(e:Q3×Q3)(t:Nat)(w:List Q3)(rs:List (List Q3)):Prop where
 pos:0<w.length
 nd:w.Nodup
 hd:nx w 0=e.1
 lst:nx w (w.length-1)=(itr ss e t).1
 rg:∀q,q∈rs->q.Nodup/\2<=q.length
 pm:(rs.flatMap sds++psd w).Perm ((uB t).map (itr ss e))
 no:∀j,0<j->j<=t->itr ss e j≠e
 fn:wyF ss e t=(w,rs)
section
variable{ss:List (Q3×Q3)}{e:Q3×Q3}{t:Nat}{w:List Q3}{rs:List (List Q3)}
theorem Way.start:Way ss e 0 [e.1] []:=⟨Ba,uw _ _,rfl,rfl,(fun q hq=>by cases hq),.refl _,(fun j h1 h2=>by omega),rfl⟩
theorem zp0(no:∀j,0<j->j<=t->itr ss e j≠e)(hn:suc ss (itr ss e t)≠e):∀j,0<j->j<=t+1->itr ss e j≠e:=fun j h1 h2=>by
 by_cases c:j<=t
 ·exact no j h1 c
 ·rw[show j=t+1 by omega]
  exact hn
theorem Way.push(h:Way ss e t w rs)(hn:suc ss (itr ss e t)≠e)(hp:¬(itr ss e t).2∈w):Way ss e (t+1) (w++[(itr ss e t).2]) rs:=by
 have pos:=h.pos;refine⟨by rw[kK];omega,US.mpr ⟨h.nd,uw _ _,fun a ha b hb z=>hp (by rw[kU.mp hb] at z;rw[←z];exact ha)⟩,by rw[zit pos];exact h.hd,?_,h.rg,?_,zp0 h.no hn,by show(if _ then _ else _)=_;rw[h.fn,if_neg hp]⟩
 ·rw[kK,pg,vW,zk2];rfl
 ·rw[psd_snoc pos,←pL,h.lst,vd,uL];exact h.pm.append_right _
theorem Way.cut(F:Fen ss)(he:e∈ss)(h:Way ss e t w rs){i:Nat}(hi:i<w.length)(hp:nx w i=(itr ss e t).2)(hn:suc ss (itr ss e t)≠e):Way ss e (t+1) (w.take (i+1)) (rs++[w.drop i]):=by
 have pos:=h.pos;have ne:=F.ne _ (F.itr he t);have l2:i+1<w.length:=by
  rcases Uu (i+1) w.length with z|z
  ·exact z
  ·exfalso
   rw[←h.lst,←hp,show i=w.length-1 by omega] at ne
   exact ne rfl
 have ld:(w.drop i).length=w.length-i:=kj ..;refine⟨by rw[kY];omega,h.nd.sublist (Ac _ _),by rw[zgm hi (by omega)];exact h.hd,?_,fun q hq=>?_,?_,zp0 h.no hn,?_⟩
 ·rw[kY,Qd (by omega),vW,zgm hi (kJ _),hp]
  rfl
 ·rcases kW.mp hq with hq|hq
  ·exact h.rg q hq
  ·rw[kU.mp hq];exact⟨h.nd.sublist (Cr _ _),by omega⟩
 ·rw[jK,UA,DQ,uT,zpa (w:=w.drop i) (by omega),ld,zi9 (by omega),zi9 (by omega),show i+(w.length-i-1)=w.length-1 by omega,BQ,h.lst,hp,vd,uL,ki,Qe]
  have pm:=h.pm;rw[psd_cut hi] at pm;show(rs.flatMap sds++(psd (w.drop i)++[itr ss e t])++psd (w.take (i+1))).Perm _;refine gc ?_ (pm.append_right [itr ss e t]);rw[pL,pL (rs.flatMap sds)];refine ug _ ?_;rw[pL (psd (w.take (i+1)))];exact QU
 ·have ix:w.idxOf (itr ss e t).2=i:=by
   rw[←hp,ze6 hi];exact h.nd.idxOf_getElem i hi
  show(if _ then _ else _)=_
  rw[h.fn,if_pos (by rw[←hp,ze6 hi];exact QP _),ix]
theorem Way.done(F:Fen ss)(he:e∈ss)(h:Way ss e t w rs)(hn:suc ss (itr ss e t)=e):(∀q,q∈rs++[w]->q.Nodup/\2<=q.length)/\((rs++[w]).flatMap sds).Perm ((uB (t+1)).map (itr ss e)):=by
 have pos:=h.pos;have ne:=F.ne _ (F.itr he t);have e1:(itr ss e t).2=e.1:=congrArg Dv hn;refine⟨fun q hq=>?_,?_⟩
 ·rcases kW.mp hq with hq|hq
  ·exact h.rg q hq
  ·rw[kU.mp hq];refine⟨h.nd,?_⟩;rcases Uu 1 w.length with z|z
   ·exact z
   ·exfalso
    have l:=h.lst;rw[show w.length-1=0 by omega,h.hd,←e1] at l
    exact ne l.symm
 ·rw[jK,UA,DQ,uT,zpa pos,h.lst,h.hd,←e1,←pL,vd,uL];exact h.pm.append_right _
end
theorem zff{xs:List V}{m:Nat}(h:m<=xs.length):cutV xs (some (m:Int)) none=xs.drop m:=by
 unfold cutV;rw[HT.sIx_nat,HT.sIx_none,Qd h,kX (by rw[kj];omega)]
theorem zlz{xs:List V}{m:Nat}(h:m<=xs.length):cutV xs none (some (m:Int))=xs.take m:=by
 unfold cutV;rw[HT.sIx_nat,HT.sIx_none,vE,EK,Qd h]
def sp_least:Sp:=fun vs H Q _=>∃(l:Addr)(ys:List V)(r:List Q3),vs=[.ref l]/\H l=some (.lst ys)/\LR QH H ys r/\0<r.length/\r.length<=200/\∀D zs q H',H D=none->Same H H'->H' D=some (.lst zs)->LR QH H' zs q->zdn q r->Q (.ref D) H'
theorem lr_pq{H:Hp}{ys:List V}{ps:List Q3}(h:LR QH H ys ps){p:Q3}(hp:p∈ps):PQ 700 p:=by
 obtain⟨j,hj⟩:=pW.mp hp;have hj':j<ys.length:=by rw[h.1];exact(kD.mp hj).1
 obtain⟨b,r,_,e2,hr⟩:=h.at hj';rw[hj] at e2
 cases e2;exact hr.2
theorem zi6(T:Txt K mg ad fd):FnOk P w K mg base CX0 2 (ad 12) (fd 12) ["ring"] sp_least:=by
 refine T.from_least.fn.ok zcy (fun vs H Q E h=>?_) (fun cdv A outer s H vs Q E hr h=>?_)
 ·obtain⟨l,ys,r,rfl,_⟩:=h;rfl
 obtain⟨l,ys,r,rfl,hl,hy,n0,n10,k⟩:=h;have zB:=@pss3;have zd:=@zbn;have za:=@zbr;have zr:=@zdj;have zY:=@zgo;have zg:=@pa1;have zC:=@zd3;have qpv:=@pv;have zk:=@zby;have zj:=@zaf;have zo:=@zen;have zQ:=@zl7;have zh:=@zbb;have zf:=@pa2;have zc:=@ze5;have zp:=@zbx;have ze:=@zav;have zb:=@zds;have zM:=@zfh;have zN:=@zgh;have zO:=@zgk;generalize @L2.PE=QE,@L2.PT=QT,@L2.PW=QW,@L2.PA=QA,@L2.PS=QS,@L2.PSs=QSs,@L2.PG=QG,@L2.PGs=QGs,@L2.PI=QI,@L2.PO=QO,@L2.PIf=QIf at zB zd za zr zY zg zC qpv zk zj zo zQ zh zf zc zp ze zb zM zN zO⊢;refine⟨_,
  (zB
   (zd (i:=1) zcy.nd rfl (pB rfl) za)
   (zr pz rfl (zY rfl T.b_range (zg (zC zgs rfl T.b_len zh6 (zg (qpv 0) za1)) zbq)) (zk (i:=2) zcy.nd rfl (pB rfl)) (zj (zo (zQ (zh (zpb T) (hr.mono (by decide)) rfl T.before.mg T.before.fn.kp T.before.bn .nil pass0 (zf (zc zaz (qpv 0) (qpv 2) (fun _ _=>rfl)) za7 (zc zaz (qpv 0) (qpv 1) (fun _ _=>rfl)) za7))) (zj (zd (i:=1) zcy.nd rfl (pB rfl) (qpv 2))) zp)))
   (ze (zb op_cat (zM zc9 (qpv 0) (zN (qpv 1)) zO) (zM zc9 (qpv 0) zO (zN (qpv 1))))))
  ,?_⟩
 clear zB zd za zr zY zg zC qpv zk zj zo zQ zh zf zc zp ze zb zM zN zO QE QT QW QA QS QSs QG QGs QI QO QIf
 dsimp! [L2.start]
 have pq:∀x,x∈r->PQ 700 x:=fun x hx=>lr_pq hy hx;simp! [];refine zbs ?_;simp! [iRng1,hl];refine⟨by omega,by have:=hy.1;omega,?_⟩
 rw[show((ys.length:Int)).toNat=ys.length by omega]
 refine zfv (n:=ys.length) (fun i σ H'=>H'=H/\∃(m:Nat)(o:Option V),σ=[some (V.ref l),some (V.int m),o]/\m<r.length/\∀j,j<i->bq (nx r j) (nx r m)=false) ⟨rfl,0,none,rfl,n0,fun j hj=>by omega⟩ ?_ ?_
 ·intro _ _;rintro i σ H2 hi ⟨rfl,m,o,rfl,hm,hj⟩;have hir:i<r.length:=by rw[←hy.1];exact hi
  have hmy:m<ys.length:=by rw[hy.1];exact hm
  obtain⟨pi,qi,ei,fi,hqi⟩:=hy.at hi;obtain⟨pm,qm,em,fm,hqm⟩:=hy.at hmy;rw[nx_at hir] at fi;rw[nx_at hm] at fm
  cases fi
  cases fm;have ai:atI ys (i:Int)=some (V.ref pi):=zdu ei;have am:atI ys (m:Int)=some (V.ref pm):=zdu em;simp! [Uw,hl,ai,am];refine⟨pi,pm,_,_,_,_,_,_,rfl,hqi.tb,hqm.tb,_,rfl,ite2 (fun c=>?_) (fun c=>?_)⟩
  ·refine⟨rfl,i,rfl,hir,fun j hji=>?_⟩;rcases Uu j i with z|z
   ·cases e:bq (nx r j) (nx r i) with
    |false=>rfl
    |true=>
     have:=znh (pq _ (zhh n0 j)).pos (pq _ (zhh n0 i)).pos (pq _ (zhh n0 m)).pos e c;have h0:=hj j z;unfold bq at h0;rw[this] at h0
     cases h0
   ·rw[show j=i by omega]
    exact bef_irr _ _ _
  ·refine⟨rfl,m,rfl,hm,fun j hji=>?_⟩;rcases Uu j i with z|z
   ·exact hj j z
   ·rw[show j=i by omega]
    exact jr.mpr c
 ·rintro σ H2 ⟨rfl,m,o,rfl,hm,hj⟩;have hmy:m<=ys.length:=by rw[hy.1];omega
  simp! [hl,zff hmy];intro p1 hp1;have g3:=za2 hp1 (HO.lst (ys.drop m));have h31:upd H2 p1 (HO.lst (ys.drop m)) p1=some (HO.lst (ys.drop m)):=upd_same;have hr3:=g3 _ _ hl;generalize upd H2 p1 (HO.lst (ys.drop m))=H3 at*;simp! [hr3,zlz hmy];intro p2 hq2;have g4:=za2 hq2 (HO.lst (ys.take m));have h42:upd H3 p2 (HO.lst (ys.take m)) p2=some (HO.lst (ys.take m)):=upd_same;have h41:=g4 _ _ h31;generalize upd H3 p2 (HO.lst (ys.take m))=H4 at*;have ly:=hy.1;refine⟨p1,p2,_,_,rfl,rfl,h41,h42,uv (small1000 ?_),fun p3 hp3=>?_⟩
  ·rw[kj,kY];omega
  have g5:=za2 hp3 (HO.lst (ys.drop m++ys.take m));have g25:=g3.trans (g4.trans g5);refine k p3 _ (rot r m) _ ((g3.trans g4).free hp3) g25 upd_same (((hy.drop m).app (hy.take m)).same g25) ⟨m,hm,rfl,fun x hx=>?_⟩;have e0:nx (rot r m) 0=nx r m:=zhf hm 0;rw[e0];obtain⟨j,hj',rfl⟩:=pN.mp hx;rw[←ze6 hj'];exact hj j (by omega)
def S2H(H:Hp)(p:Addr)(e:Q3×Q3):Prop:=∃c d,H p=some (.tup [.ref c,.ref d])/\QH H c e.1/\QH H d e.2
theorem zfs:∀(H H':Hp)(p:Addr)(e:Q3×Q3),za9 H H'->S2H H p e->S2H H' p e:=fun _ _ _ _ g⟨c,d,h1,h2,h3⟩=>⟨c,d,g _ _ h1,zbz _ _ _ _ g h2,zbz _ _ _ _ g h3⟩
theorem zns{H:Hp}{d:Addr}{kvs:List (List Key×V)}(h:H d=some (.dT kvs)):IsD H d:=.inr ⟨kvs,.inl h⟩
structure Lv(H0 H:Hp)(d:Addr)(kvs:List (List Key×V))(ss:List (Q3×Q3)):Prop where
 same:Same H0 H
 new:H0 d=none
 at_:H d=some (.dT kvs)
 len:kvs.length<=ss.length
 ent:∀p v,valV kvs (kQ p)=some v->∃a zs,v=.ref a/\H0 a=none/\H a=some (.lst zs)/\LR QH H zs (leav ss p)
 non:∀p,valV kvs (kQ p)=none->leav ss p=[]
 dis:∀p p' v,valV kvs (kQ p)=some v->valV kvs (kQ p')=some v->p=p'
theorem Lv.mono{H0 H H':Hp}{d:Addr}{kvs:List (List Key×V)}{ss:List (Q3×Q3)}(h:Lv H0 H d kvs ss)(g:Same H H'):Lv H0 H' d kvs ss:=
 ⟨h.same.trans g,h.new,g _ _ h.at_,h.len,fun k v e=>by
  obtain⟨a,ys,e1,e2,e3,e4⟩:=h.ent k v e;exact⟨a,ys,e1,e2,g _ _ e3,e4.same g⟩,h.non,h.dis⟩
theorem Lv.app{H0 H:Hp}{d a t b:Addr}{kvs:List (List Key×V)}{ss:List (Q3×Q3)}{p q:Q3}{Qc:VK}(h:Lv H0 H d kvs ss)(hm:ss.length<500)(ha:QH H a p)(hb:QH H b q)(ht:H t=none)
  (k:∀(l:Addr)(H1:Hp)(zs:List V) kvs',H1 l=some (.lst zs)->zs.length<sizeLine->Lv H0 (upd H1 l (.lst (zs++[.ref b]))) d kvs' (ss++[(p,q)])->Qc (.ref l) H1):rSD d (.ref a) (.ref t) (upd H t (.lst [])) Qc:=by
 have g:=za2 ht (HO.lst []);have hg:=h.mono g;refine⟨kvs,kQ p,a,hg.at_,rfl,g _ _ ha.1,small1000 (by have:=h.len;omega),fun v hv=>?_,fun hv=>?_⟩
 ·obtain⟨l,ys,rfl,e2,e3,e4⟩:=hg.ent _ _ hv;have ly:ys.length<=ss.length:=by rw[e4.1];exact zkx _ _
  refine k l _ ys kvs e3 (small1000 (by omega)) ⟨zbh hg.same e2,h.new,?_,by have:=h.len;rw[kK];omega,fun p' v' hv'=>?_,fun p' hv'=>?_,h.dis⟩
  ·rw[za6 (fun z=>by rw[←z,hg.at_] at e3;cases e3)]
   exact hg.at_
  ·obtain⟨l',ys',rfl,f2,f3,f4⟩:=hg.ent _ _ hv'
   by_cases el:l'=l
   ·subst el;rw[e3] at f3
    cases f3;have pp:=h.dis _ _ _ hv' hv;subst pp;refine⟨l',_,rfl,f2,upd_same,?_⟩;rw[zdp,if_pos rfl];exact(e4.snoc (hb.same g)).ts zbz (zc4 e3)
   ·refine⟨l',ys',rfl,f2,by rw[za6 el];exact f3,?_⟩
    rw[zdp,if_neg (fun z=>el (by
     have z':p=p':=z;rw[←z'] at hv';rw[hv] at hv'
     cases hv';rfl)),uT]
    exact f4.ts zbz (zc4 e3)
  ·rw[zdp,h.non _ hv',if_neg (fun z=>by
    have z':p=p':=z;rw[z',hv'] at hv
    cases hv)]
   rfl
 ·have td:t≠d:=fun z=>by rw[z,h.at_] at ht;cases ht
  have h0t:=h.same.free ht;have up:∀b' o,b'≠d->H b'=some o->upd (upd (upd H t (.lst [])) d (.dT (putK kvs (kQ p) (.ref t)))) t (.lst [.ref b]) b'=some o:=fun b' o nb hb'=>by
   have nt:b'≠t:=fun z=>by rw[z,ht] at hb';cases hb'
   rw[za6 nt,za6 nb,za6 nt];exact hb'
  have ts:za9 H (upd (upd (upd H t (.lst [])) d (.dT (putK kvs (kQ p) (.ref t)))) t (.lst [.ref b])):=fun b' xs hb'=>up b' _ (fun z=>by rw[z,h.at_] at hb';cases hb') hb'
  have nt:∀p',valV kvs (kQ p')≠some (.ref t):=fun p' z=>by
   obtain⟨l',ys',e,f2,f3,f4⟩:=h.ent _ _ z
   cases e;rw[ht] at f3
   cases f3
  refine k t _ [] (putK kvs (kQ p) (.ref t)) (by rw[za6 td];exact upd_same) (small1000 (by simp)) ⟨fun b' o hb'=>up b' o (fun z=>by rw[z,h.new] at hb';cases hb') (h.same _ _ hb'),h.new,by rw[za6 td.symm];exact upd_same,pV (zc2 _ _ _) (by have:=h.len;rw[kK];exact jH this),fun p' v' hv'=>?_,fun p' hv'=>?_,fun p' p2 v' h1 h2=>?_⟩
  ·rw[zdg] at hv'
   by_cases ek:kQ p'=kQ p
   ·rw[if_pos ek] at hv'
    cases hv';have e':=zf3 ek;subst e';refine⟨t,[.ref b],rfl,h0t,upd_same,?_⟩;rw[zdp,if_pos rfl,h.non _ hv];exact LR.one (R:=QH) (zbz _ _ _ _ ts hb)
   ·rw[if_neg ek] at hv';obtain⟨l',ys',rfl,f2,f3,f4⟩:=h.ent _ _ hv';refine⟨l',ys',rfl,f2,up _ _ (fun z=>by rw[z,h.at_] at f3;cases f3) f3,?_⟩
    rw[zdp,if_neg (fun z=>ek (by have z':p=p':=z;rw[z'])),uT]
    exact f4.ts zbz ts
  ·rw[zdg] at hv'
   by_cases ek:kQ p'=kQ p
   ·rw[if_pos ek] at hv'
    cases hv'
   ·rw[if_neg ek] at hv';rw[zdp,h.non _ hv',if_neg (fun z=>ek (by have z':p=p':=z;rw[z']))]
    rfl
  ·rw[zdg] at h1 h2
   by_cases e1:kQ p'=kQ p
   ·by_cases e2:kQ p2=kQ p
    ·rw[zf3 e1,zf3 e2]
    ·rw[if_pos e1] at h1;rw[if_neg e2] at h2
     cases h1;exact absurd h2 (nt _)
   ·by_cases e2:kQ p2=kQ p
    ·rw[if_neg e1] at h1;rw[if_pos e2] at h2
     cases h2;exact absurd h1 (nt _)
    ·rw[if_neg e1] at h1;rw[if_neg e2] at h2;exact h.dis _ _ _ h1 h2
def sp_leav:Sp:=fun vs H Q _=>∃(l:Addr)(ys:List V)(ss:List (Q3×Q3)),vs=[.ref l]/\H l=some (.lst ys)/\ys.length<=200/\LR S2H H ys ss/\∀d kvs H',H d=none->Lv H H' d kvs ss->Q (.ref d) H'
theorem zie(T:Txt K mg ad fd):FnOk P w K mg base CX0 1 (ad 8) (fd 8) ["land"] sp_leav:=by
 refine T.leaving_of.fn.ok zcz (fun vs H Q E h=>?_) (fun cdv A outer s H vs Q E hr h=>?_)
 ·obtain⟨l,ys,ss,rfl,_⟩:=h;rfl
 obtain⟨l,ys,ss,rfl,hl,hn,hs,k⟩:=h;have zB:=@pss3;have zd:=@zbn;have zX:=@zhx;have zr:=@zdj;have zq:=@zc3;have qpv:=@pv;have zI:=@zev;have zD:=@zdv;have zk:=@zby;have zJ:=@zes;have zj:=@zaf;have zA:=@zdk;have zx:=@zgr;have yf:=@pe_dsd;have zn:=@zd9;have zy:=@zci;have zg:=@pa1;have ze:=@zav;generalize @L2.PE=QE,@L2.PT=QT,@L2.PW=QW,@L2.PA=QA,@L2.PS=QS,@L2.PSs=QSs,@L2.PG=QG,@L2.PGs=QGs,@L2.PI=QI,@L2.PO=QO,@L2.PIf=QIf at zB zd zX zr zq qpv zI zD zk zJ zj zA zx yf zn zy zg ze⊢;refine⟨_,
  (zB
   (zd (i:=1) zcz.nd rfl (pB rfl) zX)
   (zr pz rfl (zq (qpv 0)) (zI (n:=2) rfl (zD (zk (i:=2) zcz.nd rfl (pB rfl)) (zD (zk (i:=3) zcz.nd rfl (pB rfl)) zJ))) (zj (zA (zx pD uF uG zb7 (yf (zft hr) (qpv 1) (qpv 2) (zn zy) ⟨rfl,rfl,rfl,rfl⟩) (zg (qpv 3) za1)))))
   (ze (qpv 1)))
  ,?_⟩
 clear zB zd zX zr zq qpv zI zD zk zJ zj zA zx yf zn zy zg ze QE QT QW QA QS QSs QG QGs QI QO QIf
 dsimp! [L2.start]
 simp! [zok];intro d hd;have gd:=za2 hd (HO.dT []);refine zbs ?_;simp! [zcu];refine⟨⟨_,.of (gd _ _ hl)⟩,?_⟩;refine zb0 (K:=K) (a:=l) (xs:=ys) (fun i σ H'=>∃(kvs:List (List Key×V))(o1 o2:Option V),σ=[some (V.ref l),some (V.ref d),o1,o2]/\Lv H H' d kvs (ss.take i)) ⟨[],none,none,rfl,gd,hd,upd_same,pY _,fun p v z=>(by cases z),fun p z=>rfl,fun p p' v z=>(by cases z)⟩ (fun i σ H' _ iv=>.of (by obtain⟨_,_,_,_,lv⟩:=iv;exact lv.same _ _ hl)) ?_ ?_
 ·intro _ _;rintro i v σ H2 hi ⟨kvs,o1,o2,rfl,lv⟩;obtain⟨p,e,rfl,he',c,c',h1,h2,h3⟩:=hs.2 i v hi;have hi':=(kD.mp hi).1;have h1':=lv.same _ _ h1;simp! [tDSd,h1'];refine⟨zns lv.at_,fun t ht=>?_⟩;refine lv.app (p:=e.1) (q:=e.2) (by rw[kY];omega) (h2.same lv.same) (h3.same lv.same) ht fun l' H3 zs kvs' e1 e2 lv'=>?_
  rw[uC,he'];exact⟨zbw e1,l',rfl,zs,e1,e2,kvs',lv'⟩
 ·rintro σ H2 ⟨kvs,o1,o2,rfl,lv⟩;simp! [];rw[kX (Qp hs.1.symm)] at lv;exact k d kvs H2 hd lv
def RgQ(H:Hp)(p:Addr)(r:List Q3):Prop:=∃zs,H p=some (.lst zs)/\LR QH H zs r
theorem RgQ.same{H H':Hp}{p:Addr}{r:List Q3}(h:RgQ H p r)(g:Same H H'):RgQ H' p r:=by
 obtain⟨zs,h1,h2⟩:=h;exact⟨zs,g _ _ h1,h2.same g⟩
theorem RgQ.put{H:Hp}{p R:Addr}{r:List Q3}{ys:List V}{o:HO}(h:RgQ H p r)(ne:p≠R)(hR:H R=some (.lst ys)):RgQ (upd H R o) p r:=by
 obtain⟨zs,h1,h2⟩:=h;exact⟨zs,by rw[za6 ne];exact h1,h2.ts zbz (zc4 hR)⟩
theorem LR.imp{α:Type}{R R':Hp->Addr->α->Prop}{H H':Hp}{ys:List V}{as:List α}(h:LR R H ys as)(k:∀p a,R H p a->R' H' p a):LR R' H' ys as:=⟨h.1,fun j v z=>by
 obtain⟨p,a,e,f,r⟩:=h.2 j v z;exact⟨p,a,e,f,k _ _ r⟩⟩
theorem zlr{H H':Hp}{ys:List V}{rs:List (List Q3)}(h:LR RgQ H ys rs)(g:Same H H'):LR RgQ H' ys rs:=h.imp fun _ _ t=>t.same g
theorem zli{α:Type}{R:Hp->Addr->α->Prop}{H:Hp}{ys:List V}{fs:List α}{p:List Nat}(z0:α)(h:LR R H ys fs)(or:p.Perm (uB fs.length)):LR R H (p.map fun i=>ys.getD i .non) (p.map fun i=>fs.getD i z0):=by
 refine⟨by rw[kL,kL],fun j v hv=>?_⟩
 rw[pS] at hv
 cases e:p[j]? with
 |none=>rw[e] at hv;cases hv
 |some i=>
  rw[e] at hv;have ev:ys.getD i .non=v:=by simpa using hv
  have hi:i<fs.length:=pO.mp (or.mem_iff.mp (ko e));obtain⟨q1,f,e1,e2,e3⟩:=h.at (j:=i) (by rw[h.1];exact hi)
  rw[kR,e1] at ev;refine⟨q1,f,ev.symm,?_,e3⟩;rw[pS,e,QL,kR,e2];rfl
theorem zi5{g:Int}{a b:Q3}(ha:PQ 700 a)(hb:PQ 700 b)(ga:a.w<=g)(gb:b.w<=g)(e:kyQ g a=kyQ g b):a=b:=by
 cases h1:bq a b with
 |true=>
  have:=zn6 ha.pos hb.pos ga gb h1;rw[e,sto2.irr] at this
  cases this
 |false=>
  cases h2:bq b a with
  |true=>
   have:=zn6 hb.pos ha.pos gb ga h2;rw[e,sto2.irr] at this
   cases this
  |false=>exact znu ha hb h1 h2
theorem zjo{g:Int}:∀{a b:List Q3},(∀p,p∈a->PQ 700 p/\p.w<=g)->(∀p,p∈b->PQ 700 p/\p.w<=g)->a.map (kyQ g)=b.map (kyQ g)->a=b
 |[],[],_,_,_=>rfl
 |[],_::_,_,_,e=>by cases e
 |_::_,[],_,_,e=>by cases e
 |x::xs,y::ys,ha,hb,e=>by
  rw[ki,ki] at e
  injection e with e1 e2
  have h1:=ha x (by simp)
  have h2:=hb y (by simp)
  rw[zi5 h1.1 h2.1 h1.2 h2.2 e1,zjo (fun p hp=>ha p (kT _ hp)) (fun p hp=>hb p (kT _ hp)) e2]
def P2H(H:Hp)(p:Addr)(a:Int×Int):Prop:=H p=some (.tup [.int a.1,.int a.2])
theorem zb2:∀(H H':Hp)(p:Addr)(a:Int×Int),za9 H H'->P2H H p a->P2H H' p a:=fun _ _ _ _ g h=>g _ _ h
theorem zhm{H:Hp}{p:Addr}{qs:List V}{ks:List (Int×Int)}(h:H p=some (.lst qs))(r:LR P2H H qs ks):LsI H (.ref p) ks:=by
 refine⟨p,qs,rfl,h,r.1,fun j k hk=>?_⟩;obtain⟨b,k',e1,e2,e3⟩:=r.at (j:=j) (by rw[r.1];exact(kD.mp hk).1)
 rw[hk] at e2
 cases e2;exact⟨b,e1,e3⟩
theorem LsI.same'{H H':Hp}{v:V}{ks:List (Int×Int)}(h:LsI H v ks)(g:Same H H'):LsI H' v ks:=by
 obtain⟨q0,qs0,e0,hq0,l0,k0⟩:=h;refine⟨q0,qs0,e0,g _ _ hq0,l0,fun j k hk=>?_⟩;obtain⟨b,hb1,hb2⟩:=k0 j k hk;exact⟨b,hb1,g _ _ hb2⟩
theorem stoL:STO ltL:=⟨zpc,ltL_tr,zq1⟩
def lposP:Pos:=(lamAt zai).2
def qlP:Str:=(PyProof.Rows.envOfC "by_points" (za0 zai) 0 0 .none).qual++"<lambda>"
theorem zku{fs:List (List Q3)}(h:∀r,r∈fs->r.length<=150):fs.flatten.length<=150*fs.length:=by
 induction fs with
 |nil=>exact kJ _
 |cons r fs ih=>
  rw[Cv,kK,uD];have:=h r (by simp)
  have:=ih fun r hr=>h r (kT _ hr);omega
def OrdR(g:Int)(os:List (List Q3)):Prop:=os.Pairwise fun a b=>ltL (a.map (kyQ g)) (b.map (kyQ g))=true
def sp_byp(tb:Addr)(lp:Pos)(ql:Str):Sp:=fun vs H Q _=>∃(l:Addr)(ys:List V)(fs:List (List Q3))(A:Addr->Prop),vs=[.ref l]/\H l=some (.lst ys)/\ys.length<64/\LR (fun H1 p r=>A p/\RgQ H1 p r) H ys fs/\(∀r,r∈fs->r.length<=150)/\fs.Nodup/\zc5 H tb lp ql/\
 ∀D zs os g H',H D=none->zag tb H H'->zc5 H' tb lp ql->H' D=some (.lst zs)->LR (fun H1 p r=>A p/\RgQ H1 p r) H' zs os->os.Perm fs->(∀r,r∈fs->∀p,p∈r->PQ 700 p/\p.w<=g)->OrdR g os->Q (.ref D) H'
theorem zj1(T:Txt K mg ad fd)(hK:K.In base)(hB:base.BuiltinsAt mg (ad 31)):FnOk P w K mg base CX0 3 (ad 6) (fd 6) ["things"] (sp_byp (ad 31) lposP qlP):=by
 refine T.by_points_c.ok zdh (fun vs H Q E h=>?_) (fun A outer s H vs Q E hr h=>?_)
 ·obtain⟨l,ys,fs,A,rfl,_⟩:=h;rfl
 obtain⟨l,ys,fs,A,rfl,hl,h64,hpA,h10,nd,lt,k⟩:=h;have hp:LR RgQ H ys fs:=hpA.imp (R':=RgQ) fun _ _ t=>t.2;have zE:=@pss4;have zd:=@zbn;have zn:=@zd9;have zy:=@zci;have zr:=@zdj;have zq:=@zc3;have qpv:=@pv;have zk:=@zby;have zj:=@zaf;have zA:=@zdk;have zx:=@zgr;have zg:=@pa1;have zh:=@zbb;have ze:=@zav;have yr:=@pe_sortK;have zG:=@zfq;unfold L2.CompBody at zG;have yt:=@pi_listK;have zH:=@zez;have yb:=@zod;generalize @L2.PE=QE,@L2.PT=QT,@L2.PW=QW,@L2.PA=QA,@L2.PS=QS,@L2.PSs=QSs,@L2.PG=QG,@L2.PGs=QGs,@L2.PI=QI,@L2.PO=QO,@L2.PIf=QIf at zE zd zn zy zr zq qpv zk zj zA zx zg zh ze yr zG yt zH yb⊢;refine⟨_,
  (zE
   (zd (i:=1) zdh.nd rfl (pB rfl) (zn zy))
   (zr pz rfl (zq (qpv 0)) (zk (i:=2) zdh.nd rfl (pB rfl)) (zj (zA (zx pD jN jO zgj (qpv 1) (zg (qpv 2) za1)))))
   (zd (i:=3) zdh.nd rfl (jz rfl) (zh (zil T) (hr.mono (by omega)) rfl T.order_keys.mg T.order_keys.fn.kp T.order_keys.bn .nil pass0 (zg (qpv 1) za1)))
   (ze (yr (P:=ad 31) (c0:=ad 30) (x:="thing") (y:="keys") (c:=s.heap.objs.size+1) (i0:=3) (zmq (hu80 hr)) hr rfl T.b_sorted (zg (qpv 0) za1) ⟨rfl,rfl,rfl,rfl,rfl,by decide+kernel,by decide+kernel⟩ rfl rfl rfl rfl rfl rfl (PySem.W.codeHd_of_K hK T.by_points_c.hd) hB (fun _ _ _ _=>rfl) (by intro fa2 c2 A2 s3 H3 hu2;exact(zG (dsc:=(lamAt zai).1) (N:=["thing","keys"]) (own:=["P"]) (ix:=[1]) rfl rfl rfl ⟨rfl,by decide+kernel,by decide+kernel,by decide+kernel,by decide+kernel⟩ (yt (K':=K) rfl (qpv 0)) (fun cl C fp s2 H2 xe=>⟨(zk (i:=0) (show UG (["P","keys"]:List Str) from by decide+kernel) rfl (pB rfl)),zH,(yb (by show A2.units+3+1<cLine;omega) (qpv 1) (qpv 0) (fun _ _=>rfl))⟩))))))
  ,?_⟩
 clear zE zd zn zy zr zq qpv zk zj zA zx zg zh ze yr zG yt zH yb QE QT QW QA QS QSs QG QGs QI QO QIf
 dsimp! [L2.start]
 simp! [];intro D0 hD0;have g0:=za2 hD0 (HO.lst []);refine zbs ?_;simp! [zcu];refine⟨⟨_,.of (g0 _ _ hl)⟩,?_⟩;have lenF:fs.length=ys.length:=hp.1.symm;refine zb0 (K:=K) (a:=l) (xs:=ys) (fun i σ H'=>Same H H'/\∃(zs:List V)(o:Option V),σ=[some (.ref l),some (.ref D0),o,none]/\H' D0=some (.lst zs)/\LR QH H' zs (fs.take i).flatten) ⟨g0,[],none,rfl,upd_same,by rw[uz];exact .nil⟩ (fun i σ H' _ iv=>.of (iv.1 _ _ hl)) ?_ ?_
 ·intro _ _;rintro i v σ H1 hi ⟨g1,zs,o,rfl,hD1,hz⟩;obtain⟨p,f,rfl,hf,us,hq,hu⟩:=hp.2 i v hi;have hq1:=g1 _ _ hq;have hi':=(kD.mp hi).1;have lf:=h10 f (ko hf);have lz:zs.length<=9700:=by
   rw[hz.1];have:=zku (fs:=fs.take i) fun r hr=>h10 r (Qw hr);rw[kY] at this;omega
  simp! [zif,hq1];refine⟨zbw hD1,zs,hD1,uv (small10k (by have:=hu.1;omega)),zbh g1 hD0,?_⟩
  rw[uC,hf];show LR QH _ _ (fs.take i++[f]).flatten;rw[List.flatten_append,Cv,List.flatten_nil,uT];exact(hz.app (hu.same g1)).ts zbz (zc4 hD1)
 ·rintro σ H1 ⟨g1,zs,o,rfl,hD1,hz⟩;rw[kX (by rw[lenF];exact kJ _)] at hz
  simp! [];refine⟨D0,zs,fs.flatten,rfl,hD1,by rw[hz.1];have:=zku h10;omega,hz,fun d kvs g qs H2 g2 hd2 gp gm ky _ _ _ _=>?_⟩
  have g12:=g1.trans g2;simp! [tSortK];refine⟨ys,g12 _ _ hl,h64,lt.same g12,fun c' H3 st3 lt3 hc3=>?_⟩;have lt2:=lt.same g12;have hl3:=st3.lst lt2 (g12 _ _ hl);have hd3:H3 d=some (.dT kvs):=st3 _ _ (lt2.ne hd2 fun _ z=>nomatch z) hd2;have ts3:za9 H2 H3:=fun b xs q=>st3.tup lt2 q;have ky3:=ky.ts ts3;have hp3:LR RgQ H3 ys fs:=(zlr hp g12).imp fun p r⟨us,h1,h2⟩=>⟨us,st3.lst lt2 h1,h2.ts zbz ts3⟩;have hpA3:LR (fun H1 p r=>A p/\RgQ H1 p r) H3 ys fs:=hpA.imp fun p r⟨x,t⟩=>⟨x,(by obtain⟨us,h1,h2⟩:=t.same g12;exact⟨us,st3.lst lt2 h1,h2.ts zbz ts3⟩)⟩
  refine⟨fun i ks H'=>Same H3 H'/\ks.length=i/\∀j,j<i->LsI H' (ks.getD j .non) ((fs.getD j []).map (kyQ g)),⟨⟨.refl _,rfl,fun j hj=>by omega⟩,fun i ks H' q=>q.1 _ _ hc3,fun i ks H' q=>q.2.1,fun i ks H4 v hv q=>?_,fun ks H4 q=>?_⟩⟩
  ·obtain⟨g4,lk,q⟩:=q;obtain⟨p,f,rfl,hf,hpf⟩:=hp3.2 i v hv;obtain⟨us,hq,hu⟩:=hpf.same g4;have hd4:=g4 _ _ hd3;have lf:=h10 f (ko hf);refine zcn ?_;simp! [zcu];refine⟨⟨_,.of hq⟩,fun D hD=>?_⟩;refine zce (xs:=us) (zh0 P2H (f.map (kyQ g)) H4 D) (zdd hD) (fun n qs H' z=>.of (z.1 _ _ hq)) ?_ ?_
   ·rintro n qs H5 x hn hx iv;obtain⟨g5,hD5,lq,hqs⟩:=id iv;obtain⟨a,c,rfl,hc',hc⟩:=hu.2 n x hx;obtain⟨b,e1,h1⟩:=ky3 c (BA.mpr ⟨f,ko hf,ko hc'⟩);simp! [tDGet];refine⟨_,by rw[←e1];exact .t (k:=kQ c) (g5 _ _ hd4) (g5 _ _ hc.1),?_⟩
    exact zda zb2 hD (by have:=hu.1;omega) iv hn (by rw[pS,hc'];rfl) (.refl _) (g5 _ _ (g4 _ _ h1))
   ·rintro qs H5 ⟨g5,hD5,lq,hqs⟩;rw[kX (by rw[kL,hu.1];exact kJ _)] at hqs
    refine⟨g4.trans g5,by rw[kK,lk];rfl,fun j hj=>?_⟩
    by_cases e:j<i
    ·have ej:(ks++[V.ref D]).getD j .non=ks.getD j .non:=by
      rw[kR,po (by omega),←kR]
     rw[ej];exact LsI.same' (q j e) g5
    ·have ej:j=i:=by omega
     subst ej;have e3:(ks++[V.ref D]).getD j .non=.ref D:=by
      rw[kR,pd (by omega),lk,jp]
      rfl
     have e4:fs.getD j []=f:=by rw[kR,hf];rfl
     rw[e3,e4];exact zhm hD5 hqs
  ·obtain⟨g4,lk,q⟩:=q;refine⟨_,⟨fun i=>(fs.getD i []).map (kyQ g),fun i hi=>q i (by omega),rfl⟩,fun D pp hD or ep=>?_⟩
   have gw:∀r,r∈fs->∀p,p∈r->PQ 700 p/\p.w<=g:=fun r hr p hp'=>⟨lr_pq hz (BA.mpr ⟨r,hr,hp'⟩),gm _ (BA.mpr ⟨r,hr,hp'⟩)⟩;rw[←lenF] at or ep;have ndk:(fs.map fun r=>r.map (kyQ g)).Nodup:=by
    rw[pM,uc];rw[pM] at nd;exact nd.imp_of_mem fun{a b} ha hb ne e=>ne (zjo (gw a ha) (gw b hb) e)
   obtain⟨pm,pw⟩:=zjb stoL (fun r:List Q3=>r.map (kyQ g)) [] ndk or ep;have g5:=za2 hD (HO.lst (pp.toList.map fun i=>ys.getD i .non));refine k D _ _ g _ (g12.free (?_:H2 D=none)) (fun b o nb e=>g5 _ _ (g4 _ _ (st3 _ _ nb (g12 _ _ e)))) ((lt3.same g4).same g5) upd_same ((zli [] hpA3 or).imp fun p r t=>⟨t.1,t.2.same (g4.trans g5)⟩) pm gw pw;have h3:=g4.free hD
   cases e:H2 D with
   |none=>rfl
   |some o=>
    by_cases nb:D=(ad 31)
    ·obtain⟨tp,e3,_⟩:=lt3;rw[←nb,h3] at e3
     cases e3
    ·rw[st3 _ _ nb e] at h3
     cases h3
theorem zep(T:Txt K mg ad fd):FnOk P w K mg base CX0 1 (ad 14) (fd 14) ["_law_one","_law_other"] zhk:=by
 refine T.law_divisor.fn.ok zer (fun vs H Q E h=>?_) (fun cdv A outer s H vs Q E hr h=>?_)
 ·obtain⟨a,b,rfl,_⟩:=h;rfl
 obtain⟨a,b,rfl,q⟩:=h;have zF:=@pss2;have zS:=@zg5;have zv:=@zcs;have qpv:=@pv;have za:=@zbr;have zj:=@zaf;have yg:=@ps_par;have zf:=@pa2;have zb:=@zds;have ze:=@zav;have zC:=@zd3;have zg:=@pa1;generalize @L2.PE=QE,@L2.PT=QT,@L2.PW=QW,@L2.PA=QA,@L2.PS=QS,@L2.PSs=QSs,@L2.PG=QG,@L2.PGs=QGs,@L2.PI=QI,@L2.PO=QO,@L2.PIf=QIf at zF zS zv qpv za zj yg zf zb ze zC zg⊢;refine⟨_,
  (zF
   (zS pz (zv op_ne (qpv 1) za (nomark _)) (zj (yg (i:=0) (j:=1) rfl zer.nd rfl rfl (by decide) rfl rfl (zf (qpv 1) za1 (zb zk5 (qpv 0) (qpv 1)) zaa) rfl)))
   (ze (zC call_abs rfl T.b_abs bt_abs (zg (qpv 0) za1))))
  ,?_⟩
 clear zF zS zv qpv za zj yg zf zb ze zC zg QE QT QW QA QS QSs QG QGs QI QO QIf
 dsimp! [L2.start]
 simp! [];refine while_by (iv_ldiv a b H) (fun σ _=>(getI σ 1).natAbs) ⟨rfl,_,_,rfl,rfl⟩ ?_
  (fun σ H Q Q' m h=>by obtain⟨v,e,s,k,e2,q⟩:=h;exact⟨v,e,s,k,e2,m _ _ q⟩)
 rintro σ H' ⟨rfl,x,y,rfl,e⟩;simp! [];refine ite2 (fun c=>?_) (fun c=>?_)
 ·have hy:y≠0:=by simpa using c
  exact⟨hy,⟨rfl,_,_,rfl,(G_fmod x y).trans e⟩,zmi hy⟩
 ·have hy:y=0:=by simpa using c
  subst hy;rw[G_end,e];exact q
theorem zo4{xs:List Int}{j:Int}(h0:0<=j)(h1:j<xs.length):∃x:Int,atI (xs.map V.int) j=some (.int x):=by
 have hk:j.toNat<xs.length:=by omega
 refine⟨xs[j.toNat],?_⟩;have z:atI (xs.map V.int) ((j.toNat:Nat):Int)=some (.int xs[j.toNat]):=zdu (by rw[pS,kI hk];rfl)
 rw[show((j.toNat:Nat):Int)=j by omega] at z
 exact z
def sp_cellN(K:kM):Sp:=fun vs H Q _=>∃(a:Addr)(ns:List Int)(k:Int),vs=[.ref a,.int k]/\SqL K H a (ns.map V.int)/\0<=k/\k<=1000/\∀v:Int,Q (.int v) H
theorem zbp(T:Txt K mg ad fd):FnOk P w K mg base CX0 1 (ad 13) (fd 13) ["_law_script","_law_k"] (sp_cellN K):=by
 refine T.law_cell.fn.ok zet (fun vs H Q E h=>?_) (fun cdv A outer s H vs Q E hr h=>?_)
 ·obtain⟨a,ns,k,rfl,_⟩:=h;rfl
 obtain⟨a,ns,k,rfl,hS,k0,k1,q⟩:=h;have zE:=@pss4;have zo:=@zen;have zv:=@zcs;have qpv:=@pv;have zC:=@zd3;have zg:=@pa1;have zj:=@zaf;have ze:=@zav;have zc:=@ze5;have zp:=@zbx;have zd:=@zbn;have zb:=@zds;have za:=@zbr;generalize @L2.PE=QE,@L2.PT=QT,@L2.PW=QW,@L2.PA=QA,@L2.PS=QS,@L2.PSs=QSs,@L2.PG=QG,@L2.PGs=QGs,@L2.PI=QI,@L2.PO=QO,@L2.PIf=QIf at zE zo zv qpv zC zg zj ze zc zp zd zb za⊢;refine⟨_,
  (zE
   (zo (zv ziw (qpv 1) (zC zdi rfl T.b_len zh6 (zg (qpv 0) za1)) (nomark _)) (zj (ze (zc zk8 (qpv 0) (qpv 1) (fun _ _=>rfl)))) zp)
   (zd (i:=2) zet.nd rfl (pB rfl) (zb zbi (zb zdq (qpv 1) za) za))
   (zo (zv zpz (zC zdi rfl T.b_len zh6 (zg (qpv 0) za1)) za (nomark _)) (zj (zd (i:=2) zet.nd rfl (pB rfl) (zb zco (zb zbi (zb zdq (zc zk8 (qpv 0) (zb zk5 (zb zdq (qpv 1) za) (zC zdi rfl T.b_len zh6 (zg (qpv 0) za1))) (fun _ _=>rfl)) za) (zb zdq (qpv 1) za)) za))) zp)
   (ze (zb zco (zb zas (qpv 2) (qpv 2)) za)))
  ,?_⟩
 clear zE zo zv qpv zC zg zj ze zc zp zd zb za QE QT QW QA QS QSs QG QGs QI QO QIf
 dsimp! [L2.start]
 simp only[tSeq,tNext,tRet,tRetN,tIfS,tAsg,gName,tDrop,tVar,tC,tOp,tUn,rI,rI0,rU,rEq,rNe,tTest,tB,tNot,tAnd,tOr,tAndV,tOrV,tNotV,tIf,tCB,tCall,tNil,zbo,tTup,tLst,gTup,gCons,gNil,L2.start,rIsi,rIxT,rIxL,cx_K,tyN_non,tyN_bl,tyN_int,tyN_str,isi_ii,isi_ib,isi_it,isi_il,isi_bi,isi_bb,isi_tt,isi_ni,isi_si,isi_ti,isi_li,isi_di,isi_ll,scal_ii,scal_bb,sz0,sz1,sz2,sz3,sz4,ki,Qe,uD,jR,AF,Uf,UY,uT,UU,vL,List.set_cons_zero,List.set_cons_succ,vn,V.int.injEq,V.bl.injEq,V.ref.injEq,V.ty.injEq,vc,and_true,true_and,exists_eq_left,exists_eq_left',exists_and_left,exists_and_right,exists_eq,exists_eq',and_assoc,EC,ED,vf,Dr,kz,if_true,if_false,reduceIte,Cu,decide_true,decide_false];have e32:(2:Nat)^32=4294967296:=rfl;refine⟨_,.inl hS,ite2 (fun c=>?_) (fun c=>⟨.inr ⟨by decide,by decide⟩,_,.inl hS,ite2 (fun c2=>?_) (fun c2=>?_)⟩)⟩
 ·have c:=of_decide_eq_true c;rw[kL] at c;obtain⟨x,ax⟩:=zo4 (xs:=ns) k0 c;exact⟨_,hS,_,ax,q x⟩
 ·have c2:=of_decide_eq_true c2;have l0:0<(ns.map V.int).length:=by omega
  have f0:=Int.fmod_nonneg_of_pos (k*7) (show(0:Int)<((ns.map V.int).length:Int) by omega)
  have f1:=Int.fmod_lt_of_pos (k*7) (show(0:Int)<((ns.map V.int).length:Int) by omega)
  refine⟨.inr ⟨by decide,by decide⟩,_,.inl hS,by omega,_,hS,?_⟩
  generalize (k*7).fmod ((ns.map V.int).length:Int)=m at*;rw[kL] at f1;obtain⟨x,ax⟩:=zo4 (xs:=ns) f0 f1;refine⟨_,ax,x,rfl,.inr ⟨by decide,by decide⟩,.inr ⟨by decide,by decide⟩,by decide,?_,by decide,q _⟩
  have v0:=Bd (x*48271+k*7919) (show(2147483647:Int)≠0 by decide)
  have v1:=AT (x*48271+k*7919) (show(0:Int)<2147483647 by decide)
  generalize (x*48271+k*7919)%2147483647=v at*;exact cbig (m:=32) (n:=32) (by omega) (by omega)
 ·exact⟨cbig (m:=32) (n:=32) (by omega) (by omega),by decide,q _⟩
def ptQ(x y w:Int):Q3:=⟨x.fdiv (G (G x y) w),y.fdiv (G (G x y) w),w.fdiv (G (G x y) w)⟩
def sp_pt:Sp:=fun vs H Q _=>∃x y w:Int,vs=[.int x,.int y,.int w]/\Bd3 60 x y w/\0<w/\∀p H',Same H H'->QH H' p (ptQ x y w)->Q (.ref p) H'
theorem ptQ_pq{x y w:Int}(b:Bd3 60 x y w)(hw:0<w):PQ 60 (ptQ x y w):=g3_pt hw b.1 b.2.1 b.2.2
theorem zef(T:Txt K mg ad fd):FnOk P w K mg base CX0 2 (ad 15) (fd 15) ["_law_east","_law_north","_law_share"] sp_pt:=by
 refine T.law_point.fn.ok zg0 (fun vs H Q E h=>?_) (fun cdv A outer s H vs Q E hr h=>?_)
 ·obtain⟨x,y,w,rfl,_⟩:=h;rfl
 obtain⟨x,y,w,rfl,b,hw,k⟩:=h;have zF:=@pss2;have zd:=@zbn;have zh:=@zbb;have zf:=@pa2;have qpv:=@pv;have ze:=@zav;have zm:=@zdc;have zu:=@pa3;have zb:=@zds;generalize @L2.PE=QE,@L2.PT=QT,@L2.PW=QW,@L2.PA=QA,@L2.PS=QS,@L2.PSs=QSs,@L2.PG=QG,@L2.PGs=QGs,@L2.PI=QI,@L2.PO=QO,@L2.PIf=QIf at zF zd zh zf qpv ze zm zu zb⊢;refine⟨_,
  (zF
   (zd (i:=3) zg0.nd rfl (pB rfl) (zh (zep T) (hr.mono (by decide)) rfl T.law_divisor.mg T.law_divisor.fn.kp T.law_divisor.bn .nil pass0 (zf (zh (zep T) (hr.mono (by decide)) rfl T.law_divisor.mg T.law_divisor.fn.kp T.law_divisor.bn .nil pass0 (zf (qpv 0) za1 (qpv 1) za1)) zbq (qpv 2) za1)))
   (ze (zm (zu (zb zdx (qpv 0) (qpv 3)) zaa (zb zdx (qpv 1) (qpv 3)) zaa (zb zdx (qpv 2) (qpv 3)) zaa))))
  ,?_⟩
 clear zF zd zh zf qpv ze zm zu zb QE QT QW QA QS QSs QG QGs QI QO QIf
 dsimp! [L2.start]
 simp! [zhk];have lt:=zdl (g3_lt (x:=x) (y:=y) hw b.2.2) (show 60<=8000 by decide)
 exact⟨cdivb (g3_ne hw) lt,cdivb (g3_ne hw) lt,cdivb (g3_ne hw) lt,fun p hp=>k p _ (za2 hp _) ⟨upd_same,Pt.mono (ptQ_pq b hw) (by decide)⟩⟩
structure Fr where
 (p q r s t u w:Int)
def sm(x:Int):Prop:= -100<=x/\x<=100
def bg(x:Int):Prop:= -2000000<=x/\x<=2000000
def FrB(f:Fr):Prop:=sm f.p/\sm f.q/\sm f.r/\sm f.s/\bg f.t/\bg f.u/\1<=f.w/\f.w<=2000000/\f.q*f.r<f.p*f.s
def FmH(H:Hp)(l:Addr)(f:Fr):Prop:=∃xs,H l=some (.lst xs)/\atI xs 0=some (.int f.p)/\atI xs 1=some (.int f.q)/\atI xs 2=some (.int f.r)/\atI xs 3=some (.int f.s)/\atI xs 4=some (.int f.t)/\atI xs 5=some (.int f.u)/\atI xs 6=some (.int f.w)/\FrB f
theorem FmH.same{H H':Hp}{l:Addr}{f:Fr}(h:FmH H l f)(g:Same H H'):FmH H' l f:=by
 obtain⟨xs,h1,h2⟩:=h;exact⟨xs,g _ _ h1,h2⟩
theorem fr_mul{q r:Int}(q0: -3<=q)(q1:q<=3)(r0: -3<=r)(r1:r<=3): -9<=q*r/\q*r<=9:=by
 rcases(by omega:q= -3∨q= -2∨q= -1∨q=0∨q=1∨q=2∨q=3) with e|e|e|e|e|e|e<;>subst e<;>omega
theorem fr_div{m p:Int}(h0: -9<=m)(h1:m<=9)(p1:1<=p)(p4:p<=4): -9<=m.fdiv p/\m.fdiv p<=9:=by
 rw[QX _ (by omega)]
 rcases(by omega:p=1∨p=2∨p=3∨p=4) with e|e|e|e<;>subst e<;>omega
theorem fr_det{m p c:Int}(p1:1<=p)(c0:0<=c):m<p*(m.fdiv p+1+c):=by
 rw[QX _ (by omega)]
 have h1:=AT m (show 0<p by omega)
 have h2:=Int.mul_ediv_add_emod m p;have h3:0<=p*c:=Dw (by omega) c0
 have h4:p*(m/p+1+c)=p*(m/p)+p+p*c:=by grind
 omega
def sp_frame(K:kM):Sp:=fun vs H Q _=>∃(a:Addr)(ns:List Int),vs=[.ref a]/\SqL K H a (ns.map V.int)/\∀D f H',H D=none->Same H H'->FmH H' D f->Q (.ref D) H'
theorem zio(T:Txt K mg ad fd):FnOk P w K mg base CX0 2 (ad 21) (fd 21) ["_law_script"] (sp_frame K):=by
 refine T.law_frame.fn.ok zb9 (fun vs H Q E h=>?_) (fun cdv A outer s H vs Q E hr h=>?_)
 ·obtain⟨a,ns,rfl,_⟩:=h;rfl
 obtain⟨a,ns,rfl,hS,k⟩:=h;have yu:=@pss8;have zd:=@zbn;have zh:=@zbb;have zf:=@pa2;have qpv:=@pv;have za:=@zbr;have zb:=@zds;have zo:=@zen;have zv:=@zcs;have zj:=@zaf;have zp:=@zbx;have ze:=@zav;have zn:=@zd9;have yv:=@pa7;generalize @L2.PE=QE,@L2.PT=QT,@L2.PW=QW,@L2.PA=QA,@L2.PS=QS,@L2.PSs=QSs,@L2.PG=QG,@L2.PGs=QGs,@L2.PI=QI,@L2.PO=QO,@L2.PIf=QIf at yu zd zh zf qpv za zb zo zv zj zp ze zn yv⊢;refine⟨_,
  (yu
   (zd (i:=1) zb9.nd rfl (pB rfl) (zh (zbp T) (hr.mono (by decide)) rfl T.law_cell.mg T.law_cell.fn.kp T.law_cell.bn .nil pass0 (zf (qpv 0) za1 za zad)))
   (zd (i:=2) zb9.nd rfl (pB rfl) (zb zbi za (zb zco (qpv 1) za)))
   (zd (i:=3) zb9.nd rfl (pB rfl) (zb zcx (zb zco (zb zf1 (qpv 1) za) za) za))
   (zd (i:=4) zb9.nd rfl (pB rfl) (zb zcx (zb zco (zb zf1 (qpv 1) za) za) za))
   (zd (i:=5) zb9.nd rfl (pB rfl) (zh (zbp T) (hr.mono (by decide)) rfl T.law_cell.mg T.law_cell.fn.kp T.law_cell.bn .nil pass0 (zf (qpv 0) za1 za zad)))
   (zd (i:=6) zb9.nd rfl (pB rfl) (zb zbi za (zb zco (zh (zbp T) (hr.mono (by decide)) rfl T.law_cell.mg T.law_cell.fn.kp T.law_cell.bn .nil pass0 (zf (qpv 0) za1 za zad)) za)))
   (zo (zv op_eq (zb zco (zb zf1 (zh (zbp T) (hr.mono (by decide)) rfl T.law_cell.mg T.law_cell.fn.kp T.law_cell.bn .nil pass0 (zf (qpv 0) za1 za zad)) za) za) za (nomark _)) (zj (zd (i:=6) zb9.nd rfl (pB rfl) (zb zbi za (zb zco (zh (zbp T) (hr.mono (by decide)) rfl T.law_cell.mg T.law_cell.fn.kp T.law_cell.bn .nil pass0 (zf (qpv 0) za1 za zad)) za)))) zp)
   (ze (zn (yv (qpv 2) za1 (qpv 3) za1 (qpv 4) za1 (zb zbi (zb zbi (zb zdx (zb zas (qpv 3) (qpv 4)) (qpv 2)) za) (zb zco (zb zf1 (qpv 1) za) za)) zaa (zb zcx (zb zco (qpv 5) za) za) zaa (zb zcx (zb zco (zb zf1 (qpv 5) za) za) za) zaa (qpv 6) za1))))
  ,?_⟩
 clear yu zd zh zf qpv za zb zo zv zj zp ze zn yv QE QT QW QA QS QSs QG QGs QI QO QIf
 dsimp! [L2.start]
 simp! [];have e8:(2:Nat)^8=256:=rfl;refine⟨a,ns,2,rfl,hS,by decide,by decide,fun v=>?_⟩
 have p1:1<=1+v%4/\1+v%4<=4:=by omega
 have q1: -3<=v/4%7-3/\v/4%7-3<=3:=by omega
 have r1: -3<=v/28%7-3/\v/28%7-3<=3:=by omega
 have c1:CBig (v/4%7-3) (v/28%7-3):=cbig (m:=8) (n:=8) (by omega) (by omega)
 have c2:CDivB ((v/4%7-3)*(v/28%7-3)) (1+v%4):=cdivb (by omega) (n:=8) (by omega)
 have s1:=fr_mul q1.1 q1.2 r1.1 r1.2;have s2:=fr_div s1.1 s1.2 p1.1 p1.2;have fin:∀(v2 w:Int)(D:Addr),H D=none->1<=w->w<=2000000->Q (.ref D) (upd H D (HO.lst [V.int (1+v%4),V.int (v/4%7-3),V.int (v/28%7-3),V.int (((v/4%7-3)*(v/28%7-3)).fdiv (1+v%4)+1+v/196%3),V.int (v2%2000003-1000001),V.int (v2/7%31-15),V.int w])):=fun v2 w D hD w1 w2=>
  k D ⟨_,_,_,_,_,_,w⟩ _ hD (za2 hD _) ⟨_,upd_same,rfl,rfl,rfl,rfl,rfl,rfl,rfl,⟨by show _<=1+v%4;omega,by show 1+v%4<=_;omega⟩,⟨by show _<=v/4%7-3;omega,by show v/4%7-3<=_;omega⟩,⟨by show _<=v/28%7-3;omega,by show v/28%7-3<=_;omega⟩,⟨by show _<=((v/4%7-3)*(v/28%7-3)).fdiv (1+v%4)+1+v/196%3;omega,by show((v/4%7-3)*(v/28%7-3)).fdiv (1+v%4)+1+v/196%3<=_;omega⟩,⟨by show _<=v2%2000003-1000001;omega,by show v2%2000003-1000001<=_;omega⟩,⟨by show _<=v2/7%31-15;omega,by show v2/7%31-15<=_;omega⟩,w1,w2,fr_det p1.1 (by omega)⟩
 refine⟨v,rfl,by decide,v,rfl,⟨by decide,by decide⟩,by decide,v,rfl,⟨by decide,by decide⟩,by decide,a,ns,3,rfl,hS,by decide,by decide,fun v2=>?_⟩
 refine⟨a,ns,4,rfl,hS,by decide,by decide,fun v3=>⟨v3,rfl,by decide,a,ns,4,rfl,hS,by decide,by decide,fun v4=>⟨v4,rfl,⟨by decide,by decide⟩,by decide,ite2 (fun _=>?_) (fun _=>?_)⟩⟩⟩
 ·exact⟨a,ns,4,rfl,hS,by decide,by decide,fun v5=>⟨v5,rfl,by decide,c1,c2,v,rfl,⟨by decide,by decide⟩,by decide,v2,rfl,by decide,v2,rfl,⟨by decide,by decide⟩,by decide,by decide,fun D hD=>fin v2 _ D hD (by omega) (by omega)⟩⟩
 ·exact⟨c1,c2,v,rfl,⟨by decide,by decide⟩,by decide,v2,rfl,by decide,v2,rfl,⟨by decide,by decide⟩,by decide,by decide,fun D hD=>fin v2 _ D hD (by omega) (by omega)⟩
def mv(f:Fr)(a:Int×Int):Int×Int:=(f.p*a.1+f.q*a.2+f.t,f.r*a.1+f.s*a.2+f.u)
def Bx(a:Int×Int):Prop:=0<=a.1/\a.1<=8/\0<=a.2/\a.2<=6
theorem zlp{a b:Int}(h:sm a)(b0: -300<=b)(b1:b<=300):(a*b).natAbs<=30000:=by
 obtain⟨h0,h1⟩:=h;rw[vM];exact Nat.mul_le_mul (show a.natAbs<=100 by omega) (show b.natAbs<=300 by omega)
theorem mv_bd{f:Fr}{x:Int×Int}(fb:FrB f)(bx:Bx x):Bd3 60 (mv f x).1 (mv f x).2 f.w:=by
 obtain⟨f1,f2,f3,f4,⟨t1,t2⟩,⟨u1,u2⟩,w1,w2,_⟩:=fb;obtain⟨x1,x2,x3,x4⟩:=bx;have m1:=zlp f1 (show-300<=x.1 by omega) (by omega)
 have m2:=zlp f2 (show-300<=x.2 by omega) (by omega)
 have m3:=zlp f3 (show-300<=x.1 by omega) (by omega)
 have m4:=zlp f4 (show-300<=x.2 by omega) (by omega)
 have e:(2:Nat)^60=1152921504606846976:=rfl;refine⟨?_,?_,by omega⟩
 ·show(f.p*x.1+f.q*x.2+f.t).natAbs<_
  omega
 ·show(f.r*x.1+f.s*x.2+f.u).natAbs<_
  omega
def sp_moved:Sp:=fun vs H Q _=>∃(a l:Addr)(x:Int×Int)(f:Fr),vs=[.ref a,.ref l]/\P2H H a x/\FmH H l f/\Bx x/\∀p H',Same H H'->P2H H' p (mv f x)->Q (.ref p) H'
theorem zcp(T:Txt K mg ad fd):FnOk P w K mg base CX0 1 (ad 22) (fd 22) ["_law_place","_law_frame_here"] sp_moved:=by
 refine T.law_moved.fn.ok zfx (fun vs H Q E h=>?_) (fun cdv A outer s H vs Q E hr h=>?_)
 ·obtain⟨a,l,x,f,rfl,_⟩:=h;rfl
 obtain⟨a,l,x,f,rfl,hx,⟨xs,hl,a0,a1,a2,a3,a4,a5,a6,fb⟩,bx,k⟩:=h;unfold P2H at hx;have zF:=@pss2;have zd:=@zbn;have zb:=@zds;have zc:=@ze5;have qpv:=@pv;have za:=@zbr;have ze:=@zav;have zm:=@zdc;have zf:=@pa2;generalize @L2.PE=QE,@L2.PT=QT,@L2.PW=QW,@L2.PA=QA,@L2.PS=QS,@L2.PSs=QSs,@L2.PG=QG,@L2.PGs=QGs,@L2.PI=QI,@L2.PO=QO,@L2.PIf=QIf at zF zd zb zc qpv za ze zm zf⊢;refine⟨_,
  (zF
   (zd (i:=2) zfx.nd rfl (pB rfl) (zb zbi (zb zbi (zb zas (zc zaz (qpv 1) za (fun _ _=>rfl)) (zc za3 (qpv 0) za (fun _ _=>rfl))) (zb zas (zc zaz (qpv 1) za (fun _ _=>rfl)) (zc za3 (qpv 0) za (fun _ _=>rfl)))) (zc zaz (qpv 1) za (fun _ _=>rfl))))
   (ze (zm (zf (qpv 2) za1 (zb zbi (zb zbi (zb zas (zc zaz (qpv 1) za (fun _ _=>rfl)) (zc za3 (qpv 0) za (fun _ _=>rfl))) (zb zas (zc zaz (qpv 1) za (fun _ _=>rfl)) (zc za3 (qpv 0) za (fun _ _=>rfl)))) (zc zaz (qpv 1) za (fun _ _=>rfl))) zaa))))
  ,?_⟩
 clear zF zd zb zc qpv za ze zm zf QE QT QW QA QS QSs QG QGs QI QO QIf
 dsimp! [L2.start]
 simp! [hx,hl,a0,a1,a2,a3,a4,a5];obtain⟨⟨f1,f2⟩,⟨f3,f4⟩,⟨f5,f6⟩,⟨f7,f8⟩,_⟩:=fb;obtain⟨x1,x2,x3,x4⟩:=bx;have e8:(2:Nat)^10=1024:=rfl;exact⟨cbig (m:=10) (n:=10) (by omega) (by omega),cbig (m:=10) (n:=10) (by omega) (by omega),cbig (m:=10) (n:=10) (by omega) (by omega),cbig (m:=10) (n:=10) (by omega) (by omega),fun p hp=>k p _ (za2 hp _) upd_same⟩
def ori(a b c:Int×Int):Int:=(b.1-a.1)*(c.2-a.2)-(b.2-a.2)*(c.1-a.1)
def fd2(f:Fr):Int:=f.p*f.s-f.q*f.r
def ptP(w:Int)(k:Int×Int):Q3:=ptQ k.1 k.2 w
def PF(f:Fr)(x:Int×Int):Q3:=ptP f.w (mv f x)
theorem zpg{w:Int}(hw:0<w)(k:Int×Int):∃g:Int,0<g/\(ptP w k).x*g=k.1/\(ptP w k).y*g=k.2/\(ptP w k).w*g=w:=zjt hw ⟨k.1,k.2⟩
theorem pt_inj{w:Int}(hw:0<w){a b:Int×Int}(e:ptP w a=ptP w b):a=b:=by
 obtain⟨e1,e2⟩:=lw_inj (a:=⟨a.1,a.2⟩) (b:=⟨b.1,b.2⟩) hw (congrArg Q3.x e) (congrArg Q3.y e) (congrArg Q3.w e);exact ue e1 e2
theorem lt2_iff{a b:Int×Int}:lt2 a b=true↔(a.1<b.1∨(a.1=b.1/\a.2<b.2)):=by
 unfold lt2 lexB
 by_cases c:a.1=b.1
 ·rw[if_pos c,decide_eq_true_iff];omega
 ·rw[if_neg c,decide_eq_true_iff];omega
theorem bq_pt{w:Int}(hw:0<w){a b:Int×Int}:bq (ptP w a) (ptP w b)=true↔lt2 a b=true:=by
 rw[lt2_iff];exact bef_lw hw ⟨a.1,a.2⟩ ⟨b.1,b.2⟩
theorem zkv{f:Fr}(hd:0<fd2 f){a b:Int×Int}(e:mv f a=mv f b):a=b:=by
 unfold mv at e
 injection e with e1 e2
 unfold fd2 at hd;have k1:(f.p*f.s-f.q*f.r)*(a.1-b.1)=0:=by grind
 have k2:(f.p*f.s-f.q*f.r)*(a.2-b.2)=0:=by grind
 have z1:=(Dd.mp k1).resolve_left (by omega)
 have z2:=(Dd.mp k2).resolve_left (by omega)
 exact ue (by omega) (by omega)
theorem ze8{f:Fr}(hw:0<f.w)(hd:0<fd2 f){a b:Int×Int}(e:PF f a=PF f b):a=b:=zkv hd (pt_inj hw e)
theorem zl4{y z:Int}(h1:0<y↔0<z)(h2:y<0↔z<0):sgn y=sgn z:=by
 unfold sgn
 by_cases c:0<y
 ·rw[if_pos c,if_pos (h1.mp c)]
 ·rw[if_neg c,if_neg (fun z=>c (h1.mpr z))]
  by_cases d:y<0
  ·rw[if_pos d,if_pos (h2.mp d)]
  ·rw[if_neg d,if_neg (fun z=>d (h2.mpr z))]
theorem zng{f:Fr}(hw:0<f.w)(hd:0<fd2 f)(a b c:Int×Int):sgD (PF f a) (PF f b) (PF f c)=sgn (ori a b c):=by
 obtain⟨g1,h1,a1,a2,a3⟩:=zpg hw (mv f a);obtain⟨g2,h2,b1,b2,b3⟩:=zpg hw (mv f b);obtain⟨g3,h3,c1,c2,c3⟩:=zpg hw (mv f c);have d:=zmv g1 g2 g3 (PF f a).x (PF f a).y (PF f a).w (PF f b).x (PF f b).y (PF f b).w (PF f c).x (PF f c).y (PF f c).w;unfold PF at d;rw[a1,a2,a3,b1,b2,b3,c1,c2,c3] at d;have e:det3 (mv f a).1 (mv f a).2 f.w (mv f b).1 (mv f b).2 f.w (mv f c).1 (mv f c).2 f.w=f.w*fd2 f*ori a b c:=by
  unfold det3 lnA lnB lnC fd2 ori mv;dsimp only
  grind
 rw[e] at d;have k1:0<f.w*fd2 f:=jX hw hd;have k2:0<g1*g2*g3:=jX (jX h1 h2) h3;unfold sgD PF;generalize det3 (ptP f.w (mv f a)).x (ptP f.w (mv f a)).y (ptP f.w (mv f a)).w (ptP f.w (mv f b)).x (ptP f.w (mv f b)).y (ptP f.w (mv f b)).w (ptP f.w (mv f c)).x (ptP f.w (mv f c)).y (ptP f.w (mv f c)).w=y at*;generalize ori a b c=z at*;generalize f.w*fd2 f=k at*;generalize g1*g2*g3=g at*;have s1:=zc6 (a:=0) (b:=y) k2;have s2:=zc6 (a:=0) (b:=z) k1;have s3:=zc6 (a:=y) (b:=0) k2;have s4:=zc6 (a:=z) (b:=0) k1;rw[Cw] at s1 s2 s3 s4;refine zl4 ?_ ?_
 ·rw[←s1,←s2,d]
 ·rw[←s3,←s4,d]
theorem zht{a b c:Q3}:∀(ts:List Q3)(m:Q3),(m=c∨(soon a b c m=true/\c∈ts))->(∀t,t∈ts->t≠c->soon a b c t=true/\soon a b t c=false)->zgz a b m ts=c
 |[],m,h,_=>by
  rcases h with h|⟨_,h⟩
  ·exact h
  ·cases h
 |t::ts,m,h,k=>by
  show zgz a b (if soon a b t m=true then t else m) ts=c
  have kt:∀u,u∈ts->u≠c->soon a b c u=true/\soon a b u c=false:=fun u hu=>k u (kT _ hu)
  by_cases e:t=c
  ·refine zht ts _ (.inl ?_) kt;rcases h with h|⟨h,_⟩
   ·rw[e,h];split<;>rfl
   ·rw[e,if_pos h]
  ·have kk:=k t (by simp) e
   rcases h with h|⟨h,hm⟩
   ·refine zht ts _ (.inl ?_) kt;rw[h,if_neg (by rw[kk.2];decide)]
   ·refine zht ts _ (.inr ⟨?_,?_⟩) kt
    ·split
     ·exact kk.1
     ·exact h
    ·rcases pF.mp hm with z|z
     ·exact absurd z.symm e
     ·exact z
theorem first_is{a b c:Q3}{ts:List Q3}(hc:c∈ts)(h:∀t,t∈ts->t≠c->soon a b c t=true/\soon a b t c=false):zhi a b ts=c:=by
 cases ts with
 |nil=>cases hc
 |cons t ts=>
  refine zht ts t ?_ fun u hu=>h u (kT _ hu)
  by_cases e:t=c
  ·exact .inl e
  ·refine .inr ⟨(h t (by simp) e).1,?_⟩
   rcases pF.mp hc with z|z
   ·exact absurd z.symm e
   ·exact z
theorem zq2{f:Fr}(hw:0<f.w)(hd:0<fd2 f)(a b c d:Int×Int):soon (PF f a) (PF f b) (PF f c) (PF f d)=if sgn (ori a b c)=sgn (ori a b d) then decide (sgn (ori a c d)<0) else decide (sgn (ori a b c)<sgn (ori a b d)):=by
 unfold soon;rw[zng hw hd,zng hw hd,zng hw hd]
abbrev E2:=(Int×Int)×(Int×Int)
abbrev C3:=Int×Int×Int
theorem fin8{p:Fin 8->Prop}(h0:p 0)(h1:p 1)(h2:p 2)(h3:p 3)(h4:p 4)(h5:p 5)(h6:p 6)(h7:p 7):∀k,p k
 |⟨0,_⟩=>h0
 |⟨1,_⟩=>h1
 |⟨2,_⟩=>h2
 |⟨3,_⟩=>h3
 |⟨4,_⟩=>h4
 |⟨5,_⟩=>h5
 |⟨6,_⟩=>h6
 |⟨7,_⟩=>h7
theorem k8:∀k:Fin 8,k=0∨k=1∨k=2∨k=3∨k=4∨k=5∨k=6∨k=7:=by decide
theorem f44:∀k:Fin 8,k+4+4=k:=by decide
def dv(k:Fin 8):Int×Int:=[(2,0),(1,1),(0,2),(-1,1),(-2,0),(-1,-1),(0,-2),(1,-1)].getD k.val (0,0)
theorem dv_inj:∀k j,dv k=dv j->k=j:=by decide
theorem zpn:∀k,dv (k+4)=(-(dv k).1,-(dv k).2):=by decide
def stp(a:Int×Int)(k:Fin 8):Int×Int:=(a.1+(dv k).1,a.2+(dv k).2)
theorem zm3(a:Int×Int)(k:Fin 8):stp (stp a k) (k+4)=a:=by
 unfold stp;rw[zpn];exact ue (by show a.1+_+ -_=_;omega) (by show a.2+_+ -_=_;omega)
theorem zoh{a:Int×Int}{k j:Fin 8}(h:stp a k=stp a j):k=j:=by
 unfold stp at h
 injection h with h1 h2
 exact dv_inj _ _ (ue (by omega) (by omega))
def triK(c:C3):List ((Int×Int)×Fin 8):=
 if c.2.2=0 then[((2*c.1,2*c.2.1),0),((2*c.1+2,2*c.2.1),3),((2*c.1+1,2*c.2.1+1),5)]
 else if c.2.2=1 then[((2*c.1+2,2*c.2.1),2),((2*c.1+2,2*c.2.1+2),5),((2*c.1+1,2*c.2.1+1),7)]
 else if c.2.2=2 then[((2*c.1+2,2*c.2.1+2),4),((2*c.1,2*c.2.1+2),7),((2*c.1+1,2*c.2.1+1),1)]
 else if c.2.2=3 then[((2*c.1,2*c.2.1+2),6),((2*c.1,2*c.2.1),1),((2*c.1+1,2*c.2.1+1),3)]
 else[]
def ok(a:Int×Int):Prop:=(a.1%2=0/\a.2%2=0)∨(a.1%2=1/\a.2%2=1)
def okp(a:Int×Int)(k:Fin 8):Prop:=(a.1%2=0/\a.2%2=0)∨(a.1%2=1/\a.2%2=1/\k.val%2=1)
def zcr(a:Int×Int)(k:Fin 8):C3:=
 if a.1%2=0 then[(a.1/2,a.2/2,0),(a.1/2,a.2/2,3),(a.1/2-1,a.2/2,1),(a.1/2-1,a.2/2,0),(a.1/2-1,a.2/2-1,2),(a.1/2-1,a.2/2-1,1),(a.1/2,a.2/2-1,3),(a.1/2,a.2/2-1,2)].getD k.val (0,0,0)
 else(a.1/2,a.2/2,([1,2,2,3,3,0,0,1]:List Int).getD k.val 0)
theorem ze4{a:Int×Int}(h:a.1%2=0)(k:Fin 8):zcr a k=[(a.1/2,a.2/2,0),(a.1/2,a.2/2,3),(a.1/2-1,a.2/2,1),(a.1/2-1,a.2/2,0),(a.1/2-1,a.2/2-1,2),(a.1/2-1,a.2/2-1,1),(a.1/2,a.2/2-1,3),(a.1/2,a.2/2-1,2)].getD k.val (0,0,0):=by
 unfold zcr;rw[if_pos h]
theorem zg2{a:Int×Int}(h:a.1%2=1)(k:Fin 8):zcr a k=(a.1/2,a.2/2,([1,2,2,3,3,0,0,1]:List Int).getD k.val 0):=by
 unfold zcr;rw[if_neg (by omega)]
theorem zbm{a b c a' b' c':Int}(h1:a=a')(h2:b=b')(h3:c=c'):((a,b,c):C3)=(a',b',c'):=by rw[h1,h2,h3]
theorem e_of{a:Int×Int}{k:Fin 8}{c:C3}(h1:a.1%2=0)(h2:a.2%2=0)(h:[(a.1/2,a.2/2,(0:Int)),(a.1/2,a.2/2,3),(a.1/2-1,a.2/2,1),(a.1/2-1,a.2/2,0),(a.1/2-1,a.2/2-1,2),(a.1/2-1,a.2/2-1,1),(a.1/2,a.2/2-1,3),(a.1/2,a.2/2-1,2)].getD k.val (0,0,0)=c):okp a k/\zcr a k=c:=⟨.inl ⟨h1,h2⟩,by rw[ze4 h1];exact h⟩
theorem o_of{a:Int×Int}{k:Fin 8}{c:C3}(h1:a.1%2=1)(h2:a.2%2=1)(hk:k.val%2=1)(h:(a.1/2,a.2/2,([1,2,2,3,3,0,0,1]:List Int).getD k.val 0)=c):okp a k/\zcr a k=c:=⟨.inr ⟨h1,h2,hk⟩,by rw[zg2 h1];exact h⟩
theorem triK_of{a:Int×Int}{k:Fin 8}{c:C3}(h:(a,k)∈triK c):okp a k/\zcr a k=c:=by
 obtain⟨x,y,q⟩:=c;unfold triK at h;dsimp only at h
 split at h
 ·subst q;simp only[pF,vF,or_false,vg] at h;rcases h with⟨e,rfl⟩|⟨e,rfl⟩|⟨e,rfl⟩<;>subst e
  ·exact e_of (by dsimp only;omega) (by dsimp only;omega) (zbm (by dsimp only;omega) (by dsimp only;omega) rfl)
  ·exact e_of (by dsimp only;omega) (by dsimp only;omega) (zbm (by dsimp only;omega) (by dsimp only;omega) rfl)
  ·exact o_of (by dsimp only;omega) (by dsimp only;omega) rfl (zbm (by dsimp only;omega) (by dsimp only;omega) rfl)
 split at h
 ·subst q;simp only[pF,vF,or_false,vg] at h;rcases h with⟨e,rfl⟩|⟨e,rfl⟩|⟨e,rfl⟩<;>subst e
  ·exact e_of (by dsimp only;omega) (by dsimp only;omega) (zbm (by dsimp only;omega) (by dsimp only;omega) rfl)
  ·exact e_of (by dsimp only;omega) (by dsimp only;omega) (zbm (by dsimp only;omega) (by dsimp only;omega) rfl)
  ·exact o_of (by dsimp only;omega) (by dsimp only;omega) rfl (zbm (by dsimp only;omega) (by dsimp only;omega) rfl)
 split at h
 ·subst q;simp only[pF,vF,or_false,vg] at h;rcases h with⟨e,rfl⟩|⟨e,rfl⟩|⟨e,rfl⟩<;>subst e
  ·exact e_of (by dsimp only;omega) (by dsimp only;omega) (zbm (by dsimp only;omega) (by dsimp only;omega) rfl)
  ·exact e_of (by dsimp only;omega) (by dsimp only;omega) (zbm (by dsimp only;omega) (by dsimp only;omega) rfl)
  ·exact o_of (by dsimp only;omega) (by dsimp only;omega) rfl (zbm (by dsimp only;omega) (by dsimp only;omega) rfl)
 split at h
 ·subst q;simp only[pF,vF,or_false,vg] at h;rcases h with⟨e,rfl⟩|⟨e,rfl⟩|⟨e,rfl⟩<;>subst e
  ·exact e_of (by dsimp only;omega) (by dsimp only;omega) (zbm (by dsimp only;omega) (by dsimp only;omega) rfl)
  ·exact e_of (by dsimp only;omega) (by dsimp only;omega) (zbm (by dsimp only;omega) (by dsimp only;omega) rfl)
  ·exact o_of (by dsimp only;omega) (by dsimp only;omega) rfl (zbm (by dsimp only;omega) (by dsimp only;omega) rfl)
 ·cases h
theorem ze2{a b a' b':Int}{k:Fin 8}(h1:a=a')(h2:b=b'):(((a,b),k):(Int×Int)×Fin 8)=((a',b'),k):=by rw[h1,h2]
theorem triK_at{a:Int×Int}{k:Fin 8}(h:okp a k):(a,k)∈triK (zcr a k):=by
 obtain⟨x,y⟩:=a;rcases h with⟨h1,h2⟩|⟨h1,h2,h3⟩
 ·rw[ze4 h1];dsimp only at h1 h2;rcases k8 k with rfl|rfl|rfl|rfl|rfl|rfl|rfl|rfl
  ·show _∈triK (x/2,y/2,0)
   exact pF.mpr (.inl (ze2 (by dsimp only;omega) (by dsimp only;omega)))
  ·show _∈triK (x/2,y/2,3)
   exact kT _ (pF.mpr (.inl (ze2 (by dsimp only;omega) (by dsimp only;omega))))
  ·show _∈triK (x/2-1,y/2,1)
   exact pF.mpr (.inl (ze2 (by dsimp only;omega) (by dsimp only;omega)))
  ·show _∈triK (x/2-1,y/2,0)
   exact kT _ (pF.mpr (.inl (ze2 (by dsimp only;omega) (by dsimp only;omega))))
  ·show _∈triK (x/2-1,y/2-1,2)
   exact pF.mpr (.inl (ze2 (by dsimp only;omega) (by dsimp only;omega)))
  ·show _∈triK (x/2-1,y/2-1,1)
   exact kT _ (pF.mpr (.inl (ze2 (by dsimp only;omega) (by dsimp only;omega))))
  ·show _∈triK (x/2,y/2-1,3)
   exact pF.mpr (.inl (ze2 (by dsimp only;omega) (by dsimp only;omega)))
  ·show _∈triK (x/2,y/2-1,2)
   exact kT _ (pF.mpr (.inl (ze2 (by dsimp only;omega) (by dsimp only;omega))))
 ·rw[zg2 h1];dsimp only at h1 h2;have m3:∀{α:Type}{p q r s:α},s=r->s∈[p,q,r]:=fun e=>by rw[e];simp
  rcases k8 k with rfl|rfl|rfl|rfl|rfl|rfl|rfl|rfl
  ·exact absurd h3 (by decide)
  ·exact m3 (ze2 (by dsimp only;omega) (by dsimp only;omega))
  ·exact absurd h3 (by decide)
  ·exact m3 (ze2 (by dsimp only;omega) (by dsimp only;omega))
  ·exact absurd h3 (by decide)
  ·exact m3 (ze2 (by dsimp only;omega) (by dsimp only;omega))
  ·exact absurd h3 (by decide)
  ·exact m3 (ze2 (by dsimp only;omega) (by dsimp only;omega))
theorem okp_back{a:Int×Int}{k:Fin 8}:okp (stp a k) (k+4)↔okp a k:=by
 obtain⟨x,y⟩:=a;have d:dv 0=(2,0)/\dv 1=(1,1)/\dv 2=(0,2)/\dv 3=(-1,1)/\dv 4=(-2,0)/\dv 5=(-1,-1)/\dv 6=(0,-2)/\dv 7=(1,-1):=by decide
 obtain⟨d0,d1,d2,d3,d4,d5,d6,d7⟩:=d;unfold okp stp;dsimp only;rcases k8 k with rfl|rfl|rfl|rfl|rfl|rfl|rfl|rfl
 all_goals
  simp only[d0,d1,d2,d3,d4,d5,d6,d7]
  constructor
  ·rintro(⟨h1,h2⟩|⟨h1,h2,h3⟩)
   ·first|exact .inl ⟨by omega,by omega⟩|exact .inr ⟨by omega,by omega,by decide⟩
   ·first|exact absurd h3 (by decide)|exact .inl ⟨by omega,by omega⟩|exact .inr ⟨by omega,by omega,by decide⟩
  ·rintro(⟨h1,h2⟩|⟨h1,h2,h3⟩)
   ·first|exact .inl ⟨by omega,by omega⟩|exact .inr ⟨by omega,by omega,by decide⟩
   ·first|exact absurd h3 (by decide)|exact .inl ⟨by omega,by omega⟩|exact .inr ⟨by omega,by omega,by decide⟩
theorem zjn{a:Int×Int}{k:Fin 8}(h:okp a k):zcr (stp a k) (k+4)=zcr a (k+7):=by
 obtain⟨x,y⟩:=a;rcases h with⟨h1,h2⟩|⟨h1,h2,h3⟩
 ·dsimp only at h1 h2;rcases k8 k with rfl|rfl|rfl|rfl|rfl|rfl|rfl|rfl
  ·rw[ze4 (a:=(x,y)) h1,ze4 (a:=stp (x,y) 0) (by show(x+2)%2=0;omega)]
   show(((x+2)/2-1,(y+0)/2-1,2):C3)=(x/2,y/2-1,2)
   exact zbm (by omega) (by omega) rfl
  ·rw[ze4 (a:=(x,y)) h1,zg2 (a:=stp (x,y) 1) (by show(x+1)%2=1;omega)]
   show(((x+1)/2,(y+1)/2,0):C3)=(x/2,y/2,0)
   exact zbm (by omega) (by omega) rfl
  ·rw[ze4 (a:=(x,y)) h1,ze4 (a:=stp (x,y) 2) (by show(x+0)%2=0;omega)]
   show(((x+0)/2,(y+2)/2-1,3):C3)=(x/2,y/2,3)
   exact zbm (by omega) (by omega) rfl
  ·rw[ze4 (a:=(x,y)) h1,zg2 (a:=stp (x,y) 3) (by show(x+ -1)%2=1;omega)]
   show(((x+ -1)/2,(y+1)/2,1):C3)=(x/2-1,y/2,1)
   exact zbm (by omega) (by omega) rfl
  ·rw[ze4 (a:=(x,y)) h1,ze4 (a:=stp (x,y) 4) (by show(x+ -2)%2=0;omega)]
   show(((x+ -2)/2,(y+0)/2,0):C3)=(x/2-1,y/2,0)
   exact zbm (by omega) (by omega) rfl
  ·rw[ze4 (a:=(x,y)) h1,zg2 (a:=stp (x,y) 5) (by show(x+ -1)%2=1;omega)]
   show(((x+ -1)/2,(y+ -1)/2,2):C3)=(x/2-1,y/2-1,2)
   exact zbm (by omega) (by omega) rfl
  ·rw[ze4 (a:=(x,y)) h1,ze4 (a:=stp (x,y) 6) (by show(x+0)%2=0;omega)]
   show(((x+0)/2-1,(y+ -2)/2,1):C3)=(x/2-1,y/2-1,1)
   exact zbm (by omega) (by omega) rfl
  ·rw[ze4 (a:=(x,y)) h1,zg2 (a:=stp (x,y) 7) (by show(x+1)%2=1;omega)]
   show(((x+1)/2,(y+ -1)/2,3):C3)=(x/2,y/2-1,3)
   exact zbm (by omega) (by omega) rfl
 ·dsimp only at h1 h2;rcases k8 k with rfl|rfl|rfl|rfl|rfl|rfl|rfl|rfl
  ·exact absurd h3 (by decide)
  ·rw[zg2 (a:=(x,y)) h1,ze4 (a:=stp (x,y) 1) (by show(x+1)%2=0;omega)]
   show(((x+1)/2-1,(y+1)/2-1,1):C3)=(x/2,y/2,1)
   exact zbm (by omega) (by omega) rfl
  ·exact absurd h3 (by decide)
  ·rw[zg2 (a:=(x,y)) h1,ze4 (a:=stp (x,y) 3) (by show(x+ -1)%2=0;omega)]
   show(((x+ -1)/2,(y+1)/2-1,2):C3)=(x/2,y/2,2)
   exact zbm (by omega) (by omega) rfl
  ·exact absurd h3 (by decide)
  ·rw[zg2 (a:=(x,y)) h1,ze4 (a:=stp (x,y) 5) (by show(x+ -1)%2=0;omega)]
   show(((x+ -1)/2,(y+ -1)/2,3):C3)=(x/2,y/2,3)
   exact zbm (by omega) (by omega) rfl
  ·exact absurd h3 (by decide)
  ·rw[zg2 (a:=(x,y)) h1,ze4 (a:=stp (x,y) 7) (by show(x+1)%2=0;omega)]
   show(((x+1)/2-1,(y+ -1)/2,0):C3)=(x/2,y/2,0)
   exact zbm (by omega) (by omega) rfl
def Sd(cs:List C3)(e:E2):Prop:=∃c,c∈cs/\∃a k,(a,k)∈triK c/\e=(a,stp a k)
theorem zo2{cs:List C3}{a:Int×Int}{k:Fin 8}:Sd cs (a,stp a k)↔okp a k/\zcr a k∈cs:=by
 constructor
 ·rintro⟨c,hc,a',k',hm,e⟩
  injection e with e1 e2
  subst e1;have:=zoh e2;subst this;obtain⟨h1,rfl⟩:=triK_of hm;exact⟨h1,hc⟩
 ·rintro⟨h1,h2⟩;exact⟨_,h2,a,k,triK_at h1,rfl⟩
theorem zpt{cs:List C3}{a:Int×Int}{k:Fin 8}:Sd cs (stp a k,a)↔okp a k/\zcr a (k+7)∈cs:=by
 have e:(stp a k,a)=(stp a k,stp (stp a k) (k+4)):=by rw[zm3]
 rw[e,zo2,okp_back];exact⟨fun⟨h1,h2⟩=>⟨h1,by rw[←zjn h1];exact h2⟩,fun⟨h1,h2⟩=>⟨h1,by rw[zjn h1];exact h2⟩⟩
def Edg(cs:List C3)(es:List E2):Prop:=∀e,e∈es↔Sd cs e/\¬Sd cs (e.2,e.1)
def sec(cs:List C3)(a:Int×Int)(k:Fin 8):Bool:=decide (((a.1%2=0/\a.2%2=0)∨(a.1%2=1/\a.2%2=1))/\zcr a k∈cs)
def oB(b:Fin 8->Bool)(k:Fin 8):Bool:=b k&& !b (k+7)
def iB(b:Fin 8->Bool)(k:Fin 8):Bool:=b (k+7)&& !b k
theorem cell_odd:∀{a:Int×Int}{k:Fin 8},a.1%2=1->k.val%2=0->zcr a k=zcr a (k+7):=by
 intro a k h1 h2;rw[zg2 h1,zg2 h1];rcases k8 k with rfl|rfl|rfl|rfl|rfl|rfl|rfl|rfl
 ·rfl
 ·exact absurd h2 (by decide)
 ·rfl
 ·exact absurd h2 (by decide)
 ·rfl
 ·exact absurd h2 (by decide)
 ·rfl
 ·exact absurd h2 (by decide)
theorem znn{cs:List C3}{a:Int×Int}{k:Fin 8}(h:sec cs a k≠sec cs a (k+7)):okp a k:=by
 unfold sec at h
 by_cases c1:a.1%2=0/\a.2%2=0
 ·exact .inl c1
 ·by_cases c2:a.1%2=1/\a.2%2=1
  ·by_cases c3:k.val%2=0
   ·rw[cell_odd c2.1 c3] at h;exact absurd rfl h
   ·exact .inr ⟨c2.1,c2.2,by omega⟩
  ·rw[decide_eq_false (fun z=>z.1.elim c1 c2),decide_eq_false (fun z=>z.1.elim c1 c2)] at h;exact absurd rfl h
theorem zh4{cs:List C3}{a:Int×Int}{k j:Fin 8}(h:okp a k):sec cs a j=decide (zcr a j∈cs):=by
 have h':(a.1%2=0/\a.2%2=0)∨(a.1%2=1/\a.2%2=1):=h.imp id fun z=>⟨z.1,z.2.1⟩;unfold sec
 by_cases c:zcr a j∈cs
 ·rw[decide_eq_true ⟨h',c⟩,decide_eq_true c]
 ·rw[decide_eq_false (fun z=>c z.2),decide_eq_false c]
theorem oB_iff{b:Fin 8->Bool}{k:Fin 8}:oB b k=true↔b k=true/\b (k+7)=false:=by
 unfold oB
 cases b k<;>cases b (k+7)<;>decide
theorem iB_iff{b:Fin 8->Bool}{k:Fin 8}:iB b k=true↔b (k+7)=true/\b k=false:=by
 unfold iB
 cases b k<;>cases b (k+7)<;>decide
theorem Edg.out{cs:List C3}{es:List E2}(h:Edg cs es){a:Int×Int}{k:Fin 8}:(a,stp a k)∈es↔oB (sec cs a) k=true:=by
 rw[h,oB_iff];show Sd cs (a,stp a k)/\¬Sd cs (stp a k,a)↔_;rw[zo2,zpt]
 constructor
 ·rintro⟨⟨h1,h2⟩,h3⟩;rw[zh4 h1,zh4 h1];exact⟨decide_eq_true h2,decide_eq_false fun z=>h3 ⟨h1,z⟩⟩
 ·rintro⟨h1,h2⟩;have hk:=znn (by rw[h1,h2];decide:sec cs a k≠sec cs a (k+7))
  rw[zh4 hk] at h1 h2;exact⟨⟨hk,of_decide_eq_true h1⟩,fun z=>of_decide_eq_false h2 z.2⟩
theorem Edg.inn{cs:List C3}{es:List E2}(h:Edg cs es){a:Int×Int}{k:Fin 8}:(stp a k,a)∈es↔iB (sec cs a) k=true:=by
 rw[h,iB_iff];show Sd cs (stp a k,a)/\¬Sd cs (a,stp a k)↔_;rw[zo2,zpt]
 constructor
 ·rintro⟨⟨h1,h2⟩,h3⟩;rw[zh4 h1,zh4 h1];exact⟨decide_eq_true h2,decide_eq_false fun z=>h3 ⟨h1,z⟩⟩
 ·rintro⟨h1,h2⟩;have hk:=znn (by rw[h1,h2];decide:sec cs a k≠sec cs a (k+7))
  rw[zh4 hk] at h1 h2;exact⟨⟨hk,of_decide_eq_true h1⟩,fun z=>of_decide_eq_false h2 z.2⟩
theorem Edg.ray{cs:List C3}{es:List E2}(h:Edg cs es){e:E2}(he:e∈es):∃k,e.2=stp e.1 k:=by
 obtain⟨⟨c,_,a,k,_,rfl⟩,_⟩:=(h e).mp he;exact⟨k,rfl⟩
def mkb(b0 b1 b2 b3 b4 b5 b6 b7:Bool):Fin 8->Bool:=fun k=>[b0,b1,b2,b3,b4,b5,b6,b7].getD k.val false
theorem mkb_of(b:Fin 8->Bool):b=mkb (b 0) (b 1) (b 2) (b 3) (b 4) (b 5) (b 6) (b 7):=funext (fin8 rfl rfl rfl rfl rfl rfl rfl rfl)
def rk(k j:Fin 8):Nat:=(k-j).val
theorem v1':∀b0 b1 b2 b3 b4 b5 b6 b7:Bool,(∃k,iB (mkb b0 b1 b2 b3 b4 b5 b6 b7) k=true)->∃k,oB (mkb b0 b1 b2 b3 b4 b5 b6 b7) k=true:=by decide+kernel
theorem v2':∀b0 b1 b2 b3 b4 b5 b6 b7:Bool,∀k1 k2:Fin 8,iB (mkb b0 b1 b2 b3 b4 b5 b6 b7) k1=true->iB (mkb b0 b1 b2 b3 b4 b5 b6 b7) k2=true->k1≠k2->∃j,oB (mkb b0 b1 b2 b3 b4 b5 b6 b7) j=true/\rk k2 j<rk k2 k1:=by decide+kernel
theorem v0:∀k1 k2 j:Fin 8,rk k2 j<rk k2 k1->rk k1 j<rk k1 k2->False:=by decide
theorem v1{b:Fin 8->Bool}{k:Fin 8}(h:iB b k=true):∃j,oB b j=true:=by
 rw[mkb_of b] at h⊢;exact v1' _ _ _ _ _ _ _ _ ⟨k,h⟩
theorem v2{b:Fin 8->Bool}{k1 k2:Fin 8}(h1:iB b k1=true)(h2:iB b k2=true)(n:k1≠k2):∃j,oB b j=true/\rk k2 j<rk k2 k1:=by
 rw[mkb_of b] at h1 h2⊢;exact v2' _ _ _ _ _ _ _ _ k1 k2 h1 h2 n
theorem v_one{b:Fin 8->Bool}{k1 k2 j:Fin 8}(o:∀j',oB b j'=true->j'=j)(h1:iB b k1=true)(h2:iB b k2=true):k1=k2:=by
 by_cases n:k1=k2
 ·exact n
 ·exfalso
  obtain⟨a,a1,a2⟩:=v2 h1 h2 n;obtain⟨c,c1,c2⟩:=v2 h2 h1 (jP n);rw[o a a1] at a2;rw[o c c1] at c2;exact v0 k1 k2 j a2 c2
theorem v3{b:Fin 8->Bool}{k1 k2 j:Fin 8}(h1:iB b k1=true)(h2:iB b k2=true)(m1:∀j',oB b j'=true->rk k1 j<=rk k1 j')(m2:∀j',oB b j'=true->rk k2 j<=rk k2 j'):k1=k2:=by
 by_cases n:k1=k2
 ·exact n
 ·exfalso
  obtain⟨a,a1,a2⟩:=v2 h1 h2 n;obtain⟨c,c1,c2⟩:=v2 h2 h1 (jP n);exact v0 k1 k2 j (ul (m2 a a1) a2) (ul (m1 c c1) c2)
theorem v_min{p:Fin 8->Bool}{f:Fin 8->Nat}:∀n,(∃j,p j=true/\f j<=n)->∃j,p j=true/\∀j',p j'=true->f j<=f j'
 |0,⟨j,h1,h2⟩=>⟨j,h1,fun j' _=>by omega⟩
 |n+1,⟨j,h1,h2⟩=>by
  by_cases c:∃j',p j'=true/\f j'<=n
  ·exact v_min n c
  ·exact⟨j,h1,fun j' h=>by
    rcases Uu n (f j') with z|z
    ·omega
    ·exact absurd ⟨j',h,z⟩ c⟩
theorem zpy:∀k j j':Fin 8,rk k j=rk k j'->j=j':=by decide
theorem oi_ne{b:Fin 8->Bool}{k j:Fin 8}(h1:iB b k=true)(h2:oB b j=true):j≠k:=fun z=>by
 subst z;have:=(iB_iff.mp h1).2;rw[(oB_iff.mp h2).1] at this
 cases this
def att(a:Int×Int)(k:Fin 8)(j:Int):Int×Int:=(a.1+j*(dv k).1,a.2+j*(dv k).2)
def onP(a b:Int×Int):Int×Int:=(2*b.1-a.1,2*b.2-a.2)
theorem zk1(a:Int×Int)(k:Fin 8):att a k 0=a:=by
 unfold att;rw[BR,BR,EN,EN]
theorem zfr(a:Int×Int)(k:Fin 8)(i j:Int):att (att a k i) k j=att a k (i+j):=by
 unfold att;dsimp only;rw[EW,EW,EE,EE]
theorem zjr(a:Int×Int)(k:Fin 8):att a k 1=stp a k:=by
 unfold att stp;rw[EX,EX]
theorem zkb(a:Int×Int)(k:Fin 8)(j:Int):att a (k+4) j=att a k (-j):=by
 unfold att;rw[zpn];dsimp only;rw[EY,EY,EZ,EZ]
theorem zjy(a:Int×Int)(k:Fin 8):stp a (k+4)=att a k (-1):=by rw[←zjr,zkb]
theorem zhu(a:Int×Int)(k:Fin 8):onP a (stp a k)=stp (stp a k) k:=by
 unfold onP stp;exact ue (by dsimp only;omega) (by dsimp only;omega)
theorem onP_back(a:Int×Int)(k:Fin 8):onP (stp a k) a=stp a (k+4):=by
 unfold onP stp;rw[zpn];exact ue (by dsimp only;omega) (by dsimp only;omega)
theorem dv_lit:dv 0=(2,0)/\dv 1=(1,1)/\dv 2=(0,2)/\dv 3=(-1,1)/\dv 4=(-2,0)/\dv 5=(-1,-1)/\dv 6=(0,-2)/\dv 7=(1,-1):=by decide
theorem dv_mul{k j:Fin 8}{m n:Int}(hm:0<m)(hn:0<n)(h1:m*(dv k).1=n*(dv j).1)(h2:m*(dv k).2=n*(dv j).2):k=j:=by
 obtain⟨d0,d1,d2,d3,d4,d5,d6,d7⟩:=dv_lit
 rcases k8 k with rfl|rfl|rfl|rfl|rfl|rfl|rfl|rfl<;>rcases k8 j with rfl|rfl|rfl|rfl|rfl|rfl|rfl|rfl<;>first|rfl|(exfalso;simp only[d0,d1,d2,d3,d4,d5,d6,d7] at h1 h2;omega)
theorem znw{a:Int×Int}{k j:Fin 8}{m n:Int}(hm:0<m)(hn:0<n)(h:att a k m=att a j n):k=j:=by
 unfold att at h
 injection h with h1 h2
 exact dv_mul hm hn (by omega) (by omega)
theorem dv_ne:∀k,dv k≠(0,0):=by decide
theorem att_inj{a:Int×Int}{k:Fin 8}{m n:Int}(h:att a k m=att a k n):m=n:=by
 unfold att at h
 injection h with h1 h2
 have e1:m*(dv k).1=n*(dv k).1:=by omega
 have e2:m*(dv k).2=n*(dv k).2:=by omega
 by_cases c:(dv k).1=0
 ·by_cases c2:(dv k).2=0
  ·exact absurd (ue c c2) (dv_ne k)
  ·exact Ui c2 e2
 ·exact Ui c e1
def lvP(es:List E2)(p:Int×Int):List (Int×Int):=(es.filter fun e=>decide (e.1=p)).map EV
theorem zju{es:List E2}{p q:Int×Int}:q∈lvP es p↔(p,q)∈es:=by
 unfold lvP;rw[km]
 constructor
 ·rintro⟨e,he,rfl⟩;obtain⟨h1,h2⟩:=UV.mp he;rw[←of_decide_eq_true h2];exact h1
 ·intro h;exact⟨(p,q),UV.mpr ⟨h,decide_eq_true rfl⟩,rfl⟩
def str(es:List E2)(a b:Int×Int):Bool:=decide (lvP es b=[onP a b])
theorem zk7{es:List E2}{a b:Int×Int}(h:str es a b=true):(b,onP a b)∈es:=by
 rw[←zju,of_decide_eq_true h];exact kU.mpr rfl
theorem str_one{es:List E2}{a:Int×Int}{k j:Fin 8}(h:str es a (stp a k)=true)(hj:(stp a k,stp (stp a k) j)∈es):j=k:=by
 rw[←zju,of_decide_eq_true h,kU,zhu] at hj;exact zoh hj
inductive Goes (es:List E2):Int×Int->Int×Int->Int×Int->Prop where
 |stop {a b}:str es a b=false->Goes es a b b
 |step {a b c}:str es a b=true->Goes es b (onP a b) c->Goes es a b c
structure Wy(es:List E2)(a c:Int×Int)(k:Fin 8)(m:Nat):Prop where
 fin:c=att a k (m+1)
 mem:∀j:Nat,j<=m->(att a k j,att a k (j+1))∈es
 str:∀j:Nat,j<m->str es (att a k j) (att a k (j+1))=true
 stop:Mine.str es (att a k m) (att a k (m+1))=false
theorem Goes.wy{es:List E2}{a b c:Int×Int}(g:Goes es a b c):∀{k:Fin 8},b=stp a k->(a,b)∈es->∃m,Wy es a c k m:=by
 induction g with
 |@stop a b h=>
  intro k e he;subst e;refine⟨0,?_,fun j hj=>?_,fun j hj=>by omega,?_⟩
  ·show _=att a k (0+1)
   rw[Uw,zjr]
  ·have:j=0:=by omega
   subst this;show(att a k 0,att a k (0+1))∈es;rw[Uw,zjr,zk1];exact he
  ·show str es (att a k 0) (att a k (0+1))=false
   rw[Uw,zjr,zk1];exact h
 |@step a b c h g ih=>
  intro k e he;subst e;have hm:=zk7 h;rw[zhu] at hm;obtain⟨m,w⟩:=ih (k:=k) (zhu a k) (by rw[zhu];exact hm)
  have sh:∀j:Int,att (stp a k) k j=att a k (j+1):=fun j=>by rw[←zjr,zfr,Int.add_comm]
  refine⟨m+1,?_,fun j hj=>?_,fun j hj=>?_,?_⟩
  ·rw[w.fin,sh];rfl
  ·cases j with
   |zero=>
    show(att a k 0,att a k (0+1))∈es
    rw[Uw,zjr,zk1];exact he
   |succ j=>
    have:=w.mem j (by omega)
    rw[sh,sh] at this;exact this
  ·cases j with
   |zero=>
    show Mine.str es (att a k 0) (att a k (0+1))=true
    rw[Uw,zjr,zk1];exact h
   |succ j=>
    have:=w.str j (by omega)
    rw[sh,sh] at this;exact this
  ·have:=w.stop;rw[sh,sh] at this;exact this
def Bgn(es:List E2)(a:Int×Int)(k:Fin 8):Prop:=¬((stp a (k+4),a)∈es/\str es (stp a (k+4)) a=true)
section
variable{es:List E2}{a a' c c':Int×Int}{k k':Fin 8}{m m':Nat}
theorem Wy.dir(h:Wy es a c k m)(h':Wy es a c k' m'):k=k':=znw (by omega:(0:Int)<(m:Int)+1) (by omega:(0:Int)<(m':Int)+1) (h.fin.symm.trans h'.fin)
theorem Wy.one(h:Wy es a c k m)(h':Wy es a c' k m'):c=c':=by
 rcases ji m m' with z|z|z
 ·have:=h'.str m z;rw[h.stop] at this
  cases this
 ·subst z;rw[h.fin,h'.fin]
 ·have:=h.str m' z;rw[h'.stop] at this
  cases this
theorem Wy.from(h:Wy es a c k m):a=att c (k+4) (m+1):=by
 rw[zkb,h.fin,zfr,show((m:Int)+1+ -((m:Int)+1))=0 by omega,zk1]
theorem Wy.last(h:Wy es a c k m):(stp c (k+4),c)∈es:=by
 have:=h.mem m (kJ _);rw[←h.fin] at this;rw[zjy,h.fin,zfr,show((m:Int)+1+ -1)=m by omega,←h.fin]
 exact this
theorem Wy.lastS(h:Wy es a c k m):Mine.str es (stp c (k+4)) c=false:=by
 have:=h.stop;rw[←h.fin] at this;rw[zjy,h.fin,zfr,show((m:Int)+1+ -1)=m by omega,←h.fin]
 exact this
theorem Wy.first(h:Wy es a c k m):(a,stp a k)∈es:=by
 have:=h.mem 0 (pY _);rw[show((0:Nat):Int)=0 from rfl,Uw,zjr,zk1] at this;exact this
theorem Wy.lt(h:Wy es a c k m)(h':Wy es a' c k m')(b:Bgn es a k)(z:m<m'):False:=by
 have e:a=att a' k ((m':Int)-m):=by
  have:=h.from
  rw[zkb,h'.fin,zfr,show((m':Int)+1+ -((m:Int)+1))=(m':Int)-m by omega] at this
  exact this
 have e1:((m':Int)-m)=((m'-m-1:Nat):Int)+1:=by omega
 have h1:=h'.mem (m'-m-1) (by omega)
 have h2:=h'.str (m'-m-1) (by omega)
 rw[←e1,←e] at h1 h2;refine b ?_;rw[zjy];have e2:att a k (-1)=att a' k ((m'-m-1:Nat):Int):=by
  rw[e,zfr,show((m':Int)-m+ -1)=((m'-m-1:Nat):Int) by omega]
 rw[e2];exact⟨h1,h2⟩
theorem Wy.back(h:Wy es a c k m)(h':Wy es a' c k m')(b:Bgn es a k)(b':Bgn es a' k):a=a':=by
 rcases ji m m' with z|z|z
 ·exact(h.lt h' b z).elim
 ·subst z;rw[h.from,h'.from]
 ·exact(h'.lt h b' z).elim
theorem Wy.ne(h:Wy es a c k m):a≠c:=fun z=>by
 have e:=h.fin;rw[←z] at e;have:att a k 0=att a k ((m:Int)+1):=by rw[zk1];exact e
 have:=att_inj this;omega
end
structure Wys(es:List E2)(ws:List E2):Prop where
 nd:ws.Nodup
 of:∀w,w∈ws->∃k m,Wy es w.1 w.2 k m/\Bgn es w.1 k
 all:∀a k,(a,stp a k)∈es->Bgn es a k->∃c m,(a,c)∈ws/\Wy es a c k m
section
variable{cs:List C3}{es ws:List E2}
theorem Edg.bgn(E:Edg cs es){a c:Int×Int}{k j:Fin 8}{m:Nat}(h:Wy es a c k m)(hj:(c,stp c j)∈es):Bgn es c j:=by
 rintro⟨h1,h2⟩;have e:stp (stp c (j+4)) j=c:=by
  have:=zm3 c (j+4)
  rwa [f44] at this
 have one:∀j',oB (sec cs c) j'=true->j'=j:=fun j' z=>by
  have z:=E.out.mpr z;have g:∀d,d=c->str es (stp c (j+4)) d=true/\(d,stp d j')∈es:=fun d q=>by rw[q];exact⟨h2,z⟩
  exact str_one (a:=stp c (j+4)) (g _ e).1 (g _ e).2
 have i1:=E.inn.mp h1;have i2:=E.inn.mp h.last;have ek:=v_one one i1 i2;rw[ek,h.lastS] at h2
 cases h2
theorem Wys.next(E:Edg cs es)(W:Wys es ws){a c:Int×Int}{k j:Fin 8}{m:Nat}(h:Wy es a c k m)(hj:oB (sec cs c) j=true):∃d n,(c,d)∈ws/\Wy es c d j n:=W.all c j (E.out.mpr hj) (E.bgn h (E.out.mpr hj))
theorem Wys.rev(E:Edg cs es)(W:Wys es ws){w:E2}(h:w∈ws):¬(w.2,w.1)∈ws:=fun z=>by
 obtain⟨k,m,h1,_⟩:=W.of w h;obtain⟨j,n,h2,_⟩:=W.of _ z;have e:j=k+4:=by
  have a:=h2.fin;have b:=h1.from
  exact znw (by omega:(0:Int)<(n:Int)+1) (by omega:(0:Int)<(m:Int)+1) (a.symm.trans b)
 have l:=h2.last;dsimp only at l;rw[e,f44] at l;have i1:=E.inn.mp l
 have o1:=E.out.mp h1.first
 exact oi_ne i1 o1 rfl
end
def sg8(k j:Fin 8):Int:=sgn ((dv k).1*(dv j).2-(dv k).2*(dv j).1)
theorem sg8_rk:∀k j j':Fin 8,j≠k->j'≠k->rk k j<rk k j'->((if sg8 k j=sg8 k j' then decide (sg8 j j'<0) else decide (sg8 k j<sg8 k j'))=true/\(if sg8 k j'=sg8 k j then decide (sg8 j' j<0) else decide (sg8 k j'<sg8 k j))=false):=by decide
theorem zih{a:Int×Int}{k j:Fin 8}{m n:Int}(hm:0<m)(hn:0<n):sgn (ori a (att a k m) (att a j n))=sg8 k j:=by
 have e:ori a (att a k m) (att a j n)=m*n*((dv k).1*(dv j).2-(dv k).2*(dv j).1):=by
  unfold ori att;dsimp only
  grind
 have h:0<m*n:=jX hm hn;unfold sg8;rw[e];generalize (dv k).1*(dv j).2-(dv k).2*(dv j).1=z;generalize m*n=y at*;have s2:=zc6 (a:=0) (b:=z) h;have s4:=zc6 (a:=z) (b:=0) h;rw[Cw] at s2 s4;exact zl4 s2 s4
theorem soon_att{f:Fr}(hw:0<f.w)(hd:0<fd2 f){a:Int×Int}{k j j':Fin 8}{m n n':Int}(hm:0<m)(hn:0<n)(hn':0<n')(h1:j≠k)(h2:j'≠k)(h:rk k j<rk k j'):soon (PF f a) (PF f (att a k m)) (PF f (att a j n)) (PF f (att a j' n'))=true/\soon (PF f a) (PF f (att a k m)) (PF f (att a j' n')) (PF f (att a j n))=false:=by
 rw[zq2 hw hd,zq2 hw hd,zih hm hn,zih hm hn',zih hn hn',zih hn' hn];exact sg8_rk k j j' h1 h2 h
def tdF(f:Fr)(e:E2):Q3×Q3:=(PF f e.1,PF f e.2)
section
variable{f:Fr}{cs:List C3}{es ws:List E2}
theorem zlx(hw:0<f.w)(hd:0<fd2 f){e e':E2}(h:tdF f e=tdF f e'):e=e':=by
 unfold tdF at h
 injection h with h1 h2
 exact ue (ze8 hw hd h1) (ze8 hw hd h2)
theorem leav_td(hw:0<f.w)(hd:0<fd2 f){p:Int×Int}{t:Q3}(h:t∈leav (ws.map (tdF f)) (PF f p)):∃q,(p,q)∈ws/\t=PF f q:=by
 obtain⟨⟨a,b⟩,h1,h2⟩:=km.mp (zig.mp h);unfold tdF at h2
 injection h2 with h2 h3
 have:=ze8 hw hd h2;subst this;exact⟨b,h1,h3.symm⟩
theorem zpe{p q:Int×Int}(h:(p,q)∈ws):PF f q∈leav (ws.map (tdF f)) (PF f p):=zig.mpr (km.mpr ⟨(p,q),h,rfl⟩)
theorem zf7(hw:0<f.w)(hd:0<fd2 f)(E:Edg cs es)(W:Wys es ws){a c:Int×Int}{k:Fin 8}{m:Nat}(h:Wy es a c k m):∃d j n,(c,d)∈ws/\Wy es c d j n/\zhi (PF f c) (PF f a) (leav (ws.map (tdF f)) (PF f c))=PF f d/\∀j',oB (sec cs c) j'=true->rk (k+4) j<=rk (k+4) j':=by
 have i1:=E.inn.mp h.last;obtain⟨j0,o0⟩:=v1 i1;obtain⟨j,oj,mj⟩:=v_min (p:=oB (sec cs c)) (f:=rk (k+4)) _ ⟨j0,o0,kJ _⟩
 obtain⟨d,n,hd1,wd⟩:=W.next E h oj
 refine⟨d,j,n,hd1,wd,first_is (zpe hd1) fun t ht ne=>?_,mj⟩;obtain⟨q,hq,rfl⟩:=leav_td hw hd ht;obtain⟨j',n',wq,_⟩:=W.of _ hq;dsimp only at wq
 have oq:=E.out.mp wq.first
 have nj:j≠j':=fun z=>by
  subst z;exact ne (by rw[wd.one wq])
 have lt:rk (k+4) j<rk (k+4) j':=by
  have:=mj j' oq;rcases Qu this with z|z
  ·exact z
  ·exact absurd (zpy _ _ _ z) nj
 rw[h.from,wd.fin,wq.fin];exact soon_att hw hd (by omega) (by omega) (by omega) (oi_ne i1 oj) (oi_ne i1 oq) lt
theorem zoz(hw:0<f.w)(hd:0<fd2 f)(E:Edg cs es)(W:Wys es ws):Fen (ws.map (tdF f)):=by
 refine⟨?_,fun e he=>?_,fun e he z=>?_,fun e he=>?_,fun e e' he he' z=>?_⟩
 ·rw[pM,uc];exact(pM.mp W.nd).imp fun n z=>n (zlx hw hd z)
 ·obtain⟨x,hx,rfl⟩:=km.mp he;obtain⟨k,m,h,_⟩:=W.of x hx;exact fun z=>h.ne (ze8 hw hd z)
 ·obtain⟨x,hx,rfl⟩:=km.mp he;obtain⟨y,hy,e2⟩:=km.mp z;have:y=(x.2,x.1):=zlx hw hd e2;rw[this] at hy;exact W.rev E hx hy
 ·obtain⟨x,hx,rfl⟩:=km.mp he;obtain⟨k,m,h,_⟩:=W.of x hx;obtain⟨d,j,n,hd1,_⟩:=zf7 hw hd E W h;exact List.ne_nil_of_mem (zpe hd1)
 ·obtain⟨x,hx,rfl⟩:=km.mp he;obtain⟨y,hy,rfl⟩:=km.mp he';obtain⟨k,m,h,b⟩:=W.of x hx;obtain⟨k',m',h',b'⟩:=W.of y hy;obtain⟨x1,x2⟩:=x;obtain⟨y1,y2⟩:=y;dsimp only at h b h' b';unfold suc at z
  injection z with z1 z2
  have:=ze8 hw hd z1;subst this;obtain⟨d,j,n,d1,d2,d3,d4⟩:=zf7 hw hd E W h;obtain⟨d',j',n',d1',d2',d3',d4'⟩:=zf7 hw hd E W h';dsimp only[tdF] at z2;rw[d3,d3'] at z2;have:=ze8 hw hd z2;subst this;have:=d2.dir d2';subst this;have e4:=v3 (E.inn.mp h.last) (E.inn.mp h'.last) d4 d4';have ek:k=k':=by rw[←f44 k,e4,f44]
  subst ek;rw[h.back h' b b']
end
def kE(e:Q3×Q3):List (List Key):=[kQ e.1,kQ e.2]
theorem kE_inj{e f:Q3×Q3}(h:kE e=kE f):e=f:=by
 unfold kE at h
 injection h with h1 h2
 injection h2 with h2
 exact ue (zf3 h1) (zf3 h2)
theorem S2H.nk{H:Hp}{p:Addr}{e:Q3×Q3}(h:S2H H p e):NK H p (kE e):=by
 obtain⟨c,d,h1,h2,h3⟩:=h;exact NK.two h1 h2.1 h3.1
def GnK(H:Hp)(kvs:List N3):Prop:=∀p,p∈kvs->∃e,p.1=kE e/\S2H H p.2.1 e
theorem GnK.kn{H:Hp}{kvs:List N3}(h:GnK H kvs):KN H kvs:=fun p hp=>by
 obtain⟨e,e1,e2⟩:=h p hp;rw[e1];exact e2.nk
theorem GnK.ts{H H':Hp}{kvs:List N3}(h:GnK H kvs)(g:za9 H H'):GnK H' kvs:=fun p hp=>by
 obtain⟨e,e1,e2⟩:=h p hp;exact⟨e,e1,zfs _ _ _ _ g e2⟩
theorem GnK.put{H:Hp}{kvs:List N3}{b:Addr}{e:Q3×Q3}{v:V}(h:GnK H kvs)(hb:S2H H b e):GnK H (putN kvs (kE e) b v):=by
 unfold putN
 split
 ·intro p hp;obtain⟨q,hq,z⟩:=km.mp hp;obtain⟨f,f1,f2⟩:=h q hq;rw[←z]
  split
  ·exact⟨f,f1,f2⟩
  ·exact⟨f,f1,f2⟩
 ·intro p hp;rcases kW.mp hp with hp|hp
  ·exact h p hp
  ·rw[kU.mp hp];exact⟨e,rfl,hb⟩
theorem zgu{P:kq}{w:pX}{H:Hp}{D:Addr}{kvs:List N3}{o:HO}(h:H D=some (nD P w D kvs)):za9 H (upd H D o):=fun b xs q=>by
 rw[za6 (fun z=>by rw[z,h] at q;cases q)]
 exact q
def hasG(kvs:List N3)(e:Q3×Q3):Prop:=(valN kvs (kE e)).isSome=true
theorem has_put{kvs:List N3}{e f:Q3×Q3}{b:Addr}{v:V}:hasG (putN kvs (kE e) b v) f↔hasG kvs f∨f=e:=by
 unfold hasG;rw[zd2,zgb]
 by_cases c:(valN kvs (kE e)).isSome=true
 ·rw[if_pos c,zd2];rw[zd2] at c;exact⟨.inl,fun h=>h.elim id fun z=>by rw[z];exact c⟩
 ·rw[if_neg c,zd2,kW,kU];exact⟨fun h=>h.imp id kE_inj,fun h=>h.imp id fun z=>by rw[z]⟩
def dQ(r:Q3):CT:=.tuple [.int r.x,.int r.y,.int r.w]
theorem rd_q{K:kM}{H:Hp}{p:Addr}{r:Q3}(h:QH H p r):RdD K H (dQ r) (.ref p):=by
 unfold dQ;rw[RdD];refine⟨p,_,rfl,.of h.1,?_⟩;rw[RdDs];refine⟨_,_,rfl,by rw[RdD],?_⟩
 rw[RdDs];refine⟨_,_,rfl,by rw[RdD],?_⟩
 rw[RdDs];refine⟨_,_,rfl,by rw[RdD],?_⟩
 rw[RdDs]
theorem rd_qs{K:kM}{H:Hp}:∀{zs:List V}{F:List Q3},LR QH H zs F->RdDs K H (F.map dQ) zs
 |[],[],_=>by rw[Qe,RdDs]
 |[],_::_,h=>by cases h.1
 |v::zs,F,h=>by
  obtain⟨a,as,rfl,⟨p,rfl,hp⟩,t⟩:=h.cons_inv;rw[ki,RdDs];exact⟨_,_,rfl,rd_q hp,rd_qs t⟩
theorem rd_ql{K:kM}{H:Hp}{l:Addr}{zs:List V}{F:List Q3}(h:H l=some (.lst zs))(hz:LR QH H zs F):RdD K H (.list (F.map dQ)) (.ref l):=by
 rw[RdD];exact⟨l,_,rfl,.of h,rd_qs hz⟩
theorem dQ_lay(r:Q3):(dQ r).canLay0=true/\(dQ r).depth<=3:=by
 simp[dQ,UK,uQ,vU,uU]
theorem dQs_lay(F:List Q3):uQ (F.map dQ)=true/\uU (F.map dQ)<=3:=by
 induction F with
 |nil=>exact⟨rfl,by simp[uU]⟩
 |cons r F ih=>
  have h:=dQ_lay r;rw[ki]
  constructor
  ·rw[uQ,h.1,ih.1];rfl
  ·rw[uU];have:=h.2;have:=ih.2;omega
theorem zo9(a b:Q3):Qs (dQ a) (dQ b)=decide (a=b):=by
 rw[UX];obtain⟨x,y,w⟩:=a;obtain⟨x',y',w'⟩:=b
 simp[dQ,Qs,QD]
theorem zh9:∀F G:List Q3,QD (F.map dQ) (G.map dQ)=decide (F=G)
 |[],[]=>by simp[QD]
 |[],_::_=>by simp[QD]
 |_::_,[]=>by simp[QD]
 |a::F,b::G=>by
  rw[ki,ki,QD,zo9,zh9 F G];rw[UX]
  simp
theorem dQs_eqv(F G:List Q3):Qs (.list (F.map dQ)) (.list (G.map dQ))=decide (F=G):=by
 rw[Qs,zh9]
def dS(s:Q3×Q3):CT:=.tuple [dQ s.1,dQ s.2]
theorem rd_s{K:kM}{H:Hp}{p:Addr}{s:Q3×Q3}(h:S2H H p s):RdD K H (dS s) (.ref p):=by
 obtain⟨c,d,h1,h2,h3⟩:=h;unfold dS;rw[RdD];refine⟨p,_,rfl,.of h1,?_⟩;rw[RdDs];refine⟨_,_,rfl,rd_q h2,?_⟩;rw[RdDs];refine⟨_,_,rfl,rd_q h3,?_⟩;rw[RdDs]
theorem zja(e:Q3×Q3):Uc (dS e)=true:=by
 simp[dS,dQ,Uc,UK,uQ,vU,uU]
theorem dS_eqv(a b:Q3×Q3):Qs (dS a) (dS b)=decide (a=b):=by
 unfold dS;rw[Qs,QD,QD,QD,zo9,zo9,Bool.and_true,UX,Bool.and_eq_true,decide_eq_true_iff,decide_eq_true_iff,decide_eq_true_iff];exact⟨fun h=>ue h.1 h.2,fun h=>by rw[h];exact⟨rfl,rfl⟩⟩
theorem zlj{c:TT}{tb:TS}{D:Ends}{σ:St}{H:Hp}(Pv:St->Hp->Prop)(μ:St->Hp->Nat)(h0:Pv σ H)
  (hs:∀σ H,Pv σ H->c σ H fun b H1=>if b=true then ∃N:St->Hp->Prop,(∀σ' H',N σ' H'->∃m',m'<μ σ H/\m'=μ σ' H'/\Pv σ' H')/\tb {D with nx:=N,ct:=N,bk:=D.nx} σ H1 else D.nx σ H1):zly c tb D σ H:=by
 refine⟨fun m σ H=>m=μ σ H/\Pv σ H,⟨_,rfl,h0⟩,?_⟩;rintro m σ H ⟨rfl,p⟩;exact hs σ H p
theorem zag.put{P D:Addr}{H H':Hp}{o:HO}(g:zag P H H')(h:H D=none):zag P H (upd H' D o):=fun b u nb e=>by
 rw[za6 (fun z=>by rw[z,h] at e;cases e)]
 exact g b u nb e
theorem zag.own{D:Addr}{H H':Hp}{o:HO}(g:zag D H H'):zag D H (upd H' D o):=fun b u nb e=>by
 rw[za6 nb];exact g b u nb e
theorem zag.same{P:Addr}{H H' H'':Hp}(g:zag P H H')(g':Same H' H''):zag P H H'':=fun b u nb e=>g' _ _ (g b u nb e)
theorem zmj{P:kq}{w:pX}{H H':Hp}{gn:Addr}{gk:List N3}(g:zag gn H H')(h:H gn=some (nD P w gn gk)):za9 H H':=fun b xs q=>g b _ (fun z=>by rw[z,h] at q;cases q) q
theorem zd1{H:Hp}{a b:Addr}{o u:HO}{x:Option HO}(ne:a≠b)(h:H a=x):upd H b o a=x:=by
 rw[za6 ne];exact h
theorem zpk{c:TT}{tb:TS}{D:L2.Ends}{σ:St}{H:Hp}(W:Nat->St->Hp->Prop)(h0:∃m,W m σ H)
  (hs:∀m σ H,W m σ H->c σ H fun b H1=>if b=true then ∃N:St->Hp->Prop,(∀σ' H',N σ' H'->∃m',m'<m/\W m' σ' H')/\tb {D with nx:=N,ct:=N,bk:=D.nx} σ H1 else D.nx σ H1):zly c tb D σ H:=⟨W,h0,hs⟩
def pkW(w:List Q3):List (List Key×V):=(uB w.length).map fun i=>(kQ (nx w i),V.int ((i:Nat):Int))
theorem zks(w:List Q3):(pkW w).length=w.length:=by unfold pkW;rw[kL,uO]
theorem pkW_at{w:List Q3}{i:Nat}(h:i<w.length):(pkW w)[i]?=some (kQ (nx w i),V.int ((i:Nat):Int)):=by
 unfold pkW;rw[pS,jJ h];rfl
theorem zjf{κ:Type}[DecidableEq κ]{k k':κ}{v:V}{r:List (κ×V)}:valV ((k',v)::r) k=if k'=k then some v else valV r k:=by
 unfold valV;rw[Qa]
 by_cases c:k'=k
 ·rw[if_pos c]
  simp[c]
 ·rw[if_neg c]
  simp[c]
theorem zfl{κ:Type}[DecidableEq κ]{f:Nat->κ×V}{k:κ}:∀{l:List Nat}{i:Nat},i∈l->(f i).1=k->(∀j,j∈l->(f j).1=k->j=i)->valV (l.map f) k=some (f i).2
 |[],_,h,_,_=>by cases h
 |a::l,i,h,e,u=>by
  rw[ki,show f a=((f a).1,(f a).2) from rfl,zjf]
  by_cases c:(f a).1=k
  ·rw[if_pos c,u a (by simp) c]
  ·rw[if_neg c];rcases pF.mp h with z|z
   ·rw[←z] at c;exact absurd e c
   ·exact zfl z e fun j hj=>u j (kT _ hj)
theorem zov{κ:Type}[DecidableEq κ]{k:κ}:∀{l:List (κ×V)},(∀p,p∈l->p.1≠k)->valV l k=none
 |[],_=>rfl
 |(k',v)::l,h=>by
  rw[zjf,if_neg (h (k',v) (by simp))]
  exact zov fun p hp=>h p (kT _ hp)
theorem pkW_val{w:List Q3}(nd:w.Nodup){i:Nat}(h:i<w.length):valV (pkW w) (kQ (nx w i))=some (V.int ((i:Nat):Int)):=
 zfl (f:=fun i=>(kQ (nx w i),V.int ((i:Nat):Int))) (pO.mpr h) rfl fun j hj e=>nx_inj nd (pO.mp hj) h (zf3 e)
theorem zm1{w:List Q3}{p:Q3}(h:¬p∈w):valV (pkW w) (kQ p)=none:=by
 refine zov fun q hq e=>h ?_;unfold pkW at hq;obtain⟨i,hi,rfl⟩:=km.mp hq;rw[←zf3 e];exact zhh (by have:=pO.mp hi;omega) i
theorem pkW_snoc{w:List Q3}{p:Q3}:pkW (w++[p])=pkW w++[(kQ p,V.int ((w.length:Nat):Int))]:=by
 unfold pkW;rw[kK,pg,vd,uL,ki,Qe,zk2]
 congr 1
 refine Ua fun i hi=>?_;rw[zit (pO.mp hi)]
theorem pkW_take{w:List Q3}{i:Nat}(h:i<w.length):pkW (w.take (i+1))=(pkW w).take (i+1):=by
 unfold pkW;rw[kY,Qd (by omega),←CP,List.take_range,Qd (by omega)]
 refine Ua fun j hj=>?_;rw[zgm h (by have:=pO.mp hj;omega)]
theorem zo3{H H':Hp}{gn q:Addr}{o:HO}(g:zag gn H H')(hg:H' gn=some o)(hq:H' q=none):H q=none:=by
 cases z:H q with
 |none=>rfl
 |some u=>
  rw[g q u (fun y=>by rw[y,hg] at hq;cases hq) z] at hq
  cases hq
theorem ts_T{H H':Hp}{D:Addr}{kvs:List (List Key×V)}(g:zag D H H')(h:H D=some (.dT kvs)):za9 H H':=fun b xs q=>g b _ (fun z=>by rw[z,h] at q;cases q) q
def RgX(H0:Hp)(R W:Addr)(H:Hp)(p:Addr)(r:List Q3):Prop:=H0 p=none/\p≠R/\p≠W/\RgQ H p r
def WayJ(P:kq)(w:pX)(H:Hp)(st lv gn R D:Addr)(gk:List N3)(ss:List (Q3×Q3))(e:Q3×Q3)(m:Nat)(σ:St)(H':Hp):Prop:=∃(t:Nat)(f W:Addr)(ys zs:List V)(wy:List Q3)(rs:List (List Q3))(gk':List N3)(o1 o2 o3:Option V),σ=[some (V.ref st),some (V.ref lv),some (V.ref gn),some (V.ref R),some (V.ref W),some (V.ref D),some (V.ref f),o1,o2,o3]/\m=ss.length-t/\zag gn H H'/\H' gn=some (nD P w gn gk')/\GnK H' gk'/\(∀g,hasG gk' g↔hasG gk g∨∃i,i<t/\g=itr ss e i)/\gk'.length<=gk.length+t/\H' R=some (.lst zs)/\LR (RgX H R W) H' zs rs/\zs.length<=t/\H W=none/\W≠R/\H' W=some (.lst ys)/\LR QH H' ys wy/\wy.length<=t+1/\H' D=some (.dT (pkW wy))/\S2H H' f (itr ss e t)/\Way ss e t wy rs
def sp_way(P:kq)(w:pX):Sp:=fun vs H Q _=>∃(H0:Hp)(st lv gn:Addr)(kvs:List (List Key×V))(gk:List N3)(ss:List (Q3×Q3))(e:Q3×Q3),vs=[.ref st,.ref lv,.ref gn]/\S2H H st e/\Lv H0 H lv kvs ss/\ss.length<=150/\H gn=some (nD P w gn gk)/\GnK H gk/\gk.length<=10000/\Fen ss/\e∈ss/\
 ∀(R:Addr)(zs:List V)(rs:List (List Q3))(t:Nat)(H':Hp)(gk':List N3),zag gn H H'->H' gn=some (nD P w gn gk')->GnK H' gk'->(∀g,hasG gk' g↔hasG gk g∨g∈(uB (t+1)).map (itr ss e))->gk'.length<=gk.length+(t+1)->t<ss.length->H R=none->H' R=some (.lst zs)->LR (RgX H R R) H' zs rs->zs.length<=t+1->(∀q,q∈rs->q.Nodup/\2<=q.length)->(rs.flatMap sds).Perm ((uB (t+1)).map (itr ss e))->suc ss (itr ss e t)=e->(∀j,0<j->j<=t->itr ss e j≠e)->rs=(wyF ss e t).2++[(wyF ss e t).1]->Q (.ref R) H'
theorem zj8(T:Txt K mg ad fd):FnOk P w K mg base CX0 6 (ad 9) (fd 9) ["start","leaving","gone"] (sp_way P w):=by
 refine T.way_round.fn.ok zao (fun vs H Q E h=>?_) (fun cdv A outer s H vs Q E hr h=>?_)
 ·obtain⟨H0,st,lv,gn,kvs,gk,ss,e,rfl,_⟩:=h;rfl
 obtain⟨H0,st,lv,gn,kvs,gk,ss,e,rfl,hst,hlv,hss,hgn,hgk,lgk,Fe,hes,k⟩:=h;have zV:=@pss5;have zd:=@zbn;have zn:=@zd9;have zy:=@zci;have zg:=@pa1;have zc:=@ze5;have qpv:=@pv;have za:=@zbr;have yw:=@pe_disp1;have zS:=@zg5;have zQ:=@zl7;have zR:=@pe_bl;have zZ:=@zke;have zm:=@zdc;have zf:=@pa2;have zh:=@zbb;have zu:=@pa3;have yb:=@zod;have zo:=@zen;have zv:=@zcs;have zF:=@pss2;have zA:=@zdk;have zx:=@zgr;have ze:=@zav;have zp:=@zbx;have zP:=@zhn;have yx:=@pc_din;have zE:=@pss4;have zM:=@zfh;have zN:=@zgh;have zO:=@zgk;have zb:=@zds;have zr:=@zdj;have zq:=@zc3;have zk:=@zby;have zj:=@zaf;have yy:=@pe_dpopT;have yd:=@zny;have zC:=@zd3;generalize @L2.PE=QE,@L2.PT=QT,@L2.PW=QW,@L2.PA=QA,@L2.PS=QS,@L2.PSs=QSs,@L2.PG=QG,@L2.PGs=QGs,@L2.PI=QI,@L2.PO=QO,@L2.PIf=QIf,@L2.PC=QC,@L2.PK=QK at zV zd zn zy zg zc qpv za yw zS zQ zR zZ zm zf zh zu yb zo zv zF zA zx ze zp zP yx zE zM zN zO zb zr zq zk zj yy yd zC⊢;refine⟨_,
  (zV
   (zd (i:=3) zao.nd rfl (pB rfl) (zn zy))
   (zd (i:=4) zao.nd rfl (pB rfl) (zn (zg (zc za3 (qpv 0) za (fun _ _=>rfl)) za7)))
   (zd (i:=5) zao.nd rfl (pB rfl) (yw (zft hr) (zc za3 (qpv 0) za (fun _ _=>rfl)) za))
   (zd (i:=6) zao.nd rfl (pB rfl) (qpv 0))
   (zS pz (zQ zR) (zV
   (zZ (P:=P) (w:=w) rfl rfl (hu64 hr) (qpv 2) (qpv 6) zR rfl)
   (zd (i:=7) zao.nd rfl (pB rfl) (zc za3 (qpv 6) za (fun _ _=>rfl)))
   (zd (i:=6) zao.nd rfl (pB rfl) (zm (zf (qpv 7) za1 (zh (zgy T) (hr.mono (by decide)) rfl T.first_right.mg T.first_right.fn.kp T.first_right.bn .nil pass0 (zu (qpv 7) za1 (zc za3 (qpv 6) za (fun _ _=>rfl)) za7 (yb (zft hr) (qpv 1) (qpv 7) (fun _ _=>rfl)) za7)) zbq)))
   (zo (zv (zkt (hu64 hr)) (qpv 6) (qpv 0) (nomark _)) (zF
   (zA (zx pD uF uG zb7 (qpv 3) (zg (qpv 4) za1)))
   (ze (qpv 3))) zp)
   (zo (zP (yx (zft hr) (qpv 7) (qpv 5))) (zE
   (zd (i:=8) zao.nd rfl (pB rfl) (zM zc9 (qpv 4) (zN (yb (zft hr) (qpv 5) (qpv 7) (fun _ _=>rfl))) zO))
   (zA (zx pD uF uG zb7 (qpv 3) (zg (qpv 8) za1)))
   (zd (i:=4) zao.nd rfl (pB rfl) (zM zc9 (qpv 4) zO (zN (zb zbi (yb (zft hr) (qpv 5) (qpv 7) (fun _ _=>rfl)) za))))
   (zr pz rfl (zq (zM zc9 (qpv 8) (zN za) zO)) (zk (i:=9) zao.nd rfl (pB rfl)) (zj (zA (yy (zft hr) (qpv 5) (qpv 9) ⟨rfl,rfl,rfl,rfl⟩))))) (zF
   (yd (zft hr) (qpv 5) (qpv 7) (zC zgs rfl T.b_len zh6 (zg (qpv 4) za1)) rfl)
   (zA (zx pD uF uG zb7 (qpv 4) (zg (qpv 7) za1))))))))
  ,?_⟩
 clear zV zd zn zy zg zc qpv za yw zS zQ zR zZ zm zf zh zu yb zo zv zF zA zx ze zp zP yx zE zM zN zO zb zr zq zk zj yy yd zC QE QT QW QA QS QSs QG QGs QI QO QIf QC QK
 dsimp! [L2.start]
 obtain⟨s0,s1,hst',hs0,hs1⟩:=id hst;simp! [tDisp1];intro R hR;have gR:=za2 hR (HO.lst []);have hR1:upd H R (HO.lst []) R=some (.lst []):=upd_same;generalize upd H R (HO.lst [])=H1 at*;have hst1:=gR _ _ hst';simp! [hst1];intro W hW;have gW:=za2 hW (HO.lst [V.ref s0]);have hW1:upd H1 W (HO.lst [V.ref s0]) W=some (.lst [V.ref s0]):=upd_same;generalize upd H1 W (HO.lst [V.ref s0])=H2 at*;intro D hD;have gD:=za2 hD (HO.dT (putK [] (kQ e.1) (V.int 0)));have gD':=za2 hD (HO.dT []);have g2:=gR.trans gW;have hRW:R≠W:=zax hR1 hW;have hRD:R≠D:=zax (gW _ _ hR1) hD;have hWH:H W=none:=gR.free hW;have hDH:H D=none:=g2.free hD;have lvn:lv≠gn:=fun z=>by have:=hlv.at_;rw[z,hgn] at this;cases this
 refine⟨_,gD' _ _ (g2 _ _ hst'),_,at0,kQ e.1,s0,rfl,(gD' _ _ (g2 _ _ hs0.1)),?_⟩;refine zpk (WayJ P w H st lv gn R D gk ss e) ⟨_,0,st,W,[V.ref s0],[],[e.1],[],gk,none,none,none,rfl,rfl,fun b u nb z=>gD _ _ (g2 _ _ z),gD _ _ (g2 _ _ hgn),hgk.ts (za8 (g2.trans gD)),fun g=>⟨.inl,fun h=>h.elim id fun⟨i,hi,_⟩=>absurd hi (Bb _)⟩,kJ _,gD _ _ (gW _ _ hR1),.nil,kJ _,hWH,hRW.symm,gD _ _ hW1,LR.one (R:=QH) (hs0.same (g2.trans gD)),kJ _,upd_same,zfs _ _ _ _ (za8 (g2.trans gD)) hst,Way.start⟩ ?_;clear gD gD' gR gW hW1 hR1 hRW hWH hD hW;rintro m σ H3 ⟨t,f,W,ys,zs,wy,rs,gk2,o1,o2,o3,rfl,rfl,sg,hg3,hk3,hh,lg,hR3,hz3,lz,hWH,nWR,hW3,hy3,lw3,hD3,hf,wa⟩;have tf:=Fe.few hes wa.no;have fm:=Fe.itr hes t;have pos:=wa.pos;have lyw:=hy3.1;obtain⟨f0,f1,hf',hf0,hf1⟩:=id hf;simp! [sNPut,tDGet,tDIn,sDPut,zn4];refine⟨_,fun σ' H' z=>z,gk2,hg3,hk3.kn,kE (itr ss e t),hf.nk,small10k (by omega),?_⟩
 generalize hO:nD P w gn (putN gk2 (kE (itr ss e t)) f (V.bl true))=O;have tp:=zgu (o:=O) hg3;have hg4:upd H3 gn O gn=some O:=upd_same;have hk4:=(hk3.put (v:=V.bl true) hf).ts tp;have sg4:=zag.own sg (o:=O);have hR4:=zd1 (o:=O) (u:=.lst []) (a:=R) (b:=gn) (fun z=>by rw[z,hg3] at hR3;cases hR3) hR3
 have hW4:=zd1 (o:=O) (u:=.lst []) (a:=W) (b:=gn) (fun z=>by rw[z,hg3] at hW3;cases hW3) hW3
 have hD4:=zd1 (o:=O) (u:=.lst []) (a:=D) (b:=gn) (fun z=>by rw[z,hg3] at hD3;cases hD3) hD3
 have hy4:=hy3.ts zbz tp;have hz4:LR (RgX H R W) (upd H3 gn O) zs rs:=hz3.imp fun p r⟨x1,x2,x3,us,x4,x5⟩=>⟨x1,x2,x3,us,zd1 (u:=.lst []) (fun z=>by rw[z,hg3] at x4;cases x4) x4,x5.ts zbz tp⟩
 have hf4:=tp _ _ hf';have hf04:QH _ f0 (itr ss e t).1:=zbz _ _ _ _ tp hf0;have hf14:QH _ f1 (itr ss e t).2:=zbz _ _ _ _ tp hf1;generalize upd H3 gn O=H4 at*;have ts4:za9 H H4:=zmj sg4 hgn;have hlv4:H4 lv=some (.dT kvs):=sg4 _ _ lvn hlv.at_;have out:=Fe.out _ fm;obtain⟨v,hv⟩:∃v,valV kvs (kQ (itr ss e t).2)=some v:=by
  cases z:valV kvs (kQ (itr ss e t).2) with
  |some v=>exact⟨v,rfl⟩
  |none=>exact absurd (hlv.non _ z) out
 obtain⟨l,us,rfl,_,hl,hu⟩:=hlv.ent _ _ hv;have hl4:H4 l=some (.lst us):=sg4 _ _ (fun z=>by rw[z,hgn] at hl;cases hl) hl
 have lu:us.length<=200:=by rw[hu.1];exact pV (zkx _ _) (by omega)
 refine⟨_,hf4,_,at1,_,hf4,_,at0,_,by rw[←hv];exact .t (k:=kQ (itr ss e t).2) hlv4 hf14.1,f1,f0,l,us,(itr ss e t).2,(itr ss e t).1,leav ss (itr ss e t).2,rfl,hf14,hf04,hl4,lu,hu.ts zbz ts4,out,fun rr H5 g5 hr5=>?_⟩
 intro p hp;have g6:=za2 hp (HO.tup [V.ref f1,V.ref rr]);have hp6:upd H5 p (HO.tup [V.ref f1,V.ref rr]) p=some (.tup [V.ref f1,V.ref rr]):=upd_same;generalize upd H5 p (HO.tup [V.ref f1,V.ref rr])=H6 at*;have g46:=g5.trans g6;have hf16:=hf14.same g46;have hs6:S2H H6 p (suc ss (itr ss e t)):=⟨f1,rr,hp6,hf16,hr5.same g6⟩;have sg6:=zag.same sg4 g46;have ts6:za9 H H6:=zmj sg6 hgn;have hg6:=g46 _ _ hg4;have hR6:=g46 _ _ hR4;have hW6:=g46 _ _ hW4;have hD6:=g46 _ _ hD4;have hy6:=hy4.same g46;have hk6:=hk4.ts (za8 g46);have hz6:LR (RgX H R W) H6 zs rs:=hz4.imp fun p r⟨x1,x2,x3,x4⟩=>⟨x1,x2,x3,x4.same g46⟩;have lp:=zg9 gk2 (kE (itr ss e t)) f (V.bl true);have hh6:∀g,hasG (putN gk2 (kE (itr ss e t)) f (V.bl true)) g↔hasG gk g∨∃i,i<t+1/\g=itr ss e i:=fun g=>by
  rw[has_put,hh,or_assoc];refine or_congr De ⟨fun h=>?_,fun⟨i,hi,z⟩=>?_⟩
  ·rcases h with⟨i,hi,z⟩|z
   ·exact⟨i,by omega,z⟩
   ·exact⟨t,by omega,z⟩
  ·rcases Uu i t with y|y
   ·exact .inl ⟨i,y,z⟩
   ·exact .inr (by rw[z,show i=t by omega])
 refine⟨_,_,rd_s hs6,rd_s (zfs _ _ _ _ ts6 hst),zja _,zja _,_,rfl,?_⟩;rw[dS_eqv]
 by_cases c:suc ss (itr ss e t)=e
 ·rw[decide_eq_true c];refine iteT ⟨zbw hR6,zs,hR6,small1000 (by omega),?_⟩
  subst hO;obtain⟨d1,d2⟩:=wa.done Fe hes c;refine k R (zs++[V.ref W]) (rs++[wy]) t _ _ (zag.put sg6 hR) (zd1 (u:=.lst []) (fun z=>by rw[z,hR6] at hg6;cases hg6) hg6) (hk6.ts (zc4 hR6)) (fun g=>?_) (by omega) tf hR upd_same ?_ (by rw[kK,pg];omega) d1 d2 c wa.no (by rw[wa.fn])
  ·rw[hh6,km];exact or_congr De ⟨fun⟨i,hi,z⟩=>⟨i,pO.mpr hi,z.symm⟩,fun⟨i,hi,z⟩=>⟨i,pO.mp hi,z.symm⟩⟩
  ·refine(LR.snoc (R:=RgX H R R) (hz6.imp fun p r⟨x1,x2,x3,x4⟩=>⟨x1,x2,x2,x4⟩) (p:=W) (a:=wy) ⟨hWH,nWR,nWR,ys,hW6,hy6⟩).imp fun p r⟨x1,x2,x3,x4⟩=>⟨x1,x2,x3,x4.put x2 hR6⟩
 ·rw[decide_eq_false c];refine iteF ⟨_,.t (k:=kQ (itr ss e t).2) hD6 hf16.1,?_⟩
  by_cases pw:(itr ss e t).2∈wy
  ·obtain⟨i,hi,ei⟩:=pN.mp pw;rw[←ze6 hi] at ei;have vi:=pkW_val wa.nd hi;rw[ei] at vi;rw[vi];refine iteT ⟨_,by rw[←vi];exact .t (k:=kQ (itr ss e t).2) hD6 hf16.1,_,rfl,ys,hW6,fun q1 hq1=>?_⟩
   rw[zff (xs:=ys) (m:=i) (by omega)]
   have g7:=za2 hq1 (HO.lst (ys.drop i));have h71:upd H6 q1 (HO.lst (ys.drop i)) q1=some (HO.lst (ys.drop i)):=upd_same;have q1H:=zo3 sg6 hg6 hq1;have q1R:q1≠R:=fun z=>by rw[z,hR6] at hq1;cases hq1
   have q1W:q1≠W:=fun z=>by rw[z,hW6] at hq1;cases hq1
   generalize upd H6 q1 (HO.lst (ys.drop i))=H7 at*;have hR7:=g7 _ _ hR6;refine⟨zbw hR7,zs,hR7,small1000 (by omega),?_⟩
   have nDR:D≠R:=hRD.symm;have t8:=zc4 (o:=HO.lst (zs++[V.ref q1])) hR7;have h81:=zd1 (o:=HO.lst (zs++[V.ref q1])) (u:=.lst []) q1R h71;have hD8:=zd1 (o:=HO.lst (zs++[V.ref q1])) (u:=.lst []) nDR (g7 _ _ hD6);have hW8:=zd1 (o:=HO.lst (zs++[V.ref q1])) (u:=.lst []) nWR (g7 _ _ hW6);have hg8:=zd1 (o:=HO.lst (zs++[V.ref q1])) (u:=.lst []) (a:=gn) (b:=R) (fun z=>by rw[z,hR6,←hO] at hg6;cases hg6) (g7 _ _ hg6)
   have hR8:upd H7 R (HO.lst (zs++[V.ref q1])) R=some (HO.lst (zs++[V.ref q1])):=upd_same;have sg8:=zag.put (zag.same sg6 g7) (o:=HO.lst (zs++[V.ref q1])) hR;have t68:za9 H6 _:=zfc (za8 g7) t8;have hf18:=zbz _ _ _ _ t68 hf16;have hz8:LR (RgX H R W) (upd H7 R (HO.lst (zs++[V.ref q1]))) (zs++[V.ref q1]) (rs++[wy.drop i]):=(LR.snoc (R:=RgX H R W) (hz6.imp fun p r⟨x1,x2,x3,x4⟩=>⟨x1,x2,x3,x4.same g7⟩) (p:=q1) (a:=wy.drop i) ⟨q1H,q1R,q1W,_,h71,(hy6.drop i).same g7⟩).imp fun p r⟨x1,x2,x3,x4⟩=>⟨x1,x2,x3,x4.put x2 hR7⟩;have hy8:=hy6.ts zbz t68;have hk8:=hk6.ts t68;have hs8:=zfs _ _ _ _ t68 hs6;generalize upd H7 R (HO.lst (zs++[V.ref q1]))=H8 at*;refine⟨_,by rw[←vi];exact .t (k:=kQ (itr ss e t).2) hD8 hf18.1,_,rfl,ys,hW8,fun q2 hq2=>?_⟩
   rw[show((i:Int)+1)=((i+1:Nat):Int) by omega,zlz (xs:=ys) (m:=i+1) (by omega)]
   have g9:=za2 hq2 (HO.lst (ys.take (i+1)));have h92:upd H8 q2 (HO.lst (ys.take (i+1))) q2=some (HO.lst (ys.take (i+1))):=upd_same;have q2H:=zo3 sg8 hg8 hq2;have q2R:q2≠R:=fun z=>by rw[z,hR8] at hq2;cases hq2
   have hz9:LR (RgX H R q2) (upd H8 q2 (HO.lst (ys.take (i+1)))) (zs++[V.ref q1]) (rs++[wy.drop i]):=hz8.imp fun p r⟨x1,x2,x3,us',x4,x5⟩=>⟨x1,x2,(fun z=>by rw[z,hq2] at x4;cases x4),us',g9 _ _ x4,x5.same g9⟩
   generalize upd H8 q2 (HO.lst (ys.take (i+1)))=H9 at*;have h91:=g9 _ _ h81;refine zbs ?_;simp! [zcu,h91,ziv];intro q3 hq3;have gA:=za2 hq3 (HO.lst ((ys.drop i).drop 1));have hA3:upd H9 q3 (HO.lst ((ys.drop i).drop 1)) q3=some (HO.lst ((ys.drop i).drop 1)):=upd_same;generalize upd H9 q3 (HO.lst ((ys.drop i).drop 1))=HA at*;have g8A:=g9.trans gA;have hDA:=g8A _ _ hD8;have hyA:=hy8.same g8A;refine⟨⟨_,.of hA3⟩,?_⟩;refine zb0 (K:=K) (a:=q3) (xs:=(ys.drop i).drop 1) (fun j σ H'=>zag D HA H'/\H' D=some (.dT ((pkW wy).take (i+1)++(pkW wy).drop (i+1+j)))/\∃o:Option V,σ=[some (V.ref st),some (V.ref lv),some (V.ref gn),some (V.ref R),some (V.ref q2),some (V.ref D),some (V.ref p),some (V.ref f1),some (V.ref q1),o]) ⟨fun _ _ _ h=>h,by rw[BQ,uE];exact hDA,o3,rfl⟩ (fun j σ H' _ iv=>.of (iv.1 _ _ (fun z=>by rw[z,hDA] at hA3;cases hA3) hA3)) ?_ ?_
   ·intro _ _;rintro j v σ HB hj ⟨sB,hDB,o,rfl⟩;rw[UL,Uh] at hj;obtain⟨b,x,rfl,hx,hb⟩:=hyA.2 _ v hj;have hlt:=(kD.mp hx).1;have ex:nx wy (i+1+j)=x:=by
     rw[nx_at (by omega)] at hx
     exact uK hx
    have hbB:HB b=some (.tup ((kQ x).map kV)):=sB _ _ (fun z=>by have:=hb.1;rw[z,hDA] at this;cases this) hb.1
    have dr:(pkW wy).drop (i+1+j)=(kQ x,V.int ((i+1+j:Nat):Int))::(pkW wy).drop (i+1+(j+1)):=by
     have l1:i+1+j<(pkW wy).length:=by rw[zks];exact hlt
     rw[QF l1];have:=pkW_at hlt;rw[kI l1,ex] at this;rw[uK this];rfl
    rw[dr] at hDB;simp! [zn4];exact⟨zns hDB,_,_,_,⟨_,hDB⟩,hbB,zag.own sB,rfl⟩
   ·rintro σ HB ⟨sB,hDB,o,rfl⟩;subst hO;have le:i+1+((ys.drop i).drop 1).length=wy.length:=by rw[kj,kj];omega
    rw[le,vV (by rw[zks];exact kJ _),uT,←pkW_take hi] at hDB
    have tB:za9 HA HB:=ts_T sB hDA;have nD:∀{a:Addr}{xs:List V},HA a=some (.lst xs)->HB a=some (.lst xs):=fun h=>sB _ _ (fun z=>by rw[z,hDA] at h;cases h) h
    have ngD:gn≠D:=fun z=>by rw[z,hD8] at hg8;cases hg8
    refine⟨ss.length-(t+1),by omega,t+1,p,q2,ys.take (i+1),zs++[V.ref q1],wy.take (i+1),rs++[wy.drop i],_,_,_,_,rfl,rfl,?_,sB _ _ ngD (g8A _ _ hg8),(hk8.ts (za8 g8A)).ts tB,hh6,by omega,nD (g8A _ _ hR8),?_,by rw[kK,pg];omega,q2H,q2R,nD (gA _ _ h92),((hyA.take (i+1)).ts zbz tB),by rw[kY];omega,hDB,zfs _ _ _ _ tB (zfs _ _ _ _ (za8 g8A) hs8),wa.cut Fe hes hi ei c⟩
    ·intro b u nb z;exact sB _ _ (fun y=>by rw[y,hDH] at z;cases z) (g8A _ _ (sg8 b u nb z))
    ·exact hz9.imp fun p r⟨x1,x2,x3,us',x4,x5⟩=>⟨x1,x2,x3,us',nD (gA _ _ x4),(x5.same gA).ts zbz tB⟩
  ·rw[zm1 pw];have hD7:=DPut.t (v:=V.int ys.length) (k:=kQ (itr ss e t).2) hD6 hf16.1 (small1000 (by rw[zks];omega))
   refine iteF ⟨ys,.inl hW6,_,hD7,?_⟩;rw[zlc _ (zm1 pw),show((ys.length:Int))=((wy.length:Nat):Int) by omega,←pkW_snoc]
   have nWD:W≠D:=fun z=>by rw[z,hD6] at hW6;cases hW6
   have t7:=zkp (o:=.dT (pkW (wy++[(itr ss e t).2]))) hD6;have hW7:=zd1 (o:=.dT (pkW (wy++[(itr ss e t).2]))) (u:=.lst []) nWD hW6;have hR7:=zd1 (o:=.dT (pkW (wy++[(itr ss e t).2]))) (u:=.lst []) hRD hR6;have hg7:=zd1 (o:=.dT (pkW (wy++[(itr ss e t).2]))) (u:=.lst []) (a:=gn) (b:=D) (fun z=>by rw[z,hD6,←hO] at hg6;cases hg6) hg6
   have hD7':upd H6 D (.dT (pkW (wy++[(itr ss e t).2]))) D=some (.dT (pkW (wy++[(itr ss e t).2]))):=upd_same;have sg7:=zag.put sg6 (o:=.dT (pkW (wy++[(itr ss e t).2]))) hDH;have hy7:=hy6.ts zbz t7;have hk7:=hk6.ts t7;have hs7:=zfs _ _ _ _ t7 hs6;have hf17:=zbz _ _ _ _ t7 hf16;have hz7:LR (RgX H R W) (upd H6 D (.dT (pkW (wy++[(itr ss e t).2])))) zs rs:=hz6.imp fun p r⟨x1,x2,x3,us',x4,x5⟩=>⟨x1,x2,x3,us',zd1 (u:=.lst []) (fun z=>by rw[z,hD6] at x4;cases x4) x4,x5.ts zbz t7⟩
   generalize upd H6 D (.dT (pkW (wy++[(itr ss e t).2])))=H7 at*;subst hO;have tW:=zc4 (o:=.lst (ys++[V.ref f1])) hW7;refine⟨zbw hW7,ys,hW7,small1000 (by omega),ss.length-(t+1),by omega,t+1,p,W,ys++[V.ref f1],zs,wy++[(itr ss e t).2],rs,_,_,_,_,rfl,rfl,zag.put sg7 hWH,zd1 (u:=.lst []) (fun z=>by rw[z,hW7] at hg7;cases hg7) hg7,hk7.ts tW,hh6,by omega,zd1 (u:=.lst []) nWR.symm hR7,hz7.imp fun p r⟨x1,x2,x3,x4⟩=>⟨x1,x2,x3,x4.put x3 hW7⟩,by omega,hWH,nWR,upd_same,(hy7.snoc hf17).ts zbz tW,by rw[kK,pg];omega,zd1 (u:=.lst []) nWD.symm hD7',zfs _ _ _ _ tW hs7,wa.push c pw⟩
theorem Lv.sameT{P:kq}{w:pX}{H0 H H':Hp}{d gn:Addr}{kvs:List (List Key×V)}{ss:List (Q3×Q3)}{gk:List N3}(h:Lv H0 H d kvs ss)(g:zag gn H H')(hg:H gn=some (nD P w gn gk))(h0:H0 gn=none):Lv H0 H' d kvs ss:=by
 refine⟨fun b u e=>g _ _ (fun z=>by rw[z,h0] at e;cases e) (h.same _ _ e),h.new,g _ _ (fun z=>by have:=h.at_;rw[z,hg] at this;cases this) h.at_,h.len,fun p v e=>?_,h.non,h.dis⟩
 obtain⟨a,zs,e1,e2,e3,e4⟩:=h.ent p v e;exact⟨a,zs,e1,e2,g _ _ (fun z=>by rw[z,hg] at e3;cases e3) e3,e4.ts zbz (zmj g hg)⟩
theorem Lv.put{H0 H:Hp}{d R:Addr}{kvs:List (List Key×V)}{ss:List (Q3×Q3)}{zs us:List V}(h:Lv H0 H d kvs ss)(hR:H R=some (.lst zs))(h0:H0 R=none)(nR:∀p,valV kvs (kQ p)≠some (.ref R)):Lv H0 (upd H R (.lst us)) d kvs ss:=by
 refine⟨zbh h.same h0,h.new,?_,h.len,fun p v e=>?_,h.non,h.dis⟩
 ·rw[za6 (fun z=>by rw[←z,h.at_] at hR;cases hR)]
  exact h.at_
 ·obtain⟨a,ys,e1,e2,e3,e4⟩:=h.ent p v e;refine⟨a,ys,e1,e2,?_,e4.ts zbz (zc4 hR)⟩;rw[za6 (fun z=>nR p (by rw[e,e1,z]))]
  exact e3
def RgN(R:Addr)(H:Hp)(p:Addr)(r:List Q3):Prop:=p≠R/\RgQ H p r
theorem zp2{R:Addr}{H:Hp}{ys us:List V}{rs:List (List Q3)}(h:LR (RgN R) H ys rs)(hR:H R=some (.lst us))(o:HO):LR (RgN R) (upd H R o) ys rs:=h.imp fun p r t=>⟨t.1,t.2.put t.1 hR⟩
theorem zlt{R:Addr}{H H':Hp}{ys:List V}{rs:List (List Q3)}(h:LR (RgN R) H ys rs)(g:Same H H'):LR (RgN R) H' ys rs:=h.imp fun p r t=>⟨t.1,t.2.same g⟩
theorem RgQ.sameT{P:kq}{w:pX}{H H':Hp}{gn p:Addr}{gk:List N3}{r:List Q3}(h:RgQ H p r)(g:zag gn H H')(hg:H gn=some (nD P w gn gk)):RgQ H' p r:=by
 obtain⟨zs,h1,h2⟩:=h;exact⟨zs,g _ _ (fun z=>by rw[z,hg] at h1;cases h1) h1,h2.ts zbz (zmj g hg)⟩
theorem zdn.len{q r:List Q3}(h:zdn q r):q.length=r.length:=by
 obtain⟨i,hi,rfl,_⟩:=h;exact zf0 _ _
theorem zdn.mem{q r:List Q3}(h:zdn q r){x:Q3}:x∈q↔x∈r:=by
 obtain⟨i,hi,rfl,_⟩:=h;exact zp4
theorem zdn.nodup{q r:List Q3}(h:zdn q r)(nd:r.Nodup):q.Nodup:=by
 obtain⟨i,hi,rfl,_⟩:=h;refine(List.Perm.nodup_iff ?_).mpr nd;unfold rot;refine QU.trans ?_;rw[uE]
theorem zdn.least{q r:List Q3}(h:zdn q r){x:Q3}(hx:x∈q):bq x (nx q 0)=false:=by
 have hm:=h.mem.mp hx;obtain⟨i,hi,e,l⟩:=h;exact l x hm
theorem sds_perm{r:List Q3}{i:Nat}(hi:i<r.length):(sds (rot r i)).Perm (sds r):=by
 have e:sds (rot r i)=rot (sds r) i:=by
  refine jq fun j=>?_;have l1:(sds r).length=r.length:=by unfold sds;rw[kL,uO]
  by_cases hj:j<r.length
  ·rw[rot_at (by rw[l1];exact hi) (by rw[l1];exact hj),l1]
   unfold sds;rw[zf0,pS,pS,jJ hj,jJ (Cb _ (by omega))]
   show some (nx (rot r i) j,nx (rot r i) (j+1))=some (nx r ((i+j)%r.length),nx r ((i+j)%r.length+1))
   rw[zhf hi,zhf hi,zge,←zge r ((i+j)%r.length+1),Dc,zge,vB]
  ·rw[uS (by unfold sds;rw[kL,uO,zf0];omega),uS (by rw[zf0,l1];omega)]
 rw[e];unfold rot;refine QU.trans ?_;rw[uE]
theorem zdn.pm{q r:List Q3}(h:zdn q r):(Mine.sds q).Perm (Mine.sds r):=by
 obtain⟨i,hi,rfl,_⟩:=h;exact sds_perm hi
theorem zkg(r:List Q3):(sds r).length=r.length:=by unfold sds;rw[kL,uO]
structure Fnd(ss:List (Q3×Q3))(qs:List (List Q3))(gk:List N3)(gl:List (Q3×Q3)):Prop where
 rg:∀q,q∈qs->q.Nodup/\2<=q.length
 pm:(qs.flatMap sds).Perm gl
 nd:gl.Nodup
 sub:∀e,e∈gl->e∈ss
 bk:∀e,e∈ss->suc ss e∈gl->e∈gl
 gone:∀e,hasG gk e↔e∈gl
theorem Fnd.put{ss:List (Q3×Q3)}{qs rs:List (List Q3)}{gk gk':List N3}{gl:List (Q3×Q3)}{e:Q3×Q3}{t:Nat}(F:Fen ss)(he:e∈ss)(h:Fnd ss qs gk gl)(hn:¬hasG gk e)(hg:∀g,hasG gk' g↔hasG gk g∨g∈(uB (t+1)).map (itr ss e))(d1:∀q,q∈rs->q.Nodup/\2<=q.length)(d2:(rs.flatMap sds).Perm ((uB (t+1)).map (itr ss e)))(cl:suc ss (itr ss e t)=e)(no:∀j,0<j->j<=t->itr ss e j≠e):Fnd ss (qs++rs) gk' (gl++(uB (t+1)).map (itr ss e)):=by
 have down:∀i,itr ss e i∈gl->e∈gl:=fun i=>by
  induction i with
  |zero=>exact id
  |succ i ih=>exact fun z=>ih (h.bk _ (F.itr he i) z)
 have ne:¬e∈gl:=fun z=>hn ((h.gone e).mpr z);refine⟨fun q hq=>(kW.mp hq).elim (h.rg q) (d1 q),?_,?_,fun g hg'=>?_,fun g hgs hg'=>?_,fun g=>?_⟩
 ·rw[jK];exact h.pm.append d2
 ·refine US.mpr ⟨h.nd,F.orb he no,fun a ha b hb z=>?_⟩;obtain⟨i,_,rfl⟩:=km.mp hb;rw[z] at ha;exact ne (down i ha)
 ·rcases kW.mp hg' with z|z
  ·exact h.sub g z
  ·obtain⟨i,_,rfl⟩:=km.mp z;exact F.itr he i
 ·rcases kW.mp hg' with z|z
  ·exact uP _ (h.bk g hgs z)
  ·refine kh _ ?_;obtain⟨i,hi,z⟩:=km.mp z;have hi:=pO.mp hi
   cases i with
   |zero=>
    have z:e=suc ss g:=z;rw[F.inj g (itr ss e t) hgs (F.itr he t) (by rw[←z,cl])]
    exact km.mpr ⟨t,pO.mpr (by omega),rfl⟩
   |succ i=>
    rw[F.inj g (itr ss e i) hgs (F.itr he i) z.symm];exact km.mpr ⟨i,pO.mpr (by omega),rfl⟩
 ·rw[hg,h.gone,kW]
inductive Run (ss:List (Q3×Q3)):Nat->List (List Q3)->List (Q3×Q3)->Prop where
 |nil:Run ss 0 [] []
 |skip {i qs gl e}:Run ss i qs gl->ss[i]?=some e->e∈gl->Run ss (i+1) qs gl
 |go {i qs gl e t}:Run ss i qs gl->ss[i]?=some e->¬e∈gl->suc ss (itr ss e t)=e->(∀j,0<j->j<=t->itr ss e j≠e)->Run ss (i+1) (qs++((wyF ss e t).2++[(wyF ss e t).1])) (gl++(uB (t+1)).map (itr ss e))
theorem run_one{ss:List (Q3×Q3)}{e:Q3×Q3}{t t':Nat}(c:suc ss (itr ss e t)=e)(c':suc ss (itr ss e t')=e)(n:∀j,0<j->j<=t->itr ss e j≠e)(n':∀j,0<j->j<=t'->itr ss e j≠e):t=t':=by
 rcases ji t t' with z|z|z
 ·exact absurd c (n' (t+1) (by omega) (by omega))
 ·exact z
 ·exact absurd c' (n (t'+1) (by omega) (by omega))
theorem Run.det{ss:List (Q3×Q3)}{i:Nat}{qs qs':List (List Q3)}{gl gl':List (Q3×Q3)}(h:Run ss i qs gl)(h':Run ss i qs' gl'):qs=qs'/\gl=gl':=by
 induction h generalizing qs' gl' with
 |nil=>cases h';exact⟨rfl,rfl⟩
 |skip r e1 m ih=>
  cases h' with
  |skip r' e2 m'=>exact ih r'
  |go r' e2 m' _ _=>
   obtain⟨_,rfl⟩:=ih r';rw[e1] at e2
   cases e2;exact absurd m m'
 |go r e1 m c n ih=>
  cases h' with
  |skip r' e2 m'=>
   obtain⟨_,rfl⟩:=ih r';rw[e1] at e2
   cases e2;exact absurd m' m
  |go r' e2 m' c' n'=>
   obtain⟨rfl,rfl⟩:=ih r';rw[e1] at e2
   cases e2;rw[run_one c c' n n'];exact⟨rfl,rfl⟩
theorem zew{α:Type}[DecidableEq α]:∀{a b:List α},a.Nodup->b.Nodup->(∀x,x∈a↔x∈b)->a.Perm b:=fun{a b} ha hb h=>(List.perm_ext_iff_of_nodup ha hb).mpr h
structure Told(ss:List (Q3×Q3))(g:Int)(os:List (List Q3)):Prop where
 pq:∀r,r∈os->∀p,p∈r->PQ 700 p/\p.w<=g
 ord:OrdR g os
 rg:∀q,q∈os->q.Nodup/\3<=q.length
 least:∀q,q∈os->∀x,x∈q->bq x (nx q 0)=false
 pm:(os.flatMap sds).Perm ss
 run:∃qs gl cs,Run ss ss.length qs gl/\(∀q,q∈qs->q.Nodup)/\cs.length=qs.length/\(∀(j:Nat) c q,cs[j]?=some c->qs[j]?=some q->zdn c q)/\os.Perm cs
theorem lt2_bq{g:Int}{a b:Q3}(ha:PQ 700 a)(hb:PQ 700 b)(ga:a.w<=g)(gb:b.w<=g)(h:lt2 (kyQ g a) (kyQ g b)=true):bq a b=true:=by
 cases h1:bq a b with
 |true=>rfl
 |false=>
  exfalso
  cases h2:bq b a with
  |true=>
   have:=sto2.tr _ _ _ h (zn6 hb.pos ha.pos gb ga h2);rw[sto2.irr] at this
   cases this
  |false=>
   rw[znu ha hb h1 h2,sto2.irr] at h
   cases h
theorem ltL_ky{g g':Int}:∀{a b:List Q3},(∀p,p∈a->PQ 700 p/\p.w<=g/\p.w<=g')->(∀p,p∈b->PQ 700 p/\p.w<=g/\p.w<=g')->ltL (a.map (kyQ g)) (b.map (kyQ g))=true->ltL (a.map (kyQ g')) (b.map (kyQ g'))=true
 |[],[],_,_,h=>h
 |[],_::_,_,_,_=>rfl
 |_::_,[],_,_,h=>h
 |x::xs,y::ys,ha,hb,h=>by
  obtain⟨x1,x2,x3⟩:=ha x (by simp)
  obtain⟨y1,y2,y3⟩:=hb y (by simp)
  rw[ki,ki,zei] at h⊢
  by_cases e:x=y
  ·subst e;rw[if_pos rfl] at h⊢;exact ltL_ky (fun p hp=>ha p (kT _ hp)) (fun p hp=>hb p (kT _ hp)) h
  ·rw[if_neg (fun z=>e (zi5 x1 y1 x2 y2 z))] at h;rw[if_neg (fun z=>e (zi5 x1 y1 x3 y3 z))];exact zn6 x1.pos y1.pos x3 y3 (lt2_bq x1 y1 x2 y2 h)
theorem zfk{α:Type}{r:α->α->Prop}(as:∀a b,r a b->¬r b a):∀{a b:List α},a.Pairwise r->b.Pairwise r->a.Perm b->a=b
 |[],b,_,_,p=>p.nil_eq
 |x::a,[],_,_,p=>by cases p.length_eq
 |x::a,y::b,ha,hb,p=>by
  have ha':=AQ.mp ha;have hb':=AQ.mp hb;have e:x=y:=by
   rcases pF.mp (p.mem_iff.mp (uJ ..)) with z|z
   ·exact z
   ·rcases pF.mp (p.mem_iff.mpr (uJ (a:=y) (l:=b))) with z'|z'
    ·exact z'.symm
    ·exact absurd (hb'.1 x z) (as _ _ (ha'.1 y z'))
  subst e;rw[zfk as ha'.2 hb'.2 (List.perm_cons _|>.mp p)]
theorem Told.det{ss:List (Q3×Q3)}{g g':Int}{os os':List (List Q3)}(h:Told ss g os)(h':Told ss g' os'):os=os':=by
 obtain⟨qs,gl,cs,r,nd,lc,can,pm⟩:=h.run;obtain⟨qs',gl',cs',r',nd',lc',can',pm'⟩:=h'.run;obtain⟨rfl,_⟩:=r.det r';have ec:cs=cs':=by
  refine jq fun j=>?_
  by_cases hj:j<qs.length
  ·have z1:=kI (l:=cs) (i:=j) (by omega)
   have z2:=kI (l:=cs') (i:=j) (by omega)
   have z3:=kI (l:=qs) (i:=j) hj;rw[z1,z2];have c1:=can j _ _ z1 z3;refine congrArg some (c1.uniq (n:=700) (nd _ (QP _)) (fun x hx=>?_) (can' j _ _ z2 z3));exact(h.pq _ (pm.mem_iff.mpr (QP (by omega:j<cs.length))) x (c1.mem.mpr hx)).1
  ·rw[uS (by omega),uS (by omega)]
 subst ec;have pp:=pm.trans pm'.symm;refine zfk (r:=fun(a b:List Q3)=>ltL (a.map (kyQ g)) (b.map (kyQ g))=true) (fun a b h1 h2=>?_) h.ord ?_ pp
 ·have:=stoL.tr _ _ _ h1 h2;rw[stoL.irr] at this
  cases this
 ·exact h'.ord.imp_of_mem fun{a b} ha hb z=>ltL_ky (fun p hp=>⟨(h'.pq a ha p hp).1,(h'.pq a ha p hp).2,(h.pq a (pp.mem_iff.mpr ha) p hp).2⟩) (fun p hp=>⟨(h'.pq b hb p hp).1,(h'.pq b hb p hp).2,(h.pq b (pp.mem_iff.mpr hb) p hp).2⟩) z
theorem zeh{α β:Type}{f:α->List β}{l:List α}{a:α}(h:a∈l){b:β}(hb:b∈f a):b∈l.flatMap f:=List.mem_flatMap.mpr ⟨a,h,hb⟩
theorem zf9{os:List (List Q3)}(h:∀q,q∈os->3<=q.length):3*os.length<=(os.flatMap sds).length:=by
 induction os with
 |nil=>exact kJ _
 |cons q os ih=>
  rw[UA,kK,uD,zkg];have:=h q (by simp)
  have:=ih fun q hq=>h q (kT _ hq);omega
theorem flat_len3'{os:List (List Q3)}(h:∀q,q∈os->2<=q.length):2*os.length<=(os.flatMap sds).length:=by
 induction os with
 |nil=>exact kJ _
 |cons q os ih=>
  rw[UA,kK,uD,zkg];have:=h q (by simp)
  have:=ih fun q hq=>h q (kT _ hq);omega
theorem zi1{os:List (List Q3)}{q:List Q3}(h:q∈os):q.length<=(os.flatMap sds).length:=by
 induction os with
 |nil=>cases h
 |cons r os ih=>
  rw[UA,kK,zkg];rcases pF.mp h with z|z
  ·rw[z];omega
  ·have:=ih z;omega
theorem Fen.three{ss:List (Q3×Q3)}(F:Fen ss){q:List Q3}(h2:2<=q.length)(h:∀e,e∈sds q->e∈ss):3<=q.length:=by
 rcases Uu 2 q.length with z|z
 ·exact z
 ·exfalso
  have l:q.length=2:=by omega
  have a:=h _ (zik (r:=q) (by omega) 0)
  have b:=h _ (zik (r:=q) (by omega) 1)
  have e:nx q (1+1)=nx q 0:=by
   have:=nx_len q 0;rw[l] at this;exact this
  rw[e] at b;exact F.rv _ a b
theorem zha{cs:List (List Q3)}(h:∀q,q∈cs->2<=q.length)(nd:(cs.flatMap sds).Nodup):cs.Nodup:=by
 induction cs with
 |nil=>exact vG
 |cons q cs ih=>
  rw[UA,US] at nd;refine List.nodup_cons.mpr ⟨fun z=>?_,ih (fun q hq=>h q (kT _ hq)) nd.2.1⟩;have s0:=zik (r:=q) (by have:=h q (by simp);omega) 0
  exact nd.2.2 _ s0 _ (zeh z s0) rfl
theorem zga:∀{cs qs:List (List Q3)},cs.length=qs.length->(∀(j:Nat) c q,cs[j]?=some c->qs[j]?=some q->zdn c q)->(cs.flatMap sds).Perm (qs.flatMap sds)
 |[],[],_,_=>.refl _
 |[],_::_,l,_=>by cases l
 |_::_,[],l,_=>by cases l
 |c::cs,q::qs,l,h=>by
  rw[UA,UA];exact(h 0 c q rfl rfl).pm.append (zga (EM l) fun j c q h1 h2=>h (j+1) c q h1 h2)
def sp_rings(P:kq)(w:pX)(tb:Addr)(lp:Pos)(ql:Str):Sp:=fun vs H Q _=>∃(l:Addr)(ys:List V)(ss:List (Q3×Q3)),vs=[.ref l]/\H l=some (.lst ys)/\ys.length<=150/\LR S2H H ys ss/\Fen ss/\zc5 H tb lp ql/\
 ∀D zs os g H',H D=none->zag tb H H'->zc5 H' tb lp ql->H' D=some (.lst zs)->LR (fun H1 p r=>H p=none/\p≠D/\RgQ H1 p r) H' zs os->Told ss g os->Q (.ref D) H'
def RingI(P:kq)(w:pX)(H:Hp)(l lv gn R:Addr)(kvs:List (List Key×V))(ss:List (Q3×Q3))(i:Nat)(σ:St)(H':Hp):Prop:=∃(zs:List V)(gk:List N3)(qs:List (List Q3))(gl:List (Q3×Q3))(o:Option V),σ=[some (V.ref l),some (V.ref lv),some (V.ref gn),some (V.ref R),o]/\Lv H H' lv kvs ss/\H' gn=some (nD P w gn gk)/\GnK H' gk/\gk.length<=gl.length/\H' R=some (.lst zs)/\LR (RgN R) H' zs qs/\Fnd ss qs gk gl/\Run ss i qs gl/\∀e,e∈ss.take i->hasG gk e
theorem zex(T:Txt K mg ad fd)(hK:K.In base)(hB:base.BuiltinsAt mg (ad 31)):FnOk P w K mg base CX0 7 (ad 7) (fd 7) ["land"] (sp_rings P w (ad 31) lposP qlP):=by
 refine T.rings_of.fn.ok zdb (fun vs H Q E h=>?_) (fun cdv A outer s H vs Q E hr h=>?_)
 ·obtain⟨l,ys,ss,rfl,_⟩:=h;rfl
 obtain⟨l,ys,ss,rfl,hl,hn,hs,Fe,lt,k⟩:=h;have zV:=@pss5;have zd:=@zbn;have zh:=@zbb;have zg:=@pa1;have qpv:=@pv;have ya:=@zkc;have zn:=@zd9;have zy:=@zci;have zr:=@zdj;have zq:=@zc3;have zk:=@zby;have zj:=@zaf;have zo:=@zen;have zP:=@zhn;have zT:=@zfa;have zA:=@zdk;have zx:=@zgr;have zu:=@pa3;have zp:=@zbx;have ze:=@zav;have zG:=@zfq;unfold L2.CompBody at zG;have zH:=@zez;generalize @L2.PE=QE,@L2.PT=QT,@L2.PW=QW,@L2.PA=QA,@L2.PS=QS,@L2.PSs=QSs,@L2.PG=QG,@L2.PGs=QGs,@L2.PI=QI,@L2.PO=QO,@L2.PIf=QIf,@L2.PC=QC,@L2.PK=QK at zV zd zh zg qpv ya zn zy zr zq zk zj zo zP zT zA zx zu zp ze zG zH⊢;refine⟨_,
  (zV
   (zd (i:=1) zdb.nd rfl (pB rfl) (zh (zie T) (hr.mono (by decide)) rfl T.leaving_of.mg T.leaving_of.fn.kp T.leaving_of.bn .nil pass0 (zg (qpv 0) za1)))
   (zd (i:=2) zdb.nd rfl (pB rfl) (ya (P:=P) (w:=w) rfl rfl))
   (zd (i:=3) zdb.nd rfl (pB rfl) (zn zy))
   (zr pz rfl (zq (qpv 0)) (zk (i:=4) zdb.nd rfl (pB rfl)) (zj (zo (zP (zT (P:=P) (w:=w) rfl rfl (hu64 hr) (qpv 4) (qpv 2))) (zj (zA (zx pD jN jO zgj (qpv 3) (zg (zh (zj8 T) (hr.mono (by decide)) rfl T.way_round.mg T.way_round.fn.kp T.way_round.bn .nil pass0 (zu (qpv 4) za1 (qpv 1) za1 (qpv 2) za1)) zbq)))) zp)))
   (ze (zh (zj1 T hK hB) (hr.mono (by decide)) rfl T.by_points.mg T.by_points.fn.kp T.by_points.bn .nil pass0 (zg (zG (dsc:=za0 zbj) (N:=["land","leaving","gone","rings","fence"]) (own:=["ring"]) (ix:=[]) rfl rfl rfl ⟨rfl,by decide+kernel,by decide+kernel,by decide+kernel,by decide+kernel⟩ (zq (qpv 3)) (fun cl C fp s2 H2 xe=>⟨(zk (i:=0) (show UG (["ring"]:List Str) from by decide+kernel) rfl (pB rfl)),zH,(zh (zi6 T) (hr.mono (by decide)) rfl T.from_least.mg T.from_least.fn.kp T.from_least.bn .nil pass0 (zg (qpv 0) za1))⟩)) zdy))))
  ,?_⟩
 clear zV zd zh zg qpv ya zn zy zr zq zk zj zo zP zT zA zx zu zp ze zG zH QE QT QW QA QS QSs QG QGs QI QO QIf QC QK
 dsimp! [L2.start]
 simp! [tNNew];have lss:=hs.1;refine⟨l,ys,ss,rfl,hl,by omega,hs,fun lv kvs H1 hlv lv1=>?_⟩
 intro gn hgn;have gG:=za2 hgn (nD P w gn []);have hg2:upd H1 gn (nD P w gn []) gn=some (nD P w gn []):=upd_same;have lv2:=lv1.mono gG;generalize upd H1 gn (nD P w gn [])=H2 at*;intro R hR;have gR:=za2 hR (HO.lst []);have hR3:upd H2 R (HO.lst []) R=some (.lst []):=upd_same;have nR:∀p,valV kvs (kQ p)≠some (.ref R):=fun p z=>by
  obtain⟨a,zs,e1,_,e3,_⟩:=lv2.ent _ _ z
  cases e1;rw[hR] at e3
  cases e3
 have lv3:=lv2.mono gR;have hgnH:H gn=none:=lv1.same.free hgn;have hRH:H R=none:=lv2.same.free hR;have hg3:=gR _ _ hg2;generalize upd H2 R (HO.lst [])=H3 at*;refine zbs ?_;simp! [zcu];refine⟨⟨_,.of (lv3.same _ _ hl)⟩,?_⟩;refine zb0 (K:=K) (a:=l) (xs:=ys) (RingI P w H l lv gn R kvs ss)
  ⟨[],[],[],[],none,rfl,lv3,hg3,fun p hp=>(by cases hp),kJ _,hR3,.nil,⟨fun q hq=>(by cases hq),.refl _,vG,fun e he=>(by cases he),fun e _ he=>(by cases he),fun e=>⟨fun z=>(by cases z),fun z=>(by cases z)⟩⟩,.nil,fun e he=>(by rw[uz] at he;cases he)⟩ (fun i σ H' _ iv=>.of (by obtain⟨_,_,_,_,_,_,lv',_⟩:=iv;exact lv'.same _ _ hl)) ?_ ?_
 ·intro _ _;rintro i v σ H4 hi ⟨zs,gk,qs,gl,o,rfl,lv4,hg4,hk4,lg,hR4,hq4,fd4,rn4,al⟩;obtain⟨p,e,rfl,he',hp⟩:=hs.2 i v hi;have hi':=(kD.mp hi).1;have hp4:=zfs _ _ _ _ (za8 lv4.same) hp;have gkm:gn≠R:=fun z=>by rw[z,hR4] at hg4;cases hg4
  have hes:=ko he';simp! [zgf];refine⟨gk,.inl hg4,hk4.kn,kE e,hp4.nk,ite2 (fun c=>?_) (fun c=>?_)⟩
  ·have hn':¬hasG gk e:=fun z=>by unfold hasG at z;rw[z] at c;cases c
   have gll:gl.length<=ss.length:=zd8 _ _ fd4.nd fd4.sub;have gkl:gk.length<=10000:=by omega
   refine⟨zbw hR4,H,p,lv,gn,kvs,gk,ss,e,rfl,hp4,lv4,by omega,hg4,hk4,gkl,Fe,hes,fun R' us rs t H5 gk' sg5 hg5 hk5 hh lg5 tl hR' hR5 hu5 lu d1 d2 cl no fn=>?_⟩
   have lv5:=lv4.sameT sg5 hg4 hgnH;have hRR:H5 R=some (.lst zs):=sg5 _ _ gkm.symm hR4;have hq5:LR (RgN R) H5 zs qs:=hq4.imp fun p r t=>⟨t.1,t.2.sameT sg5 hg4⟩;have u5:LR (RgN R) H5 us rs:=hu5.imp fun p r⟨x1,_,_,x4⟩=>⟨(fun z=>by rw[z,hR4] at x1;cases x1),x4⟩
   have fd5:=fd4.put Fe hes hn' hh d1 d2 cl no;have lzs:zs.length<=150:=by
    rw[hq4.1];have a:=flat_len3' (os:=qs) fun q hq=>(fd4.rg q hq).2;rw[fd4.pm.length_eq] at a;omega
   simp! [zif,hR5];refine⟨zs,hRR,uv (small1000 (by omega)),?_⟩
   have hg5:H5 gn=some (nD P w gn gk'):=hg5;refine⟨zs++us,gk',qs++rs,_,_,rfl,lv5.put hRR hRH nR,zd1 (u:=.lst []) gkm hg5,hk5.ts (zc4 hRR),?_,upd_same,?_,fd5,by rw[fn];exact .go rn4 he' (fun z=>hn' ((fd4.gone e).mpr z)) cl no,fun f hf=>?_⟩
   ·rw[kK,kL,uO];omega
   ·exact zp2 (hq5.app u5) hRR _
   ·rw[uC,he'] at hf;rw[hh];rcases kW.mp hf with hf|hf
    ·exact .inl (al f hf)
    ·have:f=e:=by simpa using hf
     rw[this];exact .inr (km.mpr ⟨0,pO.mpr (by omega),rfl⟩)
  ·have hy:hasG gk e:=by
    unfold hasG
    cases z:(valN gk (kE e)).isSome with
    |true=>rfl
    |false=>exact absurd (by rw[z];rfl) c
   refine⟨zs,gk,qs,gl,_,rfl,lv4,hg4,hk4,lg,hR4,hq4,fd4,.skip rn4 he' ((fd4.gone e).mp hy),fun f hf=>?_⟩;rw[uC,he'] at hf;rcases kW.mp hf with hf|hf
   ·exact al f hf
   ·have:f=e:=by simpa using hf
    rw[this];exact hy
 ·rintro σ H4 ⟨zs,gk,qs,gl,o,rfl,lv4,hg4,hk4,lg,hR4,hq4,fd4,rn4,al⟩;rw[kX (Qp hs.1.symm)] at al;have gp:gl.Perm ss:=zew fd4.nd Fe.nd fun x=>⟨fd4.sub x,fun hx=>(fd4.gone x).mp (al x hx)⟩;have pms:=fd4.pm.trans gp;have three:∀q,q∈qs->3<=q.length:=fun q hq=>Fe.three (fd4.rg q hq).2 fun e he=>pms.mem_iff.mp (zeh hq he);have lq3:=zf9 three;rw[pms.length_eq] at lq3;simp! [];refine zcn ?_;simp! [zcu];refine⟨⟨_,.of hR4⟩,fun D hD=>?_⟩;refine zce (xs:=zs) (fun i us H'=>Same H4 H'/\H' D=some (.lst us)/\us.length=i/\∃cs,LR (fun H1 p r=>H p=none/\RgN D H1 p r) H' us cs/\∀(j:Nat) c q,cs[j]?=some c->qs[j]?=some q->zdn c q) ⟨za2 hD _,upd_same,rfl,[],.nil,fun j c q z=>(by cases z)⟩ (fun i us H' iv=>.of (iv.1 _ _ hR4)) ?_ ?_
  ·rintro i us H5 v hi hv ⟨g5,hD5,lu,cs,hcs,can⟩;obtain⟨p,q,rfl,hq',_,ws,hw,hws⟩:=hq4.2 i v hv;have hqm:=ko hq';have r3:=three q hqm;have r10:=zi1 hqm;rw[pms.length_eq] at r10;simp! [];refine⟨p,ws,q,rfl,g5 _ _ hw,hws.same g5,by omega,by omega,fun E1 es c H6 hE g6 hE6 he6 ic=>?_⟩
   have hD6:=g6 _ _ hD5;have nE:E1≠D:=fun z=>by rw[z,hD5] at hE;cases hE
   refine cw_put hi hD6 (small1000 (by have:=hq4.1;omega)) ⟨zbh (g5.trans g6) hD,upd_same,by rw[kK,lu];rfl,cs++[c],?_,fun j c' q' h1 h2=>?_⟩
   ·exact((hcs.imp (R':=fun H1 p r=>H p=none/\RgN D H1 p r) fun p r t=>⟨t.1,t.2.1,t.2.2.same g6⟩).snoc (R:=fun H1 p r=>H p=none/\RgN D H1 p r) ⟨(lv4.same.trans g5).free hE,nE,es,hE6,he6⟩).imp fun p r t=>⟨t.1,t.2.1,t.2.2.put t.2.1 hD6⟩
   ·have lc:cs.length=i:=by rw[←hcs.1,lu]
    by_cases e:j<cs.length
    ·rw[po e] at h1;exact can j c' q' h1 h2
    ·rw[pd (by omega)] at h1
     have ej:j=i:=by
      have:=(kD.mp h1).1;simp only[uD,jR] at this;omega
     subst ej;rw[lc,jp] at h1
     cases h1;rw[hq'] at h2
     cases h2;exact ic
  ·rintro us H5 ⟨g5,hD5,lu,cs,hcs,can⟩;have lcs:cs.length=qs.length:=by rw[←hcs.1,lu,hq4.1]
   have at_:∀c,c∈cs->∃q,q∈qs/\zdn c q:=fun c hc=>by
    obtain⟨j,hj⟩:=pW.mp hc;have hj':j<qs.length:=by rw[←lcs];exact(kD.mp hj).1
    exact⟨qs[j],QP _,can j c _ hj (kI hj')⟩
   have cpm:=(zga lcs can).trans pms;have c3:∀c,c∈cs->3<=c.length:=fun c hc=>by
    obtain⟨q,hq,ic⟩:=at_ c hc;rw[ic.len];exact three q hq
   have nd:cs.Nodup:=zha (fun c hc=>Nat.le_of_succ_le (c3 c hc)) (cpm.nodup_iff.mpr Fe.nd);have g05:=lv4.same.trans g5;refine⟨D,us,cs,fun p=>H p=none/\H5 p≠none,rfl,hD5,by have:=hcs.1;omega,hcs.imp (fun p r t=>⟨⟨t.1,fun z=>by obtain⟨u,h1,_⟩:=t.2.2;rw[z] at h1;cases h1⟩,t.2.2⟩),fun c hc=>by have:=zi1 hc;rw[cpm.length_eq] at this;omega,nd,lt.same g05,fun F zs6 os g H6 hF st6 lt6 hF6 ho pm gw od=>?_⟩
   refine k F zs6 os g H6 (g05.free hF) (zag.trans (zag.of g05) st6) lt6 hF6 (ho.imp fun p r t=>⟨t.1.1,fun z=>t.1.2 (by rw[z];exact hF),t.2⟩) ⟨fun r hr=>gw r (pm.mem_iff.mp hr),od,fun q hq=>?_,fun q hq x hx=>?_,?_,qs,gl,cs,by rw[hs.1] at rn4;exact rn4,fun q hq=>(fd4.rg q hq).1,lcs,can,pm⟩
   ·have hq:=pm.mem_iff.mp hq;obtain⟨r,hr,ic⟩:=at_ q hq;exact⟨ic.nodup (fd4.rg r hr).1,c3 q hq⟩
   ·have hq:=pm.mem_iff.mp hq;obtain⟨r,hr,ic⟩:=at_ q hq;exact ic.least hx
   ·exact(pm.flatMap_right sds).trans cpm
def C3H(H:Hp)(p:Addr)(c:Int×Int×Int):Prop:=H p=some (.tup [.int c.1,.int c.2.1,.int c.2.2])/\0<=c.1/\c.1<=3/\0<=c.2.1/\c.2.1<=2/\0<=c.2.2/\c.2.2<=3
theorem zm9:∀(H H':Hp)(p:Addr)(c:Int×Int×Int),za9 H H'->C3H H p c->C3H H' p c:=fun _ _ _ _ g h=>⟨g _ _ h.1,h.2⟩
def zp6(K:kM):Sp:=fun vs H Q _=>∃(a:Addr)(ns:List Int)(w h:Int),vs=[.ref a,.int w,.int h]/\SqL K H a (ns.map V.int)/\1<=w/\w<=4/\1<=h/\h<=3/\∀D zs cs H',H D=none->Same H H'->H' D=some (.lst zs)->zs.length<=48->LR C3H H' zs cs->Q (.ref D) H'
theorem zin(T:Txt K mg ad fd):FnOk P w K mg base CX0 2 (ad 16) (fd 16) ["_law_script","_law_wide","_law_high"] (zp6 K):=by
 refine T.law_cells.fn.ok ze9 (fun vs H Q E h=>?_) (fun cdv A outer s H vs Q E hr h=>?_)
 ·obtain⟨a,ns,w,h,rfl,_⟩:=h;rfl
 obtain⟨a,ns,wd,hg,rfl,hS,w1,w4,h1,h3,k⟩:=h;have zB:=@pss3;have zd:=@zbn;have zn:=@zd9;have zy:=@zci;have zr:=@zdj;have zY:=@zgo;have zg:=@pa1;have zb:=@zds;have za:=@zbr;have qpv:=@pv;have zk:=@zby;have zj:=@zaf;have zo:=@zen;have zv:=@zcs;have zh:=@zbb;have zf:=@pa2;have zA:=@zdk;have zx:=@zgr;have zm:=@zdc;have zu:=@pa3;have zp:=@zbx;have ze:=@zav;generalize @L2.PE=QE,@L2.PT=QT,@L2.PW=QW,@L2.PA=QA,@L2.PS=QS,@L2.PSs=QSs,@L2.PG=QG,@L2.PGs=QGs,@L2.PI=QI,@L2.PO=QO,@L2.PIf=QIf at zB zd zn zy zr zY zg zb za qpv zk zj zo zv zh zf zA zx zm zu zp ze⊢;refine⟨_,
  (zB
   (zd (i:=3) ze9.nd rfl (pB rfl) (zn zy))
   (zr pz rfl (zY rfl T.b_range (zg (zb zas (zb zdq za (qpv 1)) (qpv 2)) zaa)) (zk (i:=4) ze9.nd rfl (pB rfl)) (zj (zo (zv zpz (zb zco (zh (zbp T) (hr.mono (by decide)) rfl T.law_cell.mg T.law_cell.fn.kp T.law_cell.bn .nil pass0 (zf (qpv 0) za1 (zb zbi za (qpv 4)) zaa)) za) za (nomark _)) (zj (zA (zx pD uF uG zb7 (qpv 3) (zg (zm (zu (zb zk5 (zb zf1 (qpv 4) za) (qpv 1)) zaa (zb zdx (zb zf1 (qpv 4) za) (qpv 1)) zaa (zb zco (qpv 4) za) zaa)) zat)))) zp)))
   (ze (qpv 3)))
  ,?_⟩
 clear zB zd zn zy zr zY zg zb za qpv zk zj zo zv zh zf zA zx zm zu zp ze QE QT QW QA QS QSs QG QGs QI QO QIf
 dsimp! [L2.start]
 simp! [];intro D hD;have gD:=za2 hD (HO.lst []);refine zbs ?_;simp! [iRng1];have e8:(2:Nat)^8=256:=rfl;have ub:4*wd*hg<=48:=by
  have:4*wd*hg<=16*3:=Dt (by omega) h3 (by omega) (by omega)
  omega
 have lb:0<=4*wd*hg:=Dw (by omega) (by omega)
 refine⟨.inl ⟨by decide,by decide⟩,cbig (m:=8) (n:=8) (by omega) (by omega),by omega,by omega,zfv (fun i σ H'=>Same H H'/\∃(zs:List V)(cs:List (Int×Int×Int))(o:Option V),σ=[some (V.ref a),some (V.int wd),some (V.int hg),some (V.ref D),o]/\H' D=some (.lst zs)/\zs.length<=i/\LR C3H H' zs cs) ⟨gD,[],[],none,rfl,upd_same,kJ _,.nil⟩ ?_ ?_⟩
 ·intro _ _;rintro i σ H2 hi ⟨g2,zs,cs,o,rfl,hD2,hn,hz⟩;have hi48:(i:Int)<4*wd*hg:=by omega
  simp! [Uw];refine⟨a,ns,_,rfl,g2.seq hS,by omega,by omega,fun v=>⟨_,rfl,by decide,ite2 (fun _=>?_) (fun _=>?_)⟩⟩
  ·have wn:wd≠0:=by omega
   refine⟨zbw hD2,⟨by decide,by decide⟩,wn,⟨by decide,by decide⟩,cdivb wn (n:=8) (by omega),by decide,fun p hp=>?_⟩
   rw[AC _ (by omega),QX _ (by omega)]
   have j0:0<=(i:Int)/4:=by omega
   have j1:(i:Int)/4<wd*hg:=by
    have:4*wd*hg=4*(wd*hg):=by rw[Int.mul_assoc]
    omega
   have q0:0<=(i:Int)%4/\(i:Int)%4<=3:=by omega
   generalize (i:Int)/4=j at*;generalize (i:Int)%4=qq at*;have m0:=Bd j wn;have m1:=AT j (show 0<wd by omega)
   have d0:0<=j/wd:=Int.ediv_nonneg j0 (by omega)
   have d1:j/wd<hg:=Int.ediv_lt_of_lt_mul (by omega) (by rw[jG];exact j1)
   generalize j%wd=cx at*;generalize j/wd=cy at*;have g3:=za2 hp (HO.tup [V.int cx,V.int cy,V.int qq]);have h3':upd H2 p (HO.tup [V.int cx,V.int cy,V.int qq]) p=some (HO.tup [V.int cx,V.int cy,V.int qq]):=upd_same;generalize upd H2 p (HO.tup [V.int cx,V.int cy,V.int qq])=H3 at*;have hD3:=g3 _ _ hD2;exact⟨zs,hD3,small1000 (by omega),zbh (g2.trans g3) hD,by rw[kK,pg];omega,_,((hz.ts zm9 (za8 g3)).snoc (a:=(cx,cy,qq)) ⟨h3',by show 0<=cx;omega,by show cx<=3;omega,by show 0<=cy;omega,by show cy<=2;omega,by show 0<=qq;omega,by show qq<=3;omega⟩).ts zm9 (zc4 hD3)⟩
  ·exact⟨g2,zs,hD2,by omega,cs,hz⟩
 ·rintro σ H2 ⟨g2,zs,cs,o,rfl,hD2,hn,hz⟩;simp! [];exact k D zs cs H2 hD g2 hD2 (by omega) hz
def sp_ends3:Sp:=fun vs H Q _=>∃(p:Addr)(c:Int×Int×Int),vs=[.ref p]/\C3H H p c/\∀D e0 e1 e2 a0 a1 a2 k0 k1 k2 H',H D=none->Same H H'->H' D=some (.lst [.ref e0,.ref e1,.ref e2])->P2H H' e0 a0->P2H H' e1 a1->P2H H' e2 a2->Bx a0->Bx a1->Bx a2->triK c=[(a0,k0),(a1,k1),(a2,k2)]->stp a0 k0=a1->stp a1 k1=a2->stp a2 k2=a0->Q (.ref D) H'
theorem zk6(T:Txt K mg ad fd):FnOk P w K mg base CX0 1 (ad 17) (fd 17) ["_law_cell_here"] sp_ends3:=by
 refine T.law_ends.fn.ok zdw (fun vs H Q E h=>?_) (fun cdv A outer s H vs Q E hr h=>?_)
 ·obtain⟨p,c,rfl,_⟩:=h;rfl
 obtain⟨p,⟨cx,cy,qq⟩,rfl,⟨hp,x0,x1,y0,y1,q0,q1⟩,k⟩:=h;dsimp only at hp x0 x1 y0 y1 q0 q1;have zE:=@pss4;have zd:=@zbn;have zb:=@zds;have za:=@zbr;have zc:=@ze5;have qpv:=@pv;have zn:=@zd9;have yz:=@pa5;have zm:=@zdc;have zf:=@pa2;have ze:=@zav;have zu:=@pa3;generalize @L2.PE=QE,@L2.PT=QT,@L2.PW=QW,@L2.PA=QA,@L2.PS=QS,@L2.PSs=QSs,@L2.PG=QG,@L2.PGs=QGs,@L2.PI=QI,@L2.PO=QO,@L2.PIf=QIf at zE zd zb za zc qpv zn yz zm zf ze zu⊢;refine⟨_,
  (zE
   (zd (i:=1) zdw.nd rfl (pB rfl) (zb zdq za (zc za3 (qpv 0) za (fun _ _=>rfl))))
   (zd (i:=2) zdw.nd rfl (pB rfl) (zb zdq za (zc za3 (qpv 0) za (fun _ _=>rfl))))
   (zd (i:=3) zdw.nd rfl (pB rfl) (zn (yz (zm (zf (qpv 1) za1 (qpv 2) za1)) zat (zm (zf (zb zbi (qpv 1) za) zaa (qpv 2) za1)) zat (zm (zf (zb zbi (qpv 1) za) zaa (zb zbi (qpv 2) za) zaa)) zat (zm (zf (qpv 1) za1 (zb zbi (qpv 2) za) zaa)) zat (zm (zf (qpv 1) za1 (qpv 2) za1)) zat)))
   (ze (zn (zu (zc zaz (qpv 3) (zc za3 (qpv 0) za (fun _ _=>rfl)) (fun _ _=>rfl)) za7 (zc zaz (qpv 3) (zb zbi (zc za3 (qpv 0) za (fun _ _=>rfl)) za) (fun _ _=>rfl)) za7 (zm (zf (zb zbi (qpv 1) za) zaa (zb zbi (qpv 2) za) zaa)) zat))))
  ,?_⟩
 clear zE zd zb za zc qpv zn yz zm zf ze zu QE QT QW QA QS QSs QG QGs QI QO QIf
 dsimp! [L2.start]
 simp! [hp];refine⟨.inl ⟨by decide,by decide⟩,.inl ⟨by decide,by decide⟩,?_⟩
 intro p1 n1;have g1:=za2 n1 (HO.tup [V.int (2*cx),V.int (2*cy)]);have h1:upd H p1 (HO.tup [V.int (2*cx),V.int (2*cy)]) p1=some (HO.tup [V.int (2*cx),V.int (2*cy)]):=upd_same;generalize upd H p1 (HO.tup [V.int (2*cx),V.int (2*cy)])=K1 at*;intro p2 n2;have g2:=za2 n2 (HO.tup [V.int (2*cx+2),V.int (2*cy)]);have h2:upd K1 p2 (HO.tup [V.int (2*cx+2),V.int (2*cy)]) p2=some (HO.tup [V.int (2*cx+2),V.int (2*cy)]):=upd_same;generalize upd K1 p2 (HO.tup [V.int (2*cx+2),V.int (2*cy)])=K2 at*;intro p3 n3;have g3:=za2 n3 (HO.tup [V.int (2*cx+2),V.int (2*cy+2)]);have h3:upd K2 p3 (HO.tup [V.int (2*cx+2),V.int (2*cy+2)]) p3=some (HO.tup [V.int (2*cx+2),V.int (2*cy+2)]):=upd_same;generalize upd K2 p3 (HO.tup [V.int (2*cx+2),V.int (2*cy+2)])=K3 at*;intro p4 n4;have g4:=za2 n4 (HO.tup [V.int (2*cx),V.int (2*cy+2)]);have h4:upd K3 p4 (HO.tup [V.int (2*cx),V.int (2*cy+2)]) p4=some (HO.tup [V.int (2*cx),V.int (2*cy+2)]):=upd_same;generalize upd K3 p4 (HO.tup [V.int (2*cx),V.int (2*cy+2)])=K4 at*;intro p5 n5;have g5:=za2 n5 (HO.tup [V.int (2*cx),V.int (2*cy)]);have h5:upd K4 p5 (HO.tup [V.int (2*cx),V.int (2*cy)]) p5=some (HO.tup [V.int (2*cx),V.int (2*cy)]):=upd_same;generalize upd K4 p5 (HO.tup [V.int (2*cx),V.int (2*cy)])=K5 at*;refine⟨by decide,fun L nL=>?_⟩
 have g6:=za2 nL (HO.lst [V.ref p1,V.ref p2,V.ref p3,V.ref p4,V.ref p5]);have h6:upd K5 L (HO.lst [V.ref p1,V.ref p2,V.ref p3,V.ref p4,V.ref p5]) L=some (HO.lst [V.ref p1,V.ref p2,V.ref p3,V.ref p4,V.ref p5]):=upd_same;generalize upd K5 L (HO.lst [V.ref p1,V.ref p2,V.ref p3,V.ref p4,V.ref p5])=K6 at*;have g46:=g5.trans g6;have g36:=g4.trans g46;have g26:=g3.trans g36;have g16:=g2.trans g26;have g06:=g1.trans g16;have hp6:=g06 _ _ hp;obtain⟨A0,A1,a0,a1,k0,k1,k2,e0,e1,hA0,hA1,b0,b1,tk,s0,s1,s2⟩:∃(A0 A1:Addr)(a0 a1:Int×Int)(k0 k1 k2:Fin 8),atI [V.ref p1,V.ref p2,V.ref p3,V.ref p4,V.ref p5] qq=some (.ref A0)/\atI [V.ref p1,V.ref p2,V.ref p3,V.ref p4,V.ref p5] (qq+1)=some (.ref A1)/\P2H K6 A0 a0/\P2H K6 A1 a1/\Bx a0/\Bx a1/\triK (cx,cy,qq)=[(a0,k0),(a1,k1),((2*cx+1,2*cy+1),k2)]/\stp a0 k0=a1/\stp a1 k1=(2*cx+1,2*cy+1)/\stp (2*cx+1,2*cy+1) k2=a0:=by
  have t1:P2H K6 p1 (2*cx,2*cy):=g16 _ _ h1;have t2:P2H K6 p2 (2*cx+2,2*cy):=g26 _ _ h2;have t3:P2H K6 p3 (2*cx+2,2*cy+2):=g36 _ _ h3;have t4:P2H K6 p4 (2*cx,2*cy+2):=g46 _ _ h4;have t5:P2H K6 p5 (2*cx,2*cy):=g6 _ _ h5;have se:∀{x y x' y':Int},x=x'->y=y'->((x,y):Int×Int)=(x',y'):=fun h1 h2=>by rw[h1,h2]
  have bx:∀{x y:Int},0<=x->x<=8->0<=y->y<=6->Bx (x,y):=fun a b c d=>⟨a,b,c,d⟩;rcases(by omega:qq=0∨qq=1∨qq=2∨qq=3) with e|e|e|e<;>subst e
  ·exact⟨p1,p2,_,_,0,3,5,at0,at1,t1,t2,bx (by omega) (by omega) (by omega) (by omega),bx (by omega) (by omega) (by omega) (by omega),rfl,se (by show 2*cx+(2)=2*cx+2;omega) (by show 2*cy+(0)=2*cy;omega),se (by show 2*cx+2+(-1)=2*cx+1;omega) (by show 2*cy+(1)=2*cy+1;omega),se (by show 2*cx+1+(-1)=2*cx;omega) (by show 2*cy+1+(-1)=2*cy;omega)⟩
  ·exact⟨p2,p3,_,_,2,5,7,at1,at2,t2,t3,bx (by omega) (by omega) (by omega) (by omega),bx (by omega) (by omega) (by omega) (by omega),rfl,se (by show 2*cx+2+(0)=2*cx+2;omega) (by show 2*cy+(2)=2*cy+2;omega),se (by show 2*cx+2+(-1)=2*cx+1;omega) (by show 2*cy+2+(-1)=2*cy+1;omega),se (by show 2*cx+1+(1)=2*cx+2;omega) (by show 2*cy+1+(-1)=2*cy;omega)⟩
  ·exact⟨p3,p4,_,_,4,7,1,at2,at3,t3,t4,bx (by omega) (by omega) (by omega) (by omega),bx (by omega) (by omega) (by omega) (by omega),rfl,se (by show 2*cx+2+(-2)=2*cx;omega) (by show 2*cy+2+(0)=2*cy+2;omega),se (by show 2*cx+(1)=2*cx+1;omega) (by show 2*cy+2+(-1)=2*cy+1;omega),se (by show 2*cx+1+(1)=2*cx+2;omega) (by show 2*cy+1+(1)=2*cy+2;omega)⟩
  ·exact⟨p4,p5,_,_,6,1,3,at3,at4,t4,t5,bx (by omega) (by omega) (by omega) (by omega),bx (by omega) (by omega) (by omega) (by omega),rfl,se (by show 2*cx+(0)=2*cx;omega) (by show 2*cy+2+(-2)=2*cy;omega),se (by show 2*cx+(1)=2*cx+1;omega) (by show 2*cy+(1)=2*cy+1;omega),se (by show 2*cx+1+(-1)=2*cx;omega) (by show 2*cy+1+(1)=2*cy+2;omega)⟩
 refine⟨_,hp6,_,at2,_,_,rfl,rfl,_,e0,_,hp6,_,at2,_,rfl,_,e1,fun c nc=>?_⟩;have g7:=za2 nc (HO.tup [V.int (2*cx+1),V.int (2*cy+1)]);have h7:upd K6 c (HO.tup [V.int (2*cx+1),V.int (2*cy+1)]) c=some (HO.tup [V.int (2*cx+1),V.int (2*cy+1)]):=upd_same;generalize upd K6 c (HO.tup [V.int (2*cx+1),V.int (2*cy+1)])=K7 at*;intro D hD;have g8:=za2 hD (HO.lst [V.ref A0,V.ref A1,V.ref c]);have g08:=g06.trans (g7.trans g8);exact k D A0 A1 c a0 a1 (2*cx+1,2*cy+1) k0 k1 k2 _ ((g06.trans g7).free hD) g08 upd_same (zb2 _ _ _ _ (za8 (g7.trans g8)) hA0) (zb2 _ _ _ _ (za8 (g7.trans g8)) hA1) (g8 _ _ h7) b0 b1 ⟨by show 0<=2*cx+1;omega,by show 2*cx+1<=8;omega,by show 0<=2*cy+1;omega,by show 2*cy+1<=6;omega⟩ tk s0 s1 s2
def kP(a:Int×Int):List Key:=[.inl a.1,.inl a.2]
theorem zjk{a b:Int×Int}(h:kP a=kP b):a=b:=by
 obtain⟨x,y⟩:=a;obtain⟨x',y'⟩:=b;unfold kP at h
 cases h;rfl
def EdH(H:Hp)(p:Addr)(e:E2):Prop:=(∃c d,H p=some (.tup [.ref c,.ref d])/\P2H H c e.1/\P2H H d e.2)/\Bx e.1/\Bx e.2/\e.1≠e.2
theorem zmd:∀(H H':Hp)(p:Addr)(e:E2),za9 H H'->EdH H p e->EdH H' p e:=fun _ _ _ _ g⟨⟨c,d,h1,h2,h3⟩,b⟩=>⟨⟨c,d,g _ _ h1,g _ _ h2,g _ _ h3⟩,b⟩
theorem EdH.nk{H:Hp}{p:Addr}{e:E2}(h:EdH H p e):NK H p [kP e.1,kP e.2]:=by
 obtain⟨⟨c,d,h1,h2,h3⟩,_⟩:=h;exact NK.two h1 h2 h3
def EdK(H:Hp)(kvs:List N3):Prop:=∀p,p∈kvs->∃e,p.1=[kP e.1,kP e.2]/\EdH H p.2.1 e
theorem EdK.kn{H:Hp}{kvs:List N3}(h:EdK H kvs):KN H kvs:=fun p hp=>by
 obtain⟨e,e1,e2⟩:=h p hp;rw[e1];exact e2.nk
theorem EdK.ts{H H':Hp}{kvs:List N3}(h:EdK H kvs)(g:za9 H H'):EdK H' kvs:=fun p hp=>by
 obtain⟨e,e1,e2⟩:=h p hp;exact⟨e,e1,zmd _ _ _ _ g e2⟩
theorem EdK.put{H:Hp}{kvs:List N3}{b:Addr}{e:E2}{v:V}(h:EdK H kvs)(hb:EdH H b e):EdK H (putN kvs [kP e.1,kP e.2] b v):=by
 unfold putN
 split
 ·intro p hp;obtain⟨q,hq,z⟩:=km.mp hp;obtain⟨f,f1,f2⟩:=h q hq;rw[←z]
  split
  ·exact⟨f,f1,f2⟩
  ·exact⟨f,f1,f2⟩
 ·intro p hp;rcases kW.mp hp with hp|hp
  ·exact h p hp
  ·rw[kU.mp hp];exact⟨e,rfl,hb⟩
def kk(e:E2):K2:=[kP e.1,kP e.2]
theorem kk_inj{e f:E2}(h:kk e=kk f):e=f:=by
 unfold kk at h
 injection h with h1 h2
 injection h2 with h2 _
 exact ue (zjk h1) (zjk h2)
def hasE(kvs:List N3)(e:E2):Prop:=(valN kvs (kk e)).isSome=true
theorem zlf{kvs:List N3}{e f:E2}{b:Addr}{v:V}:hasE (putN kvs (kk e) b v) f↔hasE kvs f∨f=e:=by
 unfold hasE;rw[zd2,zd2,zgb]
 split
 ·rename_i c
  refine⟨.inl,fun z=>z.elim id fun z=>?_⟩;rw[z,←zd2];exact c
 ·rw[kW,kU];exact or_congr De ⟨kk_inj,fun z=>by rw[z]⟩
def ofK:K2->E2
 |[[.inl x,.inl y],[.inl z,.inl t]]=>((x,y),(z,t))
 |_=>((0,0),(0,0))
def esK(kvs:List N3):List E2:=kvs.map fun p=>ofK p.1
theorem EdK.at{H:Hp}{kvs:List N3}(h:EdK H kvs){p:N3}(hp:p∈kvs):p.1=kk (ofK p.1):=by
 obtain⟨e,e1,_⟩:=h p hp;rw[e1];rfl
theorem EdK.mem{H:Hp}{kvs:List N3}(h:EdK H kvs){e:E2}:e∈esK kvs↔hasE kvs e:=by
 unfold hasE;rw[zd2];unfold esK;rw[km,km];exact⟨fun⟨p,hp,z⟩=>⟨p,hp,by rw[h.at hp,z]⟩,fun⟨p,hp,z⟩=>⟨p,hp,by rw[z];rfl⟩⟩
theorem EdK.nodup{H:Hp}{kvs:List N3}(h:EdK H kvs)(nd:(kvs.map (·.1)).Nodup):(esK kvs).Nodup:=by
 unfold esK;rw[pM,uc] at nd⊢;exact nd.imp_of_mem fun{a b} ha hb n z=>n (by rw[h.at ha,h.at hb,z])
def zi7(kvs:List N3)(n:Nat):List E2:=((esK kvs).take n).filter fun e=> !(valN kvs (kk (e.2,e.1))).isSome
theorem stp_ne(a:Int×Int)(k:Fin 8):a≠stp a k:=fun z=>by
 unfold stp at z;have h1:=congrArg Dv z;have h2:=congrArg EV z;dsimp only at h1 h2;exact dv_ne k (ue (by show(dv k).1=0;omega) (by show(dv k).2=0;omega))
theorem sd_snoc{cs:List C3}{c:C3}{e:E2}:Sd (cs++[c]) e↔Sd cs e∨∃x,x∈triK c/\e=(x.1,stp x.1 x.2):=by
 unfold Sd
 constructor
 ·rintro⟨d,hd,a,k,h1,h2⟩;rcases kW.mp hd with z|z
  ·exact .inl ⟨d,z,a,k,h1,h2⟩
  ·rw[kU.mp z] at h1;exact .inr ⟨(a,k),h1,h2⟩
 ·rintro(⟨d,hd,a,k,h1,h2⟩|⟨⟨a,k⟩,h1,h2⟩)
  ·exact⟨d,uP _ hd,a,k,h1,h2⟩
  ·exact⟨c,kh _ (kU.mpr rfl),a,k,h1,h2⟩
def sp_edges:Sp:=fun vs H Q _=>∃(l:Addr)(zs:List V)(cs:List (Int×Int×Int)),vs=[.ref l]/\H l=some (.lst zs)/\zs.length<=48/\LR C3H H zs cs/\∀D ys es H',H D=none->Same H H'->H' D=some (.lst ys)->ys.length<=144->LR EdH H' ys es->es.Nodup->Edg cs es->Q (.ref D) H'
theorem zfw(T:Txt K mg ad fd):FnOk P w K mg base CX0 2 (ad 18) (fd 18) ["_law_cells_here"] sp_edges:=by
 refine T.law_edges.fn.ok zcq (fun vs H Q E h=>?_) (fun cdv A outer s H vs Q E hr h=>?_)
 ·obtain⟨l,zs,cs,rfl,_⟩:=h;rfl
 obtain⟨l,zs,cs,rfl,hl,hn,hz,k⟩:=h;have zB:=@pss3;have zd:=@zbn;have ya:=@zkc;have zr:=@zdj;have zq:=@zc3;have qpv:=@pv;have zk:=@zby;have zF:=@pss2;have zh:=@zbb;have zg:=@pa1;have zY:=@zgo;have za:=@zbr;have zj:=@zaf;have zZ:=@zke;have zm:=@zdc;have zf:=@pa2;have zc:=@ze5;have zb:=@zds;have zR:=@pe_bl;have ze:=@zav;have zG:=@zfq;unfold L2.CompBody at zG;have yA:=@pi_dictN;have yC:=@pif_one;have zP:=@zhn;have zT:=@zfa;generalize @L2.PE=QE,@L2.PT=QT,@L2.PW=QW,@L2.PA=QA,@L2.PS=QS,@L2.PSs=QSs,@L2.PG=QG,@L2.PGs=QGs,@L2.PI=QI,@L2.PO=QO,@L2.PIf=QIf,@L2.PC=QC,@L2.PK=QK at zB zd ya zr zq qpv zk zF zh zg zY za zj zZ zm zf zc zb zR ze zG yA yC zP zT⊢;refine⟨_,
  (zB
   (zd (i:=1) zcq.nd rfl (jz rfl) (ya (P:=P) (w:=w) rfl rfl))
   (zr pz rfl (zq (qpv 0)) (zk (i:=2) zcq.nd rfl (pB rfl)) (zF
   (zd (i:=3) zcq.nd rfl (pB rfl) (zh (zk6 T) (hr.mono (by decide)) rfl T.law_ends.mg T.law_ends.fn.kp T.law_ends.bn .nil pass0 (zg (qpv 2) za1)))
   (zr pz rfl (zY rfl T.b_range (zg za zad)) (zk (i:=4) zcq.nd rfl (pB rfl)) (zj (zZ (P:=P) (w:=w) rfl rfl (hu64 hr) (qpv 1) (zm (zf (zc zaz (qpv 3) (qpv 4) (fun _ _=>rfl)) za7 (zc zaz (qpv 3) (zb zco (zb zbi (qpv 4) za) za) (fun _ _=>rfl)) za7)) zR rfl)))))
   (ze (zG (dsc:=za0 zb3) (N:=["_law_cells_here","_law_sides","_law_cell_here","_law_ends_here","_law_k"]) (own:=["_law_side"]) (ix:=[1]) rfl rfl rfl ⟨rfl,by decide+kernel,by decide+kernel,by decide+kernel,by decide+kernel⟩ (yA (P:=P) (w:=w) rfl rfl (qpv 1)) (fun cl C fp s2 H2 xe=>⟨(zk (i:=0) (show UG (["_law_side","_law_sides"]:List Str) from by decide+kernel) rfl (pB rfl)),(yC (zP (zT (P:=P) (w:=w) rfl rfl (hu64 hr) (zm (zf (zc za3 (qpv 0) za (fun _ _=>rfl)) za7 (zc za3 (qpv 0) za (fun _ _=>rfl)) za7)) (qpv 1)))),(qpv 0)⟩))))
  ,?_⟩
 clear zB zd ya zr zq qpv zk zF zh zg zY za zj zZ zm zf zc zb zR ze zG yA yC zP zT QE QT QW QA QS QSs QG QGs QI QO QIf QC QK
 dsimp! [L2.start]
 simp! [tNNew];intro S hS;have gS:=za2 hS (nD P w S []);refine zbs ?_;simp! [zcu];refine⟨⟨_,.of (gS _ _ hl)⟩,?_⟩;refine zb0 (K:=K) (a:=l) (xs:=zs) (fun i σ H'=>Same H H'/\∃(kvs:List N3)(o1 o2 o3:Option V),σ=[some (V.ref l),some (V.ref S),o1,o2,o3]/\H' S=some (nD P w S kvs)/\kvs.length<=3*i/\EdK H' kvs/\(kvs.map (·.1)).Nodup/\∀e,hasE kvs e↔Sd (cs.take i) e) ⟨gS,[],none,none,none,rfl,upd_same,kJ _,(fun p hp=>by cases hp),vG,fun e=>⟨fun z=>(by cases z),fun⟨c,hc,_⟩=>(by rw[uz] at hc;cases hc)⟩⟩ (fun i σ H' _ iv=>.of (iv.1 _ _ hl)) ?_ ?_
 ·intro _ _;rintro i v σ H2 hi ⟨g2,kvs,o1,o2,o3,rfl,hS2,hk,ek,nd,has⟩;obtain⟨p,c,rfl,hc',hc⟩:=hz.2 i v hi;have hi':=(kD.mp hi).1;simp! [];refine⟨p,c,rfl,zm9 _ _ _ _ (za8 g2) hc,fun L e0 e1 e2 a0 a1 a2 k0 k1 k2 H3 hL g3 hL3 p0 p1 p2 b0 b1 b2 tk s0 s1 s2=>?_⟩;have g03:=g2.trans g3;refine zbs ?_;simp! [iRng1];have nLS:L≠S:=(zax hS2 hL).symm;refine⟨by decide,by decide,zfv (fun j σ H'=>Same H H'/\za9 H3 H'/\H' L=some (.lst [.ref e0,.ref e1,.ref e2])/\∃(kvs:List N3)(o:Option V),σ=[some (V.ref l),some (V.ref S),some (V.ref p),some (V.ref L),o]/\H' S=some (nD P w S kvs)/\kvs.length<=3*i+j/\EdK H' kvs/\(kvs.map (·.1)).Nodup/\∀e,hasE kvs e↔Sd (cs.take i) e∨∃x,x∈(triK c).take j/\e=(x.1,stp x.1 x.2)) ⟨g03,fun _ _ h=>h,hL3,kvs,o3,rfl,g3 _ _ hS2,hk,ek.ts (za8 g3),nd,fun e=>⟨fun z=>.inl ((has e).mp z),fun z=>z.elim (has e).mpr fun⟨x,hx,_⟩=>(by rw[uz] at hx;cases hx)⟩⟩ ?_ ?_⟩
  ·intro _ _;rintro j σ H4 hj ⟨g4,t4,hL4,kvs,o,rfl,hS4,hk4,ek4,nd4,has4⟩;obtain⟨A0,A1,f0,f1,kf,e0',e1',q0,q1,c0,c1,sf,tf⟩:∃(A0 A1:Addr)(f0 f1:Int×Int)(kf:Fin 8),atI [V.ref e0,V.ref e1,V.ref e2] (j:Int)=some (.ref A0)/\atI [V.ref e0,V.ref e1,V.ref e2] (((j:Int)+1)%3)=some (.ref A1)/\P2H H3 A0 f0/\P2H H3 A1 f1/\Bx f0/\Bx f1/\stp f0 kf=f1/\(triK c)[j]?=some (f0,kf):=by
    have hj3:j<3:=hj;rcases(by omega:j=0∨j=1∨j=2) with e|e|e<;>subst e
    ·exact⟨e0,e1,_,_,k0,at0,at1,p0,p1,b0,b1,s0,by rw[tk];rfl⟩
    ·exact⟨e1,e2,_,_,k1,at1,at2,p1,p2,b1,b2,s1,by rw[tk];rfl⟩
    ·exact⟨e2,e0,_,_,k2,at2,at0,p2,p0,b2,b0,s2,by rw[tk];rfl⟩
   simp! [sNPut,Uw,hL4,e0',e1'];refine⟨by decide,fun t ht=>?_⟩
   have g5:=za2 ht (HO.tup [V.ref A0,V.ref A1]);have h5:upd H4 t (HO.tup [V.ref A0,V.ref A1]) t=some (HO.tup [V.ref A0,V.ref A1]):=upd_same;generalize upd H4 t (HO.tup [V.ref A0,V.ref A1])=H5 at*;have hS5:=g5 _ _ hS4;have t35:=zfc t4 (za8 g5);have ed:EdH H5 t (f0,f1):=⟨⟨A0,A1,h5,t35 _ _ q0,t35 _ _ q1⟩,c0,c1,by show f0≠f1;rw[←sf];exact stp_ne _ _⟩
   have ek5:=ek4.ts (za8 g5);refine⟨kvs,hS5,ek5.kn,[kP f0,kP f1],ed.nk,small1000 (by omega),zbh (g4.trans g5) hS,zfc t35 (zgu hS5),?_,_,rfl,pV (zg9 _ _ _ _) (by omega),(ek5.put ed).ts (zgu hS5),zho nd4,fun e=>?_⟩
   ·rw[za6 nLS];exact g5 _ _ hL4
   ·show hasE (putN kvs (kk (f0,f1)) t _) e↔_
    rw[zlf,has4,uC,tf,←sf]
    constructor
    ·rintro((z|⟨x,hx,z⟩)|z)
     ·exact .inl z
     ·exact .inr ⟨x,uP _ hx,z⟩
     ·exact .inr ⟨(f0,kf),kh _ (kU.mpr rfl),z⟩
    ·rintro(z|⟨x,hx,z⟩)
     ·exact .inl (.inl z)
     ·rcases kW.mp hx with hx|hx
      ·exact .inl (.inr ⟨x,hx,z⟩)
      ·rw[kU.mp hx] at z;exact .inr z
  ·rintro σ H4 ⟨g4,t4,hL4,kvs,o,rfl,hS4,hk4,ek4,nd4,has4⟩;refine⟨g4,⟨_,_,_,rfl⟩,kvs,hS4,by have:(Int.toNat 3)=3:=rfl;omega,ek4,nd4,fun e=>?_⟩
   rw[has4,uC,hc'];show _↔Sd (cs.take i++[c]) e;rw[sd_snoc,kX (l:=triK c) (by rw[tk];exact kJ _)]
 ·rintro σ H2 ⟨g2,kvs,o1,o2,o3,rfl,hS2,hk,ek,nd,has⟩;simp! [];refine zcn ?_;simp! [iDictN];refine⟨kvs,hS2,fun o D hD=>?_⟩;have gF:Same H (upd H2 S (HO.frz o (nD P w S kvs))):=zbh g2 hS;have hSF:upd H2 S (HO.frz o (nD P w S kvs)) S=some (HO.frz o (nD P w S kvs)):=upd_same;have ekF:=ek.ts (zgu (o:=HO.frz o (nD P w S kvs)) hS2);generalize upd H2 S (HO.frz o (nD P w S kvs))=H3 at*;have lk:(kvs.map fun p=>p.2.1).length=kvs.length:=kL _;rw[kX (Qp hz.1.symm)] at has;refine zmn (fun i ys H'=>Same H3 H'/\H' D=some (.lst ys)/\ys.length<=i/\LR EdH H' ys (zi7 kvs i)) ⟨za2 hD _,upd_same,kJ _,.nil⟩ (fun i ys H' z=>z.1 _ _ hSF) ?_ ?_
  ·rintro i ys H4 b hb ⟨g4,hD4,hy,he⟩;have hi:=(kD.mp hb).1;rw[pS] at hb;obtain⟨q,hq,eb⟩:=Qf.mp hb;obtain⟨e,e1,e2⟩:=ekF q (ko hq);have eq:(esK kvs)[i]?=some e:=by
    unfold esK;rw[pS,hq,QL,e1];rfl
   rw[eb] at e2;have e4:=zmd _ _ _ _ (za8 g4) e2;obtain⟨⟨c,d,h1,h2,h3⟩,b1,b2,ne⟩:=id e4;simp! [zgf,h1];intro t ht;have g5:=za2 ht (HO.tup [V.ref d,V.ref c]);have h5:upd H4 t (HO.tup [V.ref d,V.ref c]) t=some (HO.tup [V.ref d,V.ref c]):=upd_same;generalize upd H4 t (HO.tup [V.ref d,V.ref c])=H5 at*;have g35:=g4.trans g5;have ek5:=ekF.ts (za8 g35);have e5:=zmd _ _ _ _ (za8 g5) e4;have hD5:=g5 _ _ hD4;refine⟨kvs,.inr ⟨o,g35 _ _ hSF⟩,ek5.kn,[kP e.2,kP e.1],NK.two h5 (g5 _ _ h3) (g5 _ _ h2),ite2 (fun cc=>?_) (fun cc=>?_)⟩
   ·refine cw_put hi hD5 (small1000 (by rw[lk] at hi;omega)) ⟨zbh g35 hD,upd_same,by rw[kK,pg];omega,?_⟩
    have en:zi7 kvs (i+1)=zi7 kvs i++[e]:=by
     unfold zi7;rw[uC,eq,UH]
     congr 1
     exact jY cc
    rw[en];exact((he.ts zmd (za8 g5)).snoc e5).ts zmd (zc4 hD5)
   ·refine cw_skip hi (ys:=ys) ⟨g35,hD5,by omega,?_⟩
    have en:zi7 kvs (i+1)=zi7 kvs i:=by
     unfold zi7;rw[uC,eq,UH];rw[show(some e).toList=[e] from rfl,BB (a:=e) (l:=[]) cc,List.filter_nil,uT]
    rw[en];exact he.ts zmd (za8 g5)
  ·rintro ys H4 ⟨g4,hD4,hy,he⟩;rw[lk] at hy;have ae:zi7 kvs (kvs.map fun p=>p.2.1).length=(esK kvs).filter fun e=> !(valN kvs (kk (e.2,e.1))).isSome:=by
    unfold zi7;rw[kX (by unfold esK;rw[kL,kL];exact kJ _)]
   rw[ae] at he;refine k D ys _ H4 (gF.free hD) (gF.trans g4) hD4 (by omega) he ((ekF.nodup nd).filter _) fun e=>?_
   rw[List.mem_filter,ekF.mem,has];refine and_congr De ?_;rw[←has (e.2,e.1)];unfold hasE
   cases(valN kvs (kk (e.2,e.1))).isSome<;>simp
theorem zej(ss:List (E2))(e:E2)(p:Int×Int):lvP (ss++[e]) p=lvP ss p++if e.1=p then[e.2] else[]:=by
 unfold lvP;rw[UH,uL]
 congr 1
 by_cases c:e.1=p
 ·rw[if_pos c,hX,if_pos (decide_eq_true c)];rfl
 ·rw[if_neg c,hX,if_neg (fun z=>c (of_decide_eq_true z))];rfl
theorem lvP_len(ss:List (E2))(p:Int×Int):(lvP ss p).length<=ss.length:=by
 unfold lvP;rw[kL];exact Bm _ _
structure LvP(H0 H:Hp)(d:Addr)(kvs:List (List Key×V))(ss:List (E2)):Prop where
 same:Same H0 H
 new:H0 d=none
 at_:H d=some (.dT kvs)
 len:kvs.length<=ss.length
 ent:∀p v,valV kvs (kP p)=some v->∃a zs,v=.ref a/\H0 a=none/\H a=some (.lst zs)/\LR P2H H zs (lvP ss p)
 non:∀p,valV kvs (kP p)=none->lvP ss p=[]
 dis:∀p p' v,valV kvs (kP p)=some v->valV kvs (kP p')=some v->p=p'
theorem LvP.mono{H0 H H':Hp}{d:Addr}{kvs:List (List Key×V)}{ss:List (E2)}(h:LvP H0 H d kvs ss)(g:Same H H'):LvP H0 H' d kvs ss:=
 ⟨h.same.trans g,h.new,g _ _ h.at_,h.len,fun k v e=>by
  obtain⟨a,ys,e1,e2,e3,e4⟩:=h.ent k v e;exact⟨a,ys,e1,e2,g _ _ e3,e4.ts zb2 (za8 g)⟩,h.non,h.dis⟩
theorem LvP.app{H0 H:Hp}{d a t b:Addr}{kvs:List (List Key×V)}{ss:List (E2)}{p q:Int×Int}{Qc:VK}(h:LvP H0 H d kvs ss)(hm:ss.length<500)(ha:P2H H a p)(hb:P2H H b q)(ht:H t=none)
  (k:∀(l:Addr)(H1:Hp)(zs:List V) kvs',H1 l=some (.lst zs)->zs.length<sizeLine->LvP H0 (upd H1 l (.lst (zs++[.ref b]))) d kvs' (ss++[(p,q)])->Qc (.ref l) H1):rSD d (.ref a) (.ref t) (upd H t (.lst [])) Qc:=by
 have g:=za2 ht (HO.lst []);have hg:=h.mono g;refine⟨kvs,kP p,a,hg.at_,rfl,g _ _ ha,small1000 (by have:=h.len;omega),fun v hv=>?_,fun hv=>?_⟩
 ·obtain⟨l,ys,rfl,e2,e3,e4⟩:=hg.ent _ _ hv;have ly:ys.length<=ss.length:=by rw[e4.1];exact lvP_len _ _
  refine k l _ ys kvs e3 (small1000 (by omega)) ⟨zbh hg.same e2,h.new,?_,by have:=h.len;rw[kK];omega,fun p' v' hv'=>?_,fun p' hv'=>?_,h.dis⟩
  ·rw[za6 (fun z=>by rw[←z,hg.at_] at e3;cases e3)]
   exact hg.at_
  ·obtain⟨l',ys',rfl,f2,f3,f4⟩:=hg.ent _ _ hv'
   by_cases el:l'=l
   ·subst el;rw[e3] at f3
    cases f3;have pp:=h.dis _ _ _ hv' hv;subst pp;refine⟨l',_,rfl,f2,upd_same,?_⟩;rw[zej,if_pos rfl];exact(e4.snoc (zb2 _ _ _ _ (za8 g) hb)).ts zb2 (zc4 e3)
   ·refine⟨l',ys',rfl,f2,by rw[za6 el];exact f3,?_⟩
    rw[zej,if_neg (fun z=>el (by
     have z':p=p':=z;rw[←z'] at hv';rw[hv] at hv'
     cases hv';rfl)),uT]
    exact f4.ts zb2 (zc4 e3)
  ·rw[zej,h.non _ hv',if_neg (fun z=>by
    have z':p=p':=z;rw[z',hv'] at hv
    cases hv)]
   rfl
 ·have td:t≠d:=fun z=>by rw[z,h.at_] at ht;cases ht
  have h0t:=h.same.free ht;have up:∀b' o,b'≠d->H b'=some o->upd (upd (upd H t (.lst [])) d (.dT (putK kvs (kP p) (.ref t)))) t (.lst [.ref b]) b'=some o:=fun b' o nb hb'=>by
   have nt:b'≠t:=fun z=>by rw[z,ht] at hb';cases hb'
   rw[za6 nt,za6 nb,za6 nt];exact hb'
  have ts:za9 H (upd (upd (upd H t (.lst [])) d (.dT (putK kvs (kP p) (.ref t)))) t (.lst [.ref b])):=fun b' xs hb'=>up b' _ (fun z=>by rw[z,h.at_] at hb';cases hb') hb'
  have nt:∀p',valV kvs (kP p')≠some (.ref t):=fun p' z=>by
   obtain⟨l',ys',e,f2,f3,f4⟩:=h.ent _ _ z
   cases e;rw[ht] at f3
   cases f3
  refine k t _ [] (putK kvs (kP p) (.ref t)) (by rw[za6 td];exact upd_same) (small1000 (by simp)) ⟨fun b' o hb'=>up b' o (fun z=>by rw[z,h.new] at hb';cases hb') (h.same _ _ hb'),h.new,by rw[za6 td.symm];exact upd_same,pV (zc2 _ _ _) (by have:=h.len;rw[kK];exact jH this),fun p' v' hv'=>?_,fun p' hv'=>?_,fun p' p2 v' h1 h2=>?_⟩
  ·rw[zdg] at hv'
   by_cases ek:kP p'=kP p
   ·rw[if_pos ek] at hv'
    cases hv';have e':=zjk ek;subst e';refine⟨t,[.ref b],rfl,h0t,upd_same,?_⟩;rw[zej,if_pos rfl,h.non _ hv];exact LR.one (R:=P2H) (zb2 _ _ _ _ ts hb)
   ·rw[if_neg ek] at hv';obtain⟨l',ys',rfl,f2,f3,f4⟩:=h.ent _ _ hv';refine⟨l',ys',rfl,f2,up _ _ (fun z=>by rw[z,h.at_] at f3;cases f3) f3,?_⟩
    rw[zej,if_neg (fun z=>ek (by have z':p=p':=z;rw[z'])),uT]
    exact f4.ts zb2 ts
  ·rw[zdg] at hv'
   by_cases ek:kP p'=kP p
   ·rw[if_pos ek] at hv'
    cases hv'
   ·rw[if_neg ek] at hv';rw[zej,h.non _ hv',if_neg (fun z=>ek (by have z':p=p':=z;rw[z']))]
    rfl
  ·rw[zdg] at h1 h2
   by_cases e1:kP p'=kP p
   ·by_cases e2:kP p2=kP p
    ·rw[zjk e1,zjk e2]
    ·rw[if_pos e1] at h1;rw[if_neg e2] at h2
     cases h1;exact absurd h2 (nt _)
   ·by_cases e2:kP p2=kP p
    ·rw[if_neg e1] at h1;rw[if_pos e2] at h2
     cases h2;exact absurd h1 (nt _)
    ·rw[if_neg e1] at h1;rw[if_neg e2] at h2;exact h.dis _ _ _ h1 h2
def d2(a:Int×Int):CT:=.tuple [.int a.1,.int a.2]
theorem rd_2{K:kM}{H:Hp}{p:Addr}{a:Int×Int}(h:P2H H p a):RdD K H (d2 a) (.ref p):=by
 unfold d2;rw[RdD];refine⟨p,_,rfl,.of h,?_⟩;rw[RdDs];refine⟨_,_,rfl,by rw[RdD],?_⟩
 rw[RdDs];refine⟨_,_,rfl,by rw[RdD],?_⟩
 rw[RdDs]
theorem zfj(a:Int×Int):Uc (d2 a)=true:=by
 simp[d2,Uc,UK,uQ,vU,uU]
theorem zpq(a b:Int×Int):Qs (d2 a) (d2 b)=decide (a=b):=by
 rw[UX];obtain⟨x,y⟩:=a;obtain⟨x',y'⟩:=b
 simp[d2,Qs,QD]
theorem zis(a:Int×Int):(d2 a).canLay0=true/\(d2 a).depth<=3:=by
 simp[d2,UK,uQ,vU,uU]
theorem znx(F:List (Int×Int)):uQ (F.map d2)=true/\uU (F.map d2)<=3:=by
 induction F with
 |nil=>exact⟨rfl,by simp[uU]⟩
 |cons r F ih=>
  have h:=zis r;rw[ki]
  constructor
  ·rw[uQ,h.1,ih.1];rfl
  ·rw[uU];have:=h.2;have:=ih.2;omega
theorem rd_p2{K:kM}{H:Hp}:∀{us:List V}{cs:List (Int×Int)},LR P2H H us cs->RdDs K H (cs.map d2) us
 |[],[],_=>by rw[Qe,RdDs]
 |[],_::_,h=>by cases h.1
 |_::_,[],h=>by cases h.1
 |u::us,c::cs,h=>by
  obtain⟨a,as',e,⟨p,rfl,hp⟩,ht⟩:=h.cons_inv
  cases e;rw[ki,RdDs];exact⟨_,_,rfl,rd_2 hp,rd_p2 ht⟩
theorem LvP.keep{H0 H:Hp}{d D:Addr}{kvs:List (List Key×V)}{fs:List E2}{zs us:List V}(h:LvP H0 H d kvs fs)(hD:H D=some (.lst zs))(h0:H0 D=none)(nD:∀p,valV kvs (kP p)≠some (.ref D)):LvP H0 (upd H D (.lst us)) d kvs fs:=by
 refine⟨zbh h.same h0,h.new,?_,h.len,fun p v e=>?_,h.non,h.dis⟩
 ·rw[za6 (fun z=>by rw[←z,h.at_] at hD;cases hD)]
  exact h.at_
 ·obtain⟨a,ys,e1,e2,e3,e4⟩:=h.ent p v e;refine⟨a,ys,e1,e2,?_,e4.ts zb2 (zc4 hD)⟩;rw[za6 (fun z=>nD p (by rw[e,e1,z]))]
  exact e3
def zka:Sp:=fun vs H Q _=>∃(H0:Hp)(d p q:Addr)(kvs:List (List Key×V))(es:List E2)(a b:Int×Int),vs=[.ref d,.ref p,.ref q]/\LvP H0 H d kvs es/\es.length<=500/\P2H H p a/\P2H H q b/\∀H',Same H H'->Q (.bl (str es a b)) H'
theorem zeb(T:Txt K mg ad fd):FnOk P w K mg base CX0 1 (ad 19) (fd 19) ["_law_starts","_law_begin","_law_end"] zka:=by
 refine T.law_straight.fn.ok zed (fun vs H Q E h=>?_) (fun cdv A outer s H vs Q E hr h=>?_)
 ·obtain⟨H0,d,p,q,kvs,es,a,b,rfl,_⟩:=h;rfl
 obtain⟨H0,d,p,q,kvs,es,a,b,rfl,st,hm,hp,hq,k⟩:=h;have zF:=@pss2;have zd:=@zbn;have yh:=@zl2;have qpv:=@pv;have zn:=@zd9;have zy:=@zci;have ze:=@zav;have yD:=@pe_and;have zK:=@zgt;have zC:=@zd3;have zg:=@pa1;have za:=@zbr;have yE:=@pe_one;have zc:=@ze5;have zm:=@zdc;have zf:=@pa2;have zb:=@zds;generalize @L2.PE=QE,@L2.PT=QT,@L2.PW=QW,@L2.PA=QA,@L2.PS=QS,@L2.PSs=QSs,@L2.PG=QG,@L2.PGs=QGs,@L2.PI=QI,@L2.PO=QO,@L2.PIf=QIf at zF zd yh qpv zn zy ze yD zK zC zg za yE zc zm zf zb⊢;refine⟨_,
  (zF
   (zd (i:=3) zed.nd rfl (pB rfl) (yh (zft hr) (qpv 0) (qpv 2) (zn zy) ⟨rfl,rfl,rfl,rfl⟩))
   (ze (yD (zK op_eq (zC zgs rfl T.b_len zh6 (zg (qpv 3) za1)) za (nomark _)) (yE (zK (zkt (hu64 hr)) (zc zaz (qpv 3) za (fun _ _=>rfl)) (zm (zf (zb zcx (zb zdq za (zc za3 (qpv 2) za (fun _ _=>rfl))) (zc za3 (qpv 1) za (fun _ _=>rfl))) zaa (zb zcx (zb zdq za (zc za3 (qpv 2) za (fun _ _=>rfl))) (zc za3 (qpv 1) za (fun _ _=>rfl))) zaa)) (nomark _))))))
  ,?_⟩
 clear zF zd yh qpv zn zy ze yD zK zC zg za yE zc zm zf zb QE QT QW QA QS QSs QG QGs QI QO QIf
 dsimp! [L2.start]
 have hp':H p=some (.tup [.int a.1,.int a.2]):=hp;have hq':H q=some (.tup [.int b.1,.int b.2]):=hq;simp! [zp7];refine⟨zns st.at_,fun t ht=>?_⟩;have g:=za2 ht (HO.lst []);have ht1:upd H t (HO.lst []) t=some (HO.lst []):=upd_same;generalize upd H t (HO.lst [])=H1 at*;have st1:=st.mono g;have hp1:H1 p=some (.tup [.int a.1,.int a.2]):=g _ _ hp;have hq1:H1 q=some (.tup [.int b.1,.int b.2]):=g _ _ hq;refine⟨valV kvs (kP b),.t (k:=kP b) st1.at_ hq1,?_⟩
 cases e:valV kvs (kP b) with
 |none=>
  have e0:=st1.non _ e;have sf:str es a b=false:=decide_eq_false (by rw[e0];exact fun z=>by cases z)
  rw[sf] at k;refine⟨t,rfl,[],.inl ht1,?_⟩;rw[decide_eq_false (by decide)]
  exact iteF (k H1 g)
 |some v=>
  obtain⟨l,ys,rfl,_,e3,e4⟩:=st1.ent _ _ e;refine⟨l,rfl,ys,.inl e3,ite2 (fun c=>?_) (fun c=>?_)⟩
  ·have c:=of_decide_eq_true c;have c1:ys.length=1:=by omega
   have c2:(lvP es b).length=1:=by rw[←e4.1];exact c1
   obtain⟨cu,ecu⟩:=List.length_eq_one_iff.mp c2;rw[ecu] at e4;obtain⟨pu,cu',e5,e6,hu⟩:=e4.at (j:=0) (by omega)
   cases e6;refine⟨l,rfl,_,e3,_,zdu (j:=0) e5,?_⟩;simp! [hp1,hq1];refine⟨.inl ⟨by decide,by decide⟩,.inl ⟨by decide,by decide⟩,fun r hr'=>?_⟩
   have g2:=za2 hr' (HO.tup [V.int (2*b.1-a.1),V.int (2*b.2-a.2)]);have h2:P2H (upd H1 r (HO.tup [V.int (2*b.1-a.1),V.int (2*b.2-a.2)])) r (onP a b):=upd_same;generalize upd H1 r (HO.tup [V.int (2*b.1-a.1),V.int (2*b.2-a.2)])=H2 at*;refine⟨_,_,rd_2 (zb2 _ _ _ _ (za8 g2) hu),rd_2 h2,zfj _,zfj _,?_⟩;rw[zpq];have sf:str es a b=decide (cu=onP a b):=by
    unfold str;rw[ecu];refine decide_eq_decide.mpr ⟨fun z=>(List.cons.inj z).1,fun z=>by rw[z]⟩
   rw[sf] at k;exact k H2 (g.trans g2)
  ·have sf:str es a b=false:=decide_eq_false fun z=>c (decide_eq_true (by
    have:=e4.1;rw[z] at this;show((ys.length:Nat):Int)=1;rw[this];rfl))
   rw[sf] at k;exact k H1 g
def isB(es:List E2)(e:E2):Bool:= !(decide (e.1∈lvP es (onP e.2 e.1))&&str es (onP e.2 e.1) e.1)
def FcR(es fs ws:List E2):Prop:=fs.length=ws.length/\∀(j:Nat) e w,fs[j]?=some e->ws[j]?=some w->w.1=e.1/\Goes es e.1 e.2 w.2
theorem FcR.snoc{es fs ws:List E2}{e w:E2}(h:FcR es fs ws)(h1:w.1=e.1)(h2:Goes es e.1 e.2 w.2):FcR es (fs++[e]) (ws++[w]):=by
 refine⟨by rw[kK,kK,h.1];rfl,fun j f v hf hv=>?_⟩
 by_cases c:j<fs.length
 ·rw[po c] at hf;rw[po (by rw[←h.1];exact c)] at hv
  exact h.2 j f v hf hv
 ·have ej:j=fs.length:=by
   have:=(kD.mp hf).1;rw[kK,pg] at this;omega
  rw[ej,pd (kJ _),jp] at hf;rw[ej,h.1,pd (kJ _),jp] at hv
  cases hf
  cases hv;exact⟨h1,h2⟩
theorem zpo{es:List E2}{a:Int×Int}{k:Fin 8}:isB es (a,stp a k)=true↔Bgn es a k:=by
 unfold isB Bgn;dsimp only;rw[onP_back,←zju]
 by_cases c:a∈lvP es (stp a (k+4))<;>cases str es (stp a (k+4)) a<;>simp[c]
theorem wys_of{cs:List C3}{es ws:List E2}(E:Edg cs es)(nd:es.Nodup)(F:FcR es (es.filter (isB es)) ws):Wys es ws:=by
 have key:∀(j:Nat) w,ws[j]?=some w->∃k m,(es.filter (isB es))[j]?=some (w.1,stp w.1 k)/\Wy es w.1 w.2 k m/\Bgn es w.1 k:=fun j w hw=>by
  have hj:j<(es.filter (isB es)).length:=by rw[F.1];exact(kD.mp hw).1
  have he:=kI hj;generalize (es.filter (isB es))[j]=e at he;obtain⟨h1,h2⟩:=F.2 j e w he hw;obtain⟨m1,m2⟩:=UV.mp (ko he);obtain⟨k,hk⟩:=E.ray m1;obtain⟨m,wy⟩:=h2.wy hk m1;have ee:e=(w.1,stp w.1 k):=ue h1.symm (by rw[h1];exact hk)
  rw[ee] at m2 he;rw[←h1] at wy;exact⟨k,m,he,wy,zpo.mp m2⟩
 refine⟨?_,fun w hw=>?_,fun a k h1 h2=>?_⟩
 ·rw[pM,UC];intro i j hi hj hij z;obtain⟨k,m,e1,w1,_⟩:=key i _ (kI hi);obtain⟨k',m',e2,w2,_⟩:=key j _ (kI hj);rw[z] at e1 w1;have:=w1.dir w2;subst this;have n1:=(kD.mp e1);have n2:=(kD.mp e2);have:=(Am (nd.filter (isB es))).mp (n1.2.trans n2.2.symm);omega
 ·obtain⟨j,hj⟩:=pW.mp hw;obtain⟨k,m,_,w1,b⟩:=key j w hj;exact⟨k,m,w1,b⟩
 ·obtain⟨j,hj⟩:=pW.mp (UV.mpr ⟨h1,zpo.mpr h2⟩);have hj':j<ws.length:=by rw[←F.1];exact(kD.mp hj).1
  obtain⟨e1,e2⟩:=F.2 j _ _ hj (kI hj');obtain⟨m,wy⟩:=e2.wy rfl h1;refine⟨_,m,?_,wy⟩;have:(a,(ws[j]).2)=ws[j]:=ue e1.symm rfl;rw[this];exact QP _
def WyH(H:Hp)(p:Addr)(e:E2):Prop:=(∃c d,H p=some (.tup [.ref c,.ref d])/\P2H H c e.1/\P2H H d e.2)/\Bx e.1/\Bx e.2
theorem zf4:∀(H H':Hp)(p:Addr)(e:E2),za9 H H'->WyH H p e->WyH H' p e:=fun _ _ _ _ g⟨⟨c,d,h1,h2,h3⟩,b⟩=>⟨⟨c,d,g _ _ h1,g _ _ h2,g _ _ h3⟩,b⟩
def sp_long:Sp:=fun vs H Q _=>∃(l:Addr)(ys:List V)(es:List E2),vs=[.ref l]/\H l=some (.lst ys)/\ys.length<=144/\LR EdH H ys es/\es.Nodup/\(∃cs,Edg cs es)/\∀D zs ws H',H D=none->Same H H'->H' D=some (.lst zs)->zs.length<=144->LR WyH H' zs ws->Wys es ws->Q (.ref D) H'
def mu(dx dy:Int)(H:Hp)(σ:St):Nat:=match(σ:List (Option V))[7]? with
 |some (some (V.ref p))=>(match H p with
  |some (.tup [.int x,.int y])=>(if 0<dx then 8-x else if dx<0 then x else if 0<dy then 6-y else y).toNat
  |_=>0)
 |_=>0
theorem mu_of{dx dy:Int}{H:Hp}{v0 v1 v2 v3 v4 v5 v6:Option V}{p:Addr}{a:Int×Int}(h:P2H H p a):mu dx dy H [v0,v1,v2,v3,v4,v5,v6,some (.ref p)]=(if 0<dx then 8-a.1 else if dx<0 then a.1 else if 0<dy then 6-a.2 else a.2).toNat:=by
 unfold P2H at h;show(match H p with
  |some (.tup [.int x,.int y])=>(if 0<dx then 8-x else if dx<0 then x else if 0<dy then 6-y else y).toNat
  |_=>0)=_
 rw[h]
theorem zp3{dx dy:Int}{a b:Int×Int}(ha:Bx a)(hb:Bx b)(e1:b.1-a.1=dx)(e2:b.2-a.2=dy)(n:¬(dx=0/\dy=0)):(if 0<dx then 8-b.1 else if dx<0 then b.1 else if 0<dy then 6-b.2 else b.2).toNat<(if 0<dx then 8-a.1 else if dx<0 then a.1 else if 0<dy then 6-a.2 else a.2).toNat:=by
 obtain⟨a1,a2,a3,a4⟩:=ha;obtain⟨b1,b2,b3,b4⟩:=hb
 by_cases c1:0<dx
 ·rw[if_pos c1,if_pos c1];omega
 ·rw[if_neg c1,if_neg c1]
  by_cases c2:dx<0
  ·rw[if_pos c2,if_pos c2];omega
  ·rw[if_neg c2,if_neg c2]
   by_cases c3:0<dy
   ·rw[if_pos c3,if_pos c3];omega
   ·rw[if_neg c3,if_neg c3];omega
theorem zls(a:Int×Int):∀ls:List (Int×Int),((ls.map d2).any fun x=>x.eqv (d2 a))=decide (a∈ls)
 |[]=>rfl
 |x::ls=>by
  rw[ki,Al,zls a ls,zpq]
  by_cases c:x=a
  ·rw[decide_eq_true c,EJ,decide_eq_true (by rw[c];exact uJ ..)]
  ·rw[decide_eq_false c,Dz];exact decide_eq_decide.mpr ⟨kT _,fun z=>(pF.mp z).resolve_left (fun q=>c q.symm)⟩
theorem isB_1{es:List E2}{e:E2}(h:(!((lvP es (onP e.2 e.1)).map d2).any fun x=>x.eqv (d2 e.1))=true):isB es e=true:=by
 rw[zls] at h;unfold isB
 cases z:decide (e.1∈lvP es (onP e.2 e.1)) with
 |true=>rw[z] at h;cases h
 |false=>rfl
theorem isB_2{es:List E2}{e:E2}(h:(!str es (onP e.2 e.1) e.1)=true):isB es e=true:=by
 unfold isB
 cases z:str es (onP e.2 e.1) e.1 with
 |true=>rw[z] at h;cases h
 |false=>rw[Dj];rfl
theorem isB_3{es:List E2}{e:E2}(h1:¬(!((lvP es (onP e.2 e.1)).map d2).any fun x=>x.eqv (d2 e.1))=true)(h2:¬(!str es (onP e.2 e.1) e.1)=true):¬isB es e=true:=by
 rw[zls] at h1;unfold isB
 cases z:decide (e.1∈lvP es (onP e.2 e.1)) with
 |false=>rw[z] at h1;exact absurd rfl h1
 |true=>
  cases z':str es (onP e.2 e.1) e.1 with
  |false=>rw[z'] at h2;exact absurd rfl h2
  |true=>decide
theorem zgc(T:Txt K mg ad fd):FnOk P w K mg base CX0 2 (ad 20) (fd 20) ["_law_edges_here"] sp_long:=by
 refine T.law_long.fn.ok zar (fun vs H Q E h=>?_) (fun cdv A outer s H vs Q E hr h=>?_)
 ·obtain⟨l,ys,es,rfl,_⟩:=h;rfl
 obtain⟨l,ys,es,rfl,hl,hn,he,nd,⟨cs0,Eg⟩,k⟩:=h;have lse:=he.1;have hbx:∀e,e∈es->Bx e.1/\Bx e.2:=fun e hm=>by
  obtain⟨j,hj⟩:=pW.mp hm;obtain⟨p,f,_,e2,e3⟩:=he.at (j:=j) (by rw[lse];exact(kD.mp hj).1)
  rw[hj] at e2
  cases e2;exact⟨e3.2.1,e3.2.2.1⟩
 obtain⟨tl,htl,hk⟩:∃tl,PSs (cxOf CX0 P w K mg base ["_law_edges_here","_law_starts","_law_first","_law_last","_law_ways","_law_back","_law_begin","_law_end"] "_law_long" (za0 zb6) (ad 20) cdv A outer s H E).nox ((za4 zb6).drop 2) tl/\∀(d:Addr)(kvs:List (List Key×V))(H1:Hp)(o1 o2:Option V),LvP H H1 d kvs es->
   tl {nx:=fun _ H'=>Q .non H',rt:=Q} [some (.ref l),some (.ref d),o1,o2,none,none,none,none] H1:=by
  have zB:=@pss3;have zd:=@zbn;have zn:=@zd9;have zy:=@zci;have zr:=@zdj;have zq:=@zc3;have qpv:=@pv;have zI:=@zev;have zD:=@zdv;have zk:=@zby;have zJ:=@zes;have zF:=@pss2;have zm:=@zdc;have zf:=@pa2;have zb:=@zds;have za:=@zbr;have zc:=@ze5;have zo:=@zen;have yi:=@PW.pt;have yc:=@pw_or;have zv:=@zcs;have yh:=@zl2;have yj:=@pw_or1;have yF:=@pt_not;have zQ:=@zl7;have zh:=@zbb;have zu:=@pa3;have zE:=@pss4;have zS:=@zg5;have zj:=@zaf;have yg:=@ps_par;have zA:=@zdk;have zx:=@zgr;have zg:=@pa1;have zp:=@zbx;have ze:=@zav;generalize @L2.PE=QE,@L2.PT=QT,@L2.PW=QW,@L2.PA=QA,@L2.PS=QS,@L2.PSs=QSs,@L2.PG=QG,@L2.PGs=QGs,@L2.PI=QI,@L2.PO=QO,@L2.PIf=QIf at zB zd zn zy zr zq qpv zI zD zk zJ zF zm zf zb za zc zo yi yc zv yh yj yF zQ zh zu zE zS zj yg zA zx zg zp ze⊢;refine⟨_,
  (zB
   (zd (i:=4) zar.nd rfl (pB rfl) (zn zy))
   (zr pz rfl (zq (qpv 0)) (zI (n:=2) rfl (zD (zk (i:=2) zar.nd rfl (pB rfl)) (zD (zk (i:=3) zar.nd rfl (pB rfl)) zJ))) (zF
   (zd (i:=5) zar.nd rfl (pB rfl) (zm (zf (zb zcx (zb zdq za (zc za3 (qpv 2) za (fun _ _=>rfl))) (zc za3 (qpv 3) za (fun _ _=>rfl))) zaa (zb zcx (zb zdq za (zc za3 (qpv 2) za (fun _ _=>rfl))) (zc za3 (qpv 3) za (fun _ _=>rfl))) zaa)))
   (zo (yi (yc (zv (zo7 (K':=K) rfl (hu64 hr)) (qpv 2) (yh (zft hr) (qpv 1) (qpv 5) (zn zy) ⟨rfl,rfl,rfl,rfl⟩) rfl) (yj (yF (zQ (zh (zeb T) (hr.mono (by decide)) rfl T.law_straight.mg T.law_straight.fn.kp T.law_straight.bn .nil pass0 (zu (qpv 1) za1 (qpv 5) za1 (qpv 2) za1))))))) (zE
   (zd (i:=6) zar.nd rfl (pB rfl) (qpv 2))
   (zd (i:=7) zar.nd rfl (pB rfl) (qpv 3))
   (zS pz (zQ (zh (zeb T) (hr.mono (by decide)) rfl T.law_straight.mg T.law_straight.fn.kp T.law_straight.bn .nil pass0 (zu (qpv 1) za1 (qpv 6) za1 (qpv 7) za1))) (zj (yg (i:=6) (j:=7) rfl zar.nd rfl rfl (by decide) rfl rfl (zf (qpv 7) za1 (zm (zf (zb zcx (zb zdq za (zc za3 (qpv 7) za (fun _ _=>rfl))) (zc za3 (qpv 6) za (fun _ _=>rfl))) zaa (zb zcx (zb zdq za (zc za3 (qpv 7) za (fun _ _=>rfl))) (zc za3 (qpv 6) za (fun _ _=>rfl))) zaa)) zat) rfl)))
   (zA (zx pD uF uG zb7 (qpv 4) (zg (zm (zf (qpv 2) za1 (qpv 7) za1)) zat)))) zp)))
   (ze (qpv 4)))
   ,fun d kvs H1 o1 o2 st=>?_⟩
  clear zB zd zn zy zr zq qpv zI zD zk zJ zF zm zf zb za zc zo yi yc zv yh yj yF zQ zh zu zE zS zj yg zA zx zg zp ze QE QT QW QA QS QSs QG QGs QI QO QIf;simp! [];intro W hW;have nW:∀k,valV kvs (kP k)≠some (.ref W):=fun k z=>by
   obtain⟨a,zs,e1,_,e3,_⟩:=st.ent k _ z
   cases e1;rw[hW] at e3
   cases e3
  have hW0:=st.same.free hW;have gW:=za2 hW (HO.lst []);refine zbs ?_;simp! [zcu];refine⟨⟨_,.of (gW _ _ (st.same _ _ hl))⟩,?_⟩;refine zb0 (K:=K) (a:=l) (xs:=ys) (fun i σ H'=>LvP H H' d kvs es/\∃(zs:List V)(ws:List E2)(o1 o2 o3 o4 o5:Option V),σ=[some (.ref l),some (.ref d),o1,o2,some (.ref W),o3,o4,o5]/\H' W=some (.lst zs)/\zs.length<=i/\LR WyH H' zs ws/\FcR es ((es.take i).filter (isB es)) ws) ⟨st.mono gW,[],[],o1,o2,none,none,none,rfl,upd_same,kJ _,.nil,rfl,fun j e w h=>(by rw[uz] at h;cases h)⟩ (fun i σ H' _ iv=>.of (iv.1.same _ _ hl)) ?_ ?_
  ·intro _ _;rintro i v σ H2 hi ⟨st2,zs,ws,o1,o2,o3,o4,o5,rfl,hW2,hz,hws,fc⟩;obtain⟨p,e,rfl,he',⟨c,c2,h1,h2,h3⟩,b1,b2,ne⟩:=he.2 i v hi;have hi':=(kD.mp hi).1;have h1':=st2.same _ _ h1;have h2':H2 c=some (.tup [.int e.1.1,.int e.1.2]):=st2.same _ _ h2;have h3':H2 c2=some (.tup [.int e.2.1,.int e.2.2]):=st2.same _ _ h3;simp! [h1',h2',h3'];refine⟨.inl ⟨by decide,by decide⟩,.inl ⟨by decide,by decide⟩,fun t ht=>?_⟩
   have g3:=za2 ht (HO.tup [V.int (2*e.1.1-e.2.1),V.int (2*e.1.2-e.2.2)]);have ht3:P2H (upd H2 t (HO.tup [V.int (2*e.1.1-e.2.1),V.int (2*e.1.2-e.2.2)])) t (onP e.2 e.1):=upd_same;generalize upd H2 t (HO.tup [V.int (2*e.1.1-e.2.1),V.int (2*e.1.2-e.2.2)])=H3 at*;have st3:=st2.mono g3;have f3:P2H H3 c e.1:=g3 _ _ h2';have l3:P2H H3 c2 e.2:=g3 _ _ h3';simp! [zp7,zki];refine⟨zns st3.at_,fun u hu=>?_⟩;have g4:=za2 hu (HO.lst []);have hu4:upd H3 u (HO.lst []) u=some (HO.lst []):=upd_same;generalize upd H3 u (HO.lst [])=H4 at*;have st4:=st3.mono g4;refine⟨valV kvs (kP (onP e.2 e.1)),.t (k:=kP (onP e.2 e.1)) st4.at_ (g4 _ _ ht3),?_⟩;obtain⟨L,us,hLv,hL4,hus⟩:∃L us,(valV kvs (kP (onP e.2 e.1))).getD (V.ref u)=.ref L/\H4 L=some (.lst us)/\LR P2H H4 us (lvP es (onP e.2 e.1)):=by
    cases ev:valV kvs (kP (onP e.2 e.1)) with
    |none=>exact⟨u,[],rfl,hu4,by rw[st4.non _ ev];exact .nil⟩
    |some v=>
     obtain⟨L,us,rfl,_,q3,q4⟩:=st4.ent _ _ ev;exact⟨L,us,rfl,q3,q4⟩
   have hcs:=rd_p2 (K:=K) hus;have hem:=ko he';have tk:es.take (i+1)=es.take i++[e]:=by rw[uC,he'];rfl
   have hWW4:∀{H7:Hp},Same H4 H7->H7 W=some (.lst zs):=fun g=>g _ _ (g4 _ _ (g3 _ _ hW2));refine⟨d2 e.1,rd_2 (zb2 _ _ _ _ (za8 g4) f3),(lvP es (onP e.2 e.1)).map d2,?_,(zis e.1).1,(znx _).1,pV (zis e.1).2 (by decide),ite2 (fun x1=>?_) (fun x1=>?_)⟩
   ·rw[hLv,RdD];exact⟨L,us,rfl,.of hL4,hcs⟩
   ·refine zlj (fun σ H'=>Same H4 H'/\∃(pb pe:Addr)(b e':Int×Int),σ=[some (V.ref l),some (V.ref d),some (V.ref c),some (V.ref c2),some (V.ref W),some (V.ref t),some (V.ref pb),some (V.ref pe)]/\P2H H' pb b/\P2H H' pe e'/\Bx e'/\e'.1-b.1=e.2.1-e.1.1/\e'.2-b.2=e.2.2-e.1.2/\∀x,Goes es b e' x->Goes es e.1 e.2 x) (fun σ H'=>mu (e.2.1-e.1.1) (e.2.2-e.1.2) H' σ) ⟨.refl _,c,c2,e.1,e.2,rfl,(zb2 _ _ _ _ (za8 g4) f3),(zb2 _ _ _ _ (za8 g4) l3),b2,rfl,rfl,fun _ q=>q⟩ ?_;rintro σ H6 ⟨g6,pb,pe,b,e',rfl,hpb,hpe,bx,hdx,hdy,hgo⟩;have st6:=st4.mono g6;simp! [];refine⟨H,d,pb,pe,kvs,es,b,e',rfl,st6,by omega,hpb,hpe,fun H7 g7=>⟨_,rfl,ite2 (fun cc=>?_) (fun cc=>?_)⟩⟩
    ·have hpb7:H7 pb=some (.tup [.int b.1,.int b.2]):=g7 _ _ hpb;have hpe7:H7 pe=some (.tup [.int e'.1,.int e'.2]):=g7 _ _ hpe;have bn:=(hbx _ (zk7 cc)).2;refine⟨fun σ' H'=>(Same H4 H'/\∃(pb pe:Addr)(b e':Int×Int),σ'=[some (V.ref l),some (V.ref d),some (V.ref c),some (V.ref c2),some (V.ref W),some (V.ref t),some (V.ref pb),some (V.ref pe)]/\P2H H' pb b/\P2H H' pe e'/\Bx e'/\e'.1-b.1=e.2.1-e.1.1/\e'.2-b.2=e.2.2-e.1.2/\∀x,Goes es b e' x->Goes es e.1 e.2 x)/\mu (e.2.1-e.1.1) (e.2.2-e.1.2) H' σ'<mu (e.2.1-e.1.1) (e.2.2-e.1.2) H6 [some (V.ref l),some (V.ref d),some (V.ref c),some (V.ref c2),some (V.ref W),some (V.ref t),some (V.ref pb),some (V.ref pe)],fun σ' H'⟨⟨a1,pb,pe,b,e',a2,a3,a4,a5⟩,p2⟩=>⟨_,p2,rfl,a1,pb,pe,a2,b,a3,e',a4,a5⟩,?_⟩;simp! [hpb7,hpe7];refine⟨.inl ⟨by decide,by decide⟩,.inl ⟨by decide,by decide⟩,fun p hp=>?_⟩
     have n0:¬(e.2.1-e.1.1=0/\e.2.2-e.1.2=0):=fun z=>ne (ue (by omega) (by omega))
     have g8:=za2 hp (HO.tup [V.int (2*e'.1-b.1),V.int (2*e'.2-b.2)]);have hn8:P2H (upd H7 p (HO.tup [V.int (2*e'.1-b.1),V.int (2*e'.2-b.2)])) p (onP b e'):=upd_same;have hpe8:P2H (upd H7 p (HO.tup [V.int (2*e'.1-b.1),V.int (2*e'.2-b.2)])) pe e':=g8 _ _ hpe7;refine⟨(g6.trans g7).trans g8,⟨e',hpe8,onP b e',hn8,bn,?_,?_,fun x q=>hgo x (.step cc q)⟩,?_⟩
     ·show 2*e'.1-b.1-e'.1=_
      omega
     ·show 2*e'.2-b.2-e'.2=_
      omega
     ·rw[mu_of hn8,mu_of hpe];exact zp3 bx bn (by show 2*e'.1-b.1-e'.1=_;omega) (by show 2*e'.2-b.2-e'.2=_;omega) n0
    ·have g67:=g6.trans g7;have hW7:=hWW4 g67;have c7:P2H H7 c e.1:=g67 _ _ (zb2 _ _ _ _ (za8 g4) f3);have pe7:P2H H7 pe e':=g7 _ _ hpe;have st7:=st6.mono g7;have ws7:=hws.ts zf4 (za8 ((g3.trans g4).trans g67));refine⟨zbw hW7,fun p hp=>?_⟩;have g8:=za2 hp (HO.tup [V.ref c,V.ref pe]);have hW8:=g8 _ _ hW7;have st8:=st7.mono g8;have hp8:upd H7 p (HO.tup [V.ref c,V.ref pe]) p=some (HO.tup [V.ref c,V.ref pe]):=upd_same;have c8:P2H (upd H7 p (HO.tup [V.ref c,V.ref pe])) c e.1:=g8 _ _ c7;have pe8:P2H (upd H7 p (HO.tup [V.ref c,V.ref pe])) pe e':=g8 _ _ pe7;have ws8:=ws7.ts zf4 (za8 g8);generalize upd H7 p (HO.tup [V.ref c,V.ref pe])=H8 at*;have gw:za9 H8 (upd H8 W (HO.lst (zs++[V.ref p]))):=fun b xs q=>by
      rw[za6 (fun z=>by rw[z,hW8] at q;cases q)]
      exact q
     refine⟨zs,hW8,ul (pV hz (pV (uv hi') hn)) (by decide),st8.keep hW8 hW0 nW,?_,_,(ws8.ts zf4 gw).snoc (a:=(e.1,e')) ⟨⟨c,pe,gw _ _ hp8,gw _ _ c8,gw _ _ pe8⟩,b1,bx⟩,?_⟩
     ·rw[kK];exact jH hz
     ·rw[tk,UH,show[e].filter (isB es)=[e] from jY (isB_1 x1)];exact fc.snoc rfl (hgo _ (.stop (jr.mpr cc)))
   ·refine⟨H,d,t,c,kvs,es,onP e.2 e.1,e.1,rfl,st4,by omega,g4 _ _ ht3,g4 _ _ f3,fun H5 g5=>⟨_,rfl,ite2 (fun x2=>?_) (fun x2=>?_)⟩⟩
    ·have st5:=st4.mono g5;have f5:P2H H5 c e.1:=g5 _ _ (g4 _ _ f3);have l5:P2H H5 c2 e.2:=g5 _ _ (g4 _ _ l3);have hWW5:∀{H7:Hp},Same H5 H7->H7 W=some (.lst zs):=fun g=>g _ _ (g5 _ _ (g4 _ _ (g3 _ _ hW2)));refine zlj (fun σ H'=>Same H5 H'/\∃(pb pe:Addr)(b e':Int×Int),σ=[some (V.ref l),some (V.ref d),some (V.ref c),some (V.ref c2),some (V.ref W),some (V.ref t),some (V.ref pb),some (V.ref pe)]/\P2H H' pb b/\P2H H' pe e'/\Bx e'/\e'.1-b.1=e.2.1-e.1.1/\e'.2-b.2=e.2.2-e.1.2/\∀x,Goes es b e' x->Goes es e.1 e.2 x) (fun σ H'=>mu (e.2.1-e.1.1) (e.2.2-e.1.2) H' σ) ⟨.refl _,c,c2,e.1,e.2,rfl,f5,l5,b2,rfl,rfl,fun _ q=>q⟩ ?_;rintro σ H6 ⟨g6,pb,pe,b,e',rfl,hpb,hpe,bx,hdx,hdy,hgo⟩;have st6:=st5.mono g6;simp! [];refine⟨H,d,pb,pe,kvs,es,b,e',rfl,st6,by omega,hpb,hpe,fun H7 g7=>⟨_,rfl,ite2 (fun cc=>?_) (fun cc=>?_)⟩⟩
     ·have hpb7:H7 pb=some (.tup [.int b.1,.int b.2]):=g7 _ _ hpb;have hpe7:H7 pe=some (.tup [.int e'.1,.int e'.2]):=g7 _ _ hpe;have bn:=(hbx _ (zk7 cc)).2;refine⟨fun σ' H'=>(Same H5 H'/\∃(pb pe:Addr)(b e':Int×Int),σ'=[some (V.ref l),some (V.ref d),some (V.ref c),some (V.ref c2),some (V.ref W),some (V.ref t),some (V.ref pb),some (V.ref pe)]/\P2H H' pb b/\P2H H' pe e'/\Bx e'/\e'.1-b.1=e.2.1-e.1.1/\e'.2-b.2=e.2.2-e.1.2/\∀x,Goes es b e' x->Goes es e.1 e.2 x)/\mu (e.2.1-e.1.1) (e.2.2-e.1.2) H' σ'<mu (e.2.1-e.1.1) (e.2.2-e.1.2) H6 [some (V.ref l),some (V.ref d),some (V.ref c),some (V.ref c2),some (V.ref W),some (V.ref t),some (V.ref pb),some (V.ref pe)],fun σ' H'⟨⟨a1,pb,pe,b,e',a2,a3,a4,a5⟩,p2⟩=>⟨_,p2,rfl,a1,pb,pe,a2,b,a3,e',a4,a5⟩,?_⟩;simp! [hpb7,hpe7];refine⟨.inl ⟨by decide,by decide⟩,.inl ⟨by decide,by decide⟩,fun p hp=>?_⟩
      have n0:¬(e.2.1-e.1.1=0/\e.2.2-e.1.2=0):=fun z=>ne (ue (by omega) (by omega))
      have g8:=za2 hp (HO.tup [V.int (2*e'.1-b.1),V.int (2*e'.2-b.2)]);have hn8:P2H (upd H7 p (HO.tup [V.int (2*e'.1-b.1),V.int (2*e'.2-b.2)])) p (onP b e'):=upd_same;have hpe8:P2H (upd H7 p (HO.tup [V.int (2*e'.1-b.1),V.int (2*e'.2-b.2)])) pe e':=g8 _ _ hpe7;refine⟨(g6.trans g7).trans g8,⟨e',hpe8,onP b e',hn8,bn,?_,?_,fun x q=>hgo x (.step cc q)⟩,?_⟩
      ·show 2*e'.1-b.1-e'.1=_
       omega
      ·show 2*e'.2-b.2-e'.2=_
       omega
      ·rw[mu_of hn8,mu_of hpe];exact zp3 bx bn (by show 2*e'.1-b.1-e'.1=_;omega) (by show 2*e'.2-b.2-e'.2=_;omega) n0
     ·have g67:=g6.trans g7;have hW7:=hWW5 g67;have c7:P2H H7 c e.1:=g67 _ _ f5;have pe7:P2H H7 pe e':=g7 _ _ hpe;have st7:=st6.mono g7;have ws7:=hws.ts zf4 (za8 (((g3.trans g4).trans g5).trans g67));refine⟨zbw hW7,fun p hp=>?_⟩;have g8:=za2 hp (HO.tup [V.ref c,V.ref pe]);have hW8:=g8 _ _ hW7;have st8:=st7.mono g8;have hp8:upd H7 p (HO.tup [V.ref c,V.ref pe]) p=some (HO.tup [V.ref c,V.ref pe]):=upd_same;have c8:P2H (upd H7 p (HO.tup [V.ref c,V.ref pe])) c e.1:=g8 _ _ c7;have pe8:P2H (upd H7 p (HO.tup [V.ref c,V.ref pe])) pe e':=g8 _ _ pe7;have ws8:=ws7.ts zf4 (za8 g8);generalize upd H7 p (HO.tup [V.ref c,V.ref pe])=H8 at*;have gw:za9 H8 (upd H8 W (HO.lst (zs++[V.ref p]))):=fun b xs q=>by
       rw[za6 (fun z=>by rw[z,hW8] at q;cases q)]
       exact q
      refine⟨zs,hW8,ul (pV hz (pV (uv hi') hn)) (by decide),st8.keep hW8 hW0 nW,?_,_,(ws8.ts zf4 gw).snoc (a:=(e.1,e')) ⟨⟨c,pe,gw _ _ hp8,gw _ _ c8,gw _ _ pe8⟩,b1,bx⟩,?_⟩
      ·rw[kK];exact jH hz
      ·rw[tk,UH,show[e].filter (isB es)=[e] from jY (isB_2 x2)];exact fc.snoc rfl (hgo _ (.stop (jr.mpr cc)))
    ·refine⟨st4.mono g5,zs,hWW4 g5,by omega,ws,hws.ts zf4 (za8 ((g3.trans g4).trans g5)),?_⟩
     rw[tk,UH,show[e].filter (isB es)=[] from BB (isB_3 x1 x2),uT];exact fc
  ·rintro σ H2 ⟨st2,zs,ws,o1,o2,o3,o4,o5,rfl,hW2,hz,hws,fc⟩;simp! [];rw[kX (Qp lse.symm)] at fc;exact k W zs ws H2 hW0 st2.same hW2 (by omega) hws (wys_of Eg nd fc)
 have ym:=@zab;have zd:=@zbn;have zX:=@zhx;have zr:=@zdj;have zq:=@zc3;have qpv:=@pv;have zI:=@zev;have zD:=@zdv;have zk:=@zby;have zJ:=@zes;have zj:=@zaf;have zA:=@zdk;have zx:=@zgr;have yf:=@pe_dsd;have zn:=@zd9;have zy:=@zci;have zg:=@pa1;generalize @L2.PE=QE,@L2.PT=QT,@L2.PW=QW,@L2.PA=QA,@L2.PS=QS,@L2.PSs=QSs,@L2.PG=QG,@L2.PGs=QGs,@L2.PI=QI,@L2.PO=QO,@L2.PIf=QIf at ym zd zX zr zq qpv zI zD zk zJ zj zA zx yf zn zy zg htl⊢;refine⟨_,
  (ym (zd (i:=1) zar.nd rfl (pB rfl) zX)
   (ym (zr pz rfl (zq (qpv 0)) (zI (n:=2) rfl (zD (zk (i:=2) zar.nd rfl (pB rfl)) (zD (zk (i:=3) zar.nd rfl (pB rfl)) zJ))) (zj (zA (zx pD uF uG zb7 (yf (zft hr) (qpv 1) (qpv 2) (zn zy) ⟨rfl,rfl,rfl,rfl⟩) (zg (qpv 3) za1)))))
   htl))
  ,?_⟩
 clear htl ym zd zX zr zq qpv zI zD zk zJ zj zA zx yf zn zy zg QE QT QW QA QS QSs QG QGs QI QO QIf;simp! [zok];intro d hd;have g1:=za2 hd (HO.dT []);have st0:LvP H (upd H d (HO.dT [])) d [] (es.take 0):=⟨g1,hd,upd_same,pY _,(fun k v e=>by cases e),fun p z=>rfl,fun p p' v z=>by cases z⟩
 refine zbs ?_;simp! [zcu];refine⟨⟨_,.of (g1 _ _ hl)⟩,?_⟩;refine zb0 (K:=K) (a:=l) (xs:=ys) (fun i σ H'=>∃(kvs:List (List Key×V))(o1 o2:Option V),σ=[some (.ref l),some (.ref d),o1,o2,none,none,none,none]/\LvP H H' d kvs (es.take i)) ⟨[],none,none,rfl,st0⟩ (fun i σ H' _ iv=>by
  obtain⟨kvs,o1,o2,_,h⟩:=iv;exact .of (h.same _ _ hl)) ?_ ?_
 ·intro _ _;rintro i v σ H2 hi ⟨kvs,o1,o2,rfl,st⟩;obtain⟨p,e,rfl,he',⟨c,d2',h1,h2,h3⟩,b1,b2,ne⟩:=he.2 i v hi;have hi':=(kD.mp hi).1;have h1':=st.same _ _ h1;have h2':P2H H2 c e.1:=st.same _ _ h2;have h3':P2H H2 d2' e.2:=st.same _ _ h3;simp! [tDSd,h1'];refine⟨zns st.at_,fun t ht=>?_⟩;refine st.app (p:=e.1) (q:=e.2) (by rw[kY];omega) h2' h3' ht fun l1 H4 zs kvs' h4 z4 st4=>?_
  rw[uC,he'];exact⟨zbw h4,l1,rfl,zs,h4,z4,kvs',st4⟩
 ·rintro σ H2 ⟨kvs,o1,o2,rfl,st⟩;rw[kX (Qp lse.symm)] at st;exact hk d kvs H2 o1 o2 st
def sg(z:Int):Int:=if 0<z then 1 else if z<0 then-1 else 0
def D8:List (Int×Int):=[(1,0),(1,1),(0,1),(-1,1),(-1,0),(-1,-1),(0,-1),(1,-1)]
theorem d8_at:∀k:Fin 8,D8[k.val]?=some (sg (dv k).1,sg (dv k).2):=by decide
theorem d8_one:∀k:Fin 8,∀i,i<k.val->D8[i]?≠D8[k.val]?:=by decide
theorem zp9{x m d:Int}(hm:0<m):((if decide (x<x+m*d)=true then 1 else 0)-(if decide (x+m*d<x)=true then 1 else 0):Int)=sg d:=by
 unfold sg;rcases Int.lt_trichotomy d 0 with z|z|z
 ·have:=Int.mul_neg_of_pos_of_neg hm z;rw[decide_eq_false (by omega),decide_eq_true (by omega),if_neg (by omega:¬0<d),if_pos z]
  rfl
 ·rw[z,Cw,decide_eq_false (by omega),decide_eq_false (by omega)]
  rfl
 ·have:=jX hm z;rw[decide_eq_true (by omega),decide_eq_false (by omega),if_pos z]
  rfl
def sp_lway:Sp:=fun vs H Q _=>∃(p q:Addr)(a:Int×Int)(k:Fin 8)(m:Int),vs=[.ref p,.ref q]/\P2H H p a/\P2H H q (att a k m)/\0<m/\∀H',Same H H'->Q (.int (k.val:Int)) H'
theorem zh7(T:Txt K mg ad fd):FnOk P w K mg base CX0 1 (ad 25) (fd 25) ["_law_one","_law_other"] sp_lway:=by
 refine T.law_way.fn.ok zfp (fun vs H Q E h=>?_) (fun cdv A outer s H vs Q E hr h=>?_)
 ·obtain⟨p,q,a,k,m,rfl,_⟩:=h;rfl
 obtain⟨p,q,a,kr,m,rfl,hp,hq,hm,k⟩:=h;have zB:=@pss3;have zd:=@zbn;have zb:=@zds;have yl:=@znt;have zg:=@pa1;have zK:=@zgt;have zc:=@ze5;have qpv:=@pv;have za:=@zbr;have ze:=@zav;have zx:=@zgr;have zn:=@zd9;have yG:=@pa8;have zm:=@zdc;have zf:=@pa2;have zW:=@pe_un;generalize @L2.PE=QE,@L2.PT=QT,@L2.PW=QW,@L2.PA=QA,@L2.PS=QS,@L2.PSs=QSs,@L2.PG=QG,@L2.PGs=QGs,@L2.PI=QI,@L2.PO=QO,@L2.PIf=QIf at zB zd zb yl zg zK zc qpv za ze zx zn yG zm zf zW⊢;refine⟨_,
  (zB
   (zd (i:=2) zfp.nd rfl (pB rfl) (zb zcx (yl zfg rfl T.b_int zlo (zg (zK zpz (zc za3 (qpv 1) za (fun _ _=>rfl)) (zc za3 (qpv 0) za (fun _ _=>rfl)) (nomark _)) zel)) (yl zfg rfl T.b_int zlo (zg (zK ziw (zc za3 (qpv 1) za (fun _ _=>rfl)) (zc za3 (qpv 0) za (fun _ _=>rfl)) (nomark _)) zel))))
   (zd (i:=3) zfp.nd rfl (pB rfl) (zb zcx (yl zfg rfl T.b_int zlo (zg (zK zpz (zc za3 (qpv 1) za (fun _ _=>rfl)) (zc za3 (qpv 0) za (fun _ _=>rfl)) (nomark _)) zel)) (yl zfg rfl T.b_int zlo (zg (zK ziw (zc za3 (qpv 1) za (fun _ _=>rfl)) (zc za3 (qpv 0) za (fun _ _=>rfl)) (nomark _)) zel))))
   (ze (zx pD vO vP (zg4 (hu100 hr)) (zn (yG (zm (zf za zad za zad)) zat (zm (zf za zad za zad)) zat (zm (zf za zad za zad)) zat (zm (zf (zW zgd za) zd4 za zad)) zat (zm (zf (zW zgd za) zd4 za zad)) zat (zm (zf (zW zgd za) zd4 (zW zgd za) zd4)) zat (zm (zf za zad (zW zgd za) zd4)) zat (zm (zf za zad (zW zgd za) zd4)) zat)) (zg (zm (zf (qpv 2) za1 (qpv 3) za1)) zat))))
  ,?_⟩
 clear zB zd zb yl zg zK zc qpv za ze zx zn yG zm zf zW QE QT QW QA QS QSs QG QGs QI QO QIf
 dsimp! [L2.start]
 have hp':H p=some (.tup [.int a.1,.int a.2]):=hp;have hq':H q=some (.tup [.int (att a kr m).1,.int (att a kr m).2]):=hq;simp! [hp',hq'];intro u0 z0;have s0:=za2 z0 (HO.tup [V.int 1,V.int 0]);have q0:upd H u0 (HO.tup [V.int 1,V.int 0]) u0=some (HO.tup [V.int 1,V.int 0]):=upd_same;generalize upd H u0 (HO.tup [V.int 1,V.int 0])=I0 at*;intro u1 z1;have s1:=za2 z1 (HO.tup [V.int 1,V.int 1]);have q1:upd I0 u1 (HO.tup [V.int 1,V.int 1]) u1=some (HO.tup [V.int 1,V.int 1]):=upd_same;generalize upd I0 u1 (HO.tup [V.int 1,V.int 1])=I1 at*;intro u2 z2;have s2:=za2 z2 (HO.tup [V.int 0,V.int 1]);have q2:upd I1 u2 (HO.tup [V.int 0,V.int 1]) u2=some (HO.tup [V.int 0,V.int 1]):=upd_same;generalize upd I1 u2 (HO.tup [V.int 0,V.int 1])=I2 at*;intro u3 z3;have s3:=za2 z3 (HO.tup [V.int (-1),V.int 1]);have q3:upd I2 u3 (HO.tup [V.int (-1),V.int 1]) u3=some (HO.tup [V.int (-1),V.int 1]):=upd_same;generalize upd I2 u3 (HO.tup [V.int (-1),V.int 1])=I3 at*;intro u4 z4;have s4:=za2 z4 (HO.tup [V.int (-1),V.int 0]);have q4:upd I3 u4 (HO.tup [V.int (-1),V.int 0]) u4=some (HO.tup [V.int (-1),V.int 0]):=upd_same;generalize upd I3 u4 (HO.tup [V.int (-1),V.int 0])=I4 at*;intro u5 z5;have s5:=za2 z5 (HO.tup [V.int (-1),V.int (-1)]);have q5:upd I4 u5 (HO.tup [V.int (-1),V.int (-1)]) u5=some (HO.tup [V.int (-1),V.int (-1)]):=upd_same;generalize upd I4 u5 (HO.tup [V.int (-1),V.int (-1)])=I5 at*;intro u6 z6;have s6:=za2 z6 (HO.tup [V.int 0,V.int (-1)]);have q6:upd I5 u6 (HO.tup [V.int 0,V.int (-1)]) u6=some (HO.tup [V.int 0,V.int (-1)]):=upd_same;generalize upd I5 u6 (HO.tup [V.int 0,V.int (-1)])=I6 at*;intro u7 z7;have s7:=za2 z7 (HO.tup [V.int 1,V.int (-1)]);have q7:upd I6 u7 (HO.tup [V.int 1,V.int (-1)]) u7=some (HO.tup [V.int 1,V.int (-1)]):=upd_same;generalize upd I6 u7 (HO.tup [V.int 1,V.int (-1)])=I7 at*;refine⟨by decide,fun L zL=>?_⟩
 have sL:=za2 zL (HO.lst [V.ref u0,V.ref u1,V.ref u2,V.ref u3,V.ref u4,V.ref u5,V.ref u6,V.ref u7]);have qL:upd I7 L (HO.lst [V.ref u0,V.ref u1,V.ref u2,V.ref u3,V.ref u4,V.ref u5,V.ref u6,V.ref u7]) L=some (HO.lst [V.ref u0,V.ref u1,V.ref u2,V.ref u3,V.ref u4,V.ref u5,V.ref u6,V.ref u7]):=upd_same;generalize upd I7 L (HO.lst [V.ref u0,V.ref u1,V.ref u2,V.ref u3,V.ref u4,V.ref u5,V.ref u6,V.ref u7])=IL at*;have gL:Same H IL:=(((((((s0.trans s1).trans s2).trans s3).trans s4).trans s5).trans s6).trans s7).trans sL;have lr:LR P2H IL [V.ref u0,V.ref u1,V.ref u2,V.ref u3,V.ref u4,V.ref u5,V.ref u6,V.ref u7] [(1,0),(1,1),(0,1),(-1,1),(-1,0),(-1,-1),(0,-1),(1,-1)]:=.cons ⟨u0,rfl,sL _ _ (s7 _ _ (s6 _ _ (s5 _ _ (s4 _ _ (s3 _ _ (s2 _ _ (s1 _ _ (q0))))))))⟩ (.cons ⟨u1,rfl,sL _ _ (s7 _ _ (s6 _ _ (s5 _ _ (s4 _ _ (s3 _ _ (s2 _ _ (q1)))))))⟩ (.cons ⟨u2,rfl,sL _ _ (s7 _ _ (s6 _ _ (s5 _ _ (s4 _ _ (s3 _ _ (q2))))))⟩ (.cons ⟨u3,rfl,sL _ _ (s7 _ _ (s6 _ _ (s5 _ _ (s4 _ _ (q3)))))⟩ (.cons ⟨u4,rfl,sL _ _ (s7 _ _ (s6 _ _ (s5 _ _ (q4))))⟩ (.cons ⟨u5,rfl,sL _ _ (s7 _ _ (s6 _ _ (q5)))⟩ (.cons ⟨u6,rfl,sL _ _ (s7 _ _ (q6))⟩ (.cons ⟨u7,rfl,sL _ _ (q7)⟩ (.nil))))))));refine⟨zbw qL,fun t zt=>?_⟩;have d1:(att a kr m).1=a.1+m*(dv kr).1:=rfl;have d2':(att a kr m).2=a.2+m*(dv kr).2:=rfl;rw[d1,d2',zp9 hm,zp9 hm];have st:=za2 zt (HO.tup [V.int (sg (dv kr).1),V.int (sg (dv kr).2)]);have qt:upd IL t (HO.tup [V.int (sg (dv kr).1),V.int (sg (dv kr).2)]) t=some (HO.tup [V.int (sg (dv kr).1),V.int (sg (dv kr).2)]):=upd_same;generalize upd IL t (HO.tup [V.int (sg (dv kr).1),V.int (sg (dv kr).2)])=IT at*;exact⟨t,(sg (dv kr).1,sg (dv kr).2),D8,kr.val,rfl,zhm (st _ _ qL) (lr.ts zb2 (za8 st)),qt,d8_at kr,fun i hi z=>d8_one kr i hi (z.trans (d8_at kr).symm),k _ (gL.trans st)⟩
theorem rk_int:∀k j:Fin 8,(((k.val:Int)-(j.val:Int))%8)=(rk k j:Int):=by decide
theorem rk_lt:∀k j:Fin 8,rk k j<8:=by decide
def BstI(es:List E2)(ws:List E2)(c:Int×Int)(κ:Fin 8)(r:Int)(e:Int×Int):Prop:=(r=8/\∀d,¬(c,d)∈ws)∨∃j n,(c,e)∈ws/\Wy es c e j n/\r=(rk κ j:Int)/\∀d j' n',(c,d)∈ws->Wy es c d j' n'->rk κ j<=rk κ j'
def NxtI(H:Hp)(l p q:Addr)(es ws:List E2)(c:Int×Int)(κ:Fin 8)(i:Nat)(σ:St)(H':Hp):Prop:=∃(B x:Addr)(r:Int)(e:Int×Int)(o5 o6:Option V),σ=[some (V.ref l),some (V.ref p),some (V.ref q),some (V.int (κ.val:Int)),some (V.ref B),o5,o6]/\Same H H'/\H' B=some (.lst [.int r,.ref x])/\P2H H' x e/\BstI es (ws.take i) c κ r e
def zlu:Sp:=fun vs H Q _=>∃(l p q:Addr)(ys:List V)(cs:List C3)(es ws:List E2)(a c:Int×Int)(k:Fin 8)(m:Nat),vs=[.ref l,.ref p,.ref q]/\H l=some (.lst ys)/\LR WyH H ys ws/\Edg cs es/\Wys es ws/\P2H H p a/\P2H H q c/\Wy es a c k m/\
 ∀r d j n H',Same H H'->P2H H' r d->(c,d)∈ws->Wy es c d j n->(∀j',oB (sec cs c) j'=true->rk (k+4) j<=rk (k+4) j')->Q (.ref r) H'
theorem zjx(T:Txt K mg ad fd):FnOk P w K mg base CX0 2 (ad 26) (fd 26) ["_law_ways","_law_begin","_law_end"] zlu:=by
 refine T.law_next.fn.ok zcj (fun vs H Q E h=>?_) (fun cdv A outer s H vs Q E hr h=>?_)
 ·obtain⟨l,p,q,ys,cs,es,ws,a,c,k,m,rfl,_⟩:=h;rfl
 obtain⟨l,p,q,ys,cs,es,ws,a,c,kr,m,rfl,hl,hw,Eg,Wg,hp,hq,wy,k⟩:=h;have zE:=@pss4;have zd:=@zbn;have zh:=@zbb;have zf:=@pa2;have qpv:=@pv;have zn:=@zd9;have za:=@zbr;have zr:=@zdj;have zq:=@zc3;have zI:=@zev;have zD:=@zdv;have zk:=@zby;have zJ:=@zes;have zj:=@zaf;have zo:=@zen;have zv:=@zcs;have zC:=@zd3;have zb:=@zds;have zp:=@zbx;have ze:=@zav;have zc:=@ze5;generalize @L2.PE=QE,@L2.PT=QT,@L2.PW=QW,@L2.PA=QA,@L2.PS=QS,@L2.PSs=QSs,@L2.PG=QG,@L2.PGs=QGs,@L2.PI=QI,@L2.PO=QO,@L2.PIf=QIf at zE zd zh zf qpv zn za zr zq zI zD zk zJ zj zo zv zC zb zp ze zc⊢;refine⟨_,
  (zE
   (zd (i:=3) zcj.nd rfl (pB rfl) (zh (zh7 T) (hr.mono (by decide)) rfl T.law_way.mg T.law_way.fn.kp T.law_way.bn .nil pass0 (zf (qpv 2) za1 (qpv 1) za1)))
   (zd (i:=4) zcj.nd rfl (pB rfl) (zn (zf za zad (qpv 1) za1)))
   (zr pz rfl (zq (qpv 0)) (zI (n:=2) rfl (zD (zk (i:=5) zcj.nd rfl (pB rfl)) (zD (zk (i:=6) zcj.nd rfl (pB rfl)) zJ))) (zj (zo (zv (zkt (hu64 hr)) (qpv 5) (qpv 2) (nomark _)) (zj (zd (i:=4) zcj.nd rfl (pB rfl) (zC (zp5 rfl (hu100 hr)) rfl T.b_min bt_min (zf (qpv 4) za1 (zn (zf (zb zco (zb zcx (qpv 3) (zh (zh7 T) (hr.mono (by decide)) rfl T.law_way.mg T.law_way.fn.kp T.law_way.bn .nil pass0 (zf (qpv 2) za1 (qpv 6) za1))) za) zaa (qpv 6) za1)) zo5)))) zp)))
   (ze (zc zaz (qpv 4) za (fun _ _=>rfl))))
  ,?_⟩
 clear zE zd zh zf qpv zn za zr zq zI zD zk zJ zj zo zv zC zb zp ze zc QE QT QW QA QS QSs QG QGs QI QO QIf
 dsimp! [L2.start]
 simp! [];refine⟨q,p,c,kr+4,(m:Int)+1,rfl,hq,by rw[←wy.from];exact hp,by omega,fun H1 g1=>?_⟩
 intro B hB;have gB:=za2 hB (HO.lst [V.int 8,V.ref p]);have hB2:upd H1 B (HO.lst [V.int 8,V.ref p]) B=some (HO.lst [V.int 8,V.ref p]):=upd_same;generalize upd H1 B (HO.lst [V.int 8,V.ref p])=H2 at*;have g02:=g1.trans gB;have lw:=hw.1;refine zbs ?_;simp! [zcu];refine⟨⟨_,.of (g02 _ _ hl)⟩,?_⟩;refine zb0 (K:=K) (a:=l) (xs:=ys) (NxtI H l p q es ws c (kr+4)) ⟨B,p,8,a,none,none,rfl,g02,hB2,g02 _ _ hp,.inl ⟨rfl,fun d z=>(by rw[uz] at z;cases z)⟩⟩ (fun i σ H' _ iv=>.of (by obtain⟨_,_,_,_,_,_,_,g,_⟩:=iv;exact g _ _ hl)) ?_ ?_
 ·intro _ _;rintro i v σ H3 hi ⟨B',x,r,e,o5,o6,rfl,g3,hB3,hx,bst⟩;obtain⟨t,w2,rfl,hw',⟨c1,c2,h1,h2,h3⟩,b1,b2⟩:=hw.2 i v hi;have hi':=(kD.mp hi).1;have h1':=g3 _ _ h1;have h2':=zb2 _ _ _ _ (za8 g3) h2;have h3':=zb2 _ _ _ _ (za8 g3) h3;have hq3:=zb2 _ _ _ _ (za8 g3) hq;have tk:ws.take (i+1)=ws.take i++[w2]:=by rw[uC,hw'];rfl
  simp! [rEqD,h1'];refine⟨_,rd_2 h2',_,rd_2 hq3,zfj _,zfj _,?_⟩;rw[zpq];refine ite2 (fun cc=>?_) (fun cc=>?_)
  ·have ec:w2.1=c:=of_decide_eq_true cc;have hwm:=ko hw';obtain⟨j,n,wj,_⟩:=Wg.of w2 hwm;rw[ec] at wj;refine⟨q,c2,c,j,(n:Int)+1,rfl,hq3,by rw[←wj.fin];exact h3',by omega,fun H4 g4=>?_⟩
   refine⟨_,rfl,by decide,fun N hN=>?_⟩
   rw[rk_int];have gN:=za2 hN (HO.lst [V.int (rk (kr+4) j:Int),V.ref c2]);have hN5:upd H4 N (HO.lst [V.int (rk (kr+4) j:Int),V.ref c2]) N=some (HO.lst [V.int (rk (kr+4) j:Int),V.ref c2]):=upd_same;generalize upd H4 N (HO.lst [V.int (rk (kr+4) j:Int),V.ref c2])=H5 at*;have g45:=g4.trans gN;have hB5:=g45 _ _ hB3;have hx5:=zb2 _ _ _ _ (za8 g45) hx;have h35:=zb2 _ _ _ _ (za8 g45) h3';refine⟨B',N,x,c2,(r,e),((rk (kr+4) j:Int),w2.2),rfl,hB5,hx5,hN5,h35,?_⟩;have ew:(c,w2.2)=w2:=ue ec.symm rfl;have new:(c,w2.2)∈ws.take (i+1):=by
    rw[tk,ew];exact kh _ (kU.mpr rfl)
   have cases_:∀d j' n',(c,d)∈ws.take (i+1)->Wy es c d j' n'->(c,d)∈ws.take i∨j'=j:=fun d j' n' z w'=>by
    rw[tk] at z;rcases kW.mp z with z|z
    ·exact .inl z
    ·right;have:d=w2.2:=by rw[←kU.mp z]
     rw[this] at w';exact w'.dir wj
   rcases bst with⟨q1,q2⟩|⟨jo,no,q1,q2,q3,q4⟩
   ·have lt:ltI2 ((rk (kr+4) j:Int),w2.2) (r,e)=true:=by
     unfold ltI2;have:=rk_lt (kr+4) j;dsimp only;rw[q1,if_neg (by omega)]
     exact decide_eq_true (by omega)
    rw[if_pos lt];refine⟨N,c2,_,w2.2,_,_,rfl,g3.trans g45,hN5,h35,.inr ⟨j,n,new,wj,rfl,fun d j' n' z w'=>?_⟩⟩;rcases cases_ d j' n' z w' with z|z
    ·exact absurd z (q2 d)
    ·rw[z];exact kJ _
   ·have nj:jo≠j:=fun z=>by
     rw[z] at q2;have e2:=q2.one wj;rw[e2,ew] at q1;obtain⟨n',hn⟩:=pW.mp q1;have hn':n'<i:=by
      have:=(kD.mp hn).1;rw[kY] at this;omega
     rw[Uy hn'] at hn;have:=(Af (by omega) Wg.nd).mp (hn.trans hw'.symm)
     omega
    have nr:rk (kr+4) j≠rk (kr+4) jo:=fun z=>nj (zpy _ _ _ z).symm;have le:ltI2 ((rk (kr+4) j:Int),w2.2) (r,e)=decide (rk (kr+4) j<rk (kr+4) jo):=by
     unfold ltI2;dsimp only;rw[q3,if_neg (by omega)]
     exact decide_eq_decide.mpr (by omega)
    rw[le]
    by_cases lt:rk (kr+4) j<rk (kr+4) jo
    ·rw[if_pos (decide_eq_true lt)];refine⟨N,c2,_,w2.2,_,_,rfl,g3.trans g45,hN5,h35,.inr ⟨j,n,new,wj,rfl,fun d j' n' z w'=>?_⟩⟩;rcases cases_ d j' n' z w' with z|z
     ·have:=q4 d j' n' z w';omega
     ·rw[z];exact kJ _
    ·rw[if_neg (by rw[decide_eq_false lt];decide)]
     refine⟨B',x,r,e,_,_,rfl,g3.trans g45,hB5,hx5,.inr ⟨jo,no,?_,q2,q3,fun d j' n' z w'=>?_⟩⟩
     ·rw[tk];exact uP _ q1
     ·rcases cases_ d j' n' z w' with z|z
      ·exact q4 d j' n' z w'
      ·rw[z];omega
  ·have ec:¬w2.1=c:=fun z=>cc (decide_eq_true z);refine⟨B',x,r,e,_,_,rfl,g3,hB3,hx,?_⟩;have em:∀d,(c,d)∈ws.take (i+1)↔(c,d)∈ws.take i:=fun d=>by
    rw[tk,kW,kU];exact⟨fun z=>z.resolve_right fun q=>ec (by rw[←q]),.inl⟩
   rcases bst with⟨h1,h2⟩|⟨j,n,h1,h2,h3,h4⟩
   ·exact .inl ⟨h1,fun d z=>h2 d ((em d).mp z)⟩
   ·exact .inr ⟨j,n,(em e).mpr h1,h2,h3,fun d j' n' z=>h4 d j' n' ((em d).mp z)⟩
 ·rintro σ H3 ⟨B',x,r,e,o5,o6,rfl,g3,hB3,hx,bst⟩;rw[kX (Qp lw.symm)] at bst;simp! [hB3];have i1:=Eg.inn.mp wy.last;obtain⟨j0,o0⟩:=v1 i1
  obtain⟨d0,n0,m0,_⟩:=Wg.next Eg wy o0
  rcases bst with⟨h1,h2⟩|⟨j,n,h1,h2,h3,h4⟩
  ·exact absurd m0 (h2 d0)
  ·refine k x e j n H3 g3 hx h1 h2 fun j' oj=>?_
   obtain⟨d',n',m',w'⟩:=Wg.next Eg wy oj
   exact h4 d' j' n' m' w'
theorem suc_td{f:Fr}{cs:List C3}{es ws:List E2}(hw:0<f.w)(hd:0<fd2 f)(E:Edg cs es)(W:Wys es ws){a c d:Int×Int}{k j:Fin 8}{m n:Nat}(h:Wy es a c k m)(hd1:(c,d)∈ws)(wd:Wy es c d j n)(mn:∀j',oB (sec cs c) j'=true->rk (k+4) j<=rk (k+4) j'):suc (ws.map (tdF f)) (tdF f (a,c))=tdF f (c,d):=by
 obtain⟨d',j',n',h1,h2,h3,h4⟩:=zf7 hw hd E W h
 have e:j=j':=zpy _ _ _ (Da (mn j' (E.out.mp h2.first)) (h4 j (E.out.mp wd.first)))
 subst e;have e2:=wd.one h2;subst e2;show(PF f c,zhi (PF f c) (PF f a) (leav (ws.map (tdF f)) (PF f c)))=_;rw[h3];rfl
theorem zq0{f:Fr}(hw:0<f.w)(hd:0<fd2 f)(p:Int×Int):∀path:List (Int×Int),(path.map (PF f)).idxOf (PF f p)=path.idxOf p
 |[]=>rfl
 |x::path=>by
  rw[ki,gh,gh,zq0 hw hd p path]
  by_cases c:x=p
  ·rw[c,beq_self_eq_true,beq_self_eq_true]
  ·rw[beq_eq_false_iff_ne.mpr c,beq_eq_false_iff_ne.mpr fun z=>c (ze8 hw hd z)]
theorem zhd{f:Fr}(hw:0<f.w)(hd:0<fd2 f){p:Int×Int}{path:List (Int×Int)}:PF f p∈path.map (PF f)↔p∈path:=by
 rw[km];exact⟨fun⟨x,h1,h2⟩=>by rw[←ze8 hw hd h2];exact h1,fun h=>⟨p,h,rfl⟩⟩
theorem zim{p:Int×Int}:∀(path:List (Int×Int))(i:Nat),path[i]?=some p->(∀j,j<i->path[j]?≠some p)->path.idxOf p=i
 |[],_,h,_=>by cases h
 |x::path,0,h,_=>by
  cases h;rw[gh,beq_self_eq_true];rfl
 |x::path,i+1,h,fr=>by
  have ne:x≠p:=fun z=>fr 0 (gu _) (by rw[z];rfl)
  rw[gh,beq_eq_false_iff_ne.mpr ne,zim path i h fun j hj=>fr (j+1) (Nat.succ_lt_succ hj)];rfl
theorem zlh(ss:List (Q3×Q3))(E:Q3×Q3):∀u,(wyF ss E u).1[0]?=some E.1
 |0=>rfl
 |u+1=>by
  have ih:=zlh ss E u;show(if _ then _ else _:List Q3×List (List Q3)).1[0]?=_
  split
  ·show(List.take _ (wyF ss E u).1)[0]?=_
   rw[Uy (gu _)];exact ih
  ·show((wyF ss E u).1++[_])[0]?=_
   rw[po (kD.mp ih).1];exact ih
def CutS(f:Fr)(ss:List (Q3×Q3))(E:Q3×Q3)(t:Nat)(path:List (Int×Int))(fnd:List (List (Int×Int))):Prop:=(t=0/\path=[]/\fnd=[])∨∃u,t=u+1/\path.map (PF f)=(wyF ss E u).1/\fnd.map (Uj (PF f))=(wyF ss E u).2
section
variable{f:Fr}{ss:List (Q3×Q3)}{E:Q3×Q3}{t:Nat}{path:List (Int×Int)}{fnd:List (List (Int×Int))}{p:Int×Int}
theorem CutS.new(hw:0<f.w)(hd:0<fd2 f)(h:CutS f ss E t path fnd)(hp:(itr ss E t).1=PF f p)(n:¬p∈path):CutS f ss E (t+1) (path++[p]) fnd:=by
 refine .inr ⟨t,rfl,?_⟩;rcases h with⟨rfl,rfl,rfl⟩|⟨u,rfl,h1,h2⟩
 ·exact⟨by show[PF f p]=[E.1];rw[←hp];rfl,rfl⟩
 ·have hp':(itr ss E u).2=PF f p:=hp;show _=(if _ then _ else _:List Q3×List (List Q3)).1/\_=(if _ then _ else _:List Q3×List (List Q3)).2;rw[hp',←h1,if_neg (fun z=>n ((zhd hw hd).mp z)),uL];exact⟨rfl,h2⟩
theorem CutS.cut(hw:0<f.w)(hd:0<fd2 f)(h:CutS f ss E t path fnd)(hp:(itr ss E t).1=PF f p){i:Nat}(hi:path[i]?=some p)(first:∀j,j<i->path[j]?≠some p):CutS f ss E (t+1) (path.take i++[p]) (fnd++[path.drop i]):=by
 have ix:path.idxOf p=i:=zim path i hi first
 have mem:p∈path:=ko hi;refine .inr ⟨t,rfl,?_⟩;rcases h with⟨rfl,rfl,rfl⟩|⟨u,rfl,h1,h2⟩
 ·cases hi
 ·have hp':(itr ss E u).2=PF f p:=hp;show _=(if _ then _ else _:List Q3×List (List Q3)).1/\_=(if _ then _ else _:List Q3×List (List Q3)).2;rw[hp',←h1,if_pos ((zhd hw hd).mpr mem),zq0 hw hd,ix,←h2];refine⟨?_,?_⟩
  ·show(path.take i++[p]).map (PF f)=(path.map (PF f)).take (i+1)
   rw[←CP,uC,hi];rfl
  ·show(fnd++[path.drop i]).map (Uj (PF f))=fnd.map (Uj (PF f))++[(path.map (PF f)).drop i]
   rw[uL,ki,Qe,EF]
end
theorem zjh{p:Int×Int}:∀path:List (Int×Int),p∈path->∃i:Nat,path[i]?=some p/\∀j:Nat,j<i->path[j]?≠some p
 |[],h=>by cases h
 |x::path,h=>by
  by_cases c:x=p
  ·exact⟨0,by rw[c];rfl,fun j hj=>by omega⟩
  ·obtain⟨i,h1,h2⟩:=zjh path ((pF.mp h).resolve_left fun z=>c z.symm);refine⟨i+1,h1,fun j hj=>?_⟩
   cases j with
   |zero=>exact fun z=>c (uK z)
   |succ j=>exact h2 j (by omega)
def RgP(H:Hp)(p:Addr)(r:List (Int×Int)):Prop:=∃zs,H p=some (.lst zs)/\LR P2H H zs r
theorem WyH.nk{H:Hp}{p:Addr}{e:E2}(h:WyH H p e):NK H p (kk e):=by
 obtain⟨⟨c,d,h1,h2,h3⟩,_⟩:=h;exact NK.two h1 h2 h3
def CutJ(P:kq)(w:pX)(H:Hp)(l st gn R:Addr)(gk:List N3)(f:Fr)(ws:List E2)(e0:E2)(m:Nat)(σ:St)(H':Hp):Prop:=∃(t:Nat)(Pt wy:Addr)(zs us:List V)(path:List (Int×Int))(fnd:List (List (Int×Int)))(gk':List N3)(e:E2)(o6:Option V),σ=[some (V.ref l),some (V.ref st),some (V.ref gn),some (V.ref R),some (V.ref Pt),some (V.ref wy),o6]/\m=ws.length+1-t/\zag gn H H'/\H' gn=some (nD P w gn gk')/\KN H' gk'/\gk'.length<=gk.length+t/\(∀x,hasE gk' x↔hasE gk x∨∃i,i<t/\tdF f x=itr (ws.map (tdF f)) (tdF f e0) i)/\H' R=some (.lst zs)/\zs.length<=t/\LR (fun H1 p r=>H p=none/\p≠R/\p≠Pt/\RgP H1 p r) H' zs fnd/\H Pt=none/\Pt≠R/\H' Pt=some (.lst us)/\LR P2H H' us path/\us.length<=t/\WyH H' wy e/\e∈ws/\tdF f e=itr (ws.map (tdF f)) (tdF f e0) t/\CutS f (ws.map (tdF f)) (tdF f e0) t path fnd/\∀j,0<j->j<t->itr (ws.map (tdF f)) (tdF f e0) j≠tdF f e0
def sp_lcut(P:kq)(w:pX):Sp:=fun vs H Q _=>∃(l st gn:Addr)(ys:List V)(cs:List C3)(es ws:List E2)(f:Fr)(gk:List N3)(e0:E2),vs=[.ref l,.ref st,.ref gn]/\H l=some (.lst ys)/\LR WyH H ys ws/\ys.length<=144/\Edg cs es/\Wys es ws/\0<f.w/\0<fd2 f/\WyH H st e0/\e0∈ws/\H gn=some (nD P w gn gk)/\KN H gk/\gk.length<=10000/\(∀x i,hasE gk x->tdF f x≠itr (ws.map (tdF f)) (tdF f e0) i)/\
 ∀(R:Addr)(zs:List V)(rs:List (List (Int×Int)))(t:Nat)(H':Hp)(gk':List N3),zag gn H H'->H' gn=some (nD P w gn gk')->KN H' gk'->(∀x,hasE gk' x↔hasE gk x∨∃i,i<t+1/\tdF f x=itr (ws.map (tdF f)) (tdF f e0) i)->gk'.length<=gk.length+(t+1)->t<ws.length->H R=none->H' R=some (.lst zs)->zs.length<=t+2->LR (fun H1 p r=>H p=none/\p≠R/\RgP H1 p r) H' zs rs->rs.map (Uj (PF f))=(wyF (ws.map (tdF f)) (tdF f e0) t).2++[(wyF (ws.map (tdF f)) (tdF f e0) t).1]->suc (ws.map (tdF f)) (itr (ws.map (tdF f)) (tdF f e0) t)=tdF f e0->(∀j,0<j->j<=t->itr (ws.map (tdF f)) (tdF f e0) j≠tdF f e0)->Q (.ref R) H'
theorem zm7(T:Txt K mg ad fd):FnOk P w K mg base CX0 3 (ad 27) (fd 27) ["_law_ways","_law_first","_law_gone"] (sp_lcut P w):=by
 refine T.law_cut.fn.ok zcl (fun vs H Q E h=>?_) (fun cdv A outer s H vs Q E hr h=>?_)
 ·obtain⟨l,st,gn,ys,cs,es,ws,f,gk,e0,rfl,_⟩:=h;rfl
 obtain⟨l,st,gn,ys,cs,es,ws,f,gk,e0,rfl,hl,hw,ny,Eg,Wg,w0,d0,hst,he0,hgn,kn,lgk,free,k⟩:=h;have yk:=@pss6;have zd:=@zbn;have zn:=@zd9;have zy:=@zci;have qpv:=@pv;have zS:=@zg5;have zP:=@zhn;have zT:=@zfa;have zE:=@pss4;have zZ:=@zke;have zR:=@pe_bl;have zo:=@zen;have zv:=@zcs;have zc:=@ze5;have za:=@zbr;have zB:=@pss3;have zx:=@zgr;have zg:=@pa1;have zA:=@zdk;have zM:=@zfh;have zN:=@zgh;have zO:=@zgk;have zp:=@zbx;have zm:=@zdc;have zf:=@pa2;have zh:=@zbb;have zu:=@pa3;have ze:=@zav;generalize @L2.PE=QE,@L2.PT=QT,@L2.PW=QW,@L2.PA=QA,@L2.PS=QS,@L2.PSs=QSs,@L2.PG=QG,@L2.PGs=QGs,@L2.PI=QI,@L2.PO=QO,@L2.PIf=QIf,@L2.PC=QC,@L2.PK=QK at yk zd zn zy qpv zS zP zT zE zZ zR zo zv zc za zB zx zg zA zM zN zO zp zm zf zh zu ze⊢;refine⟨_,
  (yk
   (zd (i:=3) zcl.nd rfl (pB rfl) (zn zy))
   (zd (i:=4) zcl.nd rfl (pB rfl) (zn zy))
   (zd (i:=5) zcl.nd rfl (pB rfl) (qpv 1))
   (zS pz (zP (zT (P:=P) (w:=w) rfl rfl (hu64 hr) (qpv 5) (qpv 2))) (zE
   (zZ (P:=P) (w:=w) rfl rfl (hu64 hr) (qpv 2) (qpv 5) zR rfl)
   (zo (zv (op_inL (K':=K) rfl (hu64 hr)) (zc za3 (qpv 5) za (fun _ _=>rfl)) (qpv 4) rfl) (zB
   (zd (i:=6) zcl.nd rfl (pB rfl) (zx pD vO vP (zg4 (hu100 hr)) (qpv 4) (zg (zc za3 (qpv 5) za (fun _ _=>rfl)) za7)))
   (zA (zx pD uF uG zb7 (qpv 3) (zg (zM zc9 (qpv 4) (zN (qpv 6)) zO) za7)))
   (zd (i:=4) zcl.nd rfl (pB rfl) (zM zc9 (qpv 4) zO (zN (qpv 6))))) zp)
   (zA (zx pD uF uG zb7 (qpv 4) (zg (zc za3 (qpv 5) za (fun _ _=>rfl)) za7)))
   (zd (i:=5) zcl.nd rfl (pB rfl) (zm (zf (zc za3 (qpv 5) za (fun _ _=>rfl)) za7 (zh (zjx T) (hr.mono (by decide)) rfl T.law_next.mg T.law_next.fn.kp T.law_next.bn .nil pass0 (zu (qpv 0) za1 (zc za3 (qpv 5) za (fun _ _=>rfl)) za7 (zc za3 (qpv 5) za (fun _ _=>rfl)) za7)) zbq)))))
   (zA (zx pD uF uG zb7 (qpv 3) (zg (zM zc9 (qpv 4) (zN (zx pD vO vP (zg4 (hu100 hr)) (qpv 4) (zg (zc za3 (qpv 5) za (fun _ _=>rfl)) za7))) zO) za7)))
   (ze (qpv 3)))
  ,?_⟩
 clear yk zd zn zy qpv zS zP zT zE zZ zR zo zv zc za zB zx zg zA zM zN zO zp zm zf zh zu ze QE QT QW QA QS QSs QG QGs QI QO QIf QC QK
 dsimp! [L2.start]
 simp! [];have Fe:=zoz w0 d0 Eg Wg;have hes:tdF f e0∈ws.map (tdF f):=km.mpr ⟨e0,he0,rfl⟩;have lws:=hw.1;have wbx:∀e,e∈ws->Bx e.1/\Bx e.2:=fun e hm=>by
  obtain⟨j,hj⟩:=pW.mp hm;obtain⟨p,x,_,e2,e3⟩:=hw.at (j:=j) (by rw[lws];exact(kD.mp hj).1)
  rw[hj] at e2
  cases e2;exact e3.2
 intro R hR;have gR:=za2 hR (HO.lst []);have hR1:upd H R (HO.lst []) R=some (.lst []):=upd_same;generalize upd H R (HO.lst [])=H1 at*;intro Pt hPt;have gP:=za2 hPt (HO.lst []);have hP2:upd H1 Pt (HO.lst []) Pt=some (.lst []):=upd_same;have nPR:Pt≠R:=fun z=>by rw[z,hR1] at hPt;cases hPt
 have hPtH:H Pt=none:=gR.free hPt;have hR2:=gP _ _ hR1;have g2:=gR.trans gP;generalize upd H1 Pt (HO.lst [])=H2 at*;refine zpk (CutJ P w H l st gn R gk f ws e0) ⟨_,0,Pt,st,[],[],[],[],gk,e0,none,rfl,rfl,zag.of g2,g2 _ _ hgn,KN.ts kn (za8 g2),kJ _,fun x=>⟨.inl,fun z=>z.elim id fun⟨i,hi,_⟩=>absurd hi (Bb _)⟩,hR2,kJ _,.nil,hPtH,nPR,hP2,.nil,kJ _,zf4 _ _ _ _ (za8 g2) hst,he0,rfl,.inl ⟨rfl,rfl,rfl⟩,fun j h1 h2=>by omega⟩ ?_
 rintro m σ H3 ⟨t,Pt,wy,zs,us,path,fnd,gk',e,o6,rfl,rfl,sg,hg3,kn3,lg,hh,hR3,lz,hz3,hPH,nPR',hP3,hu3,luu,hwy,hem,het,cs3,no⟩;simp! [zgf];refine⟨gk',.inl hg3,kn3,kk e,hwy.nk,ite2 (fun c=>?_) (fun c=>?_)⟩
 ·have nG:¬hasE gk' e:=fun z=>by unfold hasE at z;rw[z] at c;cases c
  have nI:∀i,i<t->itr (ws.map (tdF f)) (tdF f e0) t≠itr (ws.map (tdF f)) (tdF f e0) i:=fun i hi z=>nG ((hh e).mpr (.inr ⟨i,hi,by rw[het,z]⟩))
  have no1:∀j,0<j->j<=t->itr (ws.map (tdF f)) (tdF f e0) j≠tdF f e0:=fun j h1 h2=>by
   rcases Qu h2 with z|z
   ·exact no j h1 z
   ·rw[z];exact nI 0 (by omega)
  have tf:=Fe.few hes no1;rw[kL] at tf;refine⟨_,fun σ' H' z=>z,?_⟩;obtain⟨⟨c1,c2,hw1,hc1,hc2⟩,bx1,bx2⟩:=id hwy;simp! [sNPut,rInL];refine⟨gk',hg3,kn3,kk e,hwy.nk,small10k (by omega),?_⟩
  generalize hO:nD P w gn (putN gk' (kk e) wy (V.bl true))=O;have tp:=zgu (o:=O) hg3;have hg4:upd H3 gn O gn=some O:=upd_same;have kn4:=KN.ts (KN.put (v:=V.bl true) kn3 hwy.nk) tp;have sg4:=zag.own sg (o:=O);have hR4:=zd1 (o:=O) (u:=.lst []) (a:=R) (b:=gn) (fun z=>by rw[z,hg3] at hR3;cases hR3) hR3
  have hP4:=zd1 (o:=O) (u:=.lst []) (a:=Pt) (b:=gn) (fun z=>by rw[z,hg3] at hP3;cases hP3) hP3
  have hu4:=hu3.ts zb2 tp;have hz4:LR (fun H1 p r=>H p=none/\p≠R/\p≠Pt/\RgP H1 p r) (upd H3 gn O) zs fnd:=hz3.imp fun p r⟨x1,x2,x3,us,x4,x5⟩=>⟨x1,x2,x3,us,zd1 (u:=.lst []) (fun z=>by rw[z,hg3] at x4;cases x4) x4,x5.ts zb2 tp⟩
  have hw4:=zf4 _ _ _ _ tp hwy;have hw14:=tp _ _ hw1;have hc14:P2H _ c1 e.1:=tp _ _ hc1;have hc24:P2H _ c2 e.2:=tp _ _ hc2;generalize upd H3 gn O=H4 at*;simp! [hw14];have rdP:RdD K H4 (.list (path.map d2)) (.ref Pt):=by
   rw[RdD];exact⟨Pt,us,rfl,.of hP4,rd_p2 hu4⟩
  have hp1:(itr (ws.map (tdF f)) (tdF f e0) t).1=PF f e.1:=by rw[←het];rfl
  have lup:=hu4.1;have hhn:∀x,hasE (putN gk' (kk e) wy (V.bl true)) x↔hasE gk x∨∃i,i<t+1/\tdF f x=itr (ws.map (tdF f)) (tdF f e0) i:=fun x=>by
   rw[zlf,hh]
   constructor
   ·rintro((z|⟨i,hi,z⟩)|z)
    ·exact .inl z
    ·exact .inr ⟨i,by omega,z⟩
    ·exact .inr ⟨t,by omega,by rw[z];exact het⟩
   ·rintro(z|⟨i,hi,z⟩)
    ·exact .inl (.inl z)
    ·rcases Qu (Nat.lt_succ_iff.mp hi) with q|q
     ·exact .inl (.inr ⟨i,q,z⟩)
     ·rw[q,←het] at z;exact .inr (zlx w0 d0 z)
  have lpn:=zg9 gk' (kk e) wy (V.bl true);have step:∀(H6:Hp)(Px:Addr)(us' zs':List V)(path':List (Int×Int))(fnd':List (List (Int×Int)))(o:Option V),zag gn H H6->H6 gn=some (nD P w gn (putN gk' (kk e) wy (V.bl true)))->KN H6 (putN gk' (kk e) wy (V.bl true))->H6 R=some (.lst zs')->zs'.length<=t+1->LR (fun H1 p r=>H p=none/\p≠R/\p≠Px/\RgP H1 p r) H6 zs' fnd'->H Px=none->Px≠R->H6 Px=some (.lst us')->LR P2H H6 us' path'->us'.length<=t+1->P2H H6 c1 e.1->P2H H6 c2 e.2->CutS f (ws.map (tdF f)) (tdF f e0) (t+1) path' fnd'->
    zlu [V.ref l,V.ref c1,V.ref c2] H6 (fun x H1=>∀p,H1 p=none->∃m',m'<ws.length+1-t/\CutJ P w H l st gn R gk f ws e0 m' [some (V.ref l),some (V.ref st),some (V.ref gn),some (V.ref R),some (V.ref Px),some (V.ref p),o] (upd H1 p (HO.tup [V.ref c2,x]))) E0:=by
   intro H6 Px us' zs' path' fnd' o sg6 hg6 kn6 hR6 lz6 hz6 hPx nPx hP6 hu6 lu6 hc16 hc26 cs6;obtain⟨kr,mm,wyr,_⟩:=Wg.of e hem;have nl:l≠gn:=fun z=>by rw[z,hgn] at hl;cases hl
   refine⟨l,c1,c2,ys,cs,es,ws,e.1,e.2,kr,mm,rfl,sg6 _ _ nl hl,hw.ts zf4 (zmj sg6 hgn),Eg,Wg,hc16,hc26,wyr,fun r d j n H7 g7 hr hd1 wd mn p hp=>?_⟩;have g8:=za2 hp (HO.tup [V.ref c2,V.ref r]);have h8:upd H7 p (HO.tup [V.ref c2,V.ref r]) p=some (HO.tup [V.ref c2,V.ref r]):=upd_same;generalize upd H7 p (HO.tup [V.ref c2,V.ref r])=H8 at*;have g68:=g7.trans g8;have bd:=wbx _ hd1;refine⟨ws.length+1-(t+1),by omega,t+1,Px,p,zs',us',path',fnd',_,(e.2,d),o,rfl,rfl,zag.trans sg6 (zag.of g68),g68 _ _ hg6,KN.ts kn6 (za8 g68),by omega,hhn,g68 _ _ hR6,lz6,hz6.imp fun p r⟨x1,x2,x3,us,x4,x5⟩=>⟨x1,x2,x3,us,g68 _ _ x4,x5.ts zb2 (za8 g68)⟩,hPx,nPx,g68 _ _ hP6,hu6.ts zb2 (za8 g68),lu6,⟨⟨c2,r,h8,g68 _ _ hc26,g8 _ _ hr⟩,bd.1,bd.2⟩,hd1,?_,cs6,fun j h1 h2=>no1 j h1 (by omega)⟩
   show tdF f (e.2,d)=suc (ws.map (tdF f)) (itr (ws.map (tdF f)) (tdF f e0) t)
   rw[←het];exact(suc_td w0 d0 Eg Wg wyr hd1 wd mn).symm
  refine⟨_,rd_2 hc14,_,rdP,(zis e.1).1,(znx _).1,pV (zis e.1).2 (by decide),?_⟩
  rw[zls];refine ite2 (fun cc=>?_) (fun cc=>?_)
  ·obtain⟨i,hi,fr⟩:=zjh path (of_decide_eq_true cc);have hil:=(kD.mp hi).1;have cf:cutV us (some (i:Int)) none=us.drop i:=zff (by omega)
   have ct:cutV us none (some (i:Int))=us.take i:=zlz (by omega)
   refine⟨zbw hP4,c1,e.1,path,i,rfl,zhm hP4 hu4,hc14,hi,fr,zbw hR4,_,rfl,us,hP4,?_⟩;rw[cf];intro q1 hq1;have g5:=za2 hq1 (HO.lst (us.drop i));have h51:upd H4 q1 (HO.lst (us.drop i)) q1=some (HO.lst (us.drop i)):=upd_same;have hR5:=g5 _ _ hR4;have hP5:=g5 _ _ hP4;have q1H:H q1=none:=by
    by_cases z:q1=gn
    ·rw[z,hg4] at hq1;cases hq1
    ·cases e:H q1 with
     |none=>rfl
     |some o=>rw[sg4 _ _ z e] at hq1;cases hq1
   have q1R:q1≠R:=fun z=>by rw[z,hR4] at hq1;cases hq1
   have q1P:q1≠Pt:=fun z=>by rw[z,hP4] at hq1;cases hq1
   generalize upd H4 q1 (HO.lst (us.drop i))=H5 at*;refine⟨zs,hR5,small10k (by omega),?_⟩
   have t6:za9 H5 (upd H5 R (HO.lst (zs++[V.ref q1]))):=zc4 hR5;have hP6:upd H5 R (HO.lst (zs++[V.ref q1])) Pt=some (.lst us):=by rw[za6 nPR'];exact hP5
   refine⟨_,rfl,us,hP6,?_⟩;rw[ct];intro q2 hq2;subst hO;have sg6:zag gn H (upd H5 R (HO.lst (zs++[V.ref q1]))):=zag.put (zag.trans sg4 (zag.of g5)) hR;have nRg:R≠gn:=fun z=>by rw[z,hg3] at hR3;cases hR3
   have hg6:upd H5 R (HO.lst (zs++[V.ref q1])) gn=some (nD P w gn (putN gk' (kk e) wy (V.bl true))):=zd1 (u:=.lst []) nRg.symm (g5 _ _ hg4);have hR6:upd H5 R (HO.lst (zs++[V.ref q1])) R=some (.lst (zs++[V.ref q1])):=upd_same;have h61:upd H5 R (HO.lst (zs++[V.ref q1])) q1=some (.lst (us.drop i)):=by rw[za6 q1R];exact h51
   have kn6:=KN.ts (KN.ts kn4 (za8 g5)) t6;have t46:za9 H4 (upd H5 R (HO.lst (zs++[V.ref q1]))):=zfc (za8 g5) t6;have hw6:=t46 _ _ hw14;have hz6:LR (fun H1 p r=>H p=none/\p≠R/\RgP H1 p r) (upd H5 R (HO.lst (zs++[V.ref q1]))) (zs++[V.ref q1]) (fnd++[path.drop i]):=(hz4.imp (R':=fun H1 p r=>H p=none/\p≠R/\RgP H1 p r) fun p r⟨x1,x2,x3,vs,x4,x5⟩=>⟨x1,x2,vs,by rw[za6 x2];exact g5 _ _ x4,x5.ts zb2 t46⟩).snoc (R:=fun H1 p r=>H p=none/\p≠R/\RgP H1 p r) ⟨q1H,q1R,us.drop i,h61,(hu4.drop i).ts zb2 t46⟩
   have hu6:=(hu4.take i).ts zb2 t46;have hc16:P2H _ c1 e.1:=t46 _ _ hc14;have hc26:P2H _ c2 e.2:=t46 _ _ hc24;generalize upd H5 R (HO.lst (zs++[V.ref q1]))=H6 at*;have s7a:=za2 hq2 (HO.lst (us.take i));have s7:=za2 hq2 (HO.lst (us.take i++[V.ref c1]));have q2H:H q2=none:=by
    by_cases z:q2=gn
    ·rw[z,hg6] at hq2;cases hq2
    ·cases e:H q2 with
     |none=>rfl
     |some o=>rw[sg6 _ _ z e] at hq2;cases hq2
   have q2R:q2≠R:=fun z=>by rw[z,hR6] at hq2;cases hq2
   refine⟨zbw (upd_same:upd H6 q2 (HO.lst (us.take i)) q2=_),_,s7a _ _ hw6,_,at0,small10k (by rw[kY];omega),_,s7 _ _ hw6,_,at1,_,s7 _ _ hw6,_,at0,_,s7 _ _ hw6,_,at1,?_⟩
   exact step _ q2 (us.take i++[V.ref c1]) (zs++[V.ref q1]) (path.take i++[e.1]) (fnd++[path.drop i]) _ (zag.trans sg6 (zag.of s7)) (s7 _ _ hg6) (KN.ts kn6 (za8 s7)) (s7 _ _ hR6) (by rw[kK,pg];omega) (hz6.imp fun p r⟨x1,x2,vs,x4,x5⟩=>⟨x1,x2,(fun z=>by rw[z,hq2] at x4;cases x4),vs,s7 _ _ x4,x5.ts zb2 (za8 s7)⟩) q2H q2R upd_same ((hu6.snoc hc16).ts zb2 (za8 s7)) (by rw[kK,kY,pg];omega) (s7 _ _ hc16) (s7 _ _ hc26) (cs3.cut w0 d0 hp1 hi fr)
  ·have np:¬e.1∈path:=fun z=>cc (decide_eq_true z);subst hO;have tpP:za9 H4 (upd H4 Pt (HO.lst (us++[V.ref c1]))):=zc4 hP4;have hwP:=tpP _ _ hw14;refine⟨zbw hP4,us,hP4,small10k (by omega),_,hwP,_,at1,_,hwP,_,at0,_,hwP,_,at1,?_⟩
   have nPg:Pt≠gn:=fun z=>by rw[z,hg3] at hP3;cases hP3
   refine step _ Pt _ zs (path++[e.1]) fnd _ (zag.put sg4 hPH) (zd1 (u:=.lst []) nPg.symm hg4) (KN.ts kn4 tpP) (by rw[za6 nPR'.symm];exact hR4) (by omega) (hz4.imp fun p r⟨x1,x2,x3,us,x4,x5⟩=>⟨x1,x2,x3,us,by rw[za6 x3];exact x4,x5.ts zb2 tpP⟩) hPH nPR' upd_same ((hu4.snoc hc14).ts zb2 tpP) (by rw[kK,pg];omega) (tpP _ _ hc14) (tpP _ _ hc24) (cs3.new w0 d0 hp1 np)
 ·have hG:hasE gk' e:=by
   unfold hasE
   cases z:(valN gk' (kk e)).isSome with
   |true=>rfl
   |false=>exact absurd (by rw[z];rfl) c
  obtain⟨i,hi,ei⟩:=((hh e).mp hG).resolve_left fun z=>free e t z het;have eb:tdF f e0=itr (ws.map (tdF f)) (tdF f e0) (t-i):=Fe.back hes (t-i) i (by rw[←ei,het,show i+(t-i)=t by omega])
  have i0:i=0:=by
   rcases Nat.eq_zero_or_pos i with z|z
   ·exact z
   ·exact absurd eb.symm (no (t-i) (by omega) (by omega))
  subst i0;have ee:e=e0:=zlx w0 d0 ei;subst ee;rcases cs3 with⟨t0,_⟩|⟨u,tu,h1,h2⟩
  ·omega
  subst tu;obtain⟨⟨c1,c2,hw1,hc1,hc2⟩,bx1,bx2⟩:=id hwy;have p0:path[0]?=some e.1:=by
   have z:=zlh (ws.map (tdF f)) (tdF f e) u;rw[←h1,pS] at z;obtain⟨x,hx,hx2⟩:=Qf.mp z;rw[hx,ze8 w0 d0 (show PF f x=PF f e.1 from hx2)]
  have lup:=hu3.1;have tf:=Fe.few hes (t:=u) fun j q1 q2=>no j q1 (by omega)
  rw[kL] at tf;refine⟨zbw hR3,zbw hP3,_,hw1,_,at0,c1,e.1,path,0,rfl,zhm hP3 hu3,hc1,p0,fun j hj=>by omega,_,rfl,us,hP3,?_⟩
  rw[show cutV us (some ((0:Nat):Int)) none=us from(zff (by omega)).trans vE]
  intro q hq;have g4:=za2 hq (HO.lst us);have hq4:upd H3 q (HO.lst us) q=some (HO.lst us):=upd_same;have hR4:=g4 _ _ hR3;have qR:q≠R:=fun z=>by rw[z,hR3] at hq;cases hq
  have qH:H q=none:=by
   by_cases z:q=gn
   ·rw[z,hg3] at hq;cases hq
   ·cases e:H q with
    |none=>rfl
    |some o=>rw[sg _ _ z e] at hq;cases hq
  have hg4:=g4 _ _ hg3;generalize upd H3 q (HO.lst us)=H4 at*;have nRg:R≠gn:=fun z=>by rw[z,hg3] at hR3;cases hR3
  have t5:za9 H4 (upd H4 R (HO.lst (zs++[V.ref q]))):=zc4 hR4;have t35:za9 H3 (upd H4 R (HO.lst (zs++[V.ref q]))):=zfc (za8 g4) t5;refine⟨zs,hR4,small10k (by omega),k R _ (fnd++[path]) u _ gk' (zag.put (zag.trans sg (zag.of g4)) hR) (zd1 (u:=.lst []) nRg.symm hg4) (KN.ts kn3 t35) hh lg tf hR upd_same (by rw[kK,pg];omega) ((hz3.imp (R':=fun H1 p r=>H p=none/\p≠R/\RgP H1 p r) fun p r⟨x1,x2,x3,vs,x4,x5⟩=>⟨x1,x2,vs,by rw[za6 x2];exact g4 _ _ x4,x5.ts zb2 t35⟩).snoc (R:=fun H1 p r=>H p=none/\p≠R/\RgP H1 p r) ⟨qH,qR,us,by rw[za6 qR];exact hq4,hu3.ts zb2 t35⟩) ?_ ?_ fun j q1 q2=>no j q1 (by omega)⟩
  ·rw[uL,ki,Qe,h1,h2]
  ·exact het.symm
theorem Run.ok{ss:List (Q3×Q3)}(F:Fen ss){i:Nat}{qs:List (List Q3)}{gl:List (Q3×Q3)}(h:Run ss i qs gl):gl.Nodup/\(∀e,e∈gl->e∈ss)/\∀e,e∈ss->suc ss e∈gl->e∈gl:=by
 induction h with
 |nil=>exact⟨vG,fun e he=>(by cases he),fun e _ he=>(by cases he)⟩
 |skip r e1 m ih=>exact ih
 |@go i qs gl e t r e1 m c n ih=>
  obtain⟨nd,sub,bk⟩:=ih;have he:=ko e1;have down:∀i,itr ss e i∈gl->e∈gl:=fun i=>by
   induction i with
   |zero=>exact id
   |succ i ih=>exact fun z=>ih (bk _ (F.itr he i) z)
  refine⟨US.mpr ⟨nd,F.orb he n,fun a ha b hb z=>?_⟩,fun g hg'=>?_,fun g hgs hg'=>?_⟩
  ·obtain⟨i,_,rfl⟩:=km.mp hb;rw[z] at ha;exact m (down i ha)
  ·rcases kW.mp hg' with z|z
   ·exact sub g z
   ·obtain⟨i,_,rfl⟩:=km.mp z;exact F.itr he i
  ·rcases kW.mp hg' with z|z
   ·exact uP _ (bk g hgs z)
   ·refine kh _ ?_;obtain⟨i,hi,z⟩:=km.mp z;have hi:=pO.mp hi
    cases i with
    |zero=>
     have z:e=suc ss g:=z;rw[F.inj g (itr ss e t) hgs (F.itr he t) (by rw[←z,c])]
     exact km.mpr ⟨t,pO.mpr (by omega),rfl⟩
    |succ i=>
     rw[F.inj g (itr ss e i) hgs (F.itr he i) z.symm];exact km.mpr ⟨i,pO.mpr (by omega),rfl⟩
theorem Run.free{ss:List (Q3×Q3)}(F:Fen ss){i:Nat}{qs:List (List Q3)}{gl:List (Q3×Q3)}(h:Run ss i qs gl){e:Q3×Q3}(he:e∈ss)(m:¬e∈gl):∀n,¬itr ss e n∈gl
 |0=>m
 |n+1=>fun z=>Run.free F h he m n ((h.ok F).2.2 _ (F.itr he n) z)
theorem zo1{ss:List (Q3×Q3)}(F:Fen ss){e:Q3×Q3}(he:e∈ss):∀t,(∀j,0<j->j<=t->itr ss e j≠e)->Way ss e t (wyF ss e t).1 (wyF ss e t).2
 |0,_=>Way.start
 |t+1,no=>by
  have ih:=zo1 F he t fun j h1 h2=>no j h1 (by omega)
  have hn:suc ss (itr ss e t)≠e:=no (t+1) (by omega) (kJ _)
  by_cases c:(itr ss e t).2∈(wyF ss e t).1
  ·obtain⟨i,hi,ei⟩:=pN.mp c;have z:=ih.cut F he hi (by rw[ze6 hi];exact ei) hn
   have fn:=z.fn;rw[fn];exact z
  ·have z:=ih.push hn c;have fn:=z.fn;rw[fn];exact z
theorem Run.rg{ss:List (Q3×Q3)}(F:Fen ss){i:Nat}{qs:List (List Q3)}{gl:List (Q3×Q3)}(h:Run ss i qs gl):(∀q,q∈qs->q.Nodup/\2<=q.length)/\(qs.flatMap sds).Perm gl:=by
 induction h with
 |nil=>exact⟨fun q hq=>(by cases hq),.refl _⟩
 |skip r e1 m ih=>exact ih
 |@go i qs gl e t r e1 m c n ih=>
  have he:=ko e1;obtain⟨d1,d2⟩:=(zo1 F he t n).done F he c;refine⟨fun q hq=>(kW.mp hq).elim (ih.1 q) (d1 q),?_⟩;rw[jK];exact ih.2.append d2
theorem Run.pt{ss:List (Q3×Q3)}(F:Fen ss){i:Nat}{qs:List (List Q3)}{gl:List (Q3×Q3)}(h:Run ss i qs gl){q:List Q3}(hq:q∈qs):q.length<=ss.length/\∀x,x∈q->∃e,e∈ss/\x=e.1:=by
 obtain⟨h1,h2⟩:=h.rg F;obtain⟨k1,k2,_⟩:=h.ok F;have l2:=(h1 q hq).2;refine⟨?_,fun x hx=>?_⟩
 ·have:=zi1 hq;rw[h2.length_eq] at this;have:=zd8 _ _ k1 k2;omega
 ·obtain⟨j,hj,rfl⟩:=pN.mp hx;have:=h2.mem_iff.mp (zeh (f:=sds) hq (zik (r:=q) (by omega) j))
  exact⟨_,k2 _ this,by rw[←ze6 hj]⟩
def IsDue(d r:List (Int×Int)):Prop:=∃j,j<r.length/\d=rot r j/\∀x,x∈r->lt2 x (r.getD j (0,0))=false
theorem zpx{α β:Type}(g:α->β)(r:List α)(i:Nat):(rot r i).map g=rot (r.map g) i:=by
 unfold rot;rw[uL,EF,CP]
theorem zoq{w:Int}(hw:0<w){d r:List (Int×Int)}(h:IsDue d r):zdn (d.map (ptP w)) (r.map (ptP w)):=by
 obtain⟨j,hj,rfl,l⟩:=h;have hj':j<(r.map (ptP w)).length:=by rw[kL];exact hj
 refine⟨j,hj',zpx _ _ _,fun x hx=>?_⟩;obtain⟨y,hy,rfl⟩:=km.mp hx;rw[zpx];have e0:nx (rot (r.map (ptP w)) j) 0=nx (r.map (ptP w)) j:=zhf hj' 0;rw[e0,ze6 hj',List.getElem_map];have z:=l y hy;rw[kR,kI hj] at z;refine jr.mpr fun q=>?_;rw[bq_pt hw] at q;rw[show(some r[j]).getD (0,0)=r[j] from rfl,q] at z
 cases z
theorem znz{α β:Type}{g:α->β}{l:List α}(h:(l.map g).Nodup):l.Nodup:=by
 rw[pM] at h⊢;rw[uc] at h;exact h.imp fun n e=>n (by rw[e])
def RgPN(R:Addr)(H:Hp)(p:Addr)(r:List (Int×Int)):Prop:=p≠R/\RgP H p r
def LrgI(P:kq)(w:pX)(H:Hp)(l M gn R:Addr)(f:Fr)(ws:List E2)(i:Nat)(σ:St)(H':Hp):Prop:=∃(zs:List V)(gk:List N3)(rs:List (List (Int×Int)))(qs:List (List Q3))(gl:List (Q3×Q3))(o:Option V),σ=[some (V.ref l),some (V.ref M),some (V.ref gn),some (V.ref R),o,none,none,none,none]/\Same H H'/\H' gn=some (nD P w gn gk)/\KN H' gk/\gk.length<=gl.length/\(∀x,hasE gk x↔tdF f x∈gl)/\H' R=some (.lst zs)/\zs.length<=2*gl.length/\LR (RgPN R) H' zs rs/\rs.map (Uj (PF f))=qs/\Run (ws.map (tdF f)) i qs gl
def LtnI(H4:Hp)(l M gn R U:Addr)(f:Fr)(rs:List (List (Int×Int)))(i:Nat)(σ:St)(H':Hp):Prop:=∃(us:List V)(ds:List (List (Int×Int)))(o4 o6 o7 o8:Option V),σ=[some (V.ref l),some (V.ref M),some (V.ref gn),some (V.ref R),o4,some (V.ref U),o6,o7,o8]/\Same H4 H'/\H' U=some (.lst us)/\LR (RgPN U) H' us ds/\ds.length=i/\∀(j:Nat) d r,ds[j]?=some d->rs[j]?=some r->IsDue d (r.map (mv f))
def sp_lrg(P:kq)(w:pX):Sp:=fun vs H Q _=>∃(l M:Addr)(ys:List V)(cs:List C3)(es ws:List E2)(f:Fr),vs=[.ref l,.ref M]/\H l=some (.lst ys)/\LR WyH H ys ws/\ys.length<=144/\Edg cs es/\Wys es ws/\FmH H M f/\∀D zs ds H',H D=none->Same H H'->H' D=some (.lst zs)->LR RgP H' zs ds->(∃(qs:List (List Q3))(gl:List (Q3×Q3))(rs ds0:List (List (Int×Int))),Run (ws.map (tdF f)) ws.length qs gl/\rs.map (Uj (PF f))=qs/\ds0.length=rs.length/\(∀(j:Nat) d r,ds0[j]?=some d->rs[j]?=some r->IsDue d (r.map (mv f)))/\ds.Perm ds0/\ds.Pairwise fun a b=>ltL a b=true)->Q (.ref D) H'
theorem zjm(T:Txt K mg ad fd):FnOk P w K mg base CX0 4 (ad 28) (fd 28) ["_law_ways","_law_frame_here"] (sp_lrg P w):=by
 refine T.law_rings.fn.ok zb8 (fun vs H Q E h=>?_) (fun cdv A outer s H vs Q E hr h=>?_)
 ·obtain⟨l,M,ys,cs,es,ws,f,rfl,_⟩:=h;rfl
 obtain⟨l,M,ys,cs,es,ws,f,rfl,hl,hw,ny,Eg,Wg,hM,k⟩:=h;have yk:=@pss6;have zd:=@zbn;have ya:=@zkc;have zn:=@zd9;have zy:=@zci;have zr:=@zdj;have zq:=@zc3;have qpv:=@pv;have zk:=@zby;have zj:=@zaf;have zo:=@zen;have zP:=@zhn;have zT:=@zfa;have zA:=@zdk;have zx:=@zgr;have zg:=@pa1;have zh:=@zbb;have zu:=@pa3;have zp:=@zbx;have zB:=@pss3;have zU:=@zjv;unfold L2.CompBody at zU;have zH:=@zez;have zf:=@pa2;have zC:=@zd3;have zb:=@zds;have zM:=@zfh;have zN:=@zgh;have zO:=@zgk;have ze:=@zav;generalize @L2.PE=QE,@L2.PT=QT,@L2.PW=QW,@L2.PA=QA,@L2.PS=QS,@L2.PSs=QSs,@L2.PG=QG,@L2.PGs=QGs,@L2.PI=QI,@L2.PO=QO,@L2.PIf=QIf,@L2.PC=QC,@L2.PK=QK at yk zd ya zn zy zr zq qpv zk zj zo zP zT zA zx zg zh zu zp zB zU zH zf zC zb zM zN zO ze⊢;refine⟨_,
  (yk
   (zd (i:=2) zb8.nd rfl (pB rfl) (ya (P:=P) (w:=w) rfl rfl))
   (zd (i:=3) zb8.nd rfl (pB rfl) (zn zy))
   (zr pz rfl (zq (qpv 0)) (zk (i:=4) zb8.nd rfl (pB rfl)) (zj (zo (zP (zT (P:=P) (w:=w) rfl rfl (hu64 hr) (qpv 4) (qpv 2))) (zj (zA (zx pD jN jO zgj (qpv 3) (zg (zh (zm7 T) (hr.mono (by decide)) rfl T.law_cut.mg T.law_cut.fn.kp T.law_cut.bn .nil pass0 (zu (qpv 0) za1 (qpv 4) za1 (qpv 2) za1)) zbq)))) zp)))
   (zd (i:=5) zb8.nd rfl (pB rfl) (zn zy))
   (zr pz rfl (zq (qpv 3)) (zk (i:=6) zb8.nd rfl (pB rfl)) (zB
   (zU (i:=7) zb8.nd rfl (pB rfl) (dsc:=za0 zb4) (N:=["_law_ways","_law_frame_here","_law_gone","_law_found","_law_way_here","_law_turned","_law_ring","_law_moved_here","_law_at"]) (own:=["_law_place"]) (ix:=[1]) rfl rfl rfl ⟨rfl,by decide+kernel,by decide+kernel,by decide+kernel,by decide+kernel⟩ (zq (qpv 6)) (fun cl C fp s2 H2 xe=>⟨(zk (i:=0) (show UG (["_law_place","_law_frame_here"]:List Str) from by decide+kernel) rfl (pB rfl)),zH,(zh (zcp T) (hr.mono (by decide)) rfl T.law_moved.mg T.law_moved.fn.kp T.law_moved.bn .nil pass0 (zf (qpv 0) za1 (qpv 1) za1))⟩))
   (zd (i:=8) zb8.nd rfl (pB rfl) (zx pD vO vP (zg4 (hu100 hr)) (qpv 7) (zg (zC (znl rfl (hu100 hr)) rfl T.b_min bt_min (zg (qpv 7) za1)) zbq)))
   (zA (zx pD uF uG zb7 (qpv 5) (zg (zb op_cat (zM zc9 (qpv 7) (zN (qpv 8)) zO) (zM zc9 (qpv 7) zO (zN (qpv 8)))) zaa)))))
   (ze (zC (zmh (hu100 hr)) rfl T.b_sorted zfe (zg (qpv 5) za1))))
  ,?_⟩
 clear yk zd ya zn zy zr zq qpv zk zj zo zP zT zA zx zg zh zu zp zB zU zH zf zC zb zM zN zO ze QE QT QW QA QS QSs QG QGs QI QO QIf QC QK
 dsimp! [L2.start]
 simp! [tNNew];obtain⟨xf,hxf,f0,f1,f2,f3,f4,f5,f6,fb⟩:=id hM;have w0:0<f.w:=by have:=fb.2.2.2.2.2.2.1;omega
 have d0:0<fd2 f:=by have:=fb.2.2.2.2.2.2.2.2;unfold fd2;omega
 have Fe:=zoz w0 d0 Eg Wg;have lws:=hw.1;intro gn hgn;have gG:=za2 hgn (nD P w gn []);have hg1:upd H gn (nD P w gn []) gn=some (nD P w gn []):=upd_same;generalize upd H gn (nD P w gn [])=H1 at*;intro R hR;have gR:=za2 hR (HO.lst []);have hR2:upd H1 R (HO.lst []) R=some (.lst []):=upd_same;have hRH:H R=none:=gG.free hR;have hg2:=gR _ _ hg1;have g2:=gG.trans gR;generalize upd H1 R (HO.lst [])=H2 at*;refine zbs ?_;simp! [zcu];refine⟨⟨_,.of (g2 _ _ hl)⟩,?_⟩;refine zb0 (K:=K) (a:=l) (xs:=ys) (LrgI P w H l M gn R f ws) ⟨[],[],[],[],[],none,rfl,g2,hg2,fun p hp=>(by cases hp),kJ _,fun x=>⟨fun z=>(by cases z),fun z=>(by cases z)⟩,hR2,kJ _,.nil,rfl,.nil⟩ (fun i σ H' _ iv=>.of (by obtain⟨_,_,_,_,_,_,_,g,_⟩:=iv;exact g _ _ hl)) ?_ ?_
 ·intro _ _;rintro i v σ H3 hi ⟨zs,gk,rs,qs,gl,o,rfl,g3,hg3,kn3,lg,hh,hR3,lz,hz3,eq,run⟩;obtain⟨p,e,rfl,he',hp⟩:=hw.2 i v hi;have hi':=(kD.mp hi).1;have hp3:=zf4 _ _ _ _ (za8 g3) hp;have hem:=ko he';have hes:tdF f e∈ws.map (tdF f):=km.mpr ⟨e,hem,rfl⟩;have het:(ws.map (tdF f))[i]?=some (tdF f e):=by rw[pS,he'];rfl
  have ok:=run.ok Fe;have lgl:gl.length<=ws.length:=by
   have:=zd8 _ _ ok.1 ok.2.1;rw[kL] at this;exact this
  simp! [zgf];refine⟨gk,.inl hg3,kn3,kk e,hp3.nk,ite2 (fun c=>?_) (fun c=>?_)⟩
  ·have nG:¬hasE gk e:=fun z=>by unfold hasE at z;rw[z] at c;cases c
   have nl:¬tdF f e∈gl:=fun z=>nG ((hh e).mpr z);refine⟨zbw hR3,l,p,gn,ys,cs,es,ws,f,gk,e,rfl,g3 _ _ hl,hw.ts zf4 (za8 g3),ny,Eg,Wg,w0,d0,hp3,hem,hg3,kn3,by omega,fun x n hx z=>run.free Fe hes nl n (by rw[←z];exact(hh x).mp hx),fun R' us rs' t H4 gk' sg hg4 kn4 hh4 lg4 tl hR' hR4 lu hu4 er cl no=>?_⟩
   have nRg:R≠gn:=fun z=>by rw[z,hg3] at hR3;cases hR3
   have hRR:H4 R=some (.lst zs):=sg _ _ nRg hR3;have gS:Same H H4:=fun b o q=>sg _ _ (fun z=>by rw[z,hgn] at q;cases q) (g3 _ _ q)
   have tsg:=zmj sg hg3;have hz4:LR (RgPN R) H4 zs rs:=hz3.imp fun p r⟨x1,vs,x2,x3⟩=>⟨x1,vs,sg _ _ (fun z=>by rw[z,hg3] at x2;cases x2) x2,x3.ts zb2 tsg⟩
   have hu5:LR (RgPN R) H4 us rs':=hu4.imp fun p r⟨x1,x2,x3⟩=>⟨fun z=>(by rw[z,hR3] at x1;cases x1),x3⟩
   simp! [zif,hR4];refine⟨zs,hRR,uv (small1000 (by omega)),?_⟩
   have t5:za9 H4 (upd H4 R (HO.lst (zs++us))):=zc4 hRR;refine⟨zs++us,gk',rs++rs',qs++((wyF (ws.map (tdF f)) (tdF f e) t).2++[(wyF (ws.map (tdF f)) (tdF f e) t).1]),gl++(uB (t+1)).map (itr (ws.map (tdF f)) (tdF f e)),_,rfl,zbh gS hRH,zd1 (u:=.lst []) nRg.symm hg4,KN.ts kn4 t5,by rw[kK,kL,uO];omega,fun x=>?_,upd_same,by rw[kK,kK,kL,uO];omega,(hz4.app hu5).imp fun p r⟨x1,vs,x2,x3⟩=>⟨x1,vs,by rw[za6 x1];exact x2,x3.ts zb2 t5⟩,by rw[uL,eq,er],.go run het nl cl no⟩
   rw[hh4,hh,kW,km];exact or_congr De ⟨fun⟨n,h1,h2⟩=>⟨n,pO.mpr h1,h2.symm⟩,fun⟨n,h1,h2⟩=>⟨n,pO.mp h1,h2.symm⟩⟩
  ·have hG:tdF f e∈gl:=(hh e).mp (by
    unfold hasE
    cases z:(valN gk (kk e)).isSome with
    |true=>rfl
    |false=>exact absurd (by rw[z];rfl) c)
   exact⟨zs,gk,rs,qs,gl,_,rfl,g3,hg3,kn3,lg,hh,hR3,lz,hz3,eq,.skip run het hG⟩
 ·rintro σ H3 ⟨zs,gk,rs,qs,gl,o,rfl,g3,hg3,kn3,lg,hh,hR3,lz,hz3,eq,run⟩;simp! [];have wbx:∀e,e∈ws->Bx e.1/\Bx e.2:=fun e hm=>by
   obtain⟨j,hj⟩:=pW.mp hm;obtain⟨p,x,_,e2,e3⟩:=hw.at (j:=j) (by rw[lws];exact(kD.mp hj).1)
   rw[hj] at e2
   cases e2;exact e3.2
  have rg:=run.rg Fe;have ok:=run.ok Fe;have three:∀q,q∈qs->3<=q.length:=fun q hq=>Fe.three (rg.1 q hq).2 fun e he=>ok.2.1 e (rg.2.mem_iff.mp (zeh hq he));have l3:=zf9 three;have lgl:=zd8 _ _ ok.1 ok.2.1;rw[rg.2.length_eq] at l3;rw[kL] at lgl;have lrq:rs.length=qs.length:=by rw[←eq,kL]
  have lzr:=hz3.1;intro U hU;have gU:=za2 hU (HO.lst []);have hU4:upd H3 U (HO.lst []) U=some (.lst []):=upd_same;have hUH:H U=none:=g3.free hU;have hR4:=gU _ _ hR3;have g4:=g3.trans gU;have hz4:LR RgP (upd H3 U (HO.lst [])) zs rs:=hz3.imp fun p r⟨_,vs,x2,x3⟩=>⟨vs,gU _ _ x2,x3.ts zb2 (za8 gU)⟩;generalize upd H3 U (HO.lst [])=H4 at*;refine zbs ?_;simp! [zcu];refine⟨⟨_,.of hR4⟩,?_⟩;refine zb0 (K:=K) (a:=R) (xs:=zs) (LtnI H3 l M gn R U f rs) ⟨[],[],_,none,none,none,rfl,gU,hU4,.nil,rfl,fun j d r z=>(by cases z)⟩ (fun i σ H' _ iv=>.of (by obtain⟨_,_,_,_,_,_,_,g,_⟩:=iv;exact g _ _ hR3)) ?_ ?_
  ·intro _ _;rintro i v σ H5 hi ⟨us,ds,o4,o6,o7,o8,rfl,g5,hU5,hu,ld,due⟩;obtain⟨p,r,rfl,hr',_,vs,hp,hv⟩:=hz3.2 i v hi;have hi':=(kD.mp hi).1;have hqm:r.map (PF f)∈qs:=by rw[←eq];exact km.mpr ⟨r,ko hr',rfl⟩
   obtain⟨lq,pts⟩:=run.pt Fe hqm;have q3:=three _ hqm;have qnd:=(rg.1 _ hqm).1;rw[kL] at lq q3;rw[kL] at lq;have rnd:r.Nodup:=by
    rw[pM,uc] at qnd;rw[pM];exact qnd.imp fun n z=>n (by rw[z])
   have rbx:∀a,a∈r->Bx a:=fun a ha=>by
    obtain⟨e',h1,h2⟩:=pts (PF f a) (km.mpr ⟨a,ha,rfl⟩);obtain⟨e,he,rfl⟩:=km.mp h1;rw[ze8 w0 d0 (show PF f a=PF f e.1 from h2)];exact(wbx e he).1
   have hp5:=g5 _ _ hp;have lv:=hv.1;simp! [];refine zcn ?_;simp! [zcu];refine⟨⟨_,.of hp5⟩,fun C hC=>?_⟩;refine zce (xs:=vs) (zh0 (fun H p a=>P2H H p (mv f a)) r H5 C) (zdd hC) (fun n qs H' z=>.of (z.1 _ _ hp5)) ?_ ?_
   ·rintro n qs' H6 v hn hvv iv;obtain⟨g6,hC6,lq6,hq6⟩:=id iv;obtain⟨b,y,rfl,hy',hb⟩:=hv.2 n v hvv;simp! [];refine⟨b,M,y,f,rfl,g6 _ _ (g5 _ _ hb),hM.same ((g3.trans g5).trans g6),rbx y (ko hy'),fun m H7 g7 hm=>?_⟩;exact zda (R:=fun H p a=>P2H H p (mv f a)) (a:=y) (fun _ _ _ _=>zb2 _ _ _ _) hC (by omega) iv hn hy' g7 hm
   ·rintro qs' H6 ⟨g6,hC6,lq6,hq6⟩;rw[kX (by omega)] at hq6
    have hq6:=hq6.map (f:=mv f) (R:=P2H);have mnd:(r.map (mv f)).Nodup:=by
     rw[pM,uc];exact(pM.mp rnd).imp fun n z=>n (zkv d0 z)
    have ls6:=zhm hC6 hq6;have hU6:=g6 _ _ hU5;have lq6':qs'.length=r.length:=by omega
    refine⟨zbw hC6,V.ref C,_,rfl,ls6,by rw[kL];omega,fun b j mm hj hb hmin=>?_⟩
    have hjl:j<r.length:=by have:=(kD.mp hj).1;rw[kL] at this;exact this
    refine⟨b,mm,_,j,rfl,ls6,hb,hj,fun m hm hk=>?_,?_⟩
    ·have:=(Af (by rw[kL];omega) mnd).mp (hk.trans hj.symm)
     omega
    have e1:cutV qs' (some (j:Int)) none=qs'.drop j:=zff (by omega)
    have e2:cutV qs' none (some (j:Int))=qs'.take j:=zlz (by omega)
    refine⟨zbw hU6,_,rfl,C,rfl,qs',hC6,?_⟩;rw[e1];intro q1 hq1;have g7:=za2 hq1 (HO.lst (qs'.drop j));have h71:upd H6 q1 (HO.lst (qs'.drop j)) q1=some (HO.lst (qs'.drop j)):=upd_same;have hC7:=g7 _ _ hC6;generalize upd H6 q1 (HO.lst (qs'.drop j))=H7 at*;refine⟨_,rfl,C,rfl,qs',hC7,?_⟩;rw[e2];intro q2 hq2;have g8:=za2 hq2 (HO.lst (qs'.take j));have h82:upd H7 q2 (HO.lst (qs'.take j)) q2=some (HO.lst (qs'.take j)):=upd_same;have h81:=g8 _ _ h71;generalize upd H7 q2 (HO.lst (qs'.take j))=H8 at*;refine⟨q1,q2,_,_,rfl,rfl,h81,h82,uv (small1000 (by rw[kj,kY];omega)),fun q3 hq3=>?_⟩
    have g9:=za2 hq3 (HO.lst (qs'.drop j++qs'.take j));have h93:upd H8 q3 (HO.lst (qs'.drop j++qs'.take j)) q3=some (HO.lst (qs'.drop j++qs'.take j)):=upd_same;have g69:=g7.trans (g8.trans g9);have hU8:=g8 _ _ (g7 _ _ hU6);generalize upd H8 q3 (HO.lst (qs'.drop j++qs'.take j))=H9 at*;have hU9:=g69 _ _ hU6;have n3U:q3≠U:=fun z=>by rw[z,hU8] at hq3;cases hq3
    have lud:=hu.1;have t9:za9 H9 (upd H9 U (HO.lst (us++[V.ref q3]))):=zc4 hU9;have g59:=g6.trans g69;refine⟨us,hU9,small1000 (by omega),us++[V.ref q3],ds++[rot (r.map (mv f)) j],_,_,_,_,rfl,zbh (g5.trans g59) hU,upd_same,((hu.imp (R':=RgPN U) fun p r⟨x1,vs,x2,x3⟩=>⟨x1,vs,g59 _ _ x2,x3.ts zb2 (za8 g59)⟩).snoc (R:=RgPN U) ⟨n3U,_,h93,((hq6.drop j).app (hq6.take j)).ts zb2 (za8 g69)⟩).imp fun p r⟨x1,vs,x2,x3⟩=>⟨x1,vs,by rw[za6 x1];exact x2,x3.ts zb2 t9⟩,by rw[kK,ld];rfl,fun j' d r' h1 h2=>?_⟩
    by_cases c:j'<ds.length
    ·rw[po c] at h1;exact due j' d r' h1 h2
    ·have ej:j'=i:=by
      have:=(kD.mp h1).1;rw[kK,pg] at this;omega
     subst ej;rw[pd (by omega),show j'-ds.length=0 by omega] at h1
     cases h1;rw[hr'] at h2
     cases h2;refine⟨j,by rw[kL];exact hjl,rfl,fun x hx=>?_⟩
     rw[kR,hj];exact hmin x hx
  ·rintro σ H5 ⟨us,ds,o4,o6,o7,o8,rfl,g5,hU5,hu,ld,due⟩;simp! [];have lud:=hu.1;have lds:ds.length=qs.length:=by omega
   have can:∀(j:Nat) c q,(ds.map (Uj (ptP f.w)))[j]?=some c->qs[j]?=some q->zdn c q:=fun j c q h1 h2=>by
    rw[pS] at h1;obtain⟨d,hd',rfl⟩:=Qf.mp h1;rw[←eq,pS] at h2;obtain⟨r,hr',rfl⟩:=Qf.mp h2;have:=zoq w0 (due j d r hd' hr');rw[Ud] at this;exact this
   have cpm:=(zga (by rw[kL];exact lds) can).trans rg.2
   have cnd:(ds.map (Uj (ptP f.w))).Nodup:=zha (fun c hc=>by
    obtain⟨j,hj⟩:=pW.mp hc;have hj':j<qs.length:=by have:=(kD.mp hj).1;rw[kL] at this;omega
    rw[(can j c _ hj (kI hj')).len];exact(rg.1 _ (QP _)).2) (cpm.nodup_iff.mpr ok.1)
   have dnd:ds.Nodup:=znz cnd;refine⟨U,us,fun i=>ds.getD i [],rfl,hU5,by omega,fun i hi=>?_,fun D pp hD or ep=>?_⟩
   ·obtain⟨p,d,e1,e2,_,vs,h1,h2⟩:=hu.at hi;show LsI H5 (us.getD i .non) (ds.getD i []);rw[kR,e1,kR,e2];exact zhm h1 h2
   ·rw[lud] at or ep;obtain⟨dpm,dpw⟩:=zjb stoL id [] (by rw[List.map_id];exact dnd) or ep
    have hu2:=zli [] hu or;have g6:=za2 hD (HO.lst (pp.toList.map fun i=>us.getD i .non));refine k D _ _ _ ((g3.trans g5).free hD) ((g3.trans g5).trans g6) upd_same (hu2.imp fun p r⟨_,vs,x2,x3⟩=>⟨vs,g6 _ _ x2,x3.ts zb2 (za8 g6)⟩) ⟨qs,gl,rs,ds,by rw[←lws];exact run,eq,by omega,due,dpm,dpw⟩
theorem zl0{es es':List E2}(h:es.Perm es')(p:Int×Int):(lvP es p).Perm (lvP es' p):=(h.filter _).map _
theorem zi8{es es':List E2}(h:es.Perm es')(a b:Int×Int):str es a b=str es' a b:=by
 unfold str;refine decide_eq_decide.mpr ⟨fun z=>?_,fun z=>?_⟩
 ·have:=zl0 h b;rw[z] at this;exact List.singleton_perm.mp this|>.symm▸rfl
 ·have:=zl0 h b;rw[z] at this;exact List.perm_singleton.mp this
theorem Wy.perm{es es':List E2}(h:es.Perm es'){a c:Int×Int}{k:Fin 8}{m:Nat}(w:Wy es a c k m):Wy es' a c k m:=⟨w.fin,fun j hj=>h.mem_iff.mp (w.mem j hj),fun j hj=>by rw[←zi8 h];exact w.str j hj,by rw[←zi8 h];exact w.stop⟩
theorem Bgn.perm{es es':List E2}(h:es.Perm es'){a:Int×Int}{k:Fin 8}(b:Bgn es a k):Bgn es' a k:=fun⟨z1,z2⟩=>b ⟨h.mem_iff.mpr z1,by rw[zi8 h];exact z2⟩
theorem znc{es es' ws ws':List E2}(h:es.Perm es')(W:Wys es ws)(W':Wys es' ws'){x:E2}(hx:x∈ws):x∈ws':=by
 obtain⟨k,m,w,b⟩:=W.of x hx
 obtain⟨c,m',hc,w'⟩:=W'.all x.1 k (h.mem_iff.mp w.first) (b.perm h)
 have e:x=(x.1,c):=ue rfl ((w.perm h).one w');rw[e];exact hc
theorem wys_same{es es' ws ws':List E2}(h:es.Perm es')(W:Wys es ws)(W':Wys es' ws'):ws.Perm ws':=zew W.nd W'.nd fun x=>⟨znc h W W',znc h.symm W' W⟩
theorem zlm{α:Type}{l:List α}{p:List Nat}(z:α)(h:p.Perm (uB l.length)):(p.map fun i=>l.getD i z).Perm l:=by
 have rg:((uB l.length).map fun i=>l.getD i z)=l:=by
  refine Ap (by simp) fun i h1 h2=>?_
  have hi:i<l.length:=h2
  simp[hi]
 have:=h.map fun i=>l.getD i z;rw[rg] at this;exact this
def mvE(f:Fr)(e:E2):E2:=(mv f e.1,mv f e.2)
theorem zic{f:Fr}(hd:0<fd2 f){e e':E2}(h:mvE f e=mvE f e'):e=e':=by
 unfold mvE at h
 injection h with h1 h2
 exact ue (zkv hd h1) (zkv hd h2)
def MwH(f:Fr)(H:Hp)(p:Addr)(e:E2):Prop:=(∃c d,H p=some (.tup [.ref c,.ref d])/\P2H H c (mv f e.1)/\P2H H d (mv f e.2))/\Bx e.1/\Bx e.2
theorem mw_ts{f:Fr}:∀(H H':Hp)(p:Addr)(e:E2),za9 H H'->MwH f H p e->MwH f H' p e:=fun _ _ _ _ g⟨⟨c,d,h1,h2,h3⟩,b⟩=>⟨⟨c,d,g _ _ h1,g _ _ h2,g _ _ h3⟩,b⟩
def sp_land:Sp:=fun vs H Q _=>∃(l m:Addr)(zs:List V)(cs:List (Int×Int×Int))(f:Fr),vs=[.ref l,.ref m]/\H l=some (.lst zs)/\zs.length<=48/\LR C3H H zs cs/\FmH H m f/\∀D ys ws es H',H D=none->Same H H'->H' D=some (.lst ys)->ys.length<=144->LR (MwH f) H' ys ws->es.Nodup->Edg cs es->Wys es ws->(ws.Pairwise fun a b=>lt22 (mvE f a) (mvE f b)=true)->Q (.ref D) H'
theorem zkr(T:Txt K mg ad fd):FnOk P w K mg base CX0 3 (ad 23) (fd 23) ["_law_cells_here","_law_frame_here"] sp_land:=by
 refine T.law_land.fn.ok zgn (fun vs H Q E h=>?_) (fun cdv A outer s H vs Q E hr h=>?_)
 ·obtain⟨l,m,zs,cs,f,rfl,_⟩:=h;rfl
 obtain⟨l,m,zs,cs,f,rfl,hl,hn,hz,hf,k⟩:=h;have zF:=@pss2;have zU:=@zjv;unfold L2.CompBody at zU;have zq:=@zc3;have zh:=@zbb;have zg:=@pa1;have qpv:=@pv;have zI:=@zev;have zD:=@zdv;have zk:=@zby;have zJ:=@zes;have zH:=@zez;have zm:=@zdc;have zf:=@pa2;have ze:=@zav;have zC:=@zd3;generalize @L2.PE=QE,@L2.PT=QT,@L2.PW=QW,@L2.PA=QA,@L2.PS=QS,@L2.PSs=QSs,@L2.PG=QG,@L2.PGs=QGs,@L2.PI=QI,@L2.PO=QO,@L2.PIf=QIf at zF zU zq zh zg qpv zI zD zk zJ zH zm zf ze zC⊢;refine⟨_,
  (zF
   (zU (i:=2) zgn.nd rfl (pB rfl) (dsc:=za0 zbk) (N:=["_law_cells_here","_law_frame_here","_law_ways"]) (own:=["_law_first","_law_last"]) (ix:=[1]) rfl rfl rfl ⟨rfl,by decide+kernel,by decide+kernel,by decide+kernel,by decide+kernel⟩ (zq (zh (zgc T) (hr.mono (by decide)) rfl T.law_long.mg T.law_long.fn.kp T.law_long.bn .nil pass0 (zg (zh (zfw T) (hr.mono (by decide)) rfl T.law_edges.mg T.law_edges.fn.kp T.law_edges.bn .nil pass0 (zg (qpv 0) za1)) zbq))) (fun cl C fp s2 H2 xe=>⟨(zI (n:=2) rfl (zD (zk (i:=0) (show UG (["_law_first","_law_last","_law_frame_here"]:List Str) from by decide+kernel) rfl (pB rfl) (jz rfl)) (zD (zk (i:=1) (show UG (["_law_first","_law_last","_law_frame_here"]:List Str) from by decide+kernel) rfl (pB rfl) (jz rfl)) zJ))),zH,(zm (zf (zh (zcp T) (hr.mono (by decide)) rfl T.law_moved.mg T.law_moved.fn.kp T.law_moved.bn .nil pass0 (zf (qpv 0) za1 (qpv 2) za1)) zbq (zh (zcp T) (hr.mono (by decide)) rfl T.law_moved.mg T.law_moved.fn.kp T.law_moved.bn .nil pass0 (zf (qpv 1) za1 (qpv 2) za1)) zbq))⟩))
   (ze (zC (ziu (hu100 hr)) rfl T.b_sorted zfe (zg (qpv 2) za1))))
  ,?_⟩
 clear zF zU zq zh zg qpv zI zD zk zJ zH zm zf ze zC QE QT QW QA QS QSs QG QGs QI QO QIf
 dsimp! [L2.start]
 simp! [];refine zcn ?_;simp! [zcu];refine⟨l,zs,cs,rfl,hl,hn,hz,fun D1 ys es H1 hD1 g1 h1 n1 he nd Eg=>?_⟩;refine⟨D1,ys,es,rfl,h1,n1,he,nd,⟨cs,Eg⟩,fun D2 zs2 ws H2 hD2 g2 h2 n2 hw W=>?_⟩;have g02:=g1.trans g2;refine⟨D2,rfl,⟨_,.of h2⟩,fun D3 hD3=>?_⟩;refine zce (xs:=zs2) (zh0 (MwH f) ws H2 D3) (zdd hD3) (fun i qs H' q=>.of (q.1 _ _ h2)) ?_ ?_
 ·rintro i qs H3 v hi hv iv;obtain⟨g3,hD33,lq,hq⟩:=id iv;obtain⟨p,e,rfl,he',⟨c,d,e1,e2,e3⟩,b1,b2⟩:=hw.2 i v hv;have e1':=g3 _ _ e1;simp! [e1'];refine⟨c,m,e.1,f,rfl,g3 _ _ e2,hf.same (g02.trans g3),b1,fun pa H4 g4 ha=>?_⟩;refine⟨d,m,e.2,f,rfl,g4 _ _ (g3 _ _ e3),hf.same ((g02.trans g3).trans g4),b2,fun pb H5 g5 hb=>?_⟩;intro t ht;have g6:=za2 ht (HO.tup [V.ref pa,V.ref pb]);have h6:upd H5 t (HO.tup [V.ref pa,V.ref pb]) t=some (HO.tup [V.ref pa,V.ref pb]):=upd_same;generalize upd H5 t (HO.tup [V.ref pa,V.ref pb])=H6 at*;have a6:P2H H6 pa (mv f e.1):=g6 _ _ (g5 _ _ ha);have b6:P2H H6 pb (mv f e.2):=g6 _ _ hb;exact zda mw_ts hD3 (by omega) iv hi he' ((g4.trans g5).trans g6) ⟨⟨pa,pb,h6,a6,b6⟩,b1,b2⟩
 ·rintro qs H3 ⟨g3,hD33,lq,hq⟩;rw[kX (Qp hw.1.symm)] at hq;have g03:=g02.trans g3;have d0:0<fd2 f:=by
   obtain⟨_,_,_,_,_,_,_,_,_,fb⟩:=hf;have:=fb.2.2.2.2.2.2.2.2;unfold fd2;omega
  have mnd:(ws.map (mvE f)).Nodup:=by
   rw[pM,uc];exact(pM.mp W.nd).imp fun n z=>n (zic d0 z)
  have lqw:=hq.1;refine⟨D3,qs,fun i=>mvE f (ws.getD i ((0,0),(0,0))),rfl,hD33,fun i hi=>?_,fun D4 p hD4 or pw=>?_⟩
  ·obtain⟨t,e,e1,e2,⟨c,d,h1,h2,h3⟩,_⟩:=hq.at hi;show F2D H3 (qs.getD i .non) (mvE f (ws.getD i ((0,0),(0,0))));rw[kR,e1,kR,e2];exact⟨t,c,d,rfl,h1,h2,h3⟩
  ·rw[lqw] at or;have hq4:=zli ((0,0),(0,0)) hq or;have g4:=za2 hD4 (HO.lst (p.map fun i=>qs.getD i .non));have pm:=zlm (l:=ws) ((0,0),(0,0)) or;have nd':=pm.nodup_iff.mpr W.nd;refine k D4 _ _ es _ (g03.free hD4) (g03.trans g4) upd_same (by rw[kL,or.length_eq,uO];omega) (hq4.ts mw_ts (za8 g4)) nd Eg ⟨nd',fun w hw=>W.of w (pm.mem_iff.mp hw),fun a k h1 h2=>by
    obtain⟨c,m,z1,z2⟩:=W.all a k h1 h2;exact⟨c,m,pm.mem_iff.mpr z1,z2⟩⟩ ?_
   have pw':(p.map fun i=>ws.getD i ((0,0),(0,0))).Pairwise fun a b=>lt22 (mvE f b) (mvE f a)=false:=uc.mpr pw;refine(pw'.and (pM.mp nd')).imp fun{a b} z=>?_;rcases sto22.tot (mvE f a) (mvE f b) (fun q=>z.2 (zic d0 q)) with q|q
   ·exact q
   ·rw[z.1] at q
    cases q
def sp_told:Sp:=fun vs H Q _=>∃(l:Addr)(ys:List V)(ws:List E2)(f:Fr),vs=[.ref l,.int f.w]/\H l=some (.lst ys)/\ys.length<=144/\LR (MwH f) H ys ws/\FrB f/\∀D zs H',H D=none->Same H H'->H' D=some (.lst zs)->LR S2H H' zs (ws.map (tdF f))->Q (.ref D) H'
theorem zkf(T:Txt K mg ad fd):FnOk P w K mg base CX0 3 (ad 24) (fd 24) ["_law_ways","_law_share"] sp_told:=by
 refine T.law_told.fn.ok zkh (fun vs H Q E h=>?_) (fun cdv A outer s H vs Q E hr h=>?_)
 ·obtain⟨l,ys,ws,f,rfl,_⟩:=h;rfl
 obtain⟨l,ys,ws,f,rfl,hl,hn,hw,fb,k⟩:=h;have zj:=@zaf;have ze:=@zav;have zG:=@zfq;unfold L2.CompBody at zG;have zq:=@zc3;have qpv:=@pv;have zI:=@zev;have zD:=@zdv;have zk:=@zby;have zJ:=@zes;have zH:=@zez;have zm:=@zdc;have zf:=@pa2;have zh:=@zbb;have zu:=@pa3;have zc:=@ze5;have za:=@zbr;generalize @L2.PE=QE,@L2.PT=QT,@L2.PW=QW,@L2.PA=QA,@L2.PS=QS,@L2.PSs=QSs,@L2.PG=QG,@L2.PGs=QGs,@L2.PI=QI,@L2.PO=QO,@L2.PIf=QIf at zj ze zG zq qpv zI zD zk zJ zH zm zf zh zu zc za⊢;refine⟨_,
  (zj (ze (zG (dsc:=za0 zbl) (N:=["_law_ways","_law_share"]) (own:=["_law_a","_law_b"]) (ix:=[1]) rfl rfl rfl ⟨rfl,by decide+kernel,by decide+kernel,by decide+kernel,by decide+kernel⟩ (zq (qpv 0)) (fun cl C fp s2 H2 xe=>⟨(zI (n:=2) rfl (zD (zk (i:=0) (show UG (["_law_a","_law_b","_law_share"]:List Str) from by decide+kernel) rfl (pB rfl) (jz rfl)) (zD (zk (i:=1) (show UG (["_law_a","_law_b","_law_share"]:List Str) from by decide+kernel) rfl (pB rfl) (jz rfl)) zJ))),zH,(zm (zf (zh (zef T) (hr.mono (by decide)) rfl T.law_point.mg T.law_point.fn.kp T.law_point.bn .nil pass0 (zu (zc za3 (qpv 0) za (fun _ _=>rfl)) za7 (zc za3 (qpv 0) za (fun _ _=>rfl)) za7 (qpv 2) za1)) zbq (zh (zef T) (hr.mono (by decide)) rfl T.law_point.mg T.law_point.fn.kp T.law_point.bn .nil pass0 (zu (zc za3 (qpv 1) za (fun _ _=>rfl)) za7 (zc za3 (qpv 1) za (fun _ _=>rfl)) za7 (qpv 2) za1)) zbq))⟩))))
  ,?_⟩
 clear zj ze zG zq qpv zI zD zk zJ zH zm zf zh zu zc za QE QT QW QA QS QSs QG QGs QI QO QIf
 dsimp! [L2.start]
 simp! [];refine zcn ?_;simp! [zcu];refine⟨⟨_,.of hl⟩,fun D hD=>?_⟩;refine zce (xs:=ys) (zh0 (fun H p w=>S2H H p (tdF f w)) ws H D) (zdd hD) (fun i qs H' q=>.of (q.1 _ _ hl)) ?_ ?_
 ·rintro i qs H3 v hi hv iv;obtain⟨g3,hD33,lq,hq⟩:=id iv;obtain⟨p,e,rfl,he',⟨c,d,e1,e2,e3⟩,b1,b2⟩:=hw.2 i v hv;have e1':=g3 _ _ e1;have e2':H3 c=some (.tup [.int (mv f e.1).1,.int (mv f e.1).2]):=g3 _ _ e2;have e3':H3 d=some (.tup [.int (mv f e.2).1,.int (mv f e.2).2]):=g3 _ _ e3;have w1:=fb.2.2.2.2.2.2.1;simp! [e1',e2'];refine⟨_,_,_,rfl,mv_bd fb b1,by omega,fun pa H4 g4 ha=>?_⟩
  have e4':=g4 _ _ e3';simp! [e4'];refine⟨_,_,_,rfl,mv_bd fb b2,by omega,fun pb H5 g5 hb=>?_⟩
  intro t ht;have g6:=za2 ht (HO.tup [V.ref pa,V.ref pb]);have h6:upd H5 t (HO.tup [V.ref pa,V.ref pb]) t=some (HO.tup [V.ref pa,V.ref pb]):=upd_same;generalize upd H5 t (HO.tup [V.ref pa,V.ref pb])=H6 at*;have fin:S2H H6 t (tdF f e):=⟨pa,pb,h6,(ha.same g5).same g6,hb.same g6⟩;exact zda (R:=fun H p w=>S2H H p (tdF f w)) (a:=e) (fun _ _ _ _=>zfs _ _ _ _) hD (by omega) iv hi he' ((g4.trans g5).trans g6) fin
 ·rintro qs H3 ⟨g3,hD33,lq,hq⟩;rw[kX (Qp hw.1.symm)] at hq;exact k D qs H3 hD g3 hD33 hq.map
theorem zll{φ:Int×Int->Int×Int}:∀{xs ys:List (Int×Int)},(∀x y,x∈xs->y∈ys->lt2 x y=true->lt2 (φ x) (φ y)=true)->ltL xs ys=true->ltL (xs.map φ) (ys.map φ)=true
 |[],[],_,h=>h
 |[],_::_,_,_=>rfl
 |_::_,[],_,h=>h
 |x::xs,y::ys,k,h=>by
  rw[ki,ki];rw[zei] at h⊢
  by_cases e:x=y
  ·rw[if_pos e] at h;rw[e,if_pos rfl];exact zll (fun a b ha hb=>k a b (kT _ ha) (kT _ hb)) h
  ·rw[if_neg e] at h;have z:=k x y (by simp) (by simp) h
   rw[if_neg (fun q=>by rw[q,sto2.irr] at z;cases z)]
   exact z
def LrgD(f:Fr)(ws:List E2)(ds:List (List (Int×Int))):Prop:=∃(qs:List (List Q3))(gl:List (Q3×Q3))(rs ds0:List (List (Int×Int))),Run (ws.map (tdF f)) ws.length qs gl/\rs.map (Uj (PF f))=qs/\ds0.length=rs.length/\(∀(j:Nat) d r,ds0[j]?=some d->rs[j]?=some r->IsDue d (r.map (mv f)))/\ds.Perm ds0/\ds.Pairwise fun a b=>ltL a b=true
theorem due_told{f:Fr}(w0:0<f.w){ws:List E2}{ds:List (List (Int×Int))}{g:Int}{os:List (List Q3)}(td:Told (ws.map (tdF f)) g os)(h:LrgD f ws ds):os=ds.map (Uj (ptP f.w)):=by
 obtain⟨qs,gl,rs,ds0,run,eq,ld,due,dpm,dpw⟩:=h;have can:∀(j:Nat) c q,(ds0.map (Uj (ptP f.w)))[j]?=some c->qs[j]?=some q->zdn c q:=fun j c q h1 h2=>by
  rw[pS] at h1;obtain⟨d,hd',rfl⟩:=Qf.mp h1;rw[←eq,pS] at h2;obtain⟨r,hr',rfl⟩:=Qf.mp h2;have:=zoq w0 (due j d r hd' hr');rw[Ud] at this;exact this
 obtain⟨qs',gl',cs,r,nd,lc,can',pm⟩:=td.run;rw[kL] at r;obtain⟨e1,_⟩:=run.det r;subst e1;have lq:(ds0.map (Uj (ptP f.w))).length=qs.length:=by rw[kL,ld,←eq,kL]
 have ec:cs=ds0.map (Uj (ptP f.w)):=by
  refine jq fun j=>?_
  by_cases hj:j<qs.length
  ·have z1:=kI (l:=cs) (i:=j) (by omega)
   have z2:=kI (l:=ds0.map (Uj (ptP f.w))) (i:=j) (by omega)
   have z3:=kI (l:=qs) (i:=j) hj;rw[z1,z2];have c1:=can' j _ _ z1 z3;refine congrArg some (c1.uniq (n:=700) (nd _ (QP _)) (fun x hx=>?_) (can j _ _ z2 z3));exact(td.pq _ (pm.mem_iff.mpr (QP (by omega:j<cs.length))) x (c1.mem.mpr hx)).1
  ·rw[uS (by omega),uS (by omega)]
 have pp:os.Perm (ds.map (Uj (ptP f.w))):=by
  rw[ec] at pm;exact pm.trans (dpm.map _).symm
 refine zfk (r:=fun(a b:List Q3)=>ltL (a.map (kyQ g)) (b.map (kyQ g))=true) (fun a b h1 h2=>?_) td.ord ?_ pp
 ·have:=stoL.tr _ _ _ h1 h2;rw[stoL.irr] at this
  cases this
 ·rw[uc];refine dpw.imp_of_mem fun{a b} ha hb z=>?_;rw[Ud,Ud];refine zll (φ:=kyQ g∘ptP f.w) (fun x y hx hy z=>?_) z;have h1:=td.pq _ (pp.mem_iff.mpr (km.mpr ⟨a,ha,rfl⟩)) _ (km.mpr ⟨x,hx,rfl⟩);have h2:=td.pq _ (pp.mem_iff.mpr (km.mpr ⟨b,hb,rfl⟩)) _ (km.mpr ⟨y,hy,rfl⟩);exact zn6 h1.1.pos h2.1.pos h1.2 h2.2 ((bq_pt w0).mpr z)
theorem due_bd{f:Fr}(w0:0<f.w)(d0:0<fd2 f){ws:List E2}{ds:List (List (Int×Int))}(Fe:Fen (ws.map (tdF f)))(bx:∀e,e∈ws->Bx e.1)(h:LrgD f ws ds){d:List (Int×Int)}(hd:d∈ds):3<=d.length/\d.length<=ws.length/\∀x,x∈d->∃a,Bx a/\x=mv f a:=by
 obtain⟨qs,gl,rs,ds0,run,eq,ld,due,dpm,dpw⟩:=h;obtain⟨j,hj⟩:=pW.mp (dpm.mem_iff.mp hd);have hj':j<rs.length:=by rw[←ld];exact(kD.mp hj).1
 obtain⟨i,hi,rfl,_⟩:=due j d _ hj (kI hj');have hqm:(rs[j]).map (PF f)∈qs:=by rw[←eq];exact km.mpr ⟨_,QP hj',rfl⟩
 obtain⟨lq,pts⟩:=run.pt Fe hqm;have rg:=run.rg Fe;have ok:=run.ok Fe;have q3:=Fe.three (rg.1 _ hqm).2 fun e he=>ok.2.1 e (rg.2.mem_iff.mp (zeh hqm he));rw[kL,kL] at lq;rw[kL] at q3;refine⟨by rw[zf0,kL];exact q3,by rw[zf0,kL];exact lq,fun x hx=>?_⟩
 obtain⟨a,ha,rfl⟩:=km.mp (zp4.mp hx);refine⟨a,?_,rfl⟩;obtain⟨e',h1,h2⟩:=pts (PF f a) (km.mpr ⟨a,ha,rfl⟩);obtain⟨e,he,rfl⟩:=km.mp h1;rw[ze8 w0 d0 (show PF f a=PF f e.1 from h2)];exact bx e he
theorem due_len{f:Fr}{ws:List E2}{ds:List (List (Int×Int))}(w0:0<f.w)(Fe:Fen (ws.map (tdF f)))(h:LrgD f ws ds):3*ds.length<=ws.length:=by
 obtain⟨qs,gl,rs,ds0,run,eq,ld,due,dpm,dpw⟩:=h;have rg:=run.rg Fe;have ok:=run.ok Fe;have three:∀q,q∈qs->3<=q.length:=fun q hq=>Fe.three (rg.1 q hq).2 fun e he=>ok.2.1 e (rg.2.mem_iff.mp (zeh hq he));have l3:=zf9 three;have lgl:=zd8 _ _ ok.1 ok.2.1;rw[rg.2.length_eq] at l3;rw[kL] at lgl;have lrq:rs.length=qs.length:=by rw[←eq,kL]
 have:=dpm.length_eq;omega
theorem ways_one{f:Fr}{cs:List C3}{es es' ws ws' ws0:List E2}(nd:es.Nodup)(nd':es'.Nodup)(E:Edg cs es)(E':Edg cs es')(W:Wys es ws0)(W':Wys es' ws')(pm:ws.Perm ws0)(pw:ws.Pairwise fun a b=>lt22 (mvE f a) (mvE f b)=true)(pw':ws'.Pairwise fun a b=>lt22 (mvE f a) (mvE f b)=true):ws=ws':=by
 refine zfk (r:=fun a b:E2=>lt22 (mvE f a) (mvE f b)=true) (fun a b h1 h2=>?_) pw pw' (pm.trans (wys_same (zew nd nd' fun x=>(E x).trans (E' x).symm) W W'));have:=sto22.tr _ _ _ h1 h2;rw[sto22.irr] at this
 cases this
theorem told_nil{g:Int}{os:List (List Q3)}(h:Told [] g os):os=[]:=by
 have l:=zf9 fun q hq=>(h.rg q hq).2;rw[h.pm.length_eq] at l;exact gM (by simp only[jR] at l;omega)
theorem fen_nil:Fen []:=⟨vG,fun e he=>(by cases he),fun e he=>(by cases he),fun e he=>(by cases he),fun e e' he=>(by cases he)⟩
def zi0(K:kM)(ts:List Addr):Sp:=fun vs H Q _=>∃(a:Addr)(ns:List Int),vs=[.ref a]/\SqL K H a (ns.map V.int)/\ns.length<=63/\(∀b,b∈ts->zc5 H b lposP qlP)/\∀H',Q (.bl true) H'
theorem zml{H:Hp}{b:Addr}{pos:Pos}{q:Str}(h:H b=some (.tbl #[])):zc5 H b pos q:=⟨#[],h,by trivial,.inl rfl⟩
def dR(r:List Q3):CT:=.list (r.map dQ)
theorem rd_rs{K:kM}{H:Hp}:∀{zs:List V}{F:List (List Q3)},LR RgQ H zs F->RdDs K H (F.map dR) zs
 |[],[],_=>by rw[Qe,RdDs]
 |[],_::_,h=>by cases h.1
 |_::_,[],h=>by cases h.1
 |v::zs,r::F,h=>by
  obtain⟨a,as',e,⟨p,rfl,us,h1,h2⟩,h3⟩:=h.cons_inv
  cases e;rw[ki,RdDs];exact⟨_,zs,rfl,rd_ql h1 h2,rd_rs h3⟩
theorem zjl{K:kM}{H:Hp}{l:Addr}{zs:List V}{F:List (List Q3)}(h:H l=some (.lst zs))(hz:LR RgQ H zs F):RdD K H (.list (F.map dR)) (.ref l):=by
 rw[RdD];exact⟨l,zs,rfl,.of h,rd_rs hz⟩
theorem dR_lay(r:List Q3):(dR r).canLay0=true/\(dR r).depth<=4:=by
 obtain⟨h1,h2⟩:=dQs_lay r;unfold dR;rw[UK,vU];exact⟨h1,by omega⟩
theorem dRs_lay(F:List (List Q3)):uQ (F.map dR)=true/\uU (F.map dR)<=4:=by
 induction F with
 |nil=>exact⟨rfl,by simp[uU]⟩
 |cons r F ih=>
  have h:=dR_lay r;rw[ki]
  constructor
  ·rw[uQ,h.1,ih.1];rfl
  ·rw[uU];have:=h.2;have:=ih.2;omega
theorem zc7(F:List (List Q3)):Uc (.list (F.map dR))=true:=by
 obtain⟨h1,h2⟩:=dRs_lay F;unfold Uc;rw[UK,h1,Bool.true_and,vU];exact decide_eq_true (by omega)
theorem zl6:∀F:List (List Q3),QD (F.map dR) (F.map dR)=true
 |[]=>by simp[QD]
 |r::F=>by
  rw[ki,QD,zl6 F];unfold dR;rw[dQs_eqv,decide_eq_true rfl];rfl
theorem zib(F:List (List Q3)):Qs (.list (F.map dR)) (.list (F.map dR))=true:=by rw[Qs,zl6]
theorem rgs_st{tb:Addr}{pos:Pos}{q:Str}{H H':Hp}{ys:List V}{rs:List (List Q3)}(h:LR RgQ H ys rs)(st:zag tb H H')(lt:zc5 H tb pos q):LR RgQ H' ys rs:=h.imp fun p r⟨us,h1,h2⟩=>⟨us,st.lst lt h1,h2.ts zbz fun b xs z=>st.tup lt z⟩
theorem wy_bx{H:Hp}{ys:List V}{ws:List E2}(h:LR WyH H ys ws){e:E2}(he:e∈ws):Bx e.1/\Bx e.2:=by
 obtain⟨j,hj⟩:=pW.mp he;obtain⟨p,x,_,e2,e3⟩:=h.at (j:=j) (by rw[h.1];exact(kD.mp hj).1)
 rw[hj] at e2
 cases e2;exact e3.2
def InA(F:Addr)(fs:List V)(b:Addr):Prop:=b=F∨∃j:Nat,fs[j]?=some (V.ref b)
def Off(F:Addr)(fs:List V)(J H':Hp):Prop:=∀b o,¬InA F fs b->J b=some o->H' b=some o
theorem Off.tup{F:Addr}{fs:List V}{J H':Hp}(h:Off F fs J H')(inl:∀b,InA F fs b->∃zs,J b=some (.lst zs)):za9 J H':=fun b xs q=>h b _ (fun z=>by
 obtain⟨zs,e⟩:=inl b z;rw[q] at e
 cases e) q
theorem Off.lam{F tb:Addr}{fs:List V}{J H':Hp}{pos:Pos}{q:Str}(h:Off F fs J H')(inl:∀b,InA F fs b->∃zs,J b=some (.lst zs))(t:zc5 J tb pos q):zc5 H' tb pos q:=by
 obtain⟨ps,h1,h2,h3⟩:=t;refine⟨ps,h _ _ (fun z=>?_) h1,h2,h3.imp id fun⟨c,e,hc⟩=>⟨c,e,h _ _ (fun z=>?_) hc⟩⟩
 ·obtain⟨zs,e⟩:=inl _ z;rw[h1] at e
  cases e
 ·obtain⟨zs,e⟩:=inl _ z;rw[hc] at e
  cases e
def V4H(f:Fr)(H:Hp)(p:Addr)(e:E2):Prop:=(∃a b c d,H p=some (.tup [.ref a,.ref b,.ref c,.ref d])/\P2H H a (mv f e.1)/\P2H H b (mv f e.2)/\P2H H c e.1/\P2H H d e.2)/\Bx e.1/\Bx e.2
theorem v4_ts{f:Fr}:∀(H H':Hp)(p:Addr)(e:E2),za9 H H'->V4H f H p e->V4H f H' p e:=fun _ _ _ _ g⟨⟨a,b,c,d,h1,h2,h3,h4,h5⟩,bx⟩=>⟨⟨a,b,c,d,g _ _ h1,g _ _ h2,g _ _ h3,g _ _ h4,g _ _ h5⟩,bx⟩
def DueI(H:Hp)(Du:Addr)(s0:List (Option V))(Ds:List (List Q3))(i:Nat)(σ:St)(H':Hp):Prop:=∃us o,σ=s0++[o,none,none]/\zag Du H H'/\H' Du=some (.lst us)/\LR (RgN Du) H' us (Ds.take i)
def RevI(J:Hp)(L F:Addr)(fs:List V)(s0:List (Option V))(i:Nat)(σ:St)(H':Hp):Prop:=∃o,σ=s0++[o,some (V.ref L),some (V.ref F)]/\Off F fs J H'/\H' F=some (.lst fs)/\∀b,InA F fs b->∃zs,H' b=some (.lst zs)
theorem ok_law(T:Txt K mg ad fd)(hK:K.In base)(hB:base.BuiltinsAt mg (ad 31)):FnOk P w K mg base CX0 8 (ad 29) (fd 29) ["_law_script"] (zi0 K [(ad 31)]):=by
 refine T.law.fn.ok zee (fun vs H Q E h=>?_) (fun cdv A outer s H vs Q E hr h=>?_)
 ·obtain⟨a,ns,rfl,_⟩:=h;rfl
 obtain⟨a0,ns,rfl,hS,hlen,lts,k⟩:=h;have lt:=lts _ (kU.mpr rfl);clear lts;have yH:=@pss12;have zd:=@zbn;have zh:=@zbb;have zu:=@pa3;have qpv:=@pv;have zb:=@zds;have za:=@zbr;have zf:=@pa2;have zg:=@pa1;have zC:=@zd3;have zG:=@zfq;unfold L2.CompBody at zG;have zq:=@zc3;have zI:=@zev;have zD:=@zdv;have zk:=@zby;have zJ:=@zes;have zH:=@zez;have zm:=@zdc;have ye:=@pa4;have zU:=@zjv;unfold L2.CompBody at zU;have zc:=@ze5;have zn:=@zd9;have zy:=@zci;have zr:=@zdj;have zj:=@zaf;have zA:=@zdk;have zx:=@zgr;have zo:=@zen;have yi:=@PW.pt;have yc:=@pw_or;have zv:=@zcs;have yj:=@pw_or1;have ze:=@zav;have zR:=@pe_bl;have zp:=@zbx;have yK:=@pe_bm0;have zK:=@zgt;generalize @L2.PE=QE,@L2.PT=QT,@L2.PW=QW,@L2.PA=QA,@L2.PS=QS,@L2.PSs=QSs,@L2.PG=QG,@L2.PGs=QGs,@L2.PI=QI,@L2.PO=QO,@L2.PIf=QIf at yH zd zh zu qpv zb za zf zg zC zG zq zI zD zk zJ zH zm ye zU zc zn zy zr zj zA zx zo yi yc zv yj ze zR zp yK zK⊢;refine⟨_,
  (yH
   (zd (i:=1) zee.nd rfl (pB rfl) (zh (zin T) (hr.mono (by decide)) rfl T.law_cells.mg T.law_cells.fn.kp T.law_cells.bn .nil pass0 (zu (qpv 0) za1 (zb zbi za (zb zco (zh (zbp T) (hr.mono (by decide)) rfl T.law_cell.mg T.law_cell.fn.kp T.law_cell.bn .nil pass0 (zf (qpv 0) za1 za zad)) za)) zaa (zb zbi za (zb zco (zh (zbp T) (hr.mono (by decide)) rfl T.law_cell.mg T.law_cell.fn.kp T.law_cell.bn .nil pass0 (zf (qpv 0) za1 za zad)) za)) zaa)))
   (zd (i:=2) zee.nd rfl (jz rfl) (zh (zio T) (hr.mono (by decide)) rfl T.law_frame.mg T.law_frame.fn.kp T.law_frame.bn .nil pass0 (zg (qpv 0) za1)))
   (zd (i:=3) zee.nd rfl (pB rfl) (zh (zgc T) (hr.mono (by decide)) rfl T.law_long.mg T.law_long.fn.kp T.law_long.bn .nil pass0 (zg (zh (zfw T) (hr.mono (by decide)) rfl T.law_edges.mg T.law_edges.fn.kp T.law_edges.bn .nil pass0 (zg (qpv 1) za1)) zbq)))
   (zd (i:=4) zee.nd rfl (pB rfl) (zC (zkk (hu100 hr)) rfl T.b_sorted zfe (zg (zG (dsc:=za0 zeu) (N:=["_law_script","_law_cells_here","_law_frame_here","_law_ways","_law_order","_law_due","_law_ring","_law_land_here","_law_found"]) (own:=["_law_first","_law_last"]) (ix:=[2]) rfl rfl rfl ⟨rfl,by decide+kernel,by decide+kernel,by decide+kernel,by decide+kernel⟩ (zq (qpv 3)) (fun cl C fp s2 H2 xe=>⟨(zI (n:=2) rfl (zD (zk (i:=0) (show UG (["_law_first","_law_last","_law_frame_here"]:List Str) from by decide+kernel) rfl (pB rfl) (jz rfl)) (zD (zk (i:=1) (show UG (["_law_first","_law_last","_law_frame_here"]:List Str) from by decide+kernel) rfl (pB rfl) (jz rfl)) zJ))),zH,(zm (ye (zh (zcp T) (hr.mono (by decide)) rfl T.law_moved.mg T.law_moved.fn.kp T.law_moved.bn .nil pass0 (zf (qpv 0) za1 (qpv 2) za1)) zbq (zh (zcp T) (hr.mono (by decide)) rfl T.law_moved.mg T.law_moved.fn.kp T.law_moved.bn .nil pass0 (zf (qpv 1) za1 (qpv 2) za1)) zbq (qpv 0) za1 (qpv 1) za1))⟩)) zdy)))
   (zU (i:=3) zee.nd rfl (pB rfl) (dsc:=za0 zeu) (N:=["_law_script","_law_cells_here","_law_frame_here","_law_ways","_law_order","_law_due","_law_ring","_law_land_here","_law_found"]) (own:=["_law_one"]) (ix:=[]) rfl rfl rfl ⟨rfl,by decide+kernel,by decide+kernel,by decide+kernel,by decide+kernel⟩ (zq (qpv 4)) (fun cl C fp s2 H2 xe=>⟨(zk (i:=0) (show UG (["_law_one"]:List Str) from by decide+kernel) rfl (pB rfl)),zH,(zm (zf (zc za3 (qpv 0) za (fun _ _=>rfl)) za7 (zc za3 (qpv 0) za (fun _ _=>rfl)) za7))⟩))
   (zd (i:=5) zee.nd rfl (pB rfl) (zn zy))
   (zr pz rfl (zq (zh (zjm T) (hr.mono (by decide)) rfl T.law_rings.mg T.law_rings.fn.kp T.law_rings.bn .nil pass0 (zf (qpv 3) za1 (qpv 2) za1))) (zk (i:=6) zee.nd rfl (pB rfl)) (zj (zA (zx pD uF uG zb7 (qpv 5) (zg (zG (dsc:=za0 zeu) (N:=["_law_script","_law_cells_here","_law_frame_here","_law_ways","_law_order","_law_due","_law_ring","_law_land_here","_law_found"]) (own:=["_law_x","_law_y"]) (ix:=[2]) rfl rfl rfl ⟨rfl,by decide+kernel,by decide+kernel,by decide+kernel,by decide+kernel⟩ (zq (qpv 6)) (fun cl C fp s2 H2 xe=>⟨(zI (n:=2) rfl (zD (zk (i:=0) (show UG (["_law_x","_law_y","_law_frame_here"]:List Str) from by decide+kernel) rfl (pB rfl) (jz rfl)) (zD (zk (i:=1) (show UG (["_law_x","_law_y","_law_frame_here"]:List Str) from by decide+kernel) rfl (pB rfl) (jz rfl)) zJ))),zH,(zh (zef T) (hr.mono (by decide)) rfl T.law_point.mg T.law_point.fn.kp T.law_point.bn .nil pass0 (zu (qpv 0) za1 (qpv 1) za1 (zc zaz (qpv 2) za (fun _ _=>rfl)) za7))⟩)) zdy)))))
   (zd (i:=7) zee.nd rfl (pB rfl) (zh (zkf T) (hr.mono (by decide)) rfl T.law_told.mg T.law_told.fn.kp T.law_told.bn .nil pass0 (zf (zh (zkr T) (hr.mono (by decide)) rfl T.law_land.mg T.law_land.fn.kp T.law_land.bn .nil pass0 (zf (qpv 1) za1 (qpv 2) za1)) zbq (zc zaz (qpv 2) za (fun _ _=>rfl)) za7)))
   (zd (i:=8) zee.nd rfl (pB rfl) (zh (zex T hK hB) (hr.mono (by decide)) rfl T.rings_of.mg T.rings_of.fn.kp T.rings_of.bn .nil pass0 (zg (qpv 7) za1)))
   (zo (yi (yc (zv (zpr (hu64 hr)) (qpv 8) (qpv 5) (nomark _)) (yc (zv (zpr (hu64 hr)) (zh (zex T hK hB) (hr.mono (by decide)) rfl T.rings_of.mg T.rings_of.fn.kp T.rings_of.bn .nil pass0 (zg (zn zy) zo5)) (zn zy) (nomark _)) (yj (zv (zpr (hu64 hr)) (qpv 8) (qpv 5) (nomark _)))))) (zj (ze zR)) zp)
   (zr pz rfl (zq (qpv 8)) (zk (i:=6) zee.nd rfl (pB rfl)) (zj (zA (yK pD PySem.F.slot_list_reverse PySem.F.type_list_reverse mt_reve (qpv 6)))))
   (ze (zK (zkt (hu64 hr)) (zh (zex T hK hB) (hr.mono (by decide)) rfl T.rings_of.mg T.rings_of.fn.kp T.rings_of.bn .nil pass0 (zg (qpv 7) za1)) (qpv 5) (nomark _))))
  ,?_⟩
 clear yH zd zh zu qpv zb za zf zg zC zG zq zI zD zk zJ zH zm ye zU zc zn zy zr zj zA zx zo yi yc zv yj ze zR zp yK zK QE QT QW QA QS QSs QG QGs QI QO QIf
 dsimp! [L2.start]
 simp! [];refine⟨a0,ns,0,rfl,hS,by decide,by decide,fun v0=>⟨v0,rfl,by decide,a0,ns,1,rfl,hS,by decide,by decide,fun v1=>⟨v1,rfl,by decide,?_⟩⟩⟩
 refine⟨a0,ns,_,_,rfl,hS,by omega,by omega,by omega,by omega,fun C zs cs H1 hC g1 hC1 nz hz=>?_⟩
 refine⟨a0,ns,rfl,g1.seq hS,fun M f H2 hM g2 hf=>?_⟩;have hC2:=g2 _ _ hC1;have hz2:=hz.ts zm9 (za8 g2);refine⟨C,zs,cs,rfl,hC2,nz,hz2,fun D1 ys es H3 hD1 g3 h3 n3 he nd Eg=>?_⟩;refine⟨D1,ys,es,rfl,h3,n3,he,nd,⟨cs,Eg⟩,fun W zw ws0 H4 hW g4 hW4 n4 hw Wg=>?_⟩;have g02:=g1.trans g2;have g04:=(g02.trans g3).trans g4;have g24:=g3.trans g4;obtain⟨xf,hxf,f0,f1,f2,f3,f4,f5,f6,fb⟩:=id hf;have w0:0<f.w:=by have:=fb.2.2.2.2.2.2.1;omega
 have d0:0<fd2 f:=by have:=fb.2.2.2.2.2.2.2.2;unfold fd2;omega
 have lws:=hw.1;refine zcn ?_;simp! [zcu];refine⟨⟨_,.of hW4⟩,fun T hT=>?_⟩;refine zce (xs:=zw) (zh0 (V4H f) ws0 H4 T) (zdd hT) (fun i qs H' q=>.of (q.1 _ _ hW4)) ?_ ?_
 ·rintro i qs H5 v hi hv iv;obtain⟨g5,hT5,lq,hq⟩:=id iv;obtain⟨p,e,rfl,he',⟨c,d,e1,e2,e3⟩,b1,b2⟩:=hw.2 i v hv;have e1':=g5 _ _ e1;simp! [e1'];refine⟨c,M,e.1,f,rfl,g5 _ _ e2,hf.same (g24.trans g5),b1,fun pa H6 g6 ha=>?_⟩;refine⟨d,M,e.2,f,rfl,g6 _ _ (g5 _ _ e3),hf.same ((g24.trans g5).trans g6),b2,fun pb H7 g7 hb=>?_⟩;intro t ht;have g8:=za2 ht (HO.tup [V.ref pa,V.ref pb,V.ref c,V.ref d]);have h8:upd H7 t (HO.tup [V.ref pa,V.ref pb,V.ref c,V.ref d]) t=some (HO.tup [V.ref pa,V.ref pb,V.ref c,V.ref d]):=upd_same;generalize upd H7 t (HO.tup [V.ref pa,V.ref pb,V.ref c,V.ref d])=H8 at*;have a8:P2H H8 pa (mv f e.1):=g8 _ _ (g7 _ _ ha);have b8:P2H H8 pb (mv f e.2):=g8 _ _ hb;have g58:=(g6.trans g7).trans g8;have c8:P2H H8 c e.1:=g58 _ _ (g5 _ _ e2);have d8:P2H H8 d e.2:=g58 _ _ (g5 _ _ e3);exact zda v4_ts hT (by omega) iv hi he' g58 ⟨⟨pa,pb,c,d,h8,a8,b8,c8,d8⟩,b1,b2⟩
 rintro qs H5 ⟨g5,hT5,lq,hq⟩;rw[kX (Qp hw.1.symm)] at hq;have lqw:=hq.1;refine⟨T,qs,fun i=>(mvE f (ws0.getD i ((0,0),(0,0))),ws0.getD i ((0,0),(0,0))),rfl,hT5,fun i hi=>?_,fun i j _ _ e=>zic d0 e,fun Or pp hOr or pw=>?_⟩
 ·obtain⟨t,e,e1,e2,⟨a,b,c,d,h1,h2,h3,h4,h5⟩,_⟩:=hq.at hi;show F4D H5 (qs.getD i .non) (mvE f (ws0.getD i ((0,0),(0,0))),ws0.getD i ((0,0),(0,0)));rw[kR,e1,kR,e2];exact⟨t,a,b,c,d,rfl,h1,h2,h3,h4,h5⟩
 rw[lqw] at or;have hq6:=zli ((0,0),(0,0)) hq or;have pm:=zlm (l:=ws0) ((0,0),(0,0)) or;have g6:=za2 hOr (HO.lst (pp.map fun i=>qs.getD i .non));have hO6:upd H5 Or (HO.lst (pp.map fun i=>qs.getD i .non)) Or=some (.lst (pp.map fun i=>qs.getD i .non)):=upd_same;have hq6:=hq6.ts v4_ts (za8 g6);have pw1:(pp.map fun i=>ws0.getD i ((0,0),(0,0))).Pairwise fun a b=>lt22 (mvE f a) (mvE f b)=true:=by
  have pw':(pp.map fun i=>ws0.getD i ((0,0),(0,0))).Pairwise fun a b=>lt22 (mvE f b) (mvE f a)=false:=uc.mpr pw;refine(pw'.and (pM.mp (pm.nodup_iff.mpr Wg.nd))).imp fun{a b} z=>?_;rcases sto22.tot (mvE f a) (mvE f b) (fun q=>z.2 (zic d0 q)) with q|q
  ·exact q
  ·rw[z.1] at q
   cases q
 generalize upd H5 Or (HO.lst (pp.map fun i=>qs.getD i .non))=H6 at*;generalize (pp.map fun i=>qs.getD i .non)=os4 at*;generalize (pp.map fun i=>ws0.getD i ((0,0),(0,0)))=ws at*;clear pw or hOr;have Wg1:Wys es ws:=⟨pm.nodup_iff.mpr Wg.nd,fun w hw=>Wg.of w (pm.mem_iff.mp hw),fun a k h1 h2=>by
  obtain⟨c,m,z1,z2⟩:=Wg.all a k h1 h2;exact⟨c,m,pm.mem_iff.mpr z1,z2⟩⟩
 have Fe:=zoz w0 d0 Eg Wg1;have lw1:=pm.length_eq;have lo4:=hq6.1;refine zcn ?_;simp! [zcu];refine⟨⟨_,.of hO6⟩,fun W2 hW2=>?_⟩;refine zce (xs:=os4) (zh0 WyH ws H6 W2) (zdd hW2) (fun i qs H' q=>.of (q.1 _ _ hO6)) ?_ ?_
 ·rintro i us H7 v hi hv iv;obtain⟨g7,hW7,lu,hu⟩:=id iv;obtain⟨p,e,rfl,he',⟨a,b,c,d,e1,e2,e3,e4,e5⟩,b1,b2⟩:=hq6.2 i v hv;have e1':=g7 _ _ e1;simp! [e1'];intro t ht;have g8:=za2 ht (HO.tup [V.ref c,V.ref d]);have h8:upd H7 t (HO.tup [V.ref c,V.ref d]) t=some (HO.tup [V.ref c,V.ref d]):=upd_same;generalize upd H7 t (HO.tup [V.ref c,V.ref d])=H8 at*;have c8:P2H H8 c e.1:=g8 _ _ (g7 _ _ e4);have d8:P2H H8 d e.2:=g8 _ _ (g7 _ _ e5);exact zda zf4 hW2 (by omega) iv hi he' g8 ⟨⟨c,d,h8,c8,d8⟩,b1,b2⟩
 rintro wz H7 ⟨g7,hW7,lwz,hwz⟩;rw[kX (Qp lo4.symm)] at hwz;have g57:=g6.trans g7;have g47:=g5.trans g57;have g27:=g24.trans g47;have lwz:=hwz.1;intro Du hDu;have g8:=za2 hDu (HO.lst []);have hDu8:upd H7 Du (HO.lst []) Du=some (.lst []):=upd_same;generalize upd H7 Du (HO.lst [])=H8 at*;have g28:=g27.trans g8;refine zbs ?_;simp! [zcu];refine⟨W2,M,wz,cs,es,ws,f,rfl,g8 _ _ hW7,hwz.ts zf4 (za8 g8),by omega,Eg,Wg1,hf.same g28,fun R rz ds H9 hR g9 hR9 hrz ld=>?_⟩
 have ld:LrgD f ws ds:=ld;have hDu9:=g9 _ _ hDu8;have g29:=g28.trans g9;have lrz:=hrz.1;have l3:=due_len w0 Fe ld;have nMD:M≠Du:=zax (g27 _ _ hxf) hDu;have nCD:C≠Du:=zax (g27 _ _ hC2) hDu;have nRD:R≠Du:=fun z=>by rw[z,hDu8] at hR;cases hR
 have hM9:=g29 _ _ hxf;refine⟨R,rfl,⟨_,.of hR9⟩,?_⟩;refine zb0 (K:=K) (a:=R) (xs:=rz) (DueI H9 Du [some (V.ref a0),some (V.ref C),some (V.ref M),some (V.ref W2),some (V.ref Or),some (V.ref Du)] (ds.map (Uj (ptP f.w)))) ⟨[],_,rfl,fun b o _ q=>q,hDu9,by rw[uz];exact .nil⟩ (fun i σ H' _ iv=>.of (by obtain⟨_,_,_,st,_⟩:=iv;exact st _ _ nRD hR9)) ?_ ?_
 ·intro _ _;rintro i v σ H10 hi ⟨us,o,rfl,st10,hDu10,hus⟩;obtain⟨p,d,rfl,hd',vs,hp,hv⟩:=hrz.2 i v hi;have hi':=(kD.mp hi).1;obtain⟨d3,dn,dbx⟩:=due_bd w0 d0 Fe (fun e he=>(wy_bx hwz he).1) ld (ko hd');have lv:=hv.1;have ts10:za9 H9 H10:=fun b xs q=>st10 _ _ (fun z=>by rw[z,hDu9] at q;cases q) q
  have npD:p≠Du:=fun z=>by
   rw[z,hDu9] at hp
   cases hp;rw[←lv] at d3
   cases d3
  have hp10:=st10 _ _ npD hp;have hv10:=hv.ts zb2 ts10;have hM10:=st10 _ _ nMD hM9;simp! [Uf,UY];refine⟨zbw hDu10,zcn ?_⟩;simp! [zcu];refine⟨⟨_,.of hp10⟩,fun Cc hCc=>?_⟩;refine zce (xs:=vs) (zh0 (fun H p x=>QH H p (ptP f.w x)) d H10 Cc) (zdd hCc) (fun n qs H' z=>.of (z.1 _ _ hp10)) ?_ ?_
  ·rintro n qs H11 v hn hvv iv;obtain⟨g11,hC11,lq,hq⟩:=id iv;obtain⟨b,y,rfl,hy',hb⟩:=hv10.2 n v hvv;have hb':H11 b=some (.tup [.int y.1,.int y.2]):=g11 _ _ hb;have hM11:=g11 _ _ hM10;simp! [hb',hM11,f6];obtain⟨a,ba,ea⟩:=dbx y (ko hy');refine⟨_,_,_,rfl,by rw[ea];exact mv_bd fb ba,w0,fun m H12 g12 hm=>?_⟩
   exact zda (R:=fun H p x=>QH H p (ptP f.w x)) (a:=y) (fun _ _ _ _=>zbz _ _ _ _) hCc (by omega) iv hn hy' g12 hm
  ·rintro qs H11 ⟨g11,hC11,lq,hq⟩;rw[kX (by omega)] at hq
   have hq:=hq.map (f:=ptP f.w) (R:=QH);have hDu11:=g11 _ _ hDu10;have nC:Cc≠Du:=fun z=>by rw[z,hDu10] at hCc;cases hCc
   have lus:=hus.1;rw[kY] at lus;refine⟨us,hDu11,small1000 (by omega),us++[V.ref Cc],_,rfl,fun b o nb q=>by rw[za6 nb];exact g11 _ _ (st10 _ _ nb q),upd_same,?_⟩
   rw[uC,pS,hd'];exact zp2 ((zlt hus g11).snoc (R:=RgN Du) (a:=d.map (ptP f.w)) ⟨nC,qs,hC11,hq⟩) hDu11 _
 rintro σ H10 ⟨us,o,rfl,st10,hDu10,hus⟩;rw[kX (by rw[kL];omega)] at hus
 have ts10:za9 H9 H10:=fun b xs q=>st10 _ _ (fun z=>by rw[z,hDu9] at q;cases q) q
 have hC10:=st10 _ _ nCD (g29 _ _ hC2);have hz10:=(hz2.ts zm9 (za8 g29)).ts zm9 ts10;have hM10:=st10 _ _ nMD hM9;have hf10:FmH H10 M f:=⟨xf,hM10,f0,f1,f2,f3,f4,f5,f6,fb⟩;have of10:Off Du [] H9 H10:=fun b o nb q=>st10 b o (fun z=>nb (.inl z)) q;have lt10:=of10.lam (fun b z=>by
  rcases z with z|⟨j,hj⟩
  ·exact⟨[],by rw[z];exact hDu9⟩
  ·cases hj) (lt.same (g02.trans g29))
 simp! [Uf,UY];refine⟨C,M,zs,cs,f,rfl,hC10,nz,hz10,hf10,fun D2 ys2 ws2 es2 H11 hD2 g11 hD11 n2 hw2 nd2 Eg2 Wg2 pw2=>?_⟩;have ew:=ways_one nd nd2 Eg Eg2 Wg Wg2 pm pw1 pw2;subst ew;have hM11:=g11 _ _ hM10;refine⟨xf,hM11,_,f6,D2,ys2,ws,f,rfl,hD11,n2,hw2,fb,fun L ls H12 hL g12 hL12 hls=>?_⟩;have g1012:=g11.trans g12;have hus12:=zlt hus g1012;have hDu12:=g1012 _ _ hDu10;have lt12:=lt10.same g1012;have lls:=hls.1;rw[kL] at lls;refine⟨L,ls,_,rfl,hL12,by omega,hls,Fe,lt12,fun F fs os g H13 hF st13 lt13 hF13 ho td=>?_⟩
 have eo:=due_told w0 td ld;rw[←eo] at hus12;have ho13:LR RgQ H13 fs os:=ho.imp (R':=RgQ) fun p r t=>t.2.2;have hDu13:=st13.lst lt12 hDu12;have hd13:LR RgQ H13 us os:=rgs_st (hus12.imp (R':=RgQ) fun p r t=>t.2) st13 lt12;refine⟨_,_,zjl hF13 ho13,zjl hDu13 hd13,zc7 _,zc7 _,_,rfl,?_⟩;rw[zib];refine iteF ?_;intro e0 he0;have ge:=za2 he0 (HO.lst []);have hE:upd H13 e0 (HO.lst []) e0=some (.lst []):=upd_same;generalize upd H13 e0 (HO.lst [])=H14 at*;have lt14:=lt13.same ge;refine⟨e0,[],[],rfl,hE,pY _,.nil,fen_nil,lt14,fun F0 fs0 os0 g0 H15 hF0 st15 lt15 hF15 ho0 td0=>?_⟩;have e0':=told_nil td0;subst e0';intro e1 he1;have gN:=za2 he1 (HO.lst []);have hE1:upd H15 e1 (HO.lst []) e1=some (.lst []):=upd_same;have ts13:za9 H12 H13:=fun b xs q=>st13.tup lt12 q;have ts15:za9 H14 H15:=fun b xs q=>st15.tup lt14 q;have nA:∀b x,H12 b=some x->¬InA F fs b:=fun b x e z=>by
  rcases z with z|⟨j,hj⟩
  ·rw[z,hF] at e;cases e
  ·obtain⟨p,r,e1,_,e3,_⟩:=ho.2 j _ hj
   cases e1;rw[e3] at e
   cases e
 generalize upd H15 e1 (HO.lst [])=J at*;have up:∀{b:Addr}{xs:List V},H13 b=some (.lst xs)->J b=some (.lst xs):=fun q=>gN _ _ (st15.lst lt14 (ge _ _ q));have tsJ:za9 H13 J:=fun b xs q=>gN _ _ (ts15 _ _ (ge _ _ q));have rgJ:∀{q:Addr}{r:List Q3},RgQ H13 q r->RgQ J q r:=fun⟨us,x1,x2⟩=>⟨us,up x1,x2.ts zbz tsJ⟩;have hFJ:=up hF13;have hDuJ:=up hDu13;have hLJ:=up (st13.lst lt12 hL12);have hsJ:=(hls.ts zfs ts13).ts zfs tsJ;have hoJ:LR RgQ J fs os:=ho13.imp fun p r t=>rgJ t;have hdJ:LR (fun H1 q r=>¬InA F fs q/\RgQ H1 q r) J us os:=hus12.imp fun q r t=>⟨by
  obtain⟨zs',x1,_⟩:=t.2;exact nA _ _ x1,rgJ (by
  obtain⟨zs',x1,x2⟩:=t.2;exact⟨zs',st13.lst lt12 x1,x2.ts zbz ts13⟩)⟩
 have ltJ:=lt15.same gN;have inJ:∀b,InA F fs b->∃zs,J b=some (.lst zs):=fun b z=>by
  rcases z with z|⟨j,hj⟩
  ·exact⟨fs,by rw[z];exact hFJ⟩
  ·obtain⟨p,r,e1,_,us,x1,_⟩:=hoJ.2 j _ hj
   cases e1;exact⟨us,x1⟩
 refine⟨_,_,zjl (gN _ _ hF15) (zlr (ho0.imp (R':=RgQ) fun p r t=>t.2.2) gN),zjl (F:=[]) hE1 .nil,zc7 _,zc7 _,_,rfl,?_⟩;rw[zib];refine iteF ?_;refine⟨_,_,zjl hFJ hoJ,zjl hDuJ (hdJ.imp (R':=RgQ) fun q r t=>t.2),zc7 _,zc7 _,_,rfl,?_⟩;rw[zib];refine iteF ?_;refine zbs ?_;simp! [zcu];refine⟨⟨_,.of hFJ⟩,?_⟩;refine zb0 (K:=K) (a:=F) (xs:=fs) (RevI J L F fs [some (V.ref a0),some (V.ref C),some (V.ref M),some (V.ref W2),some (V.ref Or),some (V.ref Du)]) ⟨_,rfl,fun b o _ z=>z,hFJ,inJ⟩ (fun i σ H' _ iv=>.of (by obtain⟨_,_,_,z,_⟩:=iv;exact z)) ?_ ?_
 ·intro _ _;rintro i v σ J1 hi ⟨o,rfl,of1,hF1,in1⟩;obtain⟨p,r,rfl,hr',hp8,npF,_⟩:=ho.2 i v hi;have pA:InA F fs p:=.inr ⟨i,hi⟩;obtain⟨xs,hx⟩:=in1 p pA;simp! [rReve,Uf,UY];refine⟨zbw hx,xs,hx,_,rfl,fun b o nb e=>?_,?_,fun b hb=>?_⟩
  ·rw[za6 (fun z=>nb (by rw[z];exact pA))]
   exact of1 b o nb e
  ·rw[za6 npF.symm];exact hF1
  ·by_cases c:b=p
   ·subst c;exact⟨_,upd_same⟩
   ·obtain⟨zs',x1⟩:=in1 b hb;exact⟨zs',by rw[za6 c];exact x1⟩
 rintro σ J1 ⟨o,rfl,of1,hF1,in1⟩;have ts1:=of1.tup inJ;have lt1:=of1.lam inJ ltJ;have hL1:=of1 _ _ (nA _ _ hL12) hLJ;have hDu1:=of1 _ _ (nA _ _ hDu12) hDuJ;have hs1:=hsJ.ts zfs ts1;have hd1:LR RgQ J1 us os:=hdJ.imp fun q r⟨n,us,x1,x2⟩=>⟨us,of1 _ _ n x1,x2.ts zbz ts1⟩;simp! [Uf,UY];refine⟨L,ls,_,rfl,hL1,by omega,hs1,Fe,lt1,fun F2 fs2 os3 g3' H21 hF2' st21 lt21 hF21 ho4 td3=>?_⟩
 have e3:os3=os:=td3.det td;subst e3;simp! [rEqD];refine⟨_,zjl hF21 (ho4.imp (R':=RgQ) fun p r t=>t.2.2),_,zjl (st21.lst lt1 hDu1) (rgs_st hd1 st21 lt1),zc7 _,zc7 _,?_⟩;rw[zib];exact k _
end
theorem all_mk{l:BW}{w:pX}{K:kM}{h:Heap}{mg:Str->Option kB}{fa f0 f1 f2 f3 f4 f5 f6 cT0 pT0 f7 f8 f9 f10 f11 f12 f13 f14 f15 f16 f17 f18 f19 f20 f21 f22 f23 f24 f25 f26 f27 f28 f29:Addr}(X:K.In h)(G:h.Ns kx mg)(hfa:mg "law"=some (.ref fa))
  {od0 an0:Option Addr}{sl0:Array (Option kB)}{oc0 kV0 dc0 pm0 cd0 ct0:kB}
  {od1 an1:Option Addr}{sl1:Array (Option kB)}{oc1 kV1 dc1 pm1 cd1 ct1:kB}
  {od2 an2:Option Addr}{sl2:Array (Option kB)}{oc2 kV2 dc2 pm2 cd2 ct2:kB}
  {od3 an3:Option Addr}{sl3:Array (Option kB)}{oc3 kV3 dc3 pm3 cd3 ct3:kB}
  {od4 an4:Option Addr}{sl4:Array (Option kB)}{oc4 kV4 dc4 pm4 cd4 ct4:kB}
  {od5 an5:Option Addr}{sl5:Array (Option kB)}{oc5 kV5 dc5 pm5 cd5 ct5:kB}
  {od6 an6:Option Addr}{sl6:Array (Option kB)}{oc6 kV6 dc6 pm6 ct6:kB}
  {tdT0:Option Addr}{tvT0:Array kB}{tsT0:Array (Option kB)}{tcT0:kB}
  {od7 an7:Option Addr}{sl7:Array (Option kB)}{oc7 kV7 dc7 pm7 cd7 ct7:kB}
  {od8 an8:Option Addr}{sl8:Array (Option kB)}{oc8 kV8 dc8 pm8 cd8 ct8:kB}
  {od9 an9:Option Addr}{sl9:Array (Option kB)}{oc9 kV9 dc9 pm9 cd9 ct9:kB}
  {od10 an10:Option Addr}{sl10:Array (Option kB)}{oc10 kV10 dc10 pm10 cd10 ct10:kB}
  {od11 an11:Option Addr}{sl11:Array (Option kB)}{oc11 kV11 dc11 pm11 cd11 ct11:kB}
  {od12 an12:Option Addr}{sl12:Array (Option kB)}{oc12 kV12 dc12 pm12 cd12 ct12:kB}
  {od13 an13:Option Addr}{sl13:Array (Option kB)}{oc13 kV13 dc13 pm13 cd13 ct13:kB}
  {od14 an14:Option Addr}{sl14:Array (Option kB)}{oc14 kV14 dc14 pm14 cd14 ct14:kB}
  {od15 an15:Option Addr}{sl15:Array (Option kB)}{oc15 kV15 dc15 pm15 cd15 ct15:kB}
  {od16 an16:Option Addr}{sl16:Array (Option kB)}{oc16 kV16 dc16 pm16 cd16 ct16:kB}
  {od17 an17:Option Addr}{sl17:Array (Option kB)}{oc17 kV17 dc17 pm17 cd17 ct17:kB}
  {od18 an18:Option Addr}{sl18:Array (Option kB)}{oc18 kV18 dc18 pm18 cd18 ct18:kB}
  {od19 an19:Option Addr}{sl19:Array (Option kB)}{oc19 kV19 dc19 pm19 cd19 ct19:kB}
  {od20 an20:Option Addr}{sl20:Array (Option kB)}{oc20 kV20 dc20 pm20 cd20 ct20:kB}
  {od21 an21:Option Addr}{sl21:Array (Option kB)}{oc21 kV21 dc21 pm21 cd21 ct21:kB}
  {od22 an22:Option Addr}{sl22:Array (Option kB)}{oc22 kV22 dc22 pm22 cd22 ct22:kB}
  {od23 an23:Option Addr}{sl23:Array (Option kB)}{oc23 kV23 dc23 pm23 cd23 ct23:kB}
  {od24 an24:Option Addr}{sl24:Array (Option kB)}{oc24 kV24 dc24 pm24 cd24 ct24:kB}
  {od25 an25:Option Addr}{sl25:Array (Option kB)}{oc25 kV25 dc25 pm25 cd25 ct25:kB}
  {od26 an26:Option Addr}{sl26:Array (Option kB)}{oc26 kV26 dc26 pm26 cd26 ct26:kB}
  {od27 an27:Option Addr}{sl27:Array (Option kB)}{oc27 kV27 dc27 pm27 cd27 ct27:kB}
  {od28 an28:Option Addr}{sl28:Array (Option kB)}{oc28 kV28 dc28 pm28 cd28 ct28:kB}
  {od29 an29:Option Addr}{sl29:Array (Option kB)}{oc29 kV29 dc29 pm29 cd29 ct29:kB}
  (a0:pR K kx "before"=some (some (.ref f0)))(l0:K.lookup f0=some ⟨oc0,od0,.func (kO "before" "before" (za5 zc1) (za4 zc1) (za0 zc1) .none kV0 dc0 pm0 an0 cd0 ct0),sl0⟩)(c0:pE K cd0 "before"=true)(k0:pH K (.ref f0)=true)
  (a1:pR K kx "sign_of"=some (some (.ref f1)))(l1:K.lookup f1=some ⟨oc1,od1,.func (kO "sign_of" "sign_of" (za5 zcg) (za4 zcg) (za0 zcg) .none kV1 dc1 pm1 an1 cd1 ct1),sl1⟩)(c1:pE K cd1 "sign_of"=true)(k1:pH K (.ref f1)=true)
  (a2:pR K kx "line_of"=some (some (.ref f2)))(l2:K.lookup f2=some ⟨oc2,od2,.func (kO "line_of" "line_of" (za5 zcf) (za4 zcf) (za0 zcf) .none kV2 dc2 pm2 an2 cd2 ct2),sl2⟩)(c2:pE K cd2 "line_of"=true)(k2:pH K (.ref f2)=true)
  (a3:pR K kx "side_of"=some (some (.ref f3)))(l3:K.lookup f3=some ⟨oc3,od3,.func (kO "side_of" "side_of" (za5 zch) (za4 zch) (za0 zch) .none kV3 dc3 pm3 an3 cd3 ct3),sl3⟩)(c3:pE K cd3 "side_of"=true)(k3:pH K (.ref f3)=true)
  (a4:pR K kx "turn"=some (some (.ref f4)))(l4:K.lookup f4=some ⟨oc4,od4,.func (kO "turn" "turn" (za5 zf8) (za4 zf8) (za0 zf8) .none kV4 dc4 pm4 an4 cd4 ct4),sl4⟩)(c4:pE K cd4 "turn"=true)(k4:pH K (.ref f4)=true)
  (a5:pR K kx "order_keys"=some (some (.ref f5)))(l5:K.lookup f5=some ⟨oc5,od5,.func (kO "order_keys" "order_keys" (za5 zap) (za4 zap) (za0 zap) .none kV5 dc5 pm5 an5 cd5 ct5),sl5⟩)(c5:pE K cd5 "order_keys"=true)(k5:pH K (.ref f5)=true)
  (a6:pR K kx "by_points"=some (some (.ref f6)))(l6:K.lookup f6=some ⟨oc6,od6,.func (kO "by_points" "by_points" (za5 zai) (za4 zai) (za0 zai) .none kV6 dc6 pm6 an6 (.ref cT0) ct6),sl6⟩)(c6:pE K (.ref cT0) "by_points"=true)(k6:pH K (.ref f6)=true)
  (lT0:K.lookup cT0=some ⟨tcT0,tdT0,.fields tvT0,tsT0⟩)(vT0:tvT0[11]?=some (.ref pT0))(hT0:PySem.W.codeHdIn K cT0 pT0=true)(tT0:Aj K "by_points"=some (cT0,pT0))(nT0:K.lookup pT0=none)
  (a7:pR K kx "rings_of"=some (some (.ref f7)))(l7:K.lookup f7=some ⟨oc7,od7,.func (kO "rings_of" "rings_of" (za5 zbj) (za4 zbj) (za0 zbj) .none kV7 dc7 pm7 an7 cd7 ct7),sl7⟩)(c7:pE K cd7 "rings_of"=true)(k7:pH K (.ref f7)=true)
  (a8:pR K kx "leaving_of"=some (some (.ref f8)))(l8:K.lookup f8=some ⟨oc8,od8,.func (kO "leaving_of" "leaving_of" (za5 zay) (za4 zay) (za0 zay) .none kV8 dc8 pm8 an8 cd8 ct8),sl8⟩)(c8:pE K cd8 "leaving_of"=true)(k8:pH K (.ref f8)=true)
  (a9:pR K kx "way_round"=some (some (.ref f9)))(l9:K.lookup f9=some ⟨oc9,od9,.func (kO "way_round" "way_round" (za5 zbg) (za4 zbg) (za0 zbg) .none kV9 dc9 pm9 an9 cd9 ct9),sl9⟩)(c9:pE K cd9 "way_round"=true)(k9:pH K (.ref f9)=true)
  (a10:pR K kx "first_right"=some (some (.ref f10)))(l10:K.lookup f10=some ⟨oc10,od10,.func (kO "first_right" "first_right" (za5 zam) (za4 zam) (za0 zam) .none kV10 dc10 pm10 an10 cd10 ct10),sl10⟩)(c10:pE K cd10 "first_right"=true)(k10:pH K (.ref f10)=true)
  (a11:pR K kx "is_met_sooner"=some (some (.ref f11)))(l11:K.lookup f11=some ⟨oc11,od11,.func (kO "is_met_sooner" "is_met_sooner" (za5 zaj) (za4 zaj) (za0 zaj) .none kV11 dc11 pm11 an11 cd11 ct11),sl11⟩)(c11:pE K cd11 "is_met_sooner"=true)(k11:pH K (.ref f11)=true)
  (a12:pR K kx "from_least"=some (some (.ref f12)))(l12:K.lookup f12=some ⟨oc12,od12,.func (kO "from_least" "from_least" (za5 zb1) (za4 zb1) (za0 zb1) .none kV12 dc12 pm12 an12 cd12 ct12),sl12⟩)(c12:pE K cd12 "from_least"=true)(k12:pH K (.ref f12)=true)
  (a13:pR K kx "_law_cell"=some (some (.ref f13)))(l13:K.lookup f13=some ⟨oc13,od13,.func (kO "_law_cell" "_law_cell" (za5 zbu) (za4 zbu) (za0 zbu) .none kV13 dc13 pm13 an13 cd13 ct13),sl13⟩)(c13:pE K cd13 "_law_cell"=true)(k13:pH K (.ref f13)=true)
  (a14:pR K kx "_law_divisor"=some (some (.ref f14)))(l14:K.lookup f14=some ⟨oc14,od14,.func (kO "_law_divisor" "_law_divisor" (za5 zan) (za4 zan) (za0 zan) .none kV14 dc14 pm14 an14 cd14 ct14),sl14⟩)(c14:pE K cd14 "_law_divisor"=true)(k14:pH K (.ref f14)=true)
  (a15:pR K kx "_law_point"=some (some (.ref f15)))(l15:K.lookup f15=some ⟨oc15,od15,.func (kO "_law_point" "_law_point" (za5 zbc) (za4 zbc) (za0 zbc) .none kV15 dc15 pm15 an15 cd15 ct15),sl15⟩)(c15:pE K cd15 "_law_point"=true)(k15:pH K (.ref f15)=true)
  (a16:pR K kx "_law_cells"=some (some (.ref f16)))(l16:K.lookup f16=some ⟨oc16,od16,.func (kO "_law_cells" "_law_cells" (za5 zbe) (za4 zbe) (za0 zbe) .none kV16 dc16 pm16 an16 cd16 ct16),sl16⟩)(c16:pE K cd16 "_law_cells"=true)(k16:pH K (.ref f16)=true)
  (a17:pR K kx "_law_ends"=some (some (.ref f17)))(l17:K.lookup f17=some ⟨oc17,od17,.func (kO "_law_ends" "_law_ends" (za5 zbv) (za4 zbv) (za0 zbv) .none kV17 dc17 pm17 an17 cd17 ct17),sl17⟩)(c17:pE K cd17 "_law_ends"=true)(k17:pH K (.ref f17)=true)
  (a18:pR K kx "_law_edges"=some (some (.ref f18)))(l18:K.lookup f18=some ⟨oc18,od18,.func (kO "_law_edges" "_law_edges" (za5 zb3) (za4 zb3) (za0 zb3) .none kV18 dc18 pm18 an18 cd18 ct18),sl18⟩)(c18:pE K cd18 "_law_edges"=true)(k18:pH K (.ref f18)=true)
  (a19:pR K kx "_law_straight"=some (some (.ref f19)))(l19:K.lookup f19=some ⟨oc19,od19,.func (kO "_law_straight" "_law_straight" (za5 zak) (za4 zak) (za0 zak) .none kV19 dc19 pm19 an19 cd19 ct19),sl19⟩)(c19:pE K cd19 "_law_straight"=true)(k19:pH K (.ref f19)=true)
  (a20:pR K kx "_law_long"=some (some (.ref f20)))(l20:K.lookup f20=some ⟨oc20,od20,.func (kO "_law_long" "_law_long" (za5 zb6) (za4 zb6) (za0 zb6) .none kV20 dc20 pm20 an20 cd20 ct20),sl20⟩)(c20:pE K cd20 "_law_long"=true)(k20:pH K (.ref f20)=true)
  (a21:pR K kx "_law_frame"=some (some (.ref f21)))(l21:K.lookup f21=some ⟨oc21,od21,.func (kO "_law_frame" "_law_frame" (za5 zbd) (za4 zbd) (za0 zbd) .none kV21 dc21 pm21 an21 cd21 ct21),sl21⟩)(c21:pE K cd21 "_law_frame"=true)(k21:pH K (.ref f21)=true)
  (a22:pR K kx "_law_moved"=some (some (.ref f22)))(l22:K.lookup f22=some ⟨oc22,od22,.func (kO "_law_moved" "_law_moved" (za5 zbf) (za4 zbf) (za0 zbf) .none kV22 dc22 pm22 an22 cd22 ct22),sl22⟩)(c22:pE K cd22 "_law_moved"=true)(k22:pH K (.ref f22)=true)
  (a23:pR K kx "_law_land"=some (some (.ref f23)))(l23:K.lookup f23=some ⟨oc23,od23,.func (kO "_law_land" "_law_land" (za5 zbk) (za4 zbk) (za0 zbk) .none kV23 dc23 pm23 an23 cd23 ct23),sl23⟩)(c23:pE K cd23 "_law_land"=true)(k23:pH K (.ref f23)=true)
  (a24:pR K kx "_law_told"=some (some (.ref f24)))(l24:K.lookup f24=some ⟨oc24,od24,.func (kO "_law_told" "_law_told" (za5 zbl) (za4 zbl) (za0 zbl) .none kV24 dc24 pm24 an24 cd24 ct24),sl24⟩)(c24:pE K cd24 "_law_told"=true)(k24:pH K (.ref f24)=true)
  (a25:pR K kx "_law_way"=some (some (.ref f25)))(l25:K.lookup f25=some ⟨oc25,od25,.func (kO "_law_way" "_law_way" (za5 zcc) (za4 zcc) (za0 zcc) .none kV25 dc25 pm25 an25 cd25 ct25),sl25⟩)(c25:pE K cd25 "_law_way"=true)(k25:pH K (.ref f25)=true)
  (a26:pR K kx "_law_next"=some (some (.ref f26)))(l26:K.lookup f26=some ⟨oc26,od26,.func (kO "_law_next" "_law_next" (za5 zbt) (za4 zbt) (za0 zbt) .none kV26 dc26 pm26 an26 cd26 ct26),sl26⟩)(c26:pE K cd26 "_law_next"=true)(k26:pH K (.ref f26)=true)
  (a27:pR K kx "_law_cut"=some (some (.ref f27)))(l27:K.lookup f27=some ⟨oc27,od27,.func (kO "_law_cut" "_law_cut" (za5 zcd) (za4 zcd) (za0 zcd) .none kV27 dc27 pm27 an27 cd27 ct27),sl27⟩)(c27:pE K cd27 "_law_cut"=true)(k27:pH K (.ref f27)=true)
  (a28:pR K kx "_law_rings"=some (some (.ref f28)))(l28:K.lookup f28=some ⟨oc28,od28,.func (kO "_law_rings" "_law_rings" (za5 zb4) (za4 zb4) (za0 zb4) .none kV28 dc28 pm28 an28 cd28 ct28),sl28⟩)(c28:pE K cd28 "_law_rings"=true)(k28:pH K (.ref f28)=true)
  (a29:pR K kx "law"=some (some (.ref f29)))(l29:K.lookup f29=some ⟨oc29,od29,.func (kO "law" "law" (za5 zeu) (za4 zeu) (za0 zeu) .none kV29 dc29 pm29 an29 cd29 ct29),sl29⟩)(c29:pE K cd29 "law"=true)(k29:pH K (.ref f29)=true)
  (z0:pR K kx "abs"=some none)
  (z1:pR K kx "int"=some none)
  (z2:pR K kx "len"=some none)
  (z3:pR K kx "max"=some none)
  (z4:pR K kx "min"=some none)
  (z5:pR K kx "range"=some none)
  (z6:pR K kx "sorted"=some none)
  :∃(fd:UZ)(ts:List Addr),(∀b,b∈ts->K.lookup b=none/\∃y c,y∈([Qq "by_points"]:List Str)/\Aj K y=some (c,b))/\(∀(s:kC)(v:kB),Cf s fd ⟨[v],[]⟩ [("_law_script",v)])/\∀base:Heap,K.In base->base.Ns kx mg->(∀b,b∈ts->base.BuiltinsAt mg b)->FnOk l.prog w K mg base CX0 8 fa fd ["_law_script"] (zi0 K ts):=by
 have e:=hfa.symm.trans (pU X G a29)
 cases e;have F0:=zau (st:=zc1) l0 c0 k0;have b0:=F0.binds (ps:=["P","Q"]) fun _ _ _ _ _ _ us hl=>match us,hl with|[_,_],_=>rfl
 have F1:=zau (st:=zcg) l1 c1 k1;have b1:=F1.binds (ps:=["number"]) fun _ _ _ _ _ _ us hl=>match us,hl with|[_],_=>rfl
 have F2:=zau (st:=zcf) l2 c2 k2;have b2:=F2.binds (ps:=["P","Q"]) fun _ _ _ _ _ _ us hl=>match us,hl with|[_,_],_=>rfl
 have F3:=zau (st:=zch) l3 c3 k3;have b3:=F3.binds (ps:=["line","P"]) fun _ _ _ _ _ _ us hl=>match us,hl with|[_,_],_=>rfl
 have F4:=zau (st:=zf8) l4 c4 k4;have b4:=F4.binds (ps:=["P","Q","R"]) fun _ _ _ _ _ _ us hl=>match us,hl with|[_,_,_],_=>rfl
 have F5:=zau (st:=zap) l5 c5 k5;have b5:=F5.binds (ps:=["points"]) fun _ _ _ _ _ _ us hl=>match us,hl with|[_],_=>rfl
 have F6:=zau (st:=zai) l6 c6 k6;have FC6:FunC K "by_points" "by_points" zai f6 _ cT0 pT0:=⟨⟨_,_,_,_,_,_,_,_,rfl,l6,c6⟩,hT0⟩;have b6:=F6.binds (ps:=["things"]) fun _ _ _ _ _ _ us hl=>match us,hl with|[_],_=>rfl
 have F7:=zau (st:=zbj) l7 c7 k7;have b7:=F7.binds (ps:=["land"]) fun _ _ _ _ _ _ us hl=>match us,hl with|[_],_=>rfl
 have F8:=zau (st:=zay) l8 c8 k8;have b8:=F8.binds (ps:=["land"]) fun _ _ _ _ _ _ us hl=>match us,hl with|[_],_=>rfl
 have F9:=zau (st:=zbg) l9 c9 k9;have b9:=F9.binds (ps:=["start","leaving","gone"]) fun _ _ _ _ _ _ us hl=>match us,hl with|[_,_,_],_=>rfl
 have F10:=zau (st:=zam) l10 c10 k10;have b10:=F10.binds (ps:=["P","Q","tips"]) fun _ _ _ _ _ _ us hl=>match us,hl with|[_,_,_],_=>rfl
 have F11:=zau (st:=zaj) l11 c11 k11;have b11:=F11.binds (ps:=["P","Q","one","other"]) fun _ _ _ _ _ _ us hl=>match us,hl with|[_,_,_,_],_=>rfl
 have F12:=zau (st:=zb1) l12 c12 k12;have b12:=F12.binds (ps:=["ring"]) fun _ _ _ _ _ _ us hl=>match us,hl with|[_],_=>rfl
 have F13:=zau (st:=zbu) l13 c13 k13;have b13:=F13.binds (ps:=["_law_script","_law_k"]) fun _ _ _ _ _ _ us hl=>match us,hl with|[_,_],_=>rfl
 have F14:=zau (st:=zan) l14 c14 k14;have b14:=F14.binds (ps:=["_law_one","_law_other"]) fun _ _ _ _ _ _ us hl=>match us,hl with|[_,_],_=>rfl
 have F15:=zau (st:=zbc) l15 c15 k15;have b15:=F15.binds (ps:=["_law_east","_law_north","_law_share"]) fun _ _ _ _ _ _ us hl=>match us,hl with|[_,_,_],_=>rfl
 have F16:=zau (st:=zbe) l16 c16 k16;have b16:=F16.binds (ps:=["_law_script","_law_wide","_law_high"]) fun _ _ _ _ _ _ us hl=>match us,hl with|[_,_,_],_=>rfl
 have F17:=zau (st:=zbv) l17 c17 k17;have b17:=F17.binds (ps:=["_law_cell_here"]) fun _ _ _ _ _ _ us hl=>match us,hl with|[_],_=>rfl
 have F18:=zau (st:=zb3) l18 c18 k18;have b18:=F18.binds (ps:=["_law_cells_here"]) fun _ _ _ _ _ _ us hl=>match us,hl with|[_],_=>rfl
 have F19:=zau (st:=zak) l19 c19 k19;have b19:=F19.binds (ps:=["_law_starts","_law_begin","_law_end"]) fun _ _ _ _ _ _ us hl=>match us,hl with|[_,_,_],_=>rfl
 have F20:=zau (st:=zb6) l20 c20 k20;have b20:=F20.binds (ps:=["_law_edges_here"]) fun _ _ _ _ _ _ us hl=>match us,hl with|[_],_=>rfl
 have F21:=zau (st:=zbd) l21 c21 k21;have b21:=F21.binds (ps:=["_law_script"]) fun _ _ _ _ _ _ us hl=>match us,hl with|[_],_=>rfl
 have F22:=zau (st:=zbf) l22 c22 k22;have b22:=F22.binds (ps:=["_law_place","_law_frame_here"]) fun _ _ _ _ _ _ us hl=>match us,hl with|[_,_],_=>rfl
 have F23:=zau (st:=zbk) l23 c23 k23;have b23:=F23.binds (ps:=["_law_cells_here","_law_frame_here"]) fun _ _ _ _ _ _ us hl=>match us,hl with|[_,_],_=>rfl
 have F24:=zau (st:=zbl) l24 c24 k24;have b24:=F24.binds (ps:=["_law_ways","_law_share"]) fun _ _ _ _ _ _ us hl=>match us,hl with|[_,_],_=>rfl
 have F25:=zau (st:=zcc) l25 c25 k25;have b25:=F25.binds (ps:=["_law_one","_law_other"]) fun _ _ _ _ _ _ us hl=>match us,hl with|[_,_],_=>rfl
 have F26:=zau (st:=zbt) l26 c26 k26;have b26:=F26.binds (ps:=["_law_ways","_law_begin","_law_end"]) fun _ _ _ _ _ _ us hl=>match us,hl with|[_,_,_],_=>rfl
 have F27:=zau (st:=zcd) l27 c27 k27;have b27:=F27.binds (ps:=["_law_ways","_law_first","_law_gone"]) fun _ _ _ _ _ _ us hl=>match us,hl with|[_,_,_],_=>rfl
 have F28:=zau (st:=zb4) l28 c28 k28;have b28:=F28.binds (ps:=["_law_ways","_law_frame_here"]) fun _ _ _ _ _ _ us hl=>match us,hl with|[_,_],_=>rfl
 have F29:=zau (st:=zeu) l29 c29 k29;have b29:=F29.binds (ps:=["_law_script"]) fun _ _ _ _ _ _ us hl=>match us,hl with|[_],_=>rfl
 have T:Txt K mg (fun n=>[f0,f1,f2,f3,f4,f5,f6,f7,f8,f9,f10,f11,f12,f13,f14,f15,f16,f17,f18,f19,f20,f21,f22,f23,f24,f25,f26,f27,f28,fa,cT0,pT0].getD n 0) (fun n=>[kO "before" "before" (za5 zc1) (za4 zc1) (za0 zc1) .none kV0 dc0 pm0 an0 cd0 ct0,kO "sign_of" "sign_of" (za5 zcg) (za4 zcg) (za0 zcg) .none kV1 dc1 pm1 an1 cd1 ct1,kO "line_of" "line_of" (za5 zcf) (za4 zcf) (za0 zcf) .none kV2 dc2 pm2 an2 cd2 ct2,kO "side_of" "side_of" (za5 zch) (za4 zch) (za0 zch) .none kV3 dc3 pm3 an3 cd3 ct3,kO "turn" "turn" (za5 zf8) (za4 zf8) (za0 zf8) .none kV4 dc4 pm4 an4 cd4 ct4,kO "order_keys" "order_keys" (za5 zap) (za4 zap) (za0 zap) .none kV5 dc5 pm5 an5 cd5 ct5,kO "by_points" "by_points" (za5 zai) (za4 zai) (za0 zai) .none kV6 dc6 pm6 an6 (.ref cT0) ct6,kO "rings_of" "rings_of" (za5 zbj) (za4 zbj) (za0 zbj) .none kV7 dc7 pm7 an7 cd7 ct7,kO "leaving_of" "leaving_of" (za5 zay) (za4 zay) (za0 zay) .none kV8 dc8 pm8 an8 cd8 ct8,kO "way_round" "way_round" (za5 zbg) (za4 zbg) (za0 zbg) .none kV9 dc9 pm9 an9 cd9 ct9,kO "first_right" "first_right" (za5 zam) (za4 zam) (za0 zam) .none kV10 dc10 pm10 an10 cd10 ct10,kO "is_met_sooner" "is_met_sooner" (za5 zaj) (za4 zaj) (za0 zaj) .none kV11 dc11 pm11 an11 cd11 ct11,kO "from_least" "from_least" (za5 zb1) (za4 zb1) (za0 zb1) .none kV12 dc12 pm12 an12 cd12 ct12,kO "_law_cell" "_law_cell" (za5 zbu) (za4 zbu) (za0 zbu) .none kV13 dc13 pm13 an13 cd13 ct13,kO "_law_divisor" "_law_divisor" (za5 zan) (za4 zan) (za0 zan) .none kV14 dc14 pm14 an14 cd14 ct14,kO "_law_point" "_law_point" (za5 zbc) (za4 zbc) (za0 zbc) .none kV15 dc15 pm15 an15 cd15 ct15,kO "_law_cells" "_law_cells" (za5 zbe) (za4 zbe) (za0 zbe) .none kV16 dc16 pm16 an16 cd16 ct16,kO "_law_ends" "_law_ends" (za5 zbv) (za4 zbv) (za0 zbv) .none kV17 dc17 pm17 an17 cd17 ct17,kO "_law_edges" "_law_edges" (za5 zb3) (za4 zb3) (za0 zb3) .none kV18 dc18 pm18 an18 cd18 ct18,kO "_law_straight" "_law_straight" (za5 zak) (za4 zak) (za0 zak) .none kV19 dc19 pm19 an19 cd19 ct19,kO "_law_long" "_law_long" (za5 zb6) (za4 zb6) (za0 zb6) .none kV20 dc20 pm20 an20 cd20 ct20,kO "_law_frame" "_law_frame" (za5 zbd) (za4 zbd) (za0 zbd) .none kV21 dc21 pm21 an21 cd21 ct21,kO "_law_moved" "_law_moved" (za5 zbf) (za4 zbf) (za0 zbf) .none kV22 dc22 pm22 an22 cd22 ct22,kO "_law_land" "_law_land" (za5 zbk) (za4 zbk) (za0 zbk) .none kV23 dc23 pm23 an23 cd23 ct23,kO "_law_told" "_law_told" (za5 zbl) (za4 zbl) (za0 zbl) .none kV24 dc24 pm24 an24 cd24 ct24,kO "_law_way" "_law_way" (za5 zcc) (za4 zcc) (za0 zcc) .none kV25 dc25 pm25 an25 cd25 ct25,kO "_law_next" "_law_next" (za5 zbt) (za4 zbt) (za0 zbt) .none kV26 dc26 pm26 an26 cd26 ct26,kO "_law_cut" "_law_cut" (za5 zcd) (za4 zcd) (za0 zcd) .none kV27 dc27 pm27 an27 cd27 ct27,kO "_law_rings" "_law_rings" (za5 zb4) (za4 zb4) (za0 zb4) .none kV28 dc28 pm28 an28 cd28 ct28,kO "law" "law" (za5 zeu) (za4 zeu) (za0 zeu) .none kV29 dc29 pm29 an29 cd29 ct29].getD n (kO "before" "before" (za5 zc1) (za4 zc1) (za0 zc1) .none kV0 dc0 pm0 an0 cd0 ct0)):=
  ⟨⟨F0,b0,pU X G a0⟩,⟨F1,b1,pU X G a1⟩,⟨F2,b2,pU X G a2⟩,⟨F3,b3,pU X G a3⟩,⟨F4,b4,pU X G a4⟩,⟨F5,b5,pU X G a5⟩,⟨F6,b6,pU X G a6⟩,FC6,⟨F7,b7,pU X G a7⟩,⟨F8,b8,pU X G a8⟩,⟨F9,b9,pU X G a9⟩,⟨F10,b10,pU X G a10⟩,⟨F11,b11,pU X G a11⟩,⟨F12,b12,pU X G a12⟩,⟨F13,b13,pU X G a13⟩,⟨F14,b14,pU X G a14⟩,⟨F15,b15,pU X G a15⟩,⟨F16,b16,pU X G a16⟩,⟨F17,b17,pU X G a17⟩,⟨F18,b18,pU X G a18⟩,⟨F19,b19,pU X G a19⟩,⟨F20,b20,pU X G a20⟩,⟨F21,b21,pU X G a21⟩,⟨F22,b22,pU X G a22⟩,⟨F23,b23,pU X G a23⟩,⟨F24,b24,pU X G a24⟩,⟨F25,b25,pU X G a25⟩,⟨F26,b26,pU X G a26⟩,⟨F27,b27,pU X G a27⟩,⟨F28,b28,pU X G a28⟩,⟨F29,b29,pU X G a29⟩,UI X G z0,UI X G z1,UI X G z2,UI X G z3,UI X G z4,UI X G z5,UI X G z6⟩
 exact⟨kO "law" "law" (za5 zeu) (za4 zeu) (za0 zeu) .none kV29 dc29 pm29 an29 cd29 ct29,[pT0],fun b hb=>by rw[kU.mp hb];exact⟨nT0,_,cT0,kU.mpr rfl,tT0⟩,fun s v=>.of_eq rfl,fun base hK _ hB=>ok_law T hK (hB _ (kU.mpr rfl))⟩
theorem walk{l:BW}{q:kq}{loose:List Str}{XP:(Str->Option kB)->Heap->Prop}{YP:pX->Heap->Prop}{d:DefRec}{K:Params->kM}(hn:l.most=some 63)(hdf:d.params.defaults=[])
  (hY:∀(w:pX)(h:Heap),YP w h->(K w.params).In h)(hD:∀y,y∈([Qq "by_points"]:List Str)->∃e,(PyProof.Rows.recsOf q).find? (fun e=>e.name==y)=some e)
  (F:∀(w:pX)(mg:Str->Option kB)(fa:Addr)(h:Heap),(K w.params).In h->h.Ns kx mg->mg d.name=some (.ref fa)->
   ∃(fd:UZ)(ts:List Addr),(∀b,b∈ts->(K w.params).lookup b=none/\∃y c,y∈([Qq "by_points"]:List Str)/\Aj (K w.params) y=some (c,b))/\(∀(s:kC)(u:kB),Cf s fd ⟨[u],[]⟩ [("_law_script",u)])/\∀base:Heap,(K w.params).In base->base.Ns kx mg->(∀b,b∈ts->base.BuiltinsAt mg b)->FnOk l.prog w (K w.params) mg base CX0 8 fa fd ["_law_script"] (zi0 (K w.params) ts)):
  Dy q loose XP YP l.row.toRowW d [] (fun f vs=>Dk f vs):=
 L2.walk_ofT (n:=63) (k:=8) (x:="_law_script") (CX:=fun _=>CX0) (sp:=fun w ts=>zi0 (K w.params) ts) (ds:=[Qq "by_points"]) hn (by decide) hdf ⟨rfl,by decide,by decide⟩ hY hD F (fun _ _ a ns ts hl hO hS=>⟨a,ns,rfl,hS,hl,fun b hb=>zml (hO.tabs b hb),fun _=>rfl⟩) fun _ _ _ _ _ z=>z
end Mine
namespace PySem.W.Fast
def tw2066098665036382698:Nat:=0
def tw16262006785274550159:Nat:=0
def tw5641262895032438039:Nat:=0
def tw5237131541476850582:Nat:=0
def tw7967191400366305803:Nat:=0
def tw4857947334318731201:Nat:=0
def tw9210177472931416037:Nat:=0
def tw6915840682068107082:Nat:=0
def tw16641952217402234921:Nat:=0
def tw7316898961366631856:Nat:=0
def tw1683460981149382778:Nat:=0
def tw1044437885259435395:Nat:=0
def tw8526235910926762136:Nat:=0
def tw1875625641776480058:Nat:=0
def tw4209893586351126833:Nat:=0
def tw12714827911911911319:Nat:=0
def tw13496145601091752517:Nat:=0
def tw17153791681327220839:Nat:=0
def tw1029452129251237285:Nat:=0
def tw18219607014935546463:Nat:=0
def tw7559040555187263495:Nat:=0
def tw8568091715342343660:Nat:=0
def tw10902756662824858114:Nat:=0
def tw9078816173863756941:Nat:=0
def tw733112440337285351:Nat:=0
def tw4977233619652991850:Nat:=0
def tw16341490420618648057:Nat:=0
def tw17635808354363832126:Nat:=0
def tw4885309253785601935:Nat:=0
def tw2571250189662474244:Nat:=0
def tw110618853690539929:Nat:=0
def tw12527719049411016521:Nat:=0
def tw17626513701935865474:Nat:=0
def tw4820452524840478449:Nat:=0
def tw7502150274879298345:Nat:=0
def tw10708210643480625734:Nat:=0
def tw18436082954992989054:Nat:=0
def tw9269182372507700052:Nat:=0
def tw16672263481392393412:Nat:=0
def tw14469503425929183833:Nat:=0
def tw962752823940268783:Nat:=0
def tw10193218664049127079:Nat:=0
def tw18410169975120350223:Nat:=0
def tw8482301014591034800:Nat:=0
def tw11998498020516281512:Nat:=0
def tw17962743683638570027:Nat:=0
def tw14300526301407735081:Nat:=0
def tw2715762450703029563:Nat:=0
def tw10696337114206426251:Nat:=0
def tw5218279662309472878:Nat:=0
def tw9318667932687906676:Nat:=0
def tw7460993929607734442:Nat:=0
def tw8205818248292865802:Nat:=0
def tw13484239579458049146:Nat:=0
def tw7308874987124460578:Nat:=0
def tw3002736454874427336:Nat:=0
def tw13720456626516263230:Nat:=0
def tw7331712457907320177:Nat:=0
def tw9729479994631545570:Nat:=0
def tw6413434070540063070:Nat:=0
def tw11310517850224080509:Nat:=0
def tw10847442276011666322:Nat:=0
def tw4401315183990193549:Nat:=0
def tw11462391365140469224:Nat:=0
def tw4285738106009249500:Nat:=0
def tw16968552252376263055:Nat:=0
def tw806294059248462279:Nat:=0
def tw17691988228222227896:Nat:=0
def tw15890952153396390236:Nat:=0
def tw2023773490641580924:Nat:=0
def tw10229658432317896650:Nat:=0
def tw3477392138912233085:Nat:=0
def tw16539858705018212216:Nat:=0
def tw16300608197533327004:Nat:=0
def tw8371378663243151049:Nat:=0
def tw13999578738966915567:Nat:=0
def tw4372540119238369737:Nat:=0
def tw18287592804356664268:Nat:=0
def tw2872061108940389742:Nat:=0
def tw3065838238611116821:Nat:=0
def tw3643459874352278483:Nat:=0
def tw15683308458765422494:Nat:=0
def tw3500224397235236221:Nat:=0
def tw7361171322690261951:Nat:=0
def tw6273234933579223379:Nat:=0
def tw13725907796417338135:Nat:=0
def tw13455447178982715893:Nat:=0
def tw816770143941531194:Nat:=0
def tw10643213337293930643:Nat:=0
def tw2913087740926716379:Nat:=0
def tw15183216283897124940:Nat:=0
def tw923498695686082028:Nat:=0
def tw6149400498910610474:Nat:=0
def tw9185756309633826762:Nat:=0
def tw12978349274214090372:Nat:=0
def tw7605849982028663250:Nat:=0
def tw1297135234163884387:Nat:=0
def tw7608297309697843015:Nat:=0
def tw4927190537053386057:Nat:=0
def tw10315214886838679070:Nat:=0
def tw12420409031422292247:Nat:=0
def tw17074077315536573270:Nat:=0
def tw9934242677644192649:Nat:=0
def tw6921376428352832621:Nat:=0
def tw1472493296124452969:Nat:=0
def tw236893315896259122:Nat:=0
def tw4503791807638649567:Nat:=0
def tw11254302238378654612:Nat:=0
def tw12064738966238084621:Nat:=0
def tw8519874585995079338:Nat:=0
def tw15201104864263963897:Nat:=0
def tw9870584924834364291:Nat:=0
def tw10364056811587813332:Nat:=0
def tw12084403337453553628:Nat:=0
def tw11259750496891794401:Nat:=0
def tw5784135329757708096:Nat:=0
def tw1204767076646126610:Nat:=0
def tw17826213339658035938:Nat:=0
def tw11347006246200834223:Nat:=0
def tw17203025315090441272:Nat:=0
def tw16055725512523748292:Nat:=0
def tw17361776227550160107:Nat:=0
def tw394043837845331268:Nat:=0
def tw7743723732749905971:Nat:=0
def tw760270427803274104:Nat:=0
end PySem.W.Fast
open PySem PySem.W PyProof.Rows
set_option maxRecDepth 100000 in
set_option maxHeartbeats 0 in
theorem PySem.Challenge.cw_acre_k42_rings_by_left_turns_holds : PySem.Challenge.rw_acre_k42_rings_by_left_turns.Holds := by
 w_on;o_law;k_head;(case hw=>w_witness2)
 k_fill
 refine Mine.walk (l:=PySem.Challenge.rw_acre_k42_rings_by_left_turns) rfl rfl (fun w h Y=>PySem.W.km_in_of Y) (fun y hy=>by rw[kU.mp hy];exact⟨_,rfl⟩) ?F
 case F=>
  intro w mg fa h KX G hmg
  refine' Mine.all_mk KX G hmg ?a0 ?l0 ?c0 ?k0 ?a1 ?l1 ?c1 ?k1 ?a2 ?l2 ?c2 ?k2 ?a3 ?l3 ?c3 ?k3 ?a4 ?l4 ?c4 ?k4 ?a5 ?l5 ?c5 ?k5 ?a6 ?l6 ?c6 ?k6 ?lT0 ?vT0 ?hT0 ?tT0 ?nT0 ?a7 ?l7 ?c7 ?k7 ?a8 ?l8 ?c8 ?k8 ?a9 ?l9 ?c9 ?k9 ?a10 ?l10 ?c10 ?k10 ?a11 ?l11 ?c11 ?k11 ?a12 ?l12 ?c12 ?k12 ?a13 ?l13 ?c13 ?k13 ?a14 ?l14 ?c14 ?k14 ?a15 ?l15 ?c15 ?k15 ?a16 ?l16 ?c16 ?k16 ?a17 ?l17 ?c17 ?k17 ?a18 ?l18 ?c18 ?k18 ?a19 ?l19 ?c19 ?k19 ?a20 ?l20 ?c20 ?k20 ?a21 ?l21 ?c21 ?k21 ?a22 ?l22 ?c22 ?k22 ?a23 ?l23 ?c23 ?k23 ?a24 ?l24 ?c24 ?k24 ?a25 ?l25 ?c25 ?k25 ?a26 ?l26 ?c26 ?k26 ?a27 ?l27 ?c27 ?k27 ?a28 ?l28 ?c28 ?k28 ?a29 ?l29 ?c29 ?k29 ?z0 ?z1 ?z2 ?z3 ?z4 ?z5 ?z6
  (case a0=>k_is)
  (case l0=>k_is)
  (case c0=>k_is)
  (case k0=>k_is)
  (case a1=>k_is)
  (case l1=>k_is)
  (case c1=>k_is)
  (case k1=>k_is)
  (case a2=>k_is)
  (case l2=>k_is)
  (case c2=>k_is)
  (case k2=>k_is)
  (case a3=>k_is)
  (case l3=>k_is)
  (case c3=>k_is)
  (case k3=>k_is)
  (case a4=>k_is)
  (case l4=>k_is)
  (case c4=>k_is)
  (case k4=>k_is)
  (case a5=>k_is)
  (case l5=>k_is)
  (case c5=>k_is)
  (case k5=>k_is)
  (case a6=>k_is)
  (case l6=>k_is)
  (case c6=>k_is)
  (case k6=>k_is)
  (case lT0=>k_is)
  (case vT0=>rfl)
  (case hT0=>kernel_rfl)
  (case tT0=>kernel_rfl)
  (case nT0=>kernel_rfl)
  (case a7=>k_is)
  (case l7=>k_is)
  (case c7=>k_is)
  (case k7=>k_is)
  (case a8=>k_is)
  (case l8=>k_is)
  (case c8=>k_is)
  (case k8=>k_is)
  (case a9=>k_is)
  (case l9=>k_is)
  (case c9=>k_is)
  (case k9=>k_is)
  (case a10=>k_is)
  (case l10=>k_is)
  (case c10=>k_is)
  (case k10=>k_is)
  (case a11=>k_is)
  (case l11=>k_is)
  (case c11=>k_is)
  (case k11=>k_is)
  (case a12=>k_is)
  (case l12=>k_is)
  (case c12=>k_is)
  (case k12=>k_is)
  (case a13=>k_is)
  (case l13=>k_is)
  (case c13=>k_is)
  (case k13=>k_is)
  (case a14=>k_is)
  (case l14=>k_is)
  (case c14=>k_is)
  (case k14=>k_is)
  (case a15=>k_is)
  (case l15=>k_is)
  (case c15=>k_is)
  (case k15=>k_is)
  (case a16=>k_is)
  (case l16=>k_is)
  (case c16=>k_is)
  (case k16=>k_is)
  (case a17=>k_is)
  (case l17=>k_is)
  (case c17=>k_is)
  (case k17=>k_is)
  (case a18=>k_is)
  (case l18=>k_is)
  (case c18=>k_is)
  (case k18=>k_is)
  (case a19=>k_is)
  (case l19=>k_is)
  (case c19=>k_is)
  (case k19=>k_is)
  (case a20=>k_is)
  (case l20=>k_is)
  (case c20=>k_is)
  (case k20=>k_is)
  (case a21=>k_is)
  (case l21=>k_is)
  (case c21=>k_is)
  (case k21=>k_is)
  (case a22=>k_is)
  (case l22=>k_is)
  (case c22=>k_is)
  (case k22=>k_is)
  (case a23=>k_is)
  (case l23=>k_is)
  (case c23=>k_is)
  (case k23=>k_is)
  (case a24=>k_is)
  (case l24=>k_is)
  (case c24=>k_is)
  (case k24=>k_is)
  (case a25=>k_is)
  (case l25=>k_is)
  (case c25=>k_is)
  (case k25=>k_is)
  (case a26=>k_is)
  (case l26=>k_is)
  (case c26=>k_is)
  (case k26=>k_is)
  (case a27=>k_is)
  (case l27=>k_is)
  (case c27=>k_is)
  (case k27=>k_is)
  (case a28=>k_is)
  (case l28=>k_is)
  (case c28=>k_is)
  (case k28=>k_is)
  (case a29=>k_is)
  (case l29=>k_is)
  (case c29=>k_is)
  (case k29=>k_is)
  (case z0=>k_is)
  (case z1=>k_is)
  (case z2=>k_is)
  (case z3=>k_is)
  (case z4=>k_is)
  (case z5=>k_is)
  (case z6=>k_is)
