import PyProof.Rows.All
import Wide.All
import OpenK.AllK
import Wide.FinOn
import Lean
import PyProof.EqAt
import PyProof.EqKinds
import PyProof.TupleCall
import PySem.Challenge.RW_acre_k43_rings_counted
open PySem renaming wpAny_bind→kA,Value→kB,Shared→kC,wpAny_pure→kL,mainGlobals→kY,Program→pA,World→pR,Around→pj,tupleKind→uJ,starEach→uK,mem_of_lookup→uP,tupleKind_room_in1→uj,bootBuiltins→uo,wpAny_mono→uv,wpAny_holding→QD,sysModules→QP,compareOp→Ql,wpAny_rule→Qm,wpAny_typeNameOfWhole_keyiter→Qr,wpAny_truthy_bool→Qt,FuncData→Qy,wpAny_passesOwn→UJ,call_isinstance→UK,wpAny_dictEntries→UQ,rawInt→UW,wpAny_typeNameOf_keyiter→UY,isSubtype_type→Ue,wpAny_call_entry→Ug,wpAny_Call_Name_kw→Ul,wpAny_newObj_type→Uz,backTo→vC,keywordEach→vE,wpAny_seqItems→vI,wpAny_forIn_list→vN,wpAny_isInstance→vQ,plainId_quiet→va,wpAny_specialOf→vg,codeAny_builtin→vh,assignEach→vk,sliceBounds→vm,Fin→vn,Paired→vv,foldedSetIterable→vx,binaryOp→vz,Builtin→jD,argBest→jF,wpAny_tryCatch→jG,tupleKeyHash→jI,wpAny_notOrdered_dict→jQ,wpAny_isOneOf_keyiter→jR,isSubtype_tuple_tuple→jS,isSubtype→jV,behindInMarks→jZ,wpAny_standAt→jc,wpAny_newList→jd,compEnvC→jf,wpAny_letGo→jh,wpAny_execs_nil→jk,letOwnedTupleGo→jl,codeAny→ju,backToKw→jz,NameKind→hU,wpAny_fieldsOf→gH,wpAny_tupleItemsOf→gI,wpAny_pyIter_list→gX,sizeLine_eq→gY,Keyword→gZ,wpAny_Call_method→ge,attributeBase→gu,wpAny_attempt→gz,Arguments→AH,DictEntry→AJ,wpAny_callSpecial?_slot→AN,builtinsNs→AX,codeAny_mono→AZ,richCompare_meets_room→Ad,wpAny_Assign_Subscript→Ag,call_meetsIn→Ah,wpAny_loadPart'→An,wpAny_updateSeq→Ap,size_of_entries→Aq,wpAny_dictEpoch→Ar,wpAny_isTrue_Compare1→Aw,intBits_le_iff→BE,wpAny_newFunctionEnv→BF,PyData→BH,dictSetDefault→BL,wpAny_updateDictKeys→BM,swapsWith→BW,callerA→BX,valueAt→BY,wpAny_dictFind_heap→BZ,assignInOrder→Bc,Spec→Bh,call_meets→Bi,closureFor→Bj,wpAny_setItem_heap→Bk,isInstance→Bm,wpAny_assign_Name→Br,BindsTo→Bu,bindArgs→Bv,getItem→By,slot_list_getitem→Bz,storedH→CB,wpAny_execs_cons→CL,pyNext→CM,wpAny_Dict_empty→CV,seqItems?→CY,eqIsQuiet→Ca,pairTrees_length→Ce,preSum→Cf,richCompare→Ck,storedH_new→Cm,entryOfKey→DA,wpAny_Name→DB,bindName→DC,call→DF,cellsFrom→DS,Result→DU,typeOf→DV
open PyProof.Rows renaming wpS_pure→kD,wpS_bind→kF,seqObj→pP,pendingOf→pz,wpS_forRange→uD,Keyed→uI,wpS_modify→uN,SortSt→ud,wpS_mono→uu,listItems_at→QM,mirror_perm→UN,SortKind→UO,setArr→Ub,listUpdate_at→Ut,callWith_type1→vA,IntsAre→vM,failedOf→vZ,get?_update_seq→vf,wpS_get→vj,assignInOrder_cons→jy,wpS_lift→gK,AllBare→gU,seqEpoch_at→gc,envOfC→Aa,subscriptTail_builtinR→Ac,keyKind'→BI,gallopOf→BP,subscriptTail→Bd,assignInOrder_nil→Bt,wpAny_notIn_heap→CU,bubble_perm→Cj,entry_list_sort→Cv,Subscript_→DD,keyLt'→DW
open Nat renaming le_refl→kG,lt_of_lt_of_le→ku,le_trans→pL,zero_le→pY,ne_of_lt→pd,lt_of_le_of_lt→uS,le_of_lt→uq,le_of_eq→QZ,add_sub_cancel→Qo,min_eq_left→Qx,lt_irrefl→UB,pow_le_pow_right→UM,lt_or_ge→UR,add_assoc→UZ,sub_self→vR,succ_le_succ→vS,lt_trichotomy→jH,mod_eq_of_lt→jX,mod_lt→jY,le_succ→jg,mul_le_mul→gP,lt_succ_of_lt→gf,gcd_dvd_right→gh,gcd_dvd_left→AR,ne_of_gt→AY,zero_add→Al,reduceAdd→Bf,reduceSub→Bg,lt_trans→CC,add_zero→CF,succ_pos→CG,gcd_mul_right→CH,lt_succ_self→CZ,mul_lt_mul''→Cg,min_le_left→Cq,le_antisymm→Cu,mod_add_mod→Cw,dvd_trans→DO,sub_zero→DY,pow_add→Dg,one_mul→Dh,gcd→Dp
open List renaming getElem?_eq_some_iff→kH,mem_cons_of_mem→kI,length_append→kJ,nodup_iff_pairwise_ne→kK,length_map→kO,getElem?_eq_getElem→kR,take_of_length_le→kU,mem_map→kW,mem_singleton→kX,getD_eq_getElem?_getD→kZ,range→kc,mem_append→ke,mem_cons→kg,map_cons→kh,mem_append_right→ki,take_add_one→kq,mem_range→kx,mem_of_getElem?→kz,append_assoc→pC,size_toArray→pE,getElem?_map→pG,length_singleton→pH,length_take→pI,length_cons→pJ,getElem?_append_right→pO,length_drop→pT,append_nil→pU,map_append→pV,filter_append→pW,mem_filter→pf,mem_cons_self→po,filter_cons→uA,mem_iff_getElem?→uG,getElem?_append_left→uH,take_append_drop→uO,lookup_cons→uQ,pairwise_map→uR,perm_append_comm→uT,map_nil→uU,mem_flatten→uX,perm_ext_iff_of_nodup→uY,length_range→ua,pairwise_flatten→uf,find?_cons→ul,range_succ→um,map_congr_left→ux,flatMap_cons→QB,mem_append_left→QU,mem_iff_getElem→QV,toArray→Qa,nodup_append→Qb,take_zero→Qe,Nodup→Qf,exists_cons_of_ne_nil→Qh,nodup_cons→Qj,drop_eq_getElem_cons→Qk,getElem_mem→Qn,mem_flatMap→Qp,nodup_nil→Qq,pairwise_singleton→Qv,length_nil→Qw,not_mem_nil→UC,length_replicate→UG,flatten_cons→UV,eq_nil_of_length_eq_zero→Uk,getElem?_drop→Uo,drop_of_length_le→Uq,map_map→Ur,getElem?_eq_none→Uv,getElem?_toArray→Uw,length_filter_le→Uy,drop_drop→vG,flatMap_def→vT,pairwise_iff_getElem→vU,flatMap_append→vX,filter_cons_of_pos→vt,getElem?_set_self→vw,replicate→jB,reverse_perm→jJ,length_pos_of_mem→jM,pairwise_lt_range→jO,cons_append→jW,length→je,of_mem_zip→jm,filterMap_cons→js,getElem?_range→jt,zip_cons_cons→hZ,drop_zero→gB,getElem?_take_of_lt→gt,any_cons→AA,length_erase_of_mem→AB,getElem_inj→AF,getElem?_replicate→AG,getElem?_cons_zero→AS,getElem?_cons_succ→AT,filter_cons_of_neg→AU,map→AV,filter_append_perm→AW,forIn_cons→Am,nil_append→Av,getElem?_set_ne→BC,drop_eq_nil_iff→BJ,mem_of_mem_take→BR,mem_erase_of_ne→BT,flatten_append→Bb,getElem?_take→Bo,set_cons_zero→Bp,set_cons_succ→Bq,take_sublist→Bw,ext_getElem→CO,map_snd_zip→CS,flatMap_nil→Ch,filter_nil→Cy,forIn_nil→DH,any_map→Dc
open PySem.W renaming Frag→kM,fnOf→kN,codeIn→km,keepIn→ko,nsIn→kr,mg_of→pD,mg_none_of→uk,methodObj→gT,tabIn→gv,cellsFrom_some→Ab,OpenLaw→Ao,kat_cons→CP,kat_yes→Cr,kat_no→DG,WalkO→DL
open PySem.Heap renaming get?_push_of_some→kT,lt_size→pB,get?_push_size→pM,get?_update_ne→uw,get?_update_other→QY,get?_update_self→UI,SameBut→UL,size_push→BG,size_update→CT
open Or renaming inl→kj,inr→jU
open Bool renaming false_eq_true→pF,false_ne_true→pN,eq_iff_iff→QF,not_true→Ua,eq_false_iff→gj,not_false→BO,not_eq_true'→CJ,and_false→DE,false_or→DM,true_or→DX
open PySem.PassesOwn renaming never→pK
open PySem.Obj renaming mapSeq→pQ,data_mapDictKeys→vJ,isFreed_of_dict→Ba,data_mapFields→Bl,mapFields→DN
open PySem.Value renaming ref→pS,none→ue,type→jT,int→CK,isStrOf→DJ,str→DQ,isInt→Dd,bool→Dm
open Array renaming toList_append→pX,getElem?_eq_getElem→uc,getD_eq_getD_getElem?→ug,getElem_mem→uz,getElem?_toList→UH,toList_reverse→US,length_toList→Ud,getD→hV,perm_iff_toList_perm→hX,forIn_toList→gJ,toList_inj→AK,toList_map→AQ,mem_toList_iff→BQ,size_extract→Bn,toList_push→CD,toList_zip→Cb
open PySem.F renaming plainAttrs_list→pZ,slot_list_append→uL,type_list_append→uM,slot_dict_keyiterator_next→QR,plain_max_loop→Uf,slot_tuple_hash→Ui,slot_tuple_eq→Ux,args_dict_keyiterator_next_1→vW,entry_dict_keyiterator_next→vc,plainAttrs_dict→vo,slot_dict_get→jP,slot_dict_setdefault→jn,slot_list_extend→AC,type_list_extend→AD,args_tuple_lt_2→AI,args_dict_get_3→AL,entry_max_loop→AM,entry_tuple_lt→Ae,entry_dict_get→Ai,slot_dict_iter→Aj,slot_tuple_lt→Ax,slot_dict_pop→Az,slot_list_lt→BN
open List.Perm renaming append_left→pg,trans→jq
open Option.some renaming inj→uB,injEq→jC
open Int renaming sub_le_self→uC,le_refl→uE,mul_comm→uh,fdiv_eq_ediv_of_nonneg→ui,zero_add→ur,natAbs_mul→Qd,add_zero→Qg,toNat_natCast→Qu,eq_of_mul_eq_mul_right→UF,le_of_lt→UT,mul_zero→UU,mul_le_mul_of_nonneg_right→Uj,fmod_eq_emod_of_nonneg→vD,mul_nonneg→vK,mul_add→vL,mul_neg_of_neg_of_pos→vV,mul_pos→vp,zero_mul→jK,mul_left_comm→jN,mul_le_mul_of_nonneg_left→ji,add_mul→jj,mul_ediv_mul_of_pos_left→jr,mul_lt_mul_of_pos_right→jw,ofNat_dvd_left→gM,mul_le_mul→gN,emod_lt_of_pos→gO,lt_of_mul_lt_mul_left→gQ,one_mul→gq,mul_assoc→AE,emod_nonneg→At,mul_eq_zero→Au,fmod_add_mul_fdiv→BA,mul_ediv_add_emod→BB,sub_self→CI,mul_one→Ci,mul_neg→Co,add_assoc→DP,le_trans→DZ,le_total→Db,neg_mul→Dj,sub_mul→Dk,mul_sub→Dl
open PySem.PyData renaming canLayAll0→uF,depthAll→uV,eqv→uW,canLay0→UE,eqvAll→UX,int→Um,depth→vO,tuple→CA
open PySem.NameKind renaming free→uZ,cell→Be
open PySem.Builtin.Tuple renaming tupleHashOf→ut
open Option renaming map_some→QJ,isSome_map→vB,map_eq_some_iff→jE,isSome_iff_exists→gr,getD_none→CN,none→Df
open PySem.Str renaming ofString→QN
open False renaming elim→QQ
open Prod renaming ext→QX,fst→jL,snd→Di
open PySem.Heap.SameBut renaming update→Qi
open PySem.Calls renaming callWith_builtin→Qz,spliced_cons→UD,evalArgs_plain→vF,spliced_nil→jA,Name_function_global→jx
open PySem.SeqAt renaming shaped→UA
open PySem.Around renaming under_plainId→UP,frames_deeper→BD
open PySem.MeetsSeq3 renaming plain_eq_loop→Uh,entry_eq_loop→AO
open PySem.Paired renaming length→Us,snoc→Cl
open Prod.mk renaming injEq→Uu
open True renaming intro→vH
open PySem.Builtin.List renaming listTooLong→vY
open Ne renaming symm→ve
open PySem.Builtin.Dict_items renaming ownsTuple→jo
open List.cons renaming injEq→jp
open PySem.Builtin.Builtins renaming bindParams→jv
open PySem.Builtin.Dict renaming keyAndDefault→gC,showsAll→Ay,takeOut→BS
open PyProof.Rows.SortSt renaming mk'→Ak
open Array.Perm renaming refl→As
open ToString renaming toString→BK
open Sum renaming inl→BU,inr→BV
open PySem.W.Looks renaming ld→CQ
open Classical renaming choose→Cd
open ForInStep renaming yield→Cp
open StateT renaming run_pure→Ct
open Iff renaming rfl→Cz
open PyProof.Rows.IntsAre renaming int_at→DI
open PySem.Data renaming cell→DR,fields→De
open LawfulMonad renaming pure_bind→DT
open Nat.succ renaming inj→Da
open PUnit renaming unit→Dn
open PySem.Walks renaming list→Do
local macro_rules
  | `(tactic| omega) => `(tactic| lia)
set_option Elab.async false
set_option linter.all false
set_option maxRecDepth 100000
set_option maxHeartbeats 4000000
namespace L2
open PySem PySem.Spec PyProof.Rows
abbrev Key:=Sum Int Str
def zn4:Key->kB->Bool
 |.inl k,v=>Dd k v
 |.inr x,v=>DJ x v
def keyH(w:pR):Key->Int
 |.inl k=>hashInt k
 |.inr x=>hashStr w x
theorem zbm:∀{k:Key}{v:kB},zn4 k v=true->(∃i t,k=BU i/\v=CK i t)∨(∃x t,k=BV x/\v=DQ x t)
 |.inl i,v,h=>by
  obtain⟨t,e⟩:=Value.isInt_shape (k:=i) (v:=v) h;exact .inl ⟨i,t,rfl,e⟩
 |.inr x,v,h=>by
  obtain⟨t,e⟩:=Value.isStrOf_shape (x:=x) (v:=v) h;exact .inr ⟨x,t,rfl,e⟩
theorem zoq(i:Int)(t:Tok):zn4 (.inl i) (.int i t)=true:=by simp[zn4,Dd]
theorem zqa(x:Str)(t:Tok):zn4 (.inr x) (.str x t)=true:=by simp[zn4,DJ]
theorem key_ll(a b:Int):decide ((BU a:Key)=BU b)=(a==b):=by
 by_cases e:a=b
 ·subst e;simp
 ·have h:¬(BU a:Key)=BU b:=fun q=>e (Sum.inl.inj q);rw[decide_eq_false h];exact(beq_eq_false_iff_ne.mpr e).symm
theorem key_rr(a b:Str):decide ((BV a:Key)=BV b)=decide (a=b):=by
 by_cases e:a=b
 ·subst e;simp
 ·have h:¬(BV a:Key)=BV b:=fun q=>e (Sum.inr.inj q);rw[decide_eq_false h,decide_eq_false e]
theorem key_lr(a:Int)(b:Str):decide ((BU a:Key)=BV b)=false:=decide_eq_false (fun q=>nomatch q)
theorem key_rl(a:Str)(b:Int):decide ((BV a:Key)=BU b)=false:=decide_eq_false (fun q=>nomatch q)
def zab(prog:pA)(w:pR):PySem.KeyKind prog w Key where
 is:=zn4
 hash:=keyH w
 inj:=fun v a b ha hb=>by
  rcases zbm ha with⟨i,t,rfl,rfl⟩|⟨x,t,rfl,rfl⟩
  ·rcases zbm hb with⟨j,u,rfl,e⟩|⟨y,u,rfl,e⟩
   ·injection e with e1 _;rw[e1]
   ·exact nomatch e
  ·rcases zbm hb with⟨j,u,rfl,e⟩|⟨y,u,rfl,e⟩
   ·exact nomatch e
   ·injection e with e1 _;rw[e1]
 byValue:=fun k v h=>by
  rcases zbm h with⟨i,t,rfl,rfl⟩|⟨x,t,rfl,rfl⟩<;>rfl
 pyHash:=fun hv h=>by
  rcases zbm hv with⟨i,t,rfl,rfl⟩|⟨x,t,rfl,rfl⟩
  ·exact wpAny_pyHash_int h
  ·exact wpAny_pyHash_str h
 eqBool:=fun hu hv h=>by
  rcases zbm hu with⟨i,t,rfl,rfl⟩|⟨x,t,rfl,rfl⟩
  ·rcases zbm hv with⟨j,u,rfl,rfl⟩|⟨y,u,rfl,rfl⟩
   ·rw[key_ll] at h;exact wpAny_eqBool_int h
   ·rw[key_lr] at h;exact SeqAt.EqAt.int_str i t y u _ _ _ _ h
  ·rcases zbm hv with⟨j,u,rfl,rfl⟩|⟨y,u,rfl,rfl⟩
   ·rw[key_rl] at h;exact SeqAt.EqAt.str_int x t j u _ _ _ _ h
   ·rw[key_rr] at h;exact wpAny_eqBool_str h
 «strs»:=fun k x t v h=>by
  rcases zbm h with⟨i,u,rfl,e⟩|⟨y,u,rfl,e⟩
  ·exact nomatch e
  ·injection e with e1 _
   subst e1
   cases v<;>rfl
theorem zl8(prog:pA)(w:pR)(i:Int)(t:Tok):(zab prog w).is (.inl i) (.int i t)=true:=zoq i t
theorem zkl(prog:pA)(w:pR)(x:Str)(t:Tok):(zab prog w).is (.inr x) (.str x t)=true:=zqa x t
inductive V where
 |non|bl (b:Bool)|int (i:Int)|str (x:Str)|byt (b:Array UInt8)|flt (b:UInt64)|ref (a:Addr)|ty (n:String)
 deriving DecidableEq
def RelV:V->kB->Prop
 |.non,u=>u=ue
 |.bl b,u=>u=Dm b
 |.int i,u=>∃t,u=CK i t
 |.str x,u=>∃t,u=DQ x t
 |.byt b,u=>∃t,u=Value.bytes b t
 |.flt b,u=>∃t,u=Value.float b t
 |.ref a,u=>u=pS a
 |.ty n,u=>u=jT n
abbrev Vals:List V->List kB->Prop:=vv RelV
theorem Vals.length{xs:List V}{us:List kB}(r:Vals xs us):xs.length=us.length:=Us r
theorem Vals.get:∀{xs:List V}{us:List kB}{i:Nat}{x:V},Vals xs us->xs[i]?=some x->∃u,us[i]?=some u/\RelV x u
 |_,_,_,_,.nil,e=>by simp at e
 |_,_,0,_,.cons r _,e=>by simp at e;subst e;exact⟨_,rfl,r⟩
 |_,_,i+1,x,.cons _ t,e=>by
  obtain⟨u,h1,h2⟩:=Vals.get (i:=i) (x:=x) t (by simpa using e)
  exact⟨u,by simpa using h1,h2⟩
theorem Vals.append:∀{xs ys:List V}{us ws:List kB},Vals xs us->Vals ys ws->Vals (xs++ys) (us++ws)
 |_,_,_,_,.nil,s=>s
 |_,_,_,_,.cons r t,s=>.cons r (Vals.append t s)
theorem Vals.take:∀{xs:List V}{us:List kB}(n:Nat),Vals xs us->Vals (xs.take n) (us.take n)
 |_,_,0,_=>.nil
 |_,_,_+1,.nil=>.nil
 |_,_,n+1,.cons r t=>.cons r (Vals.take n t)
theorem Vals.drop:∀{xs:List V}{us:List kB}(n:Nat),Vals xs us->Vals (xs.drop n) (us.drop n)
 |_,_,0,r=>r
 |_,_,_+1,.nil=>.nil
 |_,_,n+1,.cons _ t=>Vals.drop n t
def RelO:Option V->Option kB->Prop
 |some v,some u=>RelV v u
 |none,none=>True
 |_,_=>False
def KV{κ:Type}:List (κ×V)->List (κ×kB)->Prop:=vv fun(p:κ×V)(q:κ×kB)=>p.1=q.1/\RelV p.2 q.2
def kV:Key->V
 |.inl i=>.int i
 |.inr x=>.str x
inductive HO where
 /--a list-/
 |lst (xs:List V)
 /--a tuple (never changes)-/
 |tup (xs:List V)
 /--a dict whose keys are ints and texts;one whose keys are tuples of ints and texts (the empty one is both)-/
 |dK (kvs:List (Key×V))|dT (kvs:List (List Key×V))
 /--a set of ints:its members,its size-/
 |set (S:Int->Bool) (n:Nat)
 /--an instance of the class at C,its dict at dx,its attributes-/
 |ins (C dx:Addr) (fs:List (Str×V))
 /--the dict of the instance at x-/
 |own (x:Addr)
 /--the dict of an exception-/
 |xd (fs:List (Str×V))
 /--a bound method,f of x-/
 |met (f x:Addr)
 /--a range object lo,lo+1,.. below hi-/
 |rng (lo hi:Int)
 /--a thing that is known to the object (the script;a dict while a loop walks it):read,never written while it is so-/
 |frz (o:Obj) (u:HO)
 /--a code object's table-/
 |tbl (ps:Array kB)
 /--any other thing,by what is true of its one object (a def of one's own:SetO a S n:=HO.ext fun h=>..)-/
 |ext (φ:Heap->Prop)
abbrev Hp:=Addr->Option HO
def upd(H:Hp)(a:Addr)(o:HO):Hp:=fun b=>if b=a then some o else H b
theorem upd_same{H:Hp}{a:Addr}{o:HO}:upd H a o a=some o:=by unfold upd;rw[if_pos rfl]
theorem za7{H:Hp}{a b:Addr}{o:HO}(h:b≠a):upd H a o b=H b:=by unfold upd;rw[if_neg h]
theorem upd_upd{H:Hp}{a:Addr}{o u:HO}:upd (upd H a o) a u=upd H a u:=by
 funext b;unfold upd;split<;>rfl
theorem zqj{H:Hp}{a b:Addr}{o u:HO}(h:H a=some o)(h':H b=some u)(d:o≠u):a≠b:=by
 intro e;subst e;rw[h] at h';exact d (uB h')
theorem zam{H:Hp}{a b:Addr}{o:HO}(h:H a=some o)(h':H b=none):a≠b:=by
 intro e;subst e;rw[h] at h';cases h'
section
variable(P:pA)(w:pR)
def zdi(H:Hp)(h:Heap)(a:Addr):HO->Prop
 |.lst xs=>xs.length<=sizeLine/\∃(its:List kB)(n:Nat),Vals xs its/\h.get? a=some {cls:=.type "list",data:=.seq its.toArray n}
 |.tup xs=>xs.length<=sizeLine/\∃its:List kB,Vals xs its/\IsTup h a its.toArray
 |.dK kvs=>kvs.length<=sizeLine/\(a==QP)=false/\∃vs,KV kvs vs/\h.DictOf (zab P w) a vs
 |.dT kvs=>kvs.length<=sizeLine/\(a==QP)=false/\∃xs:List (List Key×Addr×kB),
   vv (fun(p:List Key×V)(q:List Key×Addr×kB)=>p.1=q.1/\H q.2.1=some (.tup (p.1.map kV))/\RelV p.2 q.2.2) kvs xs/\
   ∃o es ep,h.get? a=some o/\o.ExactDict/\o.data=.dict es ep/\es.toList=xs.map (DA (uJ (zab P w)))/\(xs.map (·.1)).Nodup
 |.set S n=>h.SetOf (intKind P w) a S n
 |.ins C dx fs=>H dx=some (.own a)/\fs.length<=1000/\dx≠a/\h.get? a=some (PySem.W.instObj C dx)/\
   ∃mA,h.Ns1 dx mA/\(∀f,RelO (fs.lookup f) (mA f))/\PySem.Within mA (fs.map (·.1))
 |.own _=>∃o,h.get? a=some o
 |.xd fs=>∃mA,h.Ns1 a mA/\∀f,RelO (fs.lookup f) (mA f)
 |.rng lo hi=>∃t u v,h.get? a=some {cls:=.type "range",data:=.fields #[.int lo t,.int hi u,.int 1 v]}
 |.frz o u=>h.get? a=some o/\zdi H h a u
 |.tbl ps=>h.get? a=some {cls:=.none,data:=.fields ps}
 |.met f x=>h.get? a=some (gT (.ref f) (.ref x))
 |.ext φ=>φ h/\(∃o,h.get? a=some o)/\∀h1 h2:Heap,φ h1->(∀o,h1.get? a=some o->h2.get? a=some o)->φ h2
def HOk(H:Hp)(h:Heap):Prop:=∀a o,H a=some o->zdi P w H h a o
end
section
variable{P:pA}{w:pR}{H H':Hp}{h h':Heap}{a:Addr}{o:HO}
theorem zdi.lt(x:zdi P w H h a o):a<h.objs.size:=by
 cases o with
 |lst xs=>obtain⟨_,_,_,_,e⟩:=x;exact pB e
 |tup xs=>obtain⟨_,_,_,p⟩:=x;exact p.lt
 |dK kvs=>obtain⟨_,_,_,_,o,_,_,e,_⟩:=x;exact pB e
 |dT kvs=>obtain⟨_,_,_,_,o,_,_,e,_⟩:=x;exact pB e
 |set S n=>obtain⟨o,_,_,_,e,_⟩:=x;exact pB e
 |ins C dx fs=>obtain⟨_,_,_,e,_⟩:=x;exact pB e
 |own y=>obtain⟨_,e⟩:=x;exact pB e
 |xd fs=>obtain⟨_,⟨_,_,_,e,_⟩,_⟩:=x;exact pB e
 |rng lo hi=>obtain⟨_,_,_,e⟩:=x;exact pB e
 |frz ob u=>obtain⟨e,_⟩:=x;exact pB e
 |tbl ps=>exact pB (show h.get? a=some _ from x)
 |met f y=>exact pB (show h.get? a=some _ from x)
 |ext φ=>obtain⟨_,⟨_,e⟩,_⟩:=x;exact pB e
theorem Paired.mapP{α β:Type}{F G:α->β->Prop}:∀{l₁:List α}{l₂:List β},vv F l₁ l₂->(∀a b,F a b->G a b)->vv G l₁ l₂
 |_,_,.nil,_=>.nil
 |_,_,.cons r t,f=>.cons (f _ _ r) (Paired.mapP t f)
theorem zdi.stay(x:zdi P w H h a o)(k:∀b u,(b=a∨H b=some (.own a))->h.get? b=some u->h'.get? b=some u)
  (ho:∀b,H b=some (.own a)->H' b=some (.own a))(ht:∀b xs,H b=some (.tup xs)->H' b=some (.tup xs)):zdi P w H' h' a o:=by
 induction o with
 |lst xs=>obtain⟨z,its,n,r,e⟩:=x;exact⟨z,its,n,r,k _ _ (.inl rfl) e⟩
 |tup xs=>obtain⟨z,its,r,ob,e,c⟩:=x;exact⟨z,its,r,ob,k _ _ (.inl rfl) e,c⟩
 |dK kvs=>obtain⟨z,y,vs,r,ob,es,ep,e,c⟩:=x;exact⟨z,y,vs,r,ob,es,ep,k _ _ (.inl rfl) e,c⟩
 |dT kvs=>
  obtain⟨z,y,xs,r,ob,es,ep,e,c⟩:=x;exact⟨z,y,xs,Paired.mapP r fun p q z=>⟨z.1,ht _ _ z.2.1,z.2.2⟩,ob,es,ep,k _ _ (.inl rfl) e,c⟩
 |set S n=>obtain⟨ob,es,ep,t,e,c⟩:=x;exact⟨ob,es,ep,t,k _ _ (.inl rfl) e,c⟩
 |ins C dx fs=>
  obtain⟨d,z,ne,e,mA,⟨od,es,ep,e2,c⟩,r⟩:=x;exact⟨ho _ d,z,ne,k _ _ (.inl rfl) e,mA,⟨od,es,ep,k _ _ (.inr d) e2,c⟩,r⟩
 |own y=>obtain⟨ob,e⟩:=x;exact⟨ob,k _ _ (.inl rfl) e⟩
 |xd fs=>obtain⟨mA,⟨od,es,ep,e,c⟩,r⟩:=x;exact⟨mA,⟨od,es,ep,k _ _ (.inl rfl) e,c⟩,r⟩
 |rng lo hi=>obtain⟨t,u,v,e⟩:=x;exact⟨t,u,v,k _ _ (.inl rfl) e⟩
 |frz ob u ih=>obtain⟨e,q⟩:=x;exact⟨k _ _ (.inl rfl) e,ih q⟩
 |tbl ps=>
  have e:h.get? a=some {cls:=.none,data:=.fields ps}:=x;show h'.get? a=some {cls:=.none,data:=.fields ps};exact k a _ (.inl rfl) e
 |met f y=>
  have e:h.get? a=some (gT (.ref f) (.ref y)):=x;show h'.get? a=some (gT (.ref f) (.ref y));exact k a _ (.inl rfl) e
 |ext φ=>obtain⟨p,⟨o,e⟩,st⟩:=x;exact⟨st _ _ p fun o q=>k _ _ (.inl rfl) q,⟨o,k _ _ (.inl rfl) e⟩,st⟩
theorem HOk.lt(x:HOk P w H h)(e:H a=some o):a<h.objs.size:=(x a o e).lt
theorem HOk.fresh(x:HOk P w H h)(e:h.objs.size<=a):H a=none:=by
 cases q:H a with
 |none=>rfl
 |some u=>exact absurd (ku (x.lt q) e) (UB _)
theorem HOk.kept(x:HOk P w H h)(k:∀b u,h.get? b=some u->h'.get? b=some u):HOk P w H h':=fun a o e=>
 (x a o e).stay (fun b u _ q=>k b u q) (fun _ q=>q) fun _ _ q=>q
theorem HOk.laid(x:HOk P w H h)(k:∀b u,h.get? b=some u->h'.get? b=some u)(hp:h.objs.size<=a)(new:zdi P w (upd H a o) h' a o):HOk P w (upd H a o) h':=fun b u e=>by
 have hn:=x.fresh hp
 by_cases hb:b=a
 ·subst hb;rw[upd_same] at e;cases e;exact new
 ·rw[za7 hb] at e;exact(x b u e).stay (fun c v _ q=>k c v q) (fun c q=>by rw[za7 (zam q hn)];exact q) fun c xs q=>by rw[za7 (zam q hn)];exact q
end
def Rd(H:Hp)(a:Addr)(u:HO):Prop:=H a=some u∨∃o,H a=some (.frz o u)
theorem Rd.ok{P:pA}{w:pR}{H:Hp}{h:Heap}{a:Addr}{u:HO}(r:Rd H a u)(x:HOk P w H h):zdi P w H h a u:=by
 rcases r with r|⟨o,r⟩
 ·exact x a u r
 ·obtain⟨_,q⟩:=x a _ r;exact q
def Mut:Option HO->Prop
 |some (.lst _)=>True
 |some (.dK _)=>True
 |some (.dT _)=>True
 |some (.set _ _)=>True
 |some (.ins _ _ _)=>True
 |some (.ext _)=>True
 |_=>False
section
variable{P:pA}{w:pR}{H:Hp}{h h':Heap}{x e:Addr}{o':HO}
theorem HOk.write(ok:HOk P w H h)(mu:Mut (H x))(he:e=x∨H e=some (.own x))(k:∀b u,b≠e->h.get? b=some u->h'.get? b=some u)(heo:∃u,h'.get? e=some u)
  (new:zdi P w (upd H x o') h' x o'):HOk P w (upd H x o') h':=fun b u q=>by
 have nown:∀c y,H c=some (.own y)->c≠x:=fun c y r z=>by subst z;rw[r] at mu;exact mu
 have ntup:∀c xs,H c=some (.tup xs)->c≠x:=fun c xs r z=>by subst z;rw[r] at mu;exact mu
 by_cases hb:b=x
 ·subst hb;rw[upd_same] at q;cases q;exact new
 ·rw[za7 hb] at q
  by_cases hbe:b=e
  ·have q':H b=some (.own x):=by
    rcases he with z|z
    ·exact absurd (hbe.trans z) hb
    ·rw[hbe];exact z
   rw[q] at q';cases q';obtain⟨v,hv⟩:=heo;exact⟨v,by rw[hbe];exact hv⟩
  ·refine(ok b u q).stay (fun c v hc r=>k c v ?_ r) (fun c r=>by rw[za7 (nown c b r)];exact r) fun c xs r=>by rw[za7 (ntup c xs r)];exact r
   rcases hc with rfl|hc
   ·exact hbe
   ·rintro rfl;rcases he with z|z
    ·exact nown c b hc z
    ·rw[hc] at z;cases z;exact hb rfl
end
structure Un(fs ex:List Addr)(H H':Hp)(h h':Heap):Prop where
 keep:∀b o,h.get? b=some o->H b=none->b∉fs->b∉ex->h'.get? b=some o
 slot:∀b o,h.get? b=some o->H b=none->b∈fs->b∉ex->∃sl,h'.get? b=some {o with slots:=sl}
 free:∀b o,h.get? b=some o->H b=none->b∉ex->H' b=none
 there:∀b o,h.get? b=some o->b∉ex->∃o',h'.get? b=some o'
 tups:∀b xs,H b=some (.tup xs)->H' b=some (.tup xs)
 frzs:∀b o u,H b=some (.frz o u)->H' b=some (.frz o u)
 tbls:∀b ps,H b=some (.tbl ps)->∃more,H' b=some (.tbl (ps++more))
section
variable{fs fs' ex ex':List Addr}{H H1 H2:Hp}{h h1 h2 h':Heap}{a x e:Addr}{o:HO}
theorem Un.any(u:Un fs ex H H1 h h1){b:Addr}{ob:Obj}(q:h.get? b=some ob)(n:H b=none)(hx:b∉ex):∃sl,h1.get? b=some {ob with slots:=sl}:=by
 by_cases hb:b∈fs
 ·exact u.slot b ob q n hb hx
 ·exact⟨ob.slots,u.keep b ob q n hb hx⟩
theorem Un.kept(k:∀b u,h.get? b=some u->h'.get? b=some u):Un fs ex H H h h':=
 ⟨fun b ob q _ _ _=>k b ob q,fun b ob q _ _ _=>⟨ob.slots,k b ob q⟩,fun _ _ _ n _=>n,fun b ob q _=>⟨ob,k b ob q⟩,fun _ _ q=>q,fun _ _ _ q=>q,fun _ ps q=>⟨#[],by rw[q];simp⟩⟩
theorem Un.refl:Un fs ex H H h h:=Un.kept fun _ _ q=>q
theorem Un.laid(k:∀b u,h.get? b=some u->h'.get? b=some u)(hp:h.objs.size<=a)(hn:H a=none):Un fs ex H (upd H a o) h h' where
 keep:=fun b u q _ _ _=>k b u q
 slot:=fun b u q _ _ _=>⟨u.slots,k b u q⟩
 free:=fun b u q n _=>by rw[za7 (pd (ku (pB q) hp))];exact n
 there:=fun b u q _=>⟨u,k b u q⟩
 tups:=fun b xs q=>by rw[za7 (zam q hn)];exact q
 frzs:=fun b u xs q=>by rw[za7 (zam q hn)];exact q
 tbls:=fun b ps q=>⟨#[],by rw[za7 (zam q hn),q];simp⟩
theorem Un.write(mu:Mut (H x))(he:e=x∨H e=some (.own x))(k:∀b u,b≠e->h.get? b=some u->h'.get? b=some u)(heo:∃u,h'.get? e=some u):Un fs ex H (upd H x o) h h':=by
 have hx:∀b,H b=none->b≠x:=fun b n z=>by subst z;rw[n] at mu;exact mu
 have hb:∀b,H b=none->b≠e:=fun b n z=>by
  subst z;rcases he with r|r
  ·exact hx b n r
  ·rw[n] at r;cases r
 have hm:∀b u,H b=some u->¬Mut (some u)->b≠x:=fun b u q nm z=>by subst z;rw[q] at mu;exact nm mu
 refine⟨fun b u q n _ _=>k b u (hb b n) q,fun b u q n _ _=>⟨u.slots,k b u (hb b n) q⟩,fun b u q n _=>by rw[za7 (hx b n)];exact n,fun b u q _=>?_,
  fun b xs q=>by rw[za7 (hm b _ q fun z=>z)];exact q,fun b u xs q=>by rw[za7 (hm b _ q fun z=>z)];exact q,fun b ps q=>⟨#[],by rw[za7 (hm b _ q fun z=>z),q];simp⟩⟩
 by_cases hbe:b=e
 ·subst hbe;exact heo
 ·exact⟨u,k b u hbe q⟩
end
def trk(h:Heap)(H:Hp):List Addr:=(kc h.objs.size).filter fun a=>(H a).isSome
def hidT(h:Heap)(H:Hp):Heap:=PySem.W.hideAll h (trk h H)
theorem zpp(h:Heap)(H:Hp):(hidT h H).objs.size=h.objs.size:=PySem.W.hideAll_size _ _
theorem hidT_get{h:Heap}{H:Hp}{b:Addr}{o:Obj}(e:h.get? b=some o)(n:H b=none):(hidT h H).get? b=some o:=
 PySem.W.hideAll_get _ e fun hm=>by
  have q:(H b).isSome=true:=(pf.mp hm).2;rw[n] at q;simp at q
theorem of_hidT{h:Heap}{H:Hp}{b:Addr}{o:Obj}(e:(hidT h H).get? b=some o):h.get? b=some o/\H b=none:=by
 have e':h.get? b=some o:=PySem.W.of_hideAll (trk h H) e;refine⟨e',?_⟩
 cases q:H b with
 |none=>rfl
 |some x=>
  have hm:b∈trk h H:=pf.mpr ⟨kx.mpr (pB e'),by simp[q]⟩
  have z:(hidT h H).get? b=none:=PySem.W.hideAll_none (trk h H) hm;rw[z] at e;cases e
def allNews(g h:Heap)(L:Addr):List (Addr×Obj):=(kc h.objs.size).filterMap fun a=>if a=L∨(g.get? a).isSome=true then none else(h.get? a).map fun o=>(a,o)
def rest(g h:Heap)(L d:Addr):List (Addr×Obj):=(allNews g h L).filter fun p=>decide (p.1≠d)
structure Mod(K:kM)(mg:Str->Option kB)(base:Heap):Prop where
 kin:K.In base
 glob:base.Ns kY mg
 blt:∃mb,base.Ns AX mb/\∀x:Str,x≠"__name__"->mb x=uo x
 nolimit:base.NoLimit
structure Cx where
 prog:pA
 w:pR
 K:kM
 mg:Str->Option kB
 base:Heap
 A:pj
 N:List Str
 s₀:kC
 H₀:Hp
 env:Env
 outer:List Env
 stack:List Env
 ex:List Addr
 fn:Str->Bool
 calm:Bool
 pn:List (Addr×Obj)
 xe:kB->kC->Prop
def frs(l:List Env):List Addr:=l.filterMap (·.frame)
abbrev Cx.fs(X:Cx):List Addr:=frs X.outer
def Vis(sc:Scope)(x:Str):Prop:=sc.names.lookup x=some .local∨sc.names.lookup x=some .cell∨sc.names.lookup x=some .free
def Loc(sc:Scope)(x:Str):Prop:=sc.names.lookup x=some .local∨sc.names.lookup x=some .cell
def Look(env:Env)(h:Heap)(m:Str->Option kB)(x:Str)(u:kB):Prop:=
 (env.kindOf x=some .local/\m x=some u)∨((env.kindOf x=some .cell∨env.kindOf x=some .free)/\∃c,env.cells.lookup x=some c/\h.IsCell c (some u))
structure Cx.Ok(X:Cx):Prop where
 mod:Mod X.K X.mg X.base
 kind:X.env.scope.kind=.function
 glob:X.env.globals=kY
 blt:X.env.builtins=AX
 above:X.s₀.heap.objs.size<=X.env.locals
 inj:∀x y c,X.env.cells.lookup x=some c->X.env.cells.lookup y=some c->x=y
 has:∀x,(X.env.kindOf x=some .cell∨X.env.kindOf x=some .free)->∃c,X.env.cells.lookup x=some c
 cab:∀x c,X.fn x=true->X.env.cells.lookup x=some c->X.s₀.heap.objs.size<=c
 hd:X.calm=true->X.A.handled=none
 frames:X.A.frames=some X.stack
 stk:X.stack=X.outer∨(X.stack=X.env::X.outer/\X.env.frame=some X.env.locals)
 exf:∀b∈X.ex,b≠X.env.locals/\∀x c,X.env.cells.lookup x=some c->c≠b
 bs:∀b o,X.base.get? b=some o->X.s₀.heap.get? b=some o/\X.H₀ b=none
 bsz:X.base.objs.size<=X.s₀.heap.objs.size
 noex:∀b o,X.base.get? b=some o->b∉X.ex
 exfs:∀b∈X.ex,b∉X.fs
 funs:X.s₀.heap.FunFrames X.base X.outer
 frf:∀b∈X.fs,X.H₀ b=none
structure Inv(X:Cx)(pins:List (Addr×Obj))(σ:List (Option V))(H:Hp)(s:kC):Prop where
 ok:X.Ok
 os:s.os=X.s₀.os
 bare:gU s.gens
 base:Un X.fs X.ex X.H₀ H X.s₀.heap s.heap
 loc:∃m,s.heap.Ns X.env.locals m/\∀(i:Nat)(x:Str)(v:V),X.N[i]?=some x->σ[i]?=some (some v)->Vis X.env.scope x->∃u,RelV v u/\Look X.env s.heap m x u
 cell:∀x c,X.env.cells.lookup x=some c->∃v,s.heap.IsCell c v
 free:H X.env.locals=none
 freeC:∀x c,X.env.cells.lookup x=some c->H c=none
 pin:∀p∈X.pn++pins,s.heap.get? p.1=some p.2/\H p.1=none/\p.1≠X.env.locals/\p.1∉X.fs/\∀v,p.2.data≠.cell v
 hok:HOk X.prog X.w H s.heap
 len:σ.length=X.N.length
section
variable{X:Cx}{pins:List (Addr×Obj)}{σ:List (Option V)}{H H':Hp}{s:kC}{h':Heap}
theorem Cx.Ok.nofr(ok:X.Ok){b:Addr}{o:Obj}(e:X.base.get? b=some o):b∉X.fs:=fun hb=>by
 have:=(ok.funs.mem hb).1;rw[e] at this;cases this
theorem Inv.bs(I:Inv X pins σ H s):∀b o,X.base.get? b=some o->s.heap.get? b=some o/\H b=none:=fun b o e=>
 ⟨I.base.keep b o (I.ok.bs b o e).1 (I.ok.bs b o e).2 (I.ok.nofr e) (I.ok.noex b o e),I.base.free b o (I.ok.bs b o e).1 (I.ok.bs b o e).2 (I.ok.noex b o e)⟩
theorem Inv.bk(I:Inv X pins σ H s):∀b o,X.base.get? b=some o->s.heap.get? b=some o:=fun b o e=>(I.bs b o e).1
theorem Inv.mod(I:Inv X pins σ H s):Mod X.K X.mg X.base:=I.ok.mod
theorem Inv.kIn(I:Inv X pins σ H s):X.K.In s.heap:=I.ok.mod.kin.keeps I.bk
theorem Inv.nolimit(I:Inv X pins σ H s):s.heap.NoLimit:=I.ok.mod.nolimit.keeps I.bk
theorem Inv.lt(I:Inv X pins σ H s):X.env.locals<s.heap.objs.size:=let⟨_,hn,_⟩:=I.loc;hn.lt
theorem Inv.sz(I:Inv X pins σ H s):X.s₀.heap.objs.size<=s.heap.objs.size:=pL I.ok.above (uq I.lt)
theorem Inv.nofs(I:Inv X pins σ H s){a:Addr}(h:s.heap.objs.size<=a):a∉X.fs:=fun hb=>by
 obtain⟨_,o,ho,_⟩:=I.ok.funs.mem hb;exact absurd (ku (pB ho) (pL I.sz h)) (UB _)
theorem Inv.cne(I:Inv X pins σ H s):∀x c,X.env.cells.lookup x=some c->c≠X.env.locals:=fun x c e z=>by
 obtain⟨v,o,ho,hd⟩:=I.cell x c e;obtain⟨m,⟨o',es,ep,ho',hd',_⟩,_⟩:=I.loc;rw[z,ho'] at ho;cases ho;rw[hd'] at hd;cases hd
theorem Inv.funs(I:Inv X pins σ H s):s.heap.FunFrames X.base X.outer:=by
 have all:∀(l:List Env),(∀b∈frs l,b∈X.fs)->X.s₀.heap.FunFrames X.base l->s.heap.FunFrames X.base l:=by
  intro l
  induction l with
  |nil=>intro _ _;trivial
  |cons env r ih=>
   intro hs hl;obtain⟨hk,⟨L,o,hf,hn,ho,hd⟩,hr⟩:=hl;have hL:L∈X.fs:=hs L (by unfold frs;rw[js,hf];exact po)
   obtain⟨sl,e⟩:=I.base.slot L o ho (I.ok.frf L hL) hL fun z=>I.ok.exfs L z hL;exact⟨hk,⟨L,_,hf,hn,e,hd⟩,ih (fun b hb=>hs b (by unfold frs;rw[js,hf];exact kI _ hb)) hr⟩
 exact all X.outer (fun _ hb=>hb) I.ok.funs
theorem Inv.stack(I:Inv X pins σ H s):s.heap.FunFrames X.base X.stack:=by
 rcases I.ok.stk with e|⟨e,hf⟩
 ·rw[e];exact I.funs
 ·rw[e];obtain⟨m,hn,_⟩:=I.loc;refine .cons (by rw[I.ok.kind];decide) hf hn ?_ I.funs
  exact Heap.get?_none_of_le (pL I.ok.bsz I.ok.above)
theorem Inv.stkSub(I:Inv X pins σ H s):∀b∈frs X.stack,b∈X.env.locals::X.fs:=fun b hb=>by
 rcases I.ok.stk with e|⟨e,hf⟩
 ·rw[e] at hb;exact kI _ hb
 ·rw[e] at hb;unfold frs at hb;rw[js,hf] at hb;exact hb
theorem Inv.stkFree(I:Inv X pins σ H s):∀b∈frs X.stack,H b=none:=fun b hb=>by
 rcases kg.mp (I.stkSub b hb) with e|hb
 ·rw[e];exact I.free
 ·obtain⟨_,o,ho,_⟩:=I.ok.funs.mem hb;exact I.base.free b o ho (I.ok.frf b hb) fun z=>I.ok.exfs b z hb
theorem Inv.step{g':Array GenState}{t':Nat}{d':Drawn}{ch:List Addr}(I:Inv X pins σ H s)
  (hch:∀b∈ch,(b∈X.ex∨X.s₀.heap.objs.size<=b)/\b≠X.env.locals/\(∀x c,X.env.cells.lookup x=some c->c≠b)/\∀p∈X.pn++pins,p.1≠b)
  (keep:∀b o,b≠X.env.locals->b∉X.fs->b∉ch->s.heap.get? b=some o->H b=none->h'.get? b=some o)
  (slot:∀b o,b≠X.env.locals->b∈X.fs->b∉ch->s.heap.get? b=some o->H b=none->∃sl,h'.get? b=some {o with slots:=sl})(free:∀b o,b∉ch->s.heap.get? b=some o->H b=none->H' b=none)
  (there:∀b o,b∉ch->s.heap.get? b=some o->∃o',h'.get? b=some o')
  (tups:∀b xs,H b=some (.tup xs)->H' b=some (.tup xs)) (frzs:∀b o u,H b=some (.frz o u)->H' b=some (.frz o u)) (tbls:∀b ps,H b=some (.tbl ps)->∃more,H' b=some (.tbl (ps++more)))
  (ns:∀m,s.heap.Ns X.env.locals m->h'.Ns X.env.locals m) (hok:HOk X.prog X.w H' h') (hg:gU g'):
  Inv X pins σ H' {s with heap:=h',gens:=g',drawn:=d',toks:=t'}:=by
 have neL:∀b o,X.s₀.heap.get? b=some o->b≠X.env.locals:=fun b o e=>pd (ku (pB e) I.ok.above);have neC:∀b o,X.s₀.heap.get? b=some o->b∉X.ex->b∉ch:=fun b o e hx hb=>by
  rcases(hch b hb).1 with z|z
  ·exact hx z
  ·exact absurd (ku (pB e) z) (UB _)
 have cellK:∀x c,X.env.cells.lookup x=some c->∀v,s.heap.IsCell c v->h'.IsCell c v:=fun x c e v⟨o,ho,hd⟩=>by
  have nch:c∉ch:=fun z=>(hch c z).2.2.1 x c e rfl
  by_cases hc:c∈X.fs
  ·obtain⟨sl,q⟩:=slot c o (I.cne x c e) hc nch ho (I.freeC x c e);exact⟨_,q,hd⟩
  ·exact⟨o,keep c o (I.cne x c e) hc nch ho (I.freeC x c e),hd⟩
 refine⟨I.ok,I.os,hg,⟨fun b o e n hb hx=>?_,fun b o e n hb hx=>?_,fun b o e n hx=>?_,fun b o e hx=>?_,fun b xs e=>tups b xs (I.base.tups b xs e),fun b o xs e=>frzs b o xs (I.base.frzs b o xs e),fun b ps e=>?_⟩,?_,fun x c e=>?_,?_,fun x c e=>?_,fun p hp=>?_,hok,I.len⟩
 ·exact keep b o (neL b o e) hb (neC b o e hx) (I.base.keep b o e n hb hx) (I.base.free b o e n hx)
 ·obtain⟨sl,e1⟩:=I.base.slot b o e n hb hx;obtain⟨sl',e2⟩:=slot b _ (neL b o e) hb (neC b o e hx) e1 (I.base.free b o e n hx);exact⟨sl',e2⟩
 ·obtain⟨o',e1⟩:=I.base.there b o e hx;exact free b o' (neC b o e hx) e1 (I.base.free b o e n hx)
 ·obtain⟨o',e1⟩:=I.base.there b o e hx;exact there b o' (neC b o e hx) e1
 ·obtain⟨m1,e1⟩:=I.base.tbls b ps e;obtain⟨m2,e2⟩:=tbls b _ e1;exact⟨m1++m2,by rw[e2,Array.append_assoc]⟩
 ·obtain⟨m,hn,hl⟩:=I.loc;refine⟨m,ns m hn,fun i x v e1 e2 e3=>?_⟩;obtain⟨u,r,l⟩:=hl i x v e1 e2 e3;refine⟨u,r,?_⟩;rcases l with l|⟨k,c,e,z⟩
  ·exact .inl l
  ·exact .inr ⟨k,c,e,cellK x c e _ z⟩
 ·obtain⟨v,z⟩:=I.cell x c e;exact⟨v,cellK x c e v z⟩
 ·obtain⟨m,⟨o,_,_,ho,_⟩,_⟩:=I.loc;exact free _ o (fun z=>(hch _ z).2.1 rfl) ho I.free
 ·obtain⟨v,o,ho,hd⟩:=I.cell x c e;exact free c o (fun z=>(hch c z).2.2.1 x c e rfl) ho (I.freeC x c e)
 ·obtain⟨e,n,ne,nf,d⟩:=I.pin p hp;have nch:p.1∉ch:=fun z=>(hch p.1 z).2.2.2 p hp rfl;exact⟨keep p.1 p.2 ne nf nch e n,free p.1 p.2 nch e n,ne,nf,d⟩
theorem Inv.un{t':Nat}(I:Inv X pins σ H s)(u:Un X.fs [] H H' s.heap h')(hok:HOk X.prog X.w H' h'):Inv X pins σ H' {s with heap:=h',toks:=t'}:=by
 obtain⟨m,⟨o,es,ep,ho,r⟩,_⟩:=id I.loc;obtain⟨sl,hL⟩:=u.any ho I.free (by simp)
 exact I.step (g':=s.gens) (d':=s.drawn) (ch:=[]) (fun _ z=>nomatch z) (fun b o _ hb _ e n=>u.keep b o e n hb (by simp)) (fun b o _ hb _ e n=>u.slot b o e n hb (by simp)) (fun b o _ e n=>u.free b o e n (by simp)) (fun b o _ e=>u.there b o e (by simp)) u.tups u.frzs u.tbls (fun m' hm=>by
  obtain⟨o',es',ep',ho',r'⟩:=hm;rw[ho] at ho';cases ho';exact⟨_,es',ep',hL,r'⟩) hok I.bare
theorem Inv.call{g':Array GenState}{t':Nat}{d':Drawn}{ch:List Addr}(I:Inv X pins σ H s)(u:Un (frs X.stack) ch H H' s.heap h')(hok:HOk X.prog X.w H' h')(hg:gU g')
  (hch:∀b∈ch,(b∈X.ex∨X.s₀.heap.objs.size<=b)/\b≠X.env.locals/\(∀x c,X.env.cells.lookup x=some c->c≠b)/\∀p∈X.pn++pins,p.1≠b):
  Inv X pins σ H' {s with heap:=h',gens:=g',drawn:=d',toks:=t'}:=by
 obtain⟨m,⟨o,es,ep,ho,r⟩,_⟩:=id I.loc;obtain⟨sl,hL⟩:=u.any ho I.free fun z=>(hch _ z).2.1 rfl;exact I.step (ch:=ch) hch (fun b o hL hb hc e n=>u.keep b o e n (fun z=>(kg.mp (I.stkSub b z)).elim hL hb) hc) (fun b o _ _ hc e n=>u.any e n hc) (fun b o hc e n=>u.free b o e n hc) (fun b o hc e=>u.there b o e hc) u.tups u.frzs u.tbls (fun m' hm=>by
  obtain⟨o',es',ep',ho',r'⟩:=hm;rw[ho] at ho';cases ho';exact⟨_,es',ep',hL,r'⟩) hok hg
theorem Inv.turned{t':Nat}{it:Addr}(I:Inv X pins σ H s)(k:∀b o,b≠it->s.heap.get? b=some o->h'.get? b=some o)(hn:H it=none)(hL:it≠X.env.locals)
  (h1:it∈X.ex∨X.s₀.heap.objs.size<=it)(h2:∀x c,X.env.cells.lookup x=some c->c≠it)(h3:∀p∈X.pn++pins,p.1≠it):Inv X pins σ H {s with heap:=h',toks:=t'}:=by
 have nit:∀b u,H b=some u->b≠it:=fun b u e z=>by rw[z,hn] at e;cases e
 refine I.step (g':=s.gens) (d':=s.drawn) (ch:=[it]) (fun b hb=>?_) (fun b o _ _ hc e _=>k b o (fun z=>hc (by simp[z])) e) (fun b o _ _ hc e _=>⟨o.slots,k b o (fun z=>hc (by simp[z])) e⟩) (fun _ _ _ _ n=>n)
  (fun b o hc e=>⟨o,k b o (fun z=>hc (by simp[z])) e⟩) (fun _ _ e=>e) (fun _ _ _ e=>e) (fun b ps e=>⟨#[],by rw[e];simp⟩) (fun m hm=>?_) (fun b u e=>?_) I.bare
 ·have e:b=it:=by simpa using hb
  subst e;exact⟨h1,hL,h2,h3⟩
 ·obtain⟨o,es,ep,ho,r⟩:=hm;exact⟨o,es,ep,k _ o (ve hL) ho,r⟩
 ·refine(I.hok b u e).stay (fun c v hc q=>k c v ?_ q) (fun _ q=>q) fun _ _ q=>q;rcases hc with z|z
  ·rw[z];exact nit b u e
  ·exact nit c _ z
theorem Inv.tok(I:Inv X pins σ H s)(t:Nat):Inv X pins σ H {s with toks:=t}:=I.un (h':=s.heap) (t':=t) Un.refl I.hok
theorem Inv.kept{t':Nat}(I:Inv X pins σ H s)(k:∀b u,s.heap.get? b=some u->h'.get? b=some u):Inv X pins σ H {s with heap:=h',toks:=t'}:=I.un (Un.kept k) (I.hok.kept k)
theorem Inv.laid{a:Addr}{o:HO}{t':Nat}(I:Inv X pins σ H s)(k:∀b u,s.heap.get? b=some u->h'.get? b=some u)(hp:s.heap.objs.size<=a)(new:zdi X.prog X.w (upd H a o) h' a o):
  Inv X pins σ (upd H a o) {s with heap:=h',toks:=t'}:=I.un (Un.laid k hp (I.hok.fresh hp)) (I.hok.laid k hp new)
theorem Inv.write{x e:Addr}{o:HO}{t':Nat}(I:Inv X pins σ H s)(mu:Mut (H x))(he:e=x∨H e=some (.own x))(k:∀b u,b≠e->s.heap.get? b=some u->h'.get? b=some u)(heo:∃u,h'.get? e=some u)
  (new:zdi X.prog X.w (upd H x o) h' x o):Inv X pins σ (upd H x o) {s with heap:=h',toks:=t'}:=I.un (Un.write mu he k heo) (I.hok.write mu he k heo new)
theorem Inv.pins_of{pins':List (Addr×Obj)}(I:Inv X pins σ H s)(h:∀p∈pins',s.heap.get? p.1=some p.2/\H p.1=none/\p.1≠X.env.locals/\p.1∉X.fs/\∀v,p.2.data≠.cell v):Inv X pins' σ H s:=
 ⟨I.ok,I.os,I.bare,I.base,I.loc,I.cell,I.free,I.freeC,fun p hp=>(ke.mp hp).elim (fun z=>I.pin p (QU _ z)) (h p),I.hok,I.len⟩
theorem zmh{N:List Str}(hN:N.Nodup){i j:Nat}{x:Str}(a:N[i]?=some x)(b:N[j]?=some x):i=j:=by
 obtain⟨h1,e1⟩:=kH.mp a;obtain⟨h2,e2⟩:=kH.mp b;exact(AF hN).mp (e1.trans e2.symm)
theorem zo2{M:Model}{A:pj}{E:kB->kC->Prop}{i:Nat}{x:Str}{v:V}{u:kB}{Q:Unit->kC->Prop}(I:Inv X pins σ H s)(hN:X.N.Nodup)(hi:X.N[i]?=some x)(hx:Loc X.env.scope x)(r:RelV v u)
  (h:∀s',Inv X pins (σ.set i (some v)) H s'->(∃a,UL a s.heap s'.heap/\(a=X.env.locals∨X.env.cells.lookup x=some a))->Q () s')(hf:X.fn x=true∨X.env.scope.names.lookup x=some .local:=by first|exact .inl rfl|exact .inr rfl|assumption):wpAny M A (storeName X.env x u) Q E s:=by
 obtain⟨m,hn,hl⟩:=id I.loc;have hcls:(X.env.scope.kind==.class||(X.env.scope.kind==.module&&X.env.locals !=X.env.globals))=false:=by rw[I.ok.kind];rfl
 have hiσ:i<σ.length:=by rw[I.len];exact(kH.mp hi).1
 have cne:=I.cne;have tracked:∀{a:Addr}{h':Heap},(∃o,s.heap.get? a=some o/\H a=none)->UL a s.heap h'->HOk X.prog X.w H h':=fun{a h'} ha hs b ob e=>by
  obtain⟨_,_,hfree⟩:=ha;refine(I.hok b ob e).stay (fun c w' hc q=>(hs.2 c ?_).trans q) (fun _ q=>q) fun _ _ q=>q;rintro rfl;rcases hc with rfl|hc
  ·rw[hfree] at e;cases e
  ·rw[hfree] at hc;cases hc
 rcases hx with hk|hk
 ·refine wpAny_storeName_local hk hn (fun h' hn' hs=>?_) hcls;obtain⟨oL,_,_,hoL,_⟩:=id hn;refine h _ ⟨I.ok,I.os,I.bare,⟨fun b o e n hb hx=>?_,fun b o e n hb hx=>?_,I.base.free,fun b o e hx=>?_,I.base.tups,I.base.frzs,I.base.tbls⟩,⟨_,hn',fun j y v' e1 e2 e3=>?_⟩,fun y c e=>?_,I.free,I.freeC,fun p hp=>?_,tracked ⟨oL,hoL,I.free⟩ hs,by simpa using I.len⟩ ⟨_,hs,.inl rfl⟩
  ·exact(hs.2 b (pd (ku (pB e) I.ok.above))).trans (I.base.keep b o e n hb hx)
  ·obtain⟨sl,e1⟩:=I.base.slot b o e n hb hx;exact⟨sl,(hs.2 b (pd (ku (pB e) I.ok.above))).trans e1⟩
  ·obtain⟨o',e1⟩:=I.base.there b o e hx;exact⟨o',(hs.2 b (pd (ku (pB e) I.ok.above))).trans e1⟩
  ·by_cases hj:j=i
   ·subst hj;rw[hi] at e1;cases e1;rw[vw hiσ] at e2
    cases e2;exact⟨u,r,.inl ⟨hk,by simp⟩⟩
   ·rw[BC (ve hj)] at e2;obtain⟨u',r',q⟩:=hl j y v' e1 e2 e3;refine⟨u',r',?_⟩;rcases q with⟨k,e⟩|⟨k,c,e,z⟩
    ·refine .inl ⟨k,?_⟩;have:y≠x:=fun e=>hj (zmh hN e1 (e▸hi))
     simp[this,e]
    ·exact .inr ⟨k,c,e,z.sameBut hs (cne y c e)⟩
  ·obtain⟨w',z⟩:=I.cell y c e;exact⟨w',z.sameBut hs (cne y c e)⟩
  ·obtain⟨e,n,ne,nf,d⟩:=I.pin p hp;exact⟨(hs.2 p.1 ne).trans e,n,ne,nf,d⟩
 ·have hfn:X.fn x=true:=by
   rcases hf with z|z
   ·exact z
   ·rw[z] at hk;cases hk
  obtain⟨c,hc⟩:=I.ok.has x (.inl hk);obtain⟨w',z⟩:=I.cell x c hc;refine wpAny_storeName_cell I.ok.kind hk hc z (fun h' hc' hs=>?_);obtain⟨oc,hoc,hocd⟩:=id z;refine h {s with heap:=h'} ⟨I.ok,I.os,I.bare,⟨fun b o e n hb hx=>?_,fun b o e n hb hx=>?_,I.base.free,fun b o e hx=>?_,I.base.tups,I.base.frzs,I.base.tbls⟩,⟨m,hn.sameBut hs (ve (cne x c hc)),fun j y v' e1 e2 e3=>?_⟩,fun y c' e=>?_,I.free,I.freeC,fun p hp=>?_,tracked ⟨oc,hoc,I.freeC x c hc⟩ hs,by simpa using I.len⟩ ⟨c,hs,.inr hc⟩
  ·exact(hs.2 b (pd (ku (pB e) (I.ok.cab x c hfn hc)))).trans (I.base.keep b o e n hb hx)
  ·obtain⟨sl,e1⟩:=I.base.slot b o e n hb hx;exact⟨sl,(hs.2 b (pd (ku (pB e) (I.ok.cab x c hfn hc)))).trans e1⟩
  ·obtain⟨o',e1⟩:=I.base.there b o e hx;exact⟨o',(hs.2 b (pd (ku (pB e) (I.ok.cab x c hfn hc)))).trans e1⟩
  ·by_cases hj:j=i
   ·subst hj;rw[hi] at e1;cases e1;rw[vw hiσ] at e2
    cases e2;exact⟨u,r,.inr ⟨.inl hk,c,hc,hc'⟩⟩
   ·rw[BC (ve hj)] at e2;obtain⟨u',r',q⟩:=hl j y v' e1 e2 e3;refine⟨u',r',?_⟩;rcases q with q|⟨k,c',e,z'⟩
    ·exact .inl q
    ·refine .inr ⟨k,c',e,z'.sameBut hs ?_⟩;rintro rfl;exact hj (zmh hN e1 (I.ok.inj _ _ _ e hc▸hi))
  ·by_cases hcc:c'=c
   ·subst hcc;exact⟨_,hc'⟩
   ·obtain⟨w2,z2⟩:=I.cell y c' e;exact⟨w2,z2.sameBut hs hcc⟩
  ·obtain⟨e,n,ne,nf,d⟩:=I.pin p hp;refine⟨(hs.2 p.1 ?_).trans e,n,ne,nf,d⟩;intro q;rw[q,hoc] at e;have q':oc=p.2:=uB e;exact d w' (by rw[←q'];exact hocd)
theorem zfs{M:Model}{A:pj}{E:kB->kC->Prop}{i:Nat}{x:Str}{v:V}{u:kB}{Q:Unit->kC->Prop}(I:Inv X pins σ H s)(hN:X.N.Nodup)(hi:X.N[i]?=some x)(hx:Loc X.env.scope x)(r:RelV v u)
  (h:∀s',Inv X pins (σ.set i (some v)) H s'->Q () s')(hf:X.fn x=true∨X.env.scope.names.lookup x=some .local:=by first|exact .inl rfl|exact .inr rfl|assumption):wpAny M A (storeName X.env x u) Q E s:=
 zo2 I hN hi hx r (fun s' I' _=>h s' I') hf
theorem Inv.call'{s':kC}{ch:List Addr}(I:Inv X pins σ H s)(ho:s'.os=s.os)(u:Un (frs X.stack) ch H H' s.heap s'.heap)(hok:HOk X.prog X.w H' s'.heap)(hg:gU s'.gens)
  (hch:∀b∈ch,(b∈X.ex∨X.s₀.heap.objs.size<=b)/\b≠X.env.locals/\(∀x c,X.env.cells.lookup x=some c->c≠b)/\∀p∈X.pn++pins,p.1≠b):Inv X pins σ H' s':=by
 obtain⟨h',g',d',t',o'⟩:=s';have e:o'=s.os:=ho;subst e;exact I.call (g':=g') (t':=t') (d':=d') u hok hg hch
end
abbrev XK:=kB->Option Addr->Hp->Prop
abbrev St:=List (Option V)
abbrev VK:=V->Hp->Prop
abbrev TE:=St->Hp->VK->Prop
abbrev TT:=St->Hp->(Bool->Hp->Prop)->Prop
abbrev TA:=St->Hp->(List V->Hp->Prop)->Prop
structure Ends where
 nx:St->Hp->Prop
 rt:VK
 bk:St->Hp->Prop:=fun _ _=>False
 ct:St->Hp->Prop:=fun _ _=>False
abbrev TS:=Ends->St->Hp->Prop
def EP(X:Cx)(pins:List (Addr×Obj))(σ:St)(Q:VK)(u:kB)(s':kC):Prop:=∃v H',Inv X pins σ H' s'/\RelV v u/\Q v H'
def TP(X:Cx)(pins:List (Addr×Obj))(σ:St)(Q:Bool->Hp->Prop)(b:Bool)(s':kC):Prop:=∃H',Inv X pins σ H' s'/\Q b H'
def AP(X:Cx)(pins:List (Addr×Obj))(σ:St)(Q:List V->Hp->Prop)(us:List kB)(s':kC):Prop:=∃vs H',Inv X pins σ H' s'/\Vals vs us/\Q vs H'
def SP(X:Cx)(pins:List (Addr×Obj))(D:Ends)(f:Flow)(s':kC):Prop:=
 match f with
 |.next=>∃σ' H',Inv X pins σ' H' s'/\D.nx σ' H'
 |.brk=>∃σ' H',Inv X pins σ' H' s'/\D.bk σ' H'
 |.cont=>∃σ' H',Inv X pins σ' H' s'/\D.ct σ' H'
 |.ret u=>∃v σ' H',Inv X pins σ' H' s'/\RelV v u/\D.rt v H'
def PE(X:Cx)(e:Expr)(t:TE):Prop:=
 ∀(pins:List (Addr×Obj))(s:kC)(σ:St)(H:Hp)(Q:VK),Inv X pins σ H s->t σ H Q->wpAny (model X.prog X.w) X.A (eval e X.env) (EP X pins σ Q) X.xe s
def PT(X:Cx)(e:Expr)(t:TT):Prop:=
 ∀(pins:List (Addr×Obj))(s:kC)(σ:St)(H:Hp)(Q:Bool->Hp->Prop),Inv X pins σ H s->t σ H Q->wpAny (model X.prog X.w) X.A (isTrue e X.env (eval e X.env)) (TP X pins σ Q) X.xe s
def PW(X:Cx)(e:Expr)(t:TT):Prop:=
 ∀(whole:Sem kB)(pins:List (Addr×Obj))(s:kC)(σ:St)(H:Hp)(Q:Bool->Hp->Prop),Inv X pins σ H s->t σ H Q->wpAny (model X.prog X.w) X.A (isTrue e X.env whole) (TP X pins σ Q) X.xe s
theorem PW.pt{X:Cx}{e:Expr}{t:TT}(h:PW X e t):PT X e t:=h _
def PA(X:Cx)(es:List Expr)(t:TA):Prop:=
 ∀(pos:Pos)(pins:List (Addr×Obj))(s:kC)(σ:St)(H:Hp)(Q:List V->Hp->Prop),Inv X pins σ H s->t σ H Q->wpAny (model X.prog X.w) X.A (spliced (vC pos (uK es X.env))) (AP X pins σ Q) X.xe s
def PS(X:Cx)(st:Stmt)(t:TS):Prop:=
 ∀(pins:List (Addr×Obj))(s:kC)(σ:St)(H:Hp)(D:Ends),Inv X pins σ H s->t D σ H->wpAny (model X.prog X.w) X.A (exec st X.env) (SP X pins D) X.xe s
def PSs(X:Cx)(st:List Stmt)(t:TS):Prop:=
 ∀(pins:List (Addr×Obj))(s:kC)(σ:St)(H:Hp)(D:Ends),Inv X pins σ H s->t D σ H->wpAny (model X.prog X.w) X.A (execs st X.env) (SP X pins D) X.xe s
theorem thn{α:Type}{t:Sem α}{Q Q':α->kC->Prop}{M:Model}{A:pj}{E:kB->kC->Prop}{s:kC}(h:wpAny M A t Q E s)(hQ:∀a s,Q a s->Q' a s):wpAny M A t Q' E s:=uv h hQ fun _ _ x=>x
section
variable{X:Cx}
def tVar(i:Nat):TE:=fun σ H Q=>∃v,σ[i]?=some (some v)/\Q v H
def tC(v:V):TE:=fun _ H Q=>Q v H
theorem pe_var{i:Nat}{x:Str}{pos:Pos}(hN:X.N[i]?=some x)(hv:Vis X.env.scope x)(hd:(x==("__debug__":Str))=false:=by decide)(hcd:(x==("__classdict__":Str))=false:=by decide):PE X (.Name x pos) (tVar i):=by
 intro pins s σ H Q I h;obtain⟨v,e,h⟩:=h;obtain⟨m,hn,hl⟩:=I.loc;obtain⟨u,r,l⟩:=hl i x v hN e hv;have fin:EP X pins σ Q u s:=⟨v,H,I,r,h⟩;rcases l with⟨hk,hm⟩|⟨hk,c,hc,hcell⟩
 ·exact DB (wpAny_loadName_local I.ok.kind hk hn hm fin) hd
 ·rcases hk with hk|hk
  ·exact DB (wpAny_loadName_cell I.ok.kind hk hc hcell fin) hd
  ·exact DB (wpAny_loadName_free I.ok.kind hk hc hcell fin hcd) hd
theorem zbr{i j pos}:PE X (.Constant (.int i) j pos) (tC (.int i)):=fun _ _ _ H _ I h=>wpAny_Constant_int ⟨.int i,H,I.tok _,⟨_,rfl⟩,h⟩
theorem pe_bl{b j pos}:PE X (.Constant (.bool b) j pos) (tC (.bl b)):=fun _ _ _ H _ I h=>Constant_bool ⟨.bl b,H,I,rfl,h⟩
theorem pe_non{j pos}:PE X (.Constant .none j pos) (tC .non):=fun _ _ _ H _ I h=>Constant_none ⟨.non,H,I,rfl,h⟩
def Gl(X:Cx)(x:Str):Prop:=X.env.kindOf x=some .globalImplicit
theorem ld_glob{E:kB->kC->Prop}{pins:List (Addr×Obj)}{s:kC}{σ:St}{H:Hp}{x:Str}{u:kB}{pos:Pos}{Q:kB->kC->Prop}(I:Inv X pins σ H s)(hg:Gl X x)(hm:X.mg x=some u)(h:Q u s)
  (hd:(x==("__debug__":Str))=false:=by decide):wpAny (model X.prog X.w) X.A (eval (.Name x pos) X.env) Q E s:=
 jx I.ok.kind hg (Calls.loadGlobal_global (by rw[I.ok.glob];exact I.mod.glob.keeps I.bk) hm h) hd
theorem zh2{E:kB->kC->Prop}{pins:List (Addr×Obj)}{s:kC}{σ:St}{H:Hp}{x:Str}{u:kB}{pos:Pos}{Q:kB->kC->Prop}(I:Inv X pins σ H s)(hg:Gl X x)(hm:X.mg x=none)(hv:uo x=some u)(h:Q u s)
  (hn:x≠"__name__":=by decide)(hd:(x==("__debug__":Str))=false:=by decide):wpAny (model X.prog X.w) X.A (eval (.Name x pos) X.env) Q E s:=by
 obtain⟨mb,h1,h2⟩:=I.mod.blt;exact jx I.ok.kind hg (Calls.loadGlobal_builtin (by rw[I.ok.glob];exact I.mod.glob.keeps I.bk) hm (by rw[I.ok.blt];exact h1.keeps I.bk) ((h2 x hn).trans hv) h) hd
theorem pe_bltn{x:Str}{v:V}{u:kB}{pos:Pos}(hg:Gl X x)(hm:X.mg x=none)(hv:uo x=some u)(r:RelV v u)(hn:x≠"__name__":=by decide)(hd:(x==("__debug__":Str))=false:=by decide):PE X (.Name x pos) (tC v):=
 fun _ _ _ H _ I h=>zh2 I hg hm hv ⟨v,H,I,r,h⟩ hn hd
variable{a b:Expr}{ta tb:TE}{pos:Pos}
def PC(X:Cx)(op:CmpOp)(a b:Expr)(t:TE):Prop:=
 ∀(pins:List (Addr×Obj))(s:kC)(σ:St)(H:Hp)(Q:VK),Inv X pins σ H s->t σ H Q->
  wpAny (model X.prog X.w) X.A (eval a X.env) (fun v s₁=>wpAny (model X.prog X.w) X.A (eval b X.env) (fun u s₂=>wpAny (model X.prog X.w) X.A (Ql op v u) (EP X pins σ Q) X.xe s₂) X.xe s₁) X.xe s
def tB(t:TE):TT:=fun σ H Q=>t σ H fun x H1=>∃c,x=.bl c/\Q c H1
theorem zjx{op:CmpOp}{t:TE}(h:PC X op a b t)(h1:jZ op b=false:=by first|exact nobehind _ (by decide) (by decide)|rfl):PT X (.Compare a [op] [b] pos) (tB t):=by
 intro pins s σ H Q I hw;refine Aw (thn (h pins s σ H _ I hw) fun v s1 h1=>thn h1 fun u s2 h2=>thn h2 fun c s3⟨x,H1,I1,r1,q1⟩=>?_) h1;obtain⟨d,rfl,q⟩:=q1
 cases r1;exact Qt ⟨H1,I1,q⟩
theorem zhv{e:Expr}{t:TE}(h:PE X e t)(he:∀whole,isTrue e X.env whole=(do let v ←whole;standAt e.pos;holding [v] (truthy v)):=by intro _;rfl):PT X e (tB t):=by
 intro pins s σ H Q I hw;refine isTrue_plain (thn (h pins s σ H _ I hw) fun v s1⟨x,H1,I1,r1,q1⟩=>?_) (he _);obtain⟨d,rfl,q⟩:=q1
 cases r1;exact Qt ⟨H1,I1,q⟩
variable{tA tB':TT}{rest:List Expr}
def tAnd(t u:TT):TT:=fun σ H Q=>t σ H fun c H1=>if c=true then u σ H1 Q else Q false H1
def tOr(t u:TT):TT:=fun σ H Q=>t σ H fun c H1=>if c=true then Q true H1 else u σ H1 Q
def tNot(t:TT):TT:=fun σ H Q=>t σ H fun c H1=>Q (!c) H1
theorem zmn(ha:PT X a tA):PW X (.BoolOp .Or [a] pos) tA:=by
 intro wh pins s σ H Q I h;refine isTrue_or (thn (ha pins s σ H Q I h) fun c s1 e=>?_)
 cases c with
 |false=>exact isTrue_or_nil e
 |true=>exact e
theorem pw_or(ha:PT X a tA)(hb:PW X (.BoolOp .Or (b::rest) pos) tB'):PW X (.BoolOp .Or (a::b::rest) pos) (tOr tA tB'):=by
 intro wh pins s σ H Q I h;refine isTrue_or (thn (ha pins s σ H _ I h) fun c s1⟨H1,I1,q1⟩=>?_)
 cases c with
 |true=>exact⟨H1,I1,q1⟩
 |false=>exact hb wh pins s1 σ H1 Q I1 q1
theorem pt_not(ha:PT X a tA):PT X (.UnaryOp .Not a pos) (tNot tA):=by
 intro pins s σ H Q I h;exact isTrue_not (ha pins s σ H (fun c H1=>Q (!c) H1) I h)
def tAndV(ta tb:TE):TE:=fun σ H Q=>ta σ H fun x H1=>∃c,x=.bl c/\if c=true then tb σ H1 Q else Q (.bl false) H1
def tOrV(ta tb:TE):TE:=fun σ H Q=>ta σ H fun x H1=>∃c,x=.bl c/\if c=true then Q (.bl true) H1 else tb σ H1 Q
def tNotV(ta:TE):TE:=fun σ H Q=>ta σ H fun x H1=>∃c,x=.bl c/\Q (.bl (!c)) H1
theorem pe_one{op}{t:TE}(h:PE X a t):PE X (.BoolOp op [a] pos) t:=fun pins s σ H Q I hw=>BoolOp_one (h pins s σ H Q I hw)
theorem pe_and(ha:PE X a ta)(hb:PE X (.BoolOp .And (b::rest) pos) tb):PE X (.BoolOp .And (a::b::rest) pos) (tAndV ta tb):=by
 intro pins s σ H Q I h;refine BoolOp_and (thn (ha pins s σ H _ I h) fun v s1⟨x,H1,I1,r1,q1⟩=>?_);obtain⟨c,rfl,q1⟩:=q1
 cases r1;refine Qt ?_
 cases c with
 |true=>exact hb pins s1 σ H1 Q I1 q1
 |false=>exact⟨.bl false,H1,I1,rfl,q1⟩
def tIf(t:TT)(ta tb:TE):TE:=fun σ H Q=>t σ H fun c H1=>if c=true then ta σ H1 Q else tb σ H1 Q
end
def SqL(K:kM)(H:Hp)(a:Addr)(xs:List V):Prop:=
 Rd H a (.lst xs)∨
  ∃(o:Obj)(its:Array kB)(n:Nat),K.lookup a=some o/\o.cls=.type "list"/\o.dict=none/\o.data=.seq its n/\its.size<=sizeLine/\Vals xs its.toList
def SqT(K:kM)(H:Hp)(a:Addr)(xs:List V):Prop:=
 Rd H a (.tup xs)∨
  ∃(o:Obj)(its:Array kB)(n:Nat),K.lookup a=some o/\o.cls=.type "tuple"/\o.data=.seq its n/\its.size<=sizeLine/\Vals xs its.toList
def absV:kB->Option V
 |.none=>some .non
 |.bool b=>some (.bl b)
 |.int i _=>some (.int i)
 |.str x _=>some (.str x)
 |.bytes b _=>some (.byt b)
 |.float b _=>some (.flt b)
 |.ref a=>some (.ref a)
 |.type n=>some (.ty n)
 |_=>none
theorem RelV.abs{x:V}{u:kB}(r:RelV x u):absV u=some x:=by
 cases x with
 |non=>cases r;rfl
 |bl _=>cases r;rfl
 |int _=>obtain⟨t,rfl⟩:=r;rfl
 |str _=>obtain⟨t,rfl⟩:=r;rfl
 |byt _=>obtain⟨t,rfl⟩:=r;rfl
 |flt _=>obtain⟨t,rfl⟩:=r;rfl
 |ref _=>cases r;rfl
 |ty _=>cases r;rfl
theorem RelV.inj{x y:V}{u:kB}(r:RelV x u)(q:RelV y u):x=y:=uB (r.abs.symm.trans q.abs)
theorem Vals.inj:∀{xs ys:List V}{us:List kB},Vals xs us->Vals ys us->xs=ys
 |_,_,_,.nil,.nil=>rfl
 |_,_,_,.cons r t,.cons r' t'=>by rw[r.inj r',Vals.inj t t']
section
variable{X:Cx}{pins:List (Addr×Obj)}{σ:St}{H:Hp}{s:kC}{a:Addr}{xs ys:List V}
theorem SqL.of{K:kM}(h:H a=some (.lst xs)):SqL K H a xs:=.inl (.inl h)
theorem SqT.of{K:kM}(h:H a=some (.tup xs)):SqT K H a xs:=.inl (.inl h)
theorem Inv.list(I:Inv X pins σ H s)(h:SqL X.K H a xs):∃its:List kB,Vals xs its/\PlainL s.heap a its.toArray/\xs.length<=sizeLine:=by
 rcases h with h|⟨o,its,n,hk,hc,hd,hs,hz,r⟩
 ·obtain⟨z,its,n,r,e⟩:=h.ok I.hok;exact⟨its,r,⟨_,n,e,rfl,rfl,rfl⟩,z⟩
 ·refine⟨its.toList,r,⟨o,n,I.kIn a o hk,hc,hd,by simpa using hs⟩,?_⟩
  have e:=r.length;simp only[Ud] at e;omega
theorem Inv.tuple(I:Inv X pins σ H s)(h:SqT X.K H a xs):∃its:List kB,Vals xs its/\IsTup s.heap a its.toArray/\xs.length<=sizeLine:=by
 rcases h with h|⟨o,its,n,hk,hc,hs,hz,r⟩
 ·obtain⟨z,its,r,p⟩:=h.ok I.hok;exact⟨its,r,p,z⟩
 ·refine⟨its.toList,r,⟨o,I.kIn a o hk,hc,n,by simpa using hs⟩,?_⟩
  have e:=r.length;simp only[Ud] at e;omega
theorem Inv.list_inj(I:Inv X pins σ H s)(h:SqL X.K H a xs)(h':SqL X.K H a ys):xs=ys:=by
 obtain⟨its,r,⟨o,n,e,_,_,d⟩,_⟩:=I.list h;obtain⟨its',r',⟨o',n',e',_,_,d'⟩,_⟩:=I.list h';rw[e] at e';cases e';rw[d] at d'
 injection d' with d1 _
 have:its=its':=by simpa using congrArg Array.toList d1
 subst this;exact r.inj r'
end
abbrev Cx.wish(X:Cx)(E:kB->kC->Prop):Cx:={X with xe:=E}
abbrev Cx.nox(X:Cx):Cx:=X.wish fun _ _=>False
theorem Cx.Ok.wish{X:Cx}(ok:X.Ok)(E:kB->kC->Prop):(X.wish E).Ok:=
 ⟨ok.mod,ok.kind,ok.glob,ok.blt,ok.above,ok.inj,ok.has,ok.cab,ok.hd,ok.frames,ok.stk,ok.exf,ok.bs,ok.bsz,ok.noex,ok.exfs,ok.funs,ok.frf⟩
theorem Cx.Ok.unwish{X:Cx}{E:kB->kC->Prop}(ok:(X.wish E).Ok):X.Ok:=
 ⟨ok.mod,ok.kind,ok.glob,ok.blt,ok.above,ok.inj,ok.has,ok.cab,ok.hd,ok.frames,ok.stk,ok.exf,ok.bs,ok.bsz,ok.noex,ok.exfs,ok.funs,ok.frf⟩
section
variable{X:Cx}{pins:List (Addr×Obj)}{σ:St}{H:Hp}{s:kC}{E:kB->kC->Prop}
theorem Inv.wish(I:Inv X pins σ H s)(E:kB->kC->Prop):Inv (X.wish E) pins σ H s:=⟨I.ok.wish E,I.os,I.bare,I.base,I.loc,I.cell,I.free,I.freeC,I.pin,I.hok,I.len⟩
theorem Inv.unwish(I:Inv (X.wish E) pins σ H s):Inv X pins σ H s:=⟨I.ok.unwish,I.os,I.bare,I.base,I.loc,I.cell,I.free,I.freeC,I.pin,I.hok,I.len⟩
theorem SP.unwish{D:Ends}{f:Flow}{s':kC}(h:SP (X.wish E) pins D f s'):SP X pins D f s':=by
 cases f with
 |next=>obtain⟨σ',H',I,q⟩:=h;exact⟨σ',H',I.unwish,q⟩
 |brk=>obtain⟨σ',H',I,q⟩:=h;exact⟨σ',H',I.unwish,q⟩
 |cont=>obtain⟨σ',H',I,q⟩:=h;exact⟨σ',H',I.unwish,q⟩
 |ret u=>obtain⟨v,σ',H',I,r,q⟩:=h;exact⟨v,σ',H',I.unwish,r,q⟩
theorem PSs.nox{st:List Stmt}{t:TS}(h:PSs X.nox st t):PSs X st t:=fun pins s σ H D I hw=>
 uv (h pins s σ H D (I.wish _) hw) (fun _ _ q=>q.unwish) fun _ _ z=>QQ z
end
section
variable{X:Cx}{st:Stmt}{rest:List Stmt}{t u:TS}{e:Expr}{te:TE}{pos:Pos}
def tNext:TS:=fun D σ H=>D.nx σ H
def tSeq(t u:TS):TS:=fun D σ H=>t {D with nx:=u D} σ H
theorem zc7:PSs X [] tNext:=fun _ _ σ H _ I h=>jk ⟨σ,H,I,h⟩
theorem zac(h1:PS X st t)(h2:PSs X rest u):PSs X (st::rest) (tSeq t u):=by
 intro pins s σ H D I h;refine CL (thn (h1 pins s σ H {D with nx:=u D} I h) fun f s1 q=>?_)
 cases f with
 |next=>
  obtain⟨σ',H',I',q⟩:=q;exact h2 pins s1 σ' H' D I' q
 |ret v=>exact q
 |brk=>exact q
 |cont=>exact q
theorem zah(h1:PS X st t):PSs X [st] t:=by
 intro pins s σ H D I h;refine CL (thn (h1 pins s σ H D I h) fun f s1 q=>?_)
 cases f with
 |next=>exact jk q
 |ret v=>exact q
 |brk=>exact q
 |cont=>exact q
def tBreak:TS:=fun D σ H=>D.bk σ H
theorem ps_break:PS X (.Break pos) tBreak:=fun _ _ σ H _ I h=>wpAny_Break ⟨σ,H,I,h⟩
theorem Inv.quiet{pins:List (Addr×Obj)}{σ:St}{H:Hp}{s:kC}(I:Inv X pins σ H s):interactive X.env=false:=by simp[interactive,I.ok.kind]
def tDrop(te:TE):TS:=fun D σ H=>te σ H fun _ H1=>D.nx σ H1
theorem zeb(he:PE X e te)(hs:BW e none pos.line X.env=pure false:=by rfl):PS X (.Expr e pos) (tDrop te):=by
 intro pins s σ H D I h;exact wpAny_Expr_any (thn (he pins s σ H _ I h) fun v s1⟨x,H1,I1,r1,q1⟩=>⟨σ,H1,I1,q1⟩) I.quiet hs
def tRet(te:TE):TS:=fun D σ H=>te σ H D.rt
theorem zaz(he:PE X e te):PS X (.Return (some e) pos) (tRet te):=by
 intro pins s σ H D I h;exact wpAny_Return_some (thn (he pins s σ H _ I h) fun v s1⟨x,H1,I1,r1,q1⟩=>⟨x,σ,H1,I1,r1,q1⟩)
def tRetN:TS:=fun D _ H=>D.rt .non H
def tIfS(c:TT)(t u:TS):TS:=fun D σ H=>c σ H fun b H1=>if b=true then t D σ H1 else u D σ H1
theorem zf4{c:Expr}{a b:List Stmt}{tc:TT}(hc:PT X c tc)(ha:PSs X a t)(hb:PSs X b u):PS X (.If c a b pos) (tIfS tc t u):=by
 intro pins s σ H D I h;refine wpAny_If (thn (hc pins s σ H _ I h) fun d s1⟨H1,I1,q1⟩=>?_)
 cases d with
 |true=>exact ha pins s1 σ H1 D I1 q1
 |false=>exact hb pins s1 σ H1 D I1 q1
end
abbrev TG:=V->St->Hp->(St->Hp->Prop)->Prop
abbrev TGs:=List V->St->Hp->(St->Hp->Prop)->Prop
def PG(X:Cx)(target:Expr)(t:TG):Prop:=
 ∀(pins:List (Addr×Obj))(s:kC)(σ:St)(H:Hp)(v:V)(u:kB)(Q:St->Hp->Prop),Inv X pins σ H s->RelV v u->t v σ H Q->
  wpAny (model X.prog X.w) X.A (assign target X.env u) (fun _ s'=>∃σ' H',Inv X pins σ' H' s'/\Q σ' H') X.xe s
def PGs(X:Cx)(ts:List Expr)(t:TGs):Prop:=
 ∀(pins:List (Addr×Obj))(s:kC)(σ:St)(H:Hp)(vs:List V)(us:List kB)(Q:St->Hp->Prop),Inv X pins σ H s->Vals vs us->t vs σ H Q->
  wpAny (model X.prog X.w) X.A (Bc ((vk ts X.env).map (·.2)) us) (fun _ s'=>∃σ' H',Inv X pins σ' H' s'/\Q σ' H') X.xe s
abbrev TSet:=V->V->V->Hp->(Hp->Prop)->Prop
section
variable{X:Cx}{pos:Pos}
def gName(i:Nat):TG:=fun v σ H Q=>Q (σ.set i (some v)) H
theorem zbd{i:Nat}{x:Str}(hN:X.N.Nodup)(hi:X.N[i]?=some x)(hx:Loc X.env.scope x)(hf:X.fn x=true∨X.env.scope.names.lookup x=some .local:=by first|exact .inl rfl|exact .inr rfl|assumption):PG X (.Name x pos) (gName i):=by
 intro pins s σ H v u Q I r h;exact Br (zfs I hN hi hx r (fun s' I'=>⟨_,H,I',h⟩) hf)
def gNil:TGs:=fun vs σ H Q=>vs=[]/\Q σ H
def gCons(t:TG)(u:TGs):TGs:=fun vs σ H Q=>∃v r,vs=v::r/\t v σ H fun σ' H'=>u r σ' H' Q
theorem zfa:PGs X [] gNil:=by
 intro pins s σ H vs us Q I r h;obtain⟨e,h⟩:=h;subst e
 cases r;exact Bt ⟨σ,H,I,h⟩
theorem zec{e:Expr}{es:List Expr}{t:TG}{u:TGs}(h1:PG X e t)(h2:PGs X es u)
  (hs:(vk (e::es) X.env).map (·.2)=assign e X.env::(vk es X.env).map (·.2):=by rfl):PGs X (e::es) (gCons t u):=by
 intro pins s σ H vs us Q I r h;obtain⟨v,vr,e1,h⟩:=h;subst e1
 cases r with
 |cons r rr=>
  rw[hs];refine jy (thn (h1 pins s σ H _ _ _ I r h) fun _ s1⟨σ1,H1,I1,q1⟩=>?_);exact h2 pins s1 σ1 H1 _ _ Q I1 rr q1
def gTup(K:kM)(n:Nat)(t:TGs):TG:=fun v σ H Q=>∃a xs,v=.ref a/\SqT K H a xs/\xs.length=n/\t xs σ H Q
theorem pg_tup{es:List Expr}{k:Nat}{t:TGs}{n:Nat}(hc:X.calm=true)(h:PGs X es t)
  (hn:(vk es X.env).length=n:=by rfl)(hst:(vk es X.env).findIdx? (·.1)=none:=by rfl):PG X (.Tuple es k pos) (gTup X.K n t):=by
 intro pins s σ H v u Q I r hw;obtain⟨a,xs,e1,hq,hl,hw⟩:=hw;subst e1
 cases r;obtain⟨its,rv,ht,hz⟩:=I.tuple hq;refine assign_Tuple_tuple (I.ok.hd hc) ht (by simp[hn,←hl,rv.length]) hst fun h' hx=>?_
 have I1:Inv X pins σ H {s with heap:=h'}:=I.kept (t':=s.toks) fun b o e=>hx b o (pd (pB e)) e;exact h pins _ σ H xs _ Q I1 (by simpa using rv) hw
def gSub(to ti:TE)(t:TSet):TG:=fun v σ H Q=>to σ H fun o H1=>ti σ H1 fun i H2=>t o i v H2 fun H3=>Q σ H3
def tAsg(te:TE)(g:TG):TS:=fun D σ H=>te σ H fun x H1=>g x σ H1 D.nx
theorem ps_asg{tg e:Expr}{te:TE}{g:TG}(he:PE X e te)(hg:PG X tg g)(hs:swapsWithSole [tg] e pos.line X.env=pure false:=by rfl)(hw:swappedStores [tg] e X.env=pure none:=by rfl)
  (h1:(vk [tg] X.env).map (·.2)=[assign tg X.env]:=by rfl):PS X (.Assign [tg] e pos) (tAsg te g):=by
 intro pins s σ H D I h;refine wpAny_Assign_stores (thn (he pins s σ H _ I h) fun v s1⟨x,H1,I1,r1,q1⟩=>?_) hs hw;rw[h1];exact thn (hg pins s1 σ H1 x v _ I1 r1 q1) fun _ s2 q=>q
theorem zbe{i:Nat}{x:Str}{e:Expr}{te:TE}{pos':Pos}(hN:X.N.Nodup)(hi:X.N[i]?=some x)(hx:Loc X.env.scope x)(he:PE X e te)(hs:BW e (some (.Name x pos')) pos.line X.env=pure false:=by rfl)(hf:X.fn x=true∨X.env.scope.names.lookup x=some .local:=by first|exact .inl rfl|exact .inr rfl|assumption):
  PS X (.Assign [.Name x pos'] e pos) (tAsg te (gName i)):=by
 intro pins s σ H D I h;refine wpAny_Assign_Name (thn (he pins s σ H _ I h) fun v s1⟨y,H1,I1,r1,q1⟩=>?_) hs;exact zfs I1 hN hi hx r1 (fun s2 I2=>⟨_,H1,I2,q1⟩) hf
def tPar(i j:Nat)(ta:TA):TS:=fun D σ H=>ta σ H fun vs H1=>∃v w,vs=[v,w]/\D.nx ((σ.set i (some v)).set j (some w)) H1
theorem ps_par{i j:Nat}{x y:Str}{a b:Expr}{ta:TA}{px py pt:Pos}{kt k2 pt2}(hc:X.calm=true)(hN:X.N.Nodup)(hi:X.N[i]?=some x)(hj:X.N[j]?=some y)(hij:i≠j)
  (hx:X.env.scope.names.lookup x=some .local)(hy:X.env.scope.names.lookup y=some .local)(ha:PA X [a,b] ta)
  (hw:swappedStores [.Tuple [.Name x px,.Name y py] kt pt] (.Tuple [a,b] k2 pt2) X.env=pure (some [x,y]))
  (hs:swapsWithSole [.Tuple [.Name x px,.Name y py] kt pt] (.Tuple [a,b] k2 pt2) pos.line X.env=pure false:=by rfl):
  PS X (.Assign [.Tuple [.Name x px,.Name y py] kt pt] (.Tuple [a,b] k2 pt2) pos) (tPar i j ta):=by
 intro pins s σ H D I h;rw[exec_Assign_arm];refine kA (jc ?_);rw[hs];refine kA (kL ?_);rw[if_neg (by decide)]
 refine kA (Tuple_ (thn (ha _ pins s σ H _ I h) fun us s1⟨vs,H1,I1,r1,q1⟩=>?_));obtain⟨v,w,e1,q1⟩:=q1;subst e1;obtain⟨u1,u2,rfl,rv,rw'⟩:∃u1 u2,us=[u1,u2]/\RelV v u1/\RelV w u2:=by
  cases r1 with
  |cons p q=>
   cases q with
   |cons p' q'=>
    cases q';exact⟨_,_,rfl,p,p'⟩
 refine Uz ?_ (by show 2<=sizeLine;decide)
 have I2:Inv X pins σ H1 {s1 with heap:=s1.heap.push {cls:=.type "tuple",data:=.seq [u1,u2].toArray}}:=I1.kept (t':=s1.toks) fun b o e=>kT _ e;rw[hw];refine kA (kL ?_)
 show wpAny (model X.prog X.w) X.A (do rule "assign.swapped-stores";let items ←unpackItems (.ref s1.heap.objs.size) 2 none;Bc [fun v=>DC X.env y v,fun v=>DC X.env x v] items.reverse;pure Flow.next) _ _ _
 refine kA (Qm (kA (unpackItems_tuple (items:=#[u1,u2]) (I.ok.hd hc) (IsTup.new s1.heap _) fun h' hx'=>?_)));have I3:=I2.kept (h':=h') (t':=s1.toks) fun b o e=>hx' b o (pd (pB e)) e
 show wpAny _ _ (Bc [fun v=>DC X.env y v,fun v=>DC X.env x v] [u2,u1]>>=fun _=>pure Flow.next) _ _ _
 refine kA (jy (wpAny_bindName (zfs I3 hN hj (.inl hy) rw' (fun s2 I4=>?_) (.inr hy))));refine jy (wpAny_bindName (zfs I4 hN hi (.inl hx) rv (fun s3 I5=>Bt (kL ?_)) (.inr hx)));rw[List.set_comm _ _ (ve hij)] at I5;exact⟨_,H1,I5,q1⟩
end
section
variable{X:Cx}{pos:Pos}
def zm3(c:TT)(tb:TS):TS:=fun D σ H=>∃W:Nat->St->Hp->Prop,(∃m,W m σ H)/\∀m σ H,W m σ H->
 c σ H fun b H1=>if b=true then ∃N:St->Hp->Prop,(∀σ' H',N σ' H'->∃m',m'<m/\W m' σ' H')/\tb {D with nx:=N,ct:=N,bk:=D.nx} σ H1 else D.nx σ H1
theorem zgm{c:Expr}{body:List Stmt}{tc:TT}{tb:TS}(hp:PassesOwn (model X.prog X.w) X.A X.env X.xe)(hc:PT X c tc)(hb:PSs X body tb):PS X (.While c body [] pos) (zm3 tc tb):=by
 intro pins s σ H D I h;obtain⟨W,⟨m0,w0⟩,turn⟩:=h;refine wpAny_While (codeAny_whileLoop (fun n s'=>∃σ' H',Inv X pins σ' H' s'/\W n σ' H') ?_ m0 ⟨σ,H,I,w0⟩);rintro n s1 ⟨σ1,H1,I1,w1⟩;refine UJ hp (thn (hc pins s1 σ1 H1 _ I1 (turn n σ1 H1 w1)) fun b s2⟨H2,I2,q2⟩=>?_)
 cases b with
 |true=>
  obtain⟨N,hN,q2⟩:=q2;rw[if_pos rfl];refine UJ hp (thn (hb pins s2 σ1 H2 _ I2 q2) fun f s3 q3=>?_)
  cases f with
  |next=>
   obtain⟨σ3,H3,I3,n3⟩:=q3;obtain⟨m',hm,w3⟩:=hN σ3 H3 n3;exact⟨m',hm,σ3,H3,I3,w3⟩
  |cont=>
   obtain⟨σ3,H3,I3,n3⟩:=q3;obtain⟨m',hm,w3⟩:=hN σ3 H3 n3;exact⟨m',hm,σ3,H3,I3,w3⟩
  |brk=>exact q3
  |ret v=>exact q3
 |false=>
  rw[if_neg pN];exact jk ⟨σ1,H2,I2,q2⟩
end
structure It where
 go:Nat->Hp->Prop
 yld:Nat->Hp->V->Hp->Prop
 stop:Nat->Hp->Prop
def FpOk(X:Cx)(pins:List (Addr×Obj))(H:Hp)(b:Addr):Prop:=
 H b=none/\b≠X.env.locals/\b∉X.fs/\(b∈X.ex∨X.s₀.heap.objs.size<=b)/\(∀x c,X.env.cells.lookup x=some c->c≠b)/\∀p∈X.pn++pins,p.1≠b
theorem Inv.fpOk{X:Cx}{pins:List (Addr×Obj)}{σ:St}{H H':Hp}{s:kC}{b:Addr}(I:Inv X pins σ H s)(hb:s.heap.objs.size<=b)(hn:H' b=none):FpOk X pins H' b:=by
 refine⟨hn,AY (ku I.lt hb),I.nofs hb,.inr (pL I.sz hb),fun x c e z=>?_,fun p hp z=>?_⟩
 ·obtain⟨v,q⟩:=I.cell x c e;exact absurd (ku q.lt (by rw[z];exact hb)) (UB _)
 ·exact absurd (ku (pB (I.pin p hp).1) (by rw[z];exact hb)) (UB _)
structure Turn(P:pA)(w:pR)(K:kM)(tg:Expr)(J:It)(fp:List Addr)(it:Addr)(tn:Nat->Heap->Prop):Prop where
 mem:it∈fp
 obj:∀i h,tn i h->∀b∈fp,∃o,h.get? b=some o/\∀v,o.data≠.cell v
 keep:∀i h h',tn i h->(∀b∈fp,∀o,h.get? b=some o->h'.get? b=some o)->tn i h'
 item:∀(X:Cx),X.prog=P->X.w=w->X.K=K->X.calm=true->∀(i:Nat)(pins:List (Addr×Obj))(s:kC)(σ:St)(H:Hp)(E:kB->kC->Prop),Inv X pins σ H s->(∀b∈fp,FpOk X pins H b)->tn i s.heap->J.go i H->
  wpAny (model P w) X.A (CM (.ref it)) (fun r s1=>∃u,r=some u/\
   wpAny (model P w) X.A (jl tg (.ref it) u) (fun _ s2=>∃x H',Inv X pins σ H' s2/\RelV x u/\J.yld i H x H'/\tn (i+1) s2.heap/\∀b∈fp,H' b=none) E s1) E s
 done:∀(X:Cx),X.prog=P->X.w=w->X.K=K->X.calm=true->∀(i:Nat)(pins:List (Addr×Obj))(s:kC)(σ:St)(H:Hp)(E:kB->kC->Prop),Inv X pins σ H s->(∀b∈fp,FpOk X pins H b)->tn i s.heap->J.stop i H->
  wpAny (model P w) X.A (CM (.ref it)) (fun r s1=>r=none/\Inv X pins σ H s1) E s
 self:∀(A:pj)(i:Nat)(s:kC)(Q:kB->kC->Prop)(E:kB->kC->Prop),tn i s.heap->Q (.ref it) s->wpAny (model P w) A (pyIter (.ref it)) Q E s
abbrev TI:=St->Hp->(It->Hp->Prop)->Prop
def PIE(X:Cx)(pins:List (Addr×Obj))(σ:St)(tg:Expr)(R:It->Hp->Prop)(itv:kB)(s2:kC):Prop:=
 ∃(it:Addr)(fp:List Addr)(tn:Nat->Heap->Prop)(J:It)(H':Hp),itv=.ref it/\Inv X pins σ H' s2/\Turn X.prog X.w X.K tg J fp it tn/\tn 0 s2.heap/\(∀b∈fp,FpOk X pins H' b)/\R J H'
def PI(X:Cx)(tg iter:Expr)(wi:TI):Prop:=
 ∀(pins:List (Addr×Obj))(s:kC)(σ:St)(H:Hp)(R:It->Hp->Prop),Inv X pins σ H s->wi σ H R->
  wpAny (model X.prog X.w) X.A (eval iter X.env) (fun v s1=>wpAny (model X.prog X.w) X.A (pyIter v) (PIE X pins σ tg R) X.xe s1) X.xe s
theorem go_of{M:Model}{A:pj}{E:kB->kC->Prop}{s:kC}{tg:Expr}{it:Addr}{u:kB}{o:Obj}{n:String}{vs:Array kB}{Q:Unit->kC->Prop}(ho:s.heap.get? it=some o)(hc:o.cls=.type n)(hd:o.data=.fields vs)
  (hn:["enumerate","zip","dict_itemiterator","dict_reverseitemiterator","odict_iterator","itertools.zip_longest","itertools.pairwise"].contains n=false)(hQ:Q () s):wpAny M A (jl tg (.ref it) u) Q E s:=by
 unfold jl
 cases tg<;>first
  |exact kL hQ
  |(cases u<;>first
    |exact kL hQ
    |(refine kA (wpAny_load ho ?_)
      rw[hc,hd];show wpAny M A (if(["enumerate","zip","dict_itemiterator","dict_reverseitemiterator","odict_iterator","itertools.zip_longest","itertools.pairwise"].contains n&&vs[0]?==some (UW _))=true then _ else _) Q E s;rw[if_neg (by intro h;rw[hn,Bool.false_and] at h;cases h)]
      exact kL hQ))
def Itl(K:kM)(a:Addr):It:=
 ⟨fun i H=>∃xs x,SqL K H a xs/\xs[i]?=some x,fun i H x H'=>H'=H/\∀xs,SqL K H a xs->xs[i]?=some x,fun i H=>∃xs,SqL K H a xs/\xs.length<=i⟩
def Itr(lo:Int)(n:Nat):It:=⟨fun i _=>i<n,fun i H x H'=>H'=H/\x=.int (lo+i),fun i _=>n<=i⟩
theorem zpl{P:pA}{w:pR}{K:kM}{tg:Expr}(a it:Addr):Turn P w K tg (Itl K a) [it] it (fun i h=>h.IsListIter it a i) where
 mem:=by simp
 obj:=fun i h st b hb=>by
  have e:b=it:=by simpa using hb
  subst e;obtain⟨o,e,c,d⟩:=st;exact⟨o,e,fun v z=>by rw[d] at z;cases z⟩
 keep:=fun i h h' st k=>st.at fun o e=>k it (by simp) o e
 item:=by
  intro X hP hw hK hc i pins s σ H E I hf st hg;subst hP hw hK;obtain⟨xs,x,hq,hx⟩:=hg;obtain⟨its,rv,p,hz⟩:=I.list hq;obtain⟨u,hu,ru⟩:=rv.get hx;obtain⟨f0,f1,f2,f3,f4,f5⟩:=hf it (by simp)
  refine wpAny_pyNext_list_item st p.isList (x:=u) (by simpa using hu) fun h' st' sb=>?_
  have I1:Inv X pins σ H {s with heap:=h'}:=I.turned (t':=s.toks) (fun b o hb e=>(sb.2 b hb).trans e) f0 f1 f3 f4 f5;obtain⟨o,e,c,d⟩:=id st';exact⟨u,rfl,go_of (s:={s with heap:=h'}) e c d (by decide) ⟨x,H,I1,ru,⟨rfl,fun ys hy=>by rw[I.list_inj hy hq];exact hx⟩,st',fun b hb=>(hf b hb).1⟩⟩
 done:=by
  intro X hP hw hK hc i pins s σ H E I hf st hg;subst hP hw hK;obtain⟨xs,hq,hx⟩:=hg;obtain⟨its,rv,p,hz⟩:=I.list hq;obtain⟨f0,f1,f2,f3,f4,f5⟩:=hf it (by simp)
  have hl:=rv.length;exact wpAny_pyNext_list_end (I.ok.hd hc) st p.isList (by simp;omega) fun h' eb=>⟨rfl,I.turned (t':=s.toks) (fun b o hb e=>eb b o hb e) f0 f1 f3 f4 f5⟩
 self:=fun _ _ _ _ _ st h=>wpAny_pyIter_listiter st h
theorem znk{P:pA}{w:pR}{K:kM}{tg:Expr}(it:Addr)(lo:Int)(n:Nat):Turn P w K tg (Itr lo n) [it] it (fun i h=>IsRangeIter h it (lo+(i:Nat)*1) ((n:Int)-(i:Nat)) 1) where
 mem:=by simp
 obj:=fun i h st b hb=>by
  have e:b=it:=by simpa using hb
  subst e;exact⟨_,st,fun v z=>by
   have z':De _=DR v:=z
   cases z'⟩
 keep:=fun i h h' st k=>k it (by simp) _ st
 item:=by
  intro X hP hw hK hc i pins s σ H E I hf st hg;subst hP hw hK;obtain⟨f0,f1,f2,f3,f4,f5⟩:=hf it (by simp)
  have W:=Walks.range (prog:=X.prog) (w:=X.w) (I.ok.hd hc) it lo 1 n;refine W.item i s _ _ hg st fun v h' tk hv st' kk=>?_;obtain⟨t,rfl⟩:=hv;have I1:Inv X pins σ H {s with heap:=h',toks:=tk}:=I.turned (fun b o hb e=>kk b o (by simpa using hb) e) f0 f1 f3 f4 f5
  refine⟨_,rfl,go_of (s:={s with heap:=h',toks:=tk}) (n:="range_iterator") st' rfl rfl (by decide) ⟨.int (lo+i),H,I1,⟨t,?_⟩,⟨rfl,rfl⟩,st',fun b hb=>(hf b hb).1⟩⟩
  rw[Ci]
 done:=by
  intro X hP hw hK hc i pins s σ H E I hf st hg;subst hP hw hK;obtain⟨f0,f1,f2,f3,f4,f5⟩:=hf it (by simp)
  exact wpAny_pyNext_range_end (I.ok.hd hc) st (by have:n<=i:=hg;omega) fun h' eb=>⟨rfl,I.turned (t':=s.toks) (fun b o hb e=>eb b o hb e) f0 f1 f3 f4 f5⟩
 self:=fun _ _ _ _ _ st h=>wpAny_pyIter_rangeiter st h
section
variable{X:Cx}{tg:Expr}
def zd1(K:kM)(tl:TE):TI:=fun σ H R=>tl σ H fun x H1=>∃a,x=.ref a/\(∃xs,SqL K H1 a xs)/\R (Itl K a) H1
theorem zc8{l:Expr}{tl:TE}(hl:PE X l tl):PI X tg l (zd1 X.K tl):=by
 intro pins s σ H R I h;refine thn (hl pins s σ H _ I h) fun v s1⟨x,H1,I1,r1,q1⟩=>?_;obtain⟨a,e,⟨xs,hq⟩,q⟩:=q1;subst e
 cases r1;obtain⟨its,rv,p,hz⟩:=I1.list hq;refine gX p.isList ?_;refine⟨s1.heap.objs.size,[s1.heap.objs.size],_,_,H1,rfl,I1.kept (t':=s1.toks) fun b o e=>kT _ e,zpl a _,⟨_,pM _ rfl,rfl,rfl⟩,fun b hb=>?_,q⟩;have e:b=s1.heap.objs.size:=by simpa using hb
 subst e;exact I1.fpOk (kG _) (I1.hok.fresh (kG _))
theorem zly{pins:List (Addr×Obj)}{σ:St}{H:Hp}{s:kC}{R:It->Hp->Prop}{E:kB->kC->Prop}{lo hi:Int}{t u v:Tok}{tk:Nat}(I:Inv X pins σ H s)(h1: -(2^62)<=lo)(h2:lo<2^62)(h3: -(2^62)<=hi)(h4:hi<2^62)
  (q:R (Itr lo (hi-lo).toNat) H):wpAny (model X.prog X.w) X.A (pyIter (.ref s.heap.objs.size)) (PIE X pins σ tg R) E {s with heap:=s.heap.push {cls:=.type "range",data:=.fields #[.int lo t,.int hi u,.int 1 v]},toks:=tk}:=by
 refine wpAny_pyIter_range (IsRange.new ..) (small_one h1 h2 h3 h4) ?_;have I1:Inv X pins σ H {s with heap:=s.heap.push {cls:=.type "range",data:=.fields #[.int lo t,.int hi u,.int 1 v]},toks:=tk}:=I.kept fun b o e=>kT _ e;refine⟨(s.heap.push {cls:=.type "range",data:=.fields #[.int lo t,.int hi u,.int 1 v]}).objs.size,[(s.heap.push {cls:=.type "range",data:=.fields #[.int lo t,.int hi u,.int 1 v]}).objs.size],_,_,H,rfl,
  I1.kept (t':=tk) fun b o e=>kT _ e,znk _ lo (hi-lo).toNat,?_,fun b hb=>?_,q⟩
 ·have e1:lo+((0:Nat):Int)*1=lo:=by simp
  have e2:(((hi-lo).toNat:Nat):Int)-((0:Nat):Int)=Builtin.Range.rangeSize lo hi 1:=by rw[rangeSize_one];split<;>omega
  show IsRangeIter _ _ (lo+((0:Nat):Int)*1) ((((hi-lo).toNat:Nat):Int)-((0:Nat):Int)) 1
  rw[e1,e2];exact pM _ rfl
 ·have e:b=(s.heap.push {cls:=.type "range",data:=.fields #[.int lo t,.int hi u,.int 1 v]}).objs.size:=by simpa using hb
  subst e;exact I1.fpOk (kG _) (I1.hok.fresh (kG _))
def zlj(ta:TA):TI:=fun σ H R=>ta σ H fun vs H1=>∃j:Int,vs=[.int j]/\ -(2^62)<=j/\j<2^62/\R (Itr 0 j.toNat) H1
def iRng2(ta:TA):TI:=fun σ H R=>ta σ H fun vs H1=>∃i j:Int,vs=[.int i,.int j]/\(-(2^62)<=i/\i<2^62/\ -(2^62)<=j/\j<2^62)/\R (Itr i (j-i).toNat) H1
theorem ze8{a:Expr}{ta:TA}{p pos:Pos}(hg:Gl X "range")(hm:X.mg "range"=none)(ha:PA X [a] ta)(hs:uK [a] X.env=[(false,eval a X.env)]:=by rfl):PI X tg (.Call (.Name "range" p) [a] [] pos) (zlj ta):=by
 intro pins s σ H R I h;refine Call_ (zh2 I hg hm boot_range (vA (thn (ha pos pins s σ H _ I h) fun us s1⟨vs,H1,I1,r1,q1⟩=>?_) hs rfl));obtain⟨j,e,q1,q2,q⟩:=q1;subst e
 cases r1 with
 |cons r rr=>
  cases rr;obtain⟨t,rfl⟩:=r;exact call_range_1 (zly I1 (by omega) (by omega) q1 q2 (by simpa using q))
theorem zpn{a b:Expr}{ta:TA}{p pos:Pos}(hg:Gl X "range")(hm:X.mg "range"=none)(ha:PA X [a,b] ta)(hs:uK [a,b] X.env=[(false,eval a X.env),(false,eval b X.env)]:=by rfl)(hs2:uK [b] X.env=[(false,eval b X.env)]:=by rfl):
  PI X tg (.Call (.Name "range" p) [a,b] [] pos) (iRng2 ta):=by
 intro pins s σ H R I h;refine Call_ (zh2 I hg hm boot_range (vA (thn (ha pos pins s σ H _ I h) fun us s1⟨vs,H1,I1,r1,q1⟩=>?_) (by rw[hs,hs2]) (by rw[hs2];rfl)))
 obtain⟨i,j,e,⟨q1,q2,q3,q4⟩,q⟩:=q1;subst e
 cases r1 with
 |cons r rr=>
  cases rr with
  |cons r' rr=>
   cases rr;obtain⟨t,rfl⟩:=r;obtain⟨t',rfl⟩:=r';exact call_range_2 (zly I1 q1 q2 q3 q4 q)
def tFor(wi:TI)(g:TG)(tb:TS):TS:=fun D σ H=>wi σ H fun J H1=>∃W:Nat->Nat->St->Hp->Prop,(∃m,W 0 m σ H1)/\∀i m σ H,W i m σ H->
 (J.stop i H/\D.nx σ H)∨(J.go i H/\∃N:St->Hp->Prop,(∀σ' H',N σ' H'->∃m',m'<m/\W (i+1) m' σ' H')/\∀x H',J.yld i H x H'->g x σ H' fun σ2 H2=>tb {D with nx:=N,ct:=N,bk:=D.nx} σ2 H2)
def zjj(fp:List Addr)(h:Heap):List (Addr×Obj):=fp.filterMap fun b=>(h.get? b).map fun o=>(b,o)
theorem zf0{fp:List Addr}{h:Heap}{b:Addr}{o:Obj}(hb:b∈fp)(e:h.get? b=some o):(b,o)∈zjj fp h:=List.mem_filterMap.mpr ⟨b,hb,by rw[e];rfl⟩
theorem zpa{fp:List Addr}{h:Heap}{p:Addr×Obj}(hp:p∈zjj fp h):p.1∈fp/\h.get? p.1=some p.2:=by
 obtain⟨b,hb,e⟩:=List.mem_filterMap.mp hp
 cases q:h.get? b with
 |none=>rw[q] at e;cases e
 |some o=>
  rw[q] at e;have e':(b,o)=p:=uB e;subst e';exact⟨hb,q⟩
theorem Inv.pinned{pins:List (Addr×Obj)}{σ:St}{H:Hp}{s:kC}{fp:List Addr}(I:Inv X pins σ H s)(hf:∀b∈fp,FpOk X pins H b)(ho:∀b∈fp,∃o,s.heap.get? b=some o/\∀v,o.data≠.cell v):Inv X (pins++zjj fp s.heap) σ H s:=
 I.pins_of fun p hp=>(ke.mp hp).elim (fun z=>I.pin p (ki _ z)) fun z=>by
  obtain⟨hb,e⟩:=zpa z;obtain⟨f0,f1,f2,_⟩:=hf p.1 hb;obtain⟨o,e',d⟩:=ho p.1 hb;rw[e] at e';cases e';exact⟨e,f0,f1,f2,d⟩
theorem Inv.unpinned{pins pl:List (Addr×Obj)}{σ:St}{H:Hp}{s:kC}(I:Inv X (pins++pl) σ H s):Inv X pins σ H s:=I.pins_of fun p hp=>I.pin p (ki _ (QU _ hp))
theorem zd0{iter:Expr}{body:List Stmt}{wi:TI}{g:TG}{tb:TS}{pos:Pos}(hp:PassesOwn (model X.prog X.w) X.A X.env X.xe)(hc:X.calm=true)(hi:PI X tg iter wi)(hg:PG X tg g)(hb:PSs X body tb)
  (hs:∀x,vx iter X.env x=pure x:=by intro _;rfl):PS X (.For tg iter body [] pos) (tFor wi g tb):=by
 intro pins s σ H D I h;refine wpAny_For (thn (hi pins s σ H _ I h) fun v s1 h1=>thn h1 fun itv s2 h2=>?_) hs;obtain⟨it,fp,tn,J,H2,e,I2,T,st2,f2,W,⟨m0,w0⟩,turn⟩:=h2;subst e;have stat:∀{H':Hp},(∀b∈fp,H' b=none)->∀b∈fp,FpOk X pins H' b:=fun hn b hb=>⟨hn b hb,(f2 b hb).2⟩;refine codeAny_forLoop_any (fun n s'=>∃i σ' H',Inv X pins σ' H' s'/\tn i s'.heap/\(∀b∈fp,H' b=none)/\W i n σ' H') ?_ m0 ⟨0,σ,H2,I2,st2,fun b hb=>(f2 b hb).1,w0⟩;rintro n s3 ⟨i,σ3,H3,I3,st3,fr3,w3⟩;rcases turn i n σ3 H3 w3 with⟨stop,qn⟩|⟨go,N,hN,step⟩
 ·refine UJ hp (thn (T.done X rfl rfl rfl hc i pins s3 σ3 H3 X.xe I3 (stat fr3) st3 stop) fun r s4⟨hr,I4⟩=>?_);subst hr;exact jk ⟨σ3,H3,I4,qn⟩
 ·refine UJ hp (thn (T.item X rfl rfl rfl hc i pins s3 σ3 H3 X.xe I3 (stat fr3) st3 go) fun r s4⟨u,hr,h4⟩=>?_);subst hr;refine UJ hp (thn h4 fun _ s5⟨x,H5,I5,r5,y5,st5,fr5⟩=>?_);have I5':=I5.pinned (stat fr5) (T.obj _ _ st5);refine UJ hp (thn (hg _ s5 σ3 H5 x u _ I5' r5 (step x H5 y5)) fun _ s6⟨σ6,H6,I6,q6⟩=>?_);refine UJ hp (thn (hb _ s6 σ6 H6 _ I6 q6) fun f s7 q7=>?_);have again:∀{σ7:St}{H7:Hp},Inv X (pins++zjj fp s5.heap) σ7 H7 s7->N σ7 H7->∃m,m<n/\∃i σ' H',Inv X pins σ' H' s7/\tn i s7.heap/\(∀b∈fp,H' b=none)/\W i m σ' H':=fun{σ7 H7} I7 n7=>by
   obtain⟨m',hm,w7⟩:=hN σ7 H7 n7;refine⟨m',hm,i+1,σ7,H7,I7.unpinned,T.keep _ _ _ st5 fun b hb o e=>(I7.pin (b,o) (ki _ (ki _ (zf0 hb e)))).1,fun b hb=>?_,w7⟩;obtain⟨o,e,d⟩:=T.obj _ _ st5 b hb;exact(I7.pin (b,o) (ki _ (ki _ (zf0 hb e)))).2.1
  cases f with
  |next=>obtain⟨σ7,H7,I7,n7⟩:=q7;exact again I7 n7
  |cont=>obtain⟨σ7,H7,I7,n7⟩:=q7;exact again I7 n7
  |brk=>obtain⟨σ7,H7,I7,q7⟩:=q7;exact⟨σ7,H7,I7.unpinned,q7⟩
  |ret v=>obtain⟨x7,σ7,H7,I7,r7,q7⟩:=q7;exact⟨x7,σ7,H7,I7.unpinned,r7,q7⟩
end
theorem for_list{K:kM}{a:Addr}{xs:List V}{g:TG}{tb:TS}{D:Ends}{σ:St}{H:Hp}(Pv:Nat->St->Hp->Prop)(h0:Pv 0 σ H)(hl:∀i σ H,i<=xs.length->Pv i σ H->SqL K H a xs)
  (hs:∀i x σ H,xs[i]?=some x->Pv i σ H->g x σ H fun σ2 H2=>tb {D with nx:=Pv (i+1),ct:=Pv (i+1),bk:=D.nx} σ2 H2)(hd:∀σ H,Pv xs.length σ H->D.nx σ H):
  ∃W:Nat->Nat->St->Hp->Prop,(∃m,W 0 m σ H)/\∀i m σ H,W i m σ H->
   ((Itl K a).stop i H/\D.nx σ H)∨((Itl K a).go i H/\∃N:St->Hp->Prop,(∀σ' H',N σ' H'->∃m',m'<m/\W (i+1) m' σ' H')/\∀x H',(Itl K a).yld i H x H'->g x σ H' fun σ2 H2=>tb {D with nx:=N,ct:=N,bk:=D.nx} σ2 H2):=by
 refine⟨fun i m σ H=>m=xs.length-i/\i<=xs.length/\Pv i σ H,⟨xs.length,by simp,pY _,h0⟩,?_⟩
 rintro i m σ H ⟨rfl,hi,p⟩;have q:=hl i σ H hi p
 by_cases hlt:i<xs.length
 ·refine .inr ⟨⟨xs,xs[i],q,by simp[hlt]⟩,Pv (i+1),fun σ' H' p'=>⟨xs.length-(i+1),by omega,rfl,hlt,p'⟩,fun x H' y=>?_⟩
  obtain⟨e,y⟩:=y;subst e;exact hs i x σ _ (y xs q) p
 ·have e:i=xs.length:=by omega
  subst e;exact .inl ⟨⟨xs,q,kG _⟩,hd σ H p⟩
theorem zj6{lo:Int}{n:Nat}{g:TG}{tb:TS}{D:Ends}{σ:St}{H:Hp}(Pv:Nat->St->Hp->Prop)(h0:Pv 0 σ H)
  (hs:∀i σ H,i<n->Pv i σ H->g (.int (lo+i)) σ H fun σ2 H2=>tb {D with nx:=Pv (i+1),ct:=Pv (i+1),bk:=D.nx} σ2 H2)(hd:∀σ H,Pv n σ H->D.nx σ H):
  ∃W:Nat->Nat->St->Hp->Prop,(∃m,W 0 m σ H)/\∀i m σ H,W i m σ H->
   ((Itr lo n).stop i H/\D.nx σ H)∨((Itr lo n).go i H/\∃N:St->Hp->Prop,(∀σ' H',N σ' H'->∃m',m'<m/\W (i+1) m' σ' H')/\∀x H',(Itr lo n).yld i H x H'->g x σ H' fun σ2 H2=>tb {D with nx:=N,ct:=N,bk:=D.nx} σ2 H2):=by
 refine⟨fun i m σ H=>m=n-i/\i<=n/\Pv i σ H,⟨n,by simp,pY _,h0⟩,?_⟩
 rintro i m σ H ⟨rfl,hi,p⟩
 by_cases hlt:i<n
 ·refine .inr ⟨hlt,Pv (i+1),fun σ' H' p'=>⟨n-(i+1),by omega,rfl,hlt,p'⟩,fun x H' y=>?_⟩
  obtain⟨e,y⟩:=y;subst e y;exact hs i σ _ hlt p
 ·have e:i=n:=by omega
  subst e;exact .inl ⟨kG _,hd σ H p⟩
theorem while_by{c:TT}{tb:TS}{D:Ends}{σ:St}{H:Hp}(Pv:St->Hp->Prop)(μ:St->Hp->Nat)(h0:Pv σ H)
  (hs:∀σ H,Pv σ H->c σ H fun b H1=>if b=true then tb {D with nx:=fun σ' H'=>Pv σ' H'/\μ σ' H'<μ σ H,ct:=fun σ' H'=>Pv σ' H'/\μ σ' H'<μ σ H,bk:=D.nx} σ H1 else D.nx σ H1)
  (mono:∀σ H Q Q',(∀b H1,Q b H1->Q' b H1)->c σ H Q->c σ H Q'):zm3 c tb D σ H:=by
 refine⟨fun m σ H=>m=μ σ H/\Pv σ H,⟨_,rfl,h0⟩,?_⟩;rintro m σ H ⟨rfl,p⟩;refine mono σ H _ _ (fun b H1 q=>?_) (hs σ H p)
 cases b with
 |true=>exact⟨_,fun σ' H'⟨p',l⟩=>⟨_,l,rfl,p'⟩,q⟩
 |false=>exact q
abbrev R2:=V->V->Hp->VK->Prop
def OpR(X:Cx)(f:kB->kB->Sem kB)(r:R2):Prop:=
 ∀(pins:List (Addr×Obj))(s:kC)(σ:St)(H:Hp)(x y:V)(v u:kB)(Q:VK),Inv X pins σ H s->RelV x v->RelV y u->r x y H Q->
  wpAny (model X.prog X.w) X.A (f v u) (EP X pins σ Q) X.xe s
def UnR(X:Cx)(f:kB->Sem kB)(r:V->Hp->VK->Prop):Prop:=
 ∀(pins:List (Addr×Obj))(s:kC)(σ:St)(H:Hp)(x:V)(v:kB)(Q:VK),Inv X pins σ H s->RelV x v->r x H Q->
  wpAny (model X.prog X.w) X.A (f v) (EP X pins σ Q) X.xe s
def zf3(X:Cx)(f:kB)(r:List V->Hp->VK->Prop):Prop:=
 ∀(pins:List (Addr×Obj))(s:kC)(σ:St)(H:Hp)(xs:List V)(us:List kB)(Q:VK),Inv X pins σ H s->Vals xs us->r xs H Q->
  wpAny (model X.prog X.w) X.A (call f us) (EP X pins σ Q) X.xe s
def tOp(r:R2)(ta tb:TE):TE:=fun σ H Q=>ta σ H fun x H1=>tb σ H1 fun y H2=>r x y H2 Q
def tUn(r:V->Hp->VK->Prop)(ta:TE):TE:=fun σ H Q=>ta σ H fun x H1=>r x H1 Q
def rI(C:Int->Int->Prop)(g:Int->Int->V):R2:=fun x y H Q=>∃i j,x=.int i/\y=.int j/\C i j/\Q (g i j) H
def rI0(g:Int->Int->V):R2:=fun x y H Q=>∃i j,x=.int i/\y=.int j/\Q (g i j) H
def rU(g:Int->V):V->Hp->VK->Prop:=fun x H Q=>∃i,x=.int i/\Q (g i) H
section
variable{X:Cx}{a b c:Expr}{ta tb tc:TE}{pos:Pos}
theorem binT(ha:PE X a ta)(hb:PE X b tb){pins:List (Addr×Obj)}{s:kC}{σ:St}{H:Hp}{R:V->V->Hp->Prop}(I:Inv X pins σ H s)
  (h:ta σ H fun x H1=>tb σ H1 fun y H2=>R x y H2){Q:kB->kC->Prop}{f:kB->kB->Sem kB}
  (hf:∀v u s2 x y H2,Inv X pins σ H2 s2->RelV x v->RelV y u->R x y H2->wpAny (model X.prog X.w) X.A (f v u) Q X.xe s2):
  wpAny (model X.prog X.w) X.A (eval a X.env) (fun v s₁=>wpAny (model X.prog X.w) X.A (eval b X.env) (fun u s₂=>wpAny (model X.prog X.w) X.A (f v u) Q X.xe s₂) X.xe s₁) X.xe s:=by
 refine thn (ha pins s σ H _ I h) fun v s1⟨x,H1,I1,r1,q1⟩=>?_;refine thn (hb pins s1 σ H1 _ I1 q1) fun u s2⟨y,H2,I2,r2,q2⟩=>?_;exact hf v u s2 x y H2 I2 r1 r2 q2
theorem zdx{op:Operator}{r:R2}(ho:OpR X (vz op) r)(ha:PE X a ta)(hb:PE X b tb):PE X (.BinOp a op b pos) (tOp r ta tb):=by
 intro pins s σ H Q I h;exact wpAny_BinOp (binT ha hb I h fun v u s2 x y H2 I2 rx ry q=>ho pins s2 σ H2 x y v u Q I2 rx ry q)
theorem pe_un{op:UnaryOp}{r:V->Hp->VK->Prop}(ho:UnR X (unaryOp op) r)(ha:PE X a ta):PE X (.UnaryOp op a pos) (tUn r ta):=by
 intro pins s σ H Q I h;exact UnaryOp_ (thn (ha pins s σ H _ I h) fun v s1⟨x,H1,I1,r1,q1⟩=>ho pins s1 σ H1 x v Q I1 r1 q1)
theorem opI{f:kB->kB->Sem kB}{C:Int->Int->Prop}{g:Int->Int->Int}
  (rule:∀(i j:Int)(t u:Tok)(s:kC)(Q:kB->kC->Prop)(E:kB->kC->Prop),C i j->Q (.int (g i j) s.toks) {s with toks:=s.toks+1}->wpAny (model X.prog X.w) X.A (f (.int i t) (.int j u)) Q E s):
  OpR X f (rI C fun i j=>.int (g i j)):=by
 intro pins s σ H x y v u Q I rx ry h;obtain⟨i,j,rfl,rfl,hc,q⟩:=h;obtain⟨t,rfl⟩:=rx;obtain⟨t',rfl⟩:=ry;exact rule i j t t' s _ _ hc ⟨.int (g i j),H,I.tok _,⟨_,rfl⟩,q⟩
theorem opI0{f:kB->kB->Sem kB}{g:Int->Int->Int}
  (rule:∀(i j:Int)(t u:Tok)(s:kC)(Q:kB->kC->Prop)(E:kB->kC->Prop),Q (.int (g i j) s.toks) {s with toks:=s.toks+1}->wpAny (model X.prog X.w) X.A (f (.int i t) (.int j u)) Q E s):
  OpR X f (rI0 fun i j=>.int (g i j)):=by
 intro pins s σ H x y v u Q I rx ry h;obtain⟨i,j,rfl,rfl,q⟩:=h;obtain⟨t,rfl⟩:=rx;obtain⟨t',rfl⟩:=ry;exact rule i j t t' s _ _ ⟨.int (g i j),H,I.tok _,⟨_,rfl⟩,q⟩
theorem opB0{f:kB->kB->Sem kB}{g:Int->Int->Bool}
  (rule:∀(i j:Int)(t u:Tok)(s:kC)(Q:kB->kC->Prop)(E:kB->kC->Prop),Q (.bool (g i j)) s->wpAny (model X.prog X.w) X.A (f (.int i t) (.int j u)) Q E s):
  OpR X f (rI0 fun i j=>.bl (g i j)):=by
 intro pins s σ H x y v u Q I rx ry h;obtain⟨i,j,rfl,rfl,q⟩:=h;obtain⟨t,rfl⟩:=rx;obtain⟨t',rfl⟩:=ry;exact rule i j t t' s _ _ ⟨.bl (g i j),H,I,rfl,q⟩
def CDiv(i j:Int):Prop:=0<j/\j<1073741824
def CMul(i j:Int):Prop:=(-(2^64)<i/\i<2^64)∨(-(2^64)<j/\j<2^64)
theorem CMul.ok{i j:Int}(h:CMul i j):IntMulOk i j:=by
 rcases h with⟨h1,h2⟩|⟨h1,h2⟩
 ·exact .of_left (intBits_le_64 h1 h2)
 ·exact .of_right (intBits_le_64 h1 h2)
theorem zar:OpR X (vz .Add) (rI0 fun i j=>.int (i+j)):=opI0 fun _ _ _ _ _ _ _ q=>add_int q
theorem zcp:OpR X (vz .Sub) (rI0 fun i j=>.int (i-j)):=opI0 fun _ _ _ _ _ _ _ q=>sub_int q
theorem zdq:OpR X (vz .Mult) (rI CMul fun i j=>.int (i*j)):=opI fun _ _ _ _ _ _ _ hc q=>mul_int q hc.ok
theorem zfe:OpR X (vz .FloorDiv) (rI CDiv fun i j=>.int (i/j)):=opI fun i j _ _ _ _ _ hc q=>by
 have h1:(0:Int)<j:=hc.1;have h2:j<1073741824:=hc.2;exact floordiv_int (by omega) (by rw[ui i (by omega)];exact q) (.inl (PyProof.noPylong_small (by omega)))
theorem zcq:OpR X (vz .Mod) (rI (fun _ j=>0<j) fun i j=>.int (i%j)):=opI fun i j _ _ _ _ _ hc q=>by
 have h1:(0:Int)<j:=hc;exact mod_int' (by omega) (by rw[vD i (by omega)];exact q)
theorem zi5:OpR X (vz .Mod) (rI (fun _ j=>j≠0) fun i j=>.int (i.fmod j)):=opI fun _ _ _ _ _ _ _ hc q=>mod_int' hc q
theorem unI{f:kB->Sem kB}{g:Int->Int}
  (rule:∀(i:Int)(t:Tok)(s:kC)(Q:kB->kC->Prop)(E:kB->kC->Prop),Q (.int (g i) s.toks) {s with toks:=s.toks+1}->wpAny (model X.prog X.w) X.A (f (.int i t)) Q E s):
  UnR X f (rU fun i=>.int (g i)):=by
 intro pins s σ H x v Q I rx h;obtain⟨i,rfl,q⟩:=h;obtain⟨t,rfl⟩:=rx;exact rule i t s _ _ ⟨.int (g i),H,I.tok _,⟨_,rfl⟩,q⟩
theorem zns:UnR X (unaryOp .USub) (rU fun i=>.int (-i)):=unI fun _ _ _ _ _ q=>neg_int q
end
def scal:V->V->Bool
 |.non,.non=>true|.non,.int _=>true|.int _,.non=>true|.non,.bl _=>true|.bl _,.non=>true|.non,.str _=>true|.str _,.non=>true
 |.int _,.int _=>true|.bl _,.bl _=>true|.str _,.str _=>true|.byt _,.byt _=>true
 |.int _,.str _=>true|.str _,.int _=>true|.bl _,.str _=>true|.str _,.bl _=>true
 |_,_=>false
def rEq:R2:=fun x y H Q=>scal x y=true/\Q (.bl (decide (x=y))) H
def rNe:R2:=fun x y H Q=>scal x y=true/\Q (.bl (!decide (x=y))) H
theorem zq0{i j:Int}:decide (V.int i=V.int j)=(i==j):=by
 rw[QF]
 simp
theorem dec_bl{i j:Bool}:decide (V.bl i=V.bl j)=(i==j):=by
 rw[QF]
 simp
theorem zop{i j:Str}:decide (V.str i=V.str j)=(i==j):=by
 rw[QF]
 simp
theorem zpq{i j:Array UInt8}:decide (V.byt i=V.byt j)=(i.toList==j.toList):=by
 rw[QF]
 cases i
 cases j
 simp
section
variable{X:Cx}{a b c:Expr}{ta tb tc:TE}{pos:Pos}
theorem zb1{pins:List (Addr×Obj)}{σ:St}{H:Hp}{s:kC}{Q:VK}{k k':Bool}(I:Inv X pins σ H s)(q:Q (.bl k) H)(e:k=k'):EP X pins σ Q (.bool k') s:=by
 subst e;exact⟨.bl k,H,I,rfl,q⟩
theorem op_eq:OpR X (Ql .Eq) rEq:=by
 intro pins s σ H x y v u Q I rx ry h;obtain⟨hs,q⟩:=h
 cases x with
 |non=>
  cases rx
  cases y with
  |non=>cases ry;exact PySem.EqNone.eq_none_none (zb1 I q (by simp))
  |bl j=>cases ry;exact PySem.EqNone.eq_none_bool (zb1 I q (by simp))
  |int j=>obtain⟨t',rfl⟩:=ry;exact PySem.EqNone.eq_none_int (zb1 I q (by simp))
  |str j=>obtain⟨t',rfl⟩:=ry;exact PySem.EqNone.eq_none_str (zb1 I q (by simp))
  |_=>exact absurd (show false=true from hs) pN
 |bl i=>
  cases rx
  cases y with
  |non=>cases ry;exact PySem.EqNone.eq_bool_none (zb1 I q (by simp))
  |bl j=>cases ry;exact eq_bool (zb1 I q dec_bl)
  |str j=>obtain⟨t',rfl⟩:=ry;exact PySem.EqMixed.eq_bool_str (zb1 I q (by simp))
  |_=>exact absurd (show false=true from hs) pN
 |int i=>
  obtain⟨t,rfl⟩:=rx
  cases y with
  |non=>cases ry;exact PySem.EqNone.eq_int_none (zb1 I q (by simp))
  |int j=>obtain⟨t',rfl⟩:=ry;exact eq_int (zb1 I q zq0)
  |str j=>obtain⟨t',rfl⟩:=ry;exact PySem.EqMixed.eq_int_str (zb1 I q (by simp))
  |_=>exact absurd (show false=true from hs) pN
 |str i=>
  obtain⟨t,rfl⟩:=rx
  cases y with
  |non=>cases ry;exact PySem.EqNone.eq_str_none (zb1 I q (by simp))
  |bl j=>cases ry;exact PySem.EqMixed.eq_str_bool (zb1 I q (by simp))
  |int j=>obtain⟨t',rfl⟩:=ry;exact PySem.EqMixed.eq_str_int (zb1 I q (by simp))
  |str j=>obtain⟨t',rfl⟩:=ry;exact eq_str (zb1 I q zop)
  |_=>exact absurd (show false=true from hs) pN
 |byt i=>
  obtain⟨t,rfl⟩:=rx
  cases y with
  |byt j=>obtain⟨t',rfl⟩:=ry;exact PySem.W.eq_bytes (zb1 I q zpq)
  |_=>exact absurd (show false=true from hs) pN
 |_=>cases y<;>exact absurd (show false=true from hs) pN
theorem zpo:OpR X (Ql .NotEq) rNe:=by
 intro pins s σ H x y v u Q I rx ry h;obtain⟨hs,q⟩:=h
 cases x with
 |non=>
  cases rx
  cases y with
  |non=>cases ry;exact PySem.EqNone.ne_none_none (zb1 I q (by simp))
  |bl j=>cases ry;exact PySem.EqNone.ne_none_bool (zb1 I q (by simp))
  |int j=>obtain⟨t',rfl⟩:=ry;exact PySem.EqNone.ne_none_int (zb1 I q (by simp))
  |str j=>obtain⟨t',rfl⟩:=ry;exact PySem.EqNone.ne_none_str (zb1 I q (by simp))
  |_=>exact absurd (show false=true from hs) pN
 |bl i=>
  cases rx
  cases y with
  |non=>cases ry;exact PySem.EqNone.ne_bool_none (zb1 I q (by simp))
  |bl j=>cases ry;exact ne_bool (zb1 I q (congrArg not dec_bl))
  |str j=>obtain⟨t',rfl⟩:=ry;exact PySem.EqMixed.ne_bool_str (zb1 I q (by simp))
  |_=>exact absurd (show false=true from hs) pN
 |int i=>
  obtain⟨t,rfl⟩:=rx
  cases y with
  |non=>cases ry;exact PySem.EqNone.ne_int_none (zb1 I q (by simp))
  |int j=>obtain⟨t',rfl⟩:=ry;exact ne_int (zb1 I q (congrArg not zq0))
  |str j=>obtain⟨t',rfl⟩:=ry;exact PySem.EqMixed.ne_int_str (zb1 I q (by simp))
  |_=>exact absurd (show false=true from hs) pN
 |str i=>
  obtain⟨t,rfl⟩:=rx
  cases y with
  |non=>cases ry;exact PySem.EqNone.ne_str_none (zb1 I q (by simp))
  |bl j=>cases ry;exact PySem.EqMixed.ne_str_bool (zb1 I q (by simp))
  |int j=>obtain⟨t',rfl⟩:=ry;exact PySem.EqMixed.ne_str_int (zb1 I q (by simp))
  |str j=>obtain⟨t',rfl⟩:=ry;exact ne_str (zb1 I q (congrArg not zop))
  |_=>exact absurd (show false=true from hs) pN
 |byt i=>
  obtain⟨t,rfl⟩:=rx
  cases y with
  |byt j=>obtain⟨t',rfl⟩:=ry;exact PySem.W.ne_bytes (zb1 I q (congrArg not zpq))
  |_=>exact absurd (show false=true from hs) pN
 |_=>cases y<;>exact absurd (show false=true from hs) pN
theorem zj7:OpR X (Ql .Lt) (rI0 fun i j=>.bl (decide (i<j))):=opB0 fun _ _ _ _ _ _ _ q=>lt_int q
theorem op_gt:OpR X (Ql .Gt) (rI0 fun i j=>.bl (decide (j<i))):=opB0 fun _ _ _ _ _ _ _ q=>gt_int q
theorem op_isN:OpR X (Ql .Is) (fun x y H Q=>y=.non/\Q (.bl (decide (x=.non))) H):=by
 intro pins s σ H x y v u Q I rx ry h;obtain⟨rfl,q⟩:=h
 cases ry;refine is_none_gen (zb1 I q ?_)
 cases x<;>first
  |(cases rx;rfl)
  |(obtain⟨t,rfl⟩:=rx;rfl)
theorem nomark(b:Expr){op:CmpOp}(h:op≠.In:=by decide)(h2:op≠.NotIn:=by decide):jZ op b=false:=by
 have e1:(op==CmpOp.In)=false:=by cases op<;>first|rfl|exact absurd rfl h
 have e2:(op==CmpOp.NotIn)=false:=by cases op<;>first|rfl|exact absurd rfl h2
 cases b<;>simp[jZ,e1,e2]
theorem zgq{op:CmpOp}{r:R2}(ho:OpR X (Ql op) r)(ha:PE X a ta)(hb:PE X b tb)(hm:jZ op b=false):PE X (.Compare a [op] [b] pos) (tOp r ta tb):=by
 intro pins s σ H Q I h;exact wpAny_Compare1 (binT ha hb I h fun v u s2 x y H2 I2 rx ry q=>ho pins s2 σ H2 x y v u Q I2 rx ry q) hm
def tTest(t:TE):TT:=fun σ H Q=>t σ H fun x H'=>∃k,x=.bl k/\Q k H'
theorem zcl{op:CmpOp}{r:R2}(ho:OpR X (Ql op) r)(ha:PE X a ta)(hb:PE X b tb)(hm:jZ op b=false):PT X (.Compare a [op] [b] pos) (tTest (tOp r ta tb)):=by
 intro pins s σ H Q I h;refine Aw (thn (ha pins s σ H _ I h) fun v s1⟨x,H1,I1,r1,q1⟩=>thn (hb pins s1 σ H1 _ I1 q1) fun u s2⟨y,H2,I2,r2,q2⟩=>
  thn (ho pins s2 σ H2 x y v u _ I2 r1 r2 q2) fun c s3⟨z,H3,I3,r3,k,e,q3⟩=>?_) hm
 subst e
 cases r3;exact Qt ⟨H3,I3,q3⟩
theorem line63:(sizeLine:Nat)<2^63:=by rw[gY];decide
theorem vals1{x:V}{us:List kB}(r:Vals [x] us):∃u,us=[u]/\RelV x u:=by
 cases r with
 |cons r1 r2=>cases r2;exact⟨_,rfl,r1⟩
theorem vals2{x y:V}{us:List kB}(r:Vals [x,y] us):∃u w',us=[u,w']/\RelV x u/\RelV y w':=by
 cases r with
 |cons r1 r2=>
  cases r2 with
  |cons r3 r4=>cases r4;exact⟨_,_,rfl,r1,r3⟩
theorem call_abs:zf3 X (.builtin "abs") (fun xs H Q=>∃i,xs=[.int i]/\Q (.int (if i<0 then-i else i)) H):=by
 intro pins s σ H xs us Q I r h;obtain⟨i,rfl,q⟩:=h;obtain⟨u,rfl,t,rfl⟩:=vals1 r;exact call_abs_int fun u tk=>⟨.int (if i<0 then-i else i),H,I.tok _,⟨_,rfl⟩,q⟩
end
theorem RelO.some_of{v:V}{o:Option kB}(r:RelO (some v) o):∃u,o=some u/\RelV v u:=by
 cases o with
 |none=>exact(show False from r).elim
 |some u=>exact⟨u,rfl,r⟩
structure Room(k:Nat)(A:pj):Prop where
 hd:A.handled=none
 dp:A.depth+3*k+5<recursionLimit
 un:A.units+16*k+200<cLine
theorem Room.mono{j k:Nat}{A:pj}(r:Room k A)(h:j<=k):Room j A:=⟨r.hd,by have:=r.dp;omega,by have:=r.un;omega⟩
theorem Room.deeper{k:Nat}{A:pj}(r:Room (k+1) A)(env:Env):Room k (A.deeper env):=
 ⟨r.hd,by have:=r.dp;show A.depth+1+3*k+5<_;omega,by have:=r.un;show A.units+3+16*k+200<_;omega⟩
theorem Room.in1{k:Nat}{A:pj}(r:Room (k+1) A):Room k A.in1:=
 ⟨r.hd,by have:=r.dp;show A.depth+3*k+5<_;omega,by have:=r.un;show A.units+1+16*k+200<_;omega⟩
theorem Room.depth{k:Nat}{A:pj}(r:Room k A):A.depth<recursionLimit:=by have:=r.dp;omega
theorem Room.units{k:Nat}{A:pj}(r:Room k A):A.units+64<cLine:=by have:=r.un;omega
def tNil:TA:=fun _ H Q=>Q [] H
def zcf(ta:TE)(tr:TA):TA:=fun σ H Q=>ta σ H fun x H1=>tr σ H1 fun xs H2=>Q (x::xs) H2
section
variable{X:Cx}{e:Expr}{es:List Expr}{te:TE}{t:TA}{pos:Pos}
theorem zcz:PA X [] tNil:=fun _ _ _ _ H Q I h=>jA ⟨[],H,I,.nil,h⟩
theorem zb3(ha:PE X e te)(hr:PA X es t)(hs:uK (e::es) X.env=(false,eval e X.env)::uK es X.env:=by rfl):PA X (e::es) (zcf te t):=by
 intro pos pins s σ H Q I h;rw[hs];show wpAny _ _ (spliced ((false,eval e X.env)::vC pos (uK es X.env))) _ _ s;refine UD (thn (ha pins s σ H _ I h) fun u s1⟨x,H1,I1,r1,q1⟩=>?_);exact thn (hr pos pins s1 σ H1 _ I1 q1) fun us s2⟨xs,H2,I2,r2,q2⟩=>⟨x::xs,H2,I2,.cons r1 r2,q2⟩
def tTup(t:TA):TE:=fun σ H Q=>t σ H fun xs H1=>xs.length<=sizeLine/\∀p,H1 p=none->Q (.ref p) (upd H1 p (.tup xs))
def tLst(t:TA):TE:=fun σ H Q=>t σ H fun xs H1=>xs.length<=sizeLine/\∀p,H1 p=none->Q (.ref p) (upd H1 p (.lst xs))
theorem zdp{x1}(h:PA X es t):PE X (.Tuple es x1 pos) (tTup t):=by
 intro pins s σ H Q I hq;refine wpAny_Tuple_spliced (thn (h pos pins s σ H _ I hq) fun us s1⟨xs,H1,I1,r,z,q⟩=>⟨by rw[←r.length];exact z,?_⟩)
 have hf:H1 s1.heap.objs.size=none:=I1.hok.fresh (kG _);refine⟨.ref s1.heap.objs.size,upd H1 s1.heap.objs.size (.tup xs),I1.laid (t':=s1.toks) (fun b u e=>kT _ e) (kG _) ?_,rfl,q _ hf⟩;exact⟨z,us,r,⟨_,pM _ rfl,rfl,_,rfl⟩⟩
theorem zdr(h:PA X es t):PE X (.List es pos) (tLst t):=by
 intro pins s σ H Q I hq;refine wpAny_List_spliced (thn (h pos pins s σ H _ I hq) fun us s1⟨xs,H1,I1,r,z,q⟩=>⟨by rw[←r.length];exact z,?_⟩)
 have hf:H1 s1.heap.objs.size=none:=I1.hok.fresh (kG _);refine⟨.ref s1.heap.objs.size,upd H1 s1.heap.objs.size (.lst xs),I1.laid (t':=s1.toks) (fun b u e=>kT _ e) (kG _) ?_,rfl,q _ hf⟩;exact⟨z,us,0,r,pM _ rfl⟩
end
abbrev Sp:=List V->Hp->VK->XK->Prop
abbrev CXT:=List Env->Hp->kC->XK->kB->kC->Prop
structure Env0(P:pA)(w:pR)(K:kM)(mg:Str->Option kB)(base:Heap)(A:pj)(outer:List Env)(s:kC)(H:Hp):Prop where
 frames:A.frames=some outer
 mod:Mod K mg base
 bs:∀b o,base.get? b=some o->s.heap.get? b=some o/\H b=none
 bsz:base.objs.size<=s.heap.objs.size
 funs:s.heap.FunFrames base outer
 frf:∀b∈frs outer,H b=none
 hok:HOk P w H s.heap
 bare:gU s.gens
def CE(outer:List Env)(P:pA)(w:pR)(H:Hp)(s:kC)(Q:VK)(u:kB)(s':kC):Prop:=
 ∃v H',s'.os=s.os/\gU s'.gens/\Un (frs outer) [] H H' s.heap s'.heap/\HOk P w H' s'.heap/\RelV v u/\Q v H'
def CR(CX:CXT)(outer:List Env)(P:pA)(w:pR)(H:Hp)(s:kC)(Q:VK)(E:XK)(r:DU)(s':kC):Prop:=
 match r with
 |.ok (.ret u)=>CE outer P w H s Q u s'
 |.ok _=>False
 |.error e=>CX outer H s E e s'
structure FnOk(P:pA)(w:pR)(K:kM)(mg:Str->Option kB)(base:Heap)(CX:CXT)(k:Nat)(f:Addr)(fd:Qy)(ps:List Str)(sp:Sp):Prop where
 len:∀vs H Q E,sp vs H Q E->vs.length=ps.length
 run:∀(A:pj)(outer:List Env)(s:kC)(H:Hp)(args:Args)(us:List kB)(vs:List V)(Q:VK)(E:XK),Room k A->Env0 P w K mg base A outer s H->Bu s fd args (ps.zip us)->Vals vs us->sp vs H Q E->
  ju (model P w) A (.call (.ref f) args) (CR CX outer P w H s Q E) s
theorem Env0.in1{P:pA}{w:pR}{K:kM}{mg:Str->Option kB}{base:Heap}{A:pj}{outer:List Env}{s:kC}{H:Hp}(e:Env0 P w K mg base A outer s H):
  Env0 P w K mg base A.in1 outer s H:=⟨e.frames,e.mod,e.bs,e.bsz,e.funs,e.frf,e.hok,e.bare⟩
section
variable{X:Cx}{pins:List (Addr×Obj)}{σ:St}{H:Hp}{s s':kC}
theorem Inv.env0(I:Inv X pins σ H s):Env0 X.prog X.w X.K X.mg X.base X.A X.stack s H:=
 ⟨I.ok.frames,I.ok.mod,I.bs,pL I.ok.bsz I.sz,I.stack,I.stkFree,I.hok,I.bare⟩
theorem Inv.after{Q:VK}{u:kB}(I:Inv X pins σ H s)(h:CE X.stack X.prog X.w H s Q u s'):EP X pins σ Q u s':=by
 obtain⟨v,H',os,bare,un,hok,r,q⟩:=h;obtain⟨hh,g,d,t,os'⟩:=s';obtain rfl:os'=s.os:=os;exact⟨v,H',I.call (h':=hh) (g':=g) (d':=d) (t':=t) (ch:=[]) un hok bare (fun b z=>absurd z (by simp)),r,q⟩
end
def tCall(sp:Sp)(dvs:List V)(E:XK)(t:TA):TE:=fun σ H Q=>t σ H fun vs H1=>sp (vs++dvs) H1 Q E
def Binds(K:kM)(fd:Qy)(ps:List Str)(ds:List kB):Prop:=
 ∀(s:kC)(us:List kB),K.In s.heap->(us++ds).length=ps.length->Bu s fd ⟨us,[]⟩ (ps.zip (us++ds))
theorem Binds.all{K:kM}{fd:Qy}{ps:List Str}(h:∀us:List kB,us.length=ps.length->Bv fd ⟨us,[]⟩=pure (ps.zip us)):Binds K fd ps []:=fun s us _ hl=>by
 rw[pU] at hl⊢;exact .of_eq (h us hl)
def Passes(CX:CXT)(X:Cx)(E:XK):Prop:=∀(pins:List (Addr×Obj))(σ:St)(H:Hp)(s:kC)(e:kB)(s':kC),Inv X pins σ H s->CX X.stack H s E e s'->X.xe e s'
section
variable{X:Cx}{CX:CXT}{k:Nat}{f C:Addr}{fd:Qy}{ps:List Str}{sp:Sp}{dvs:List V}{ds:List kB}{E:XK}{x m:Str}{p pos apos:Pos}{e o:Expr}{es:List Expr}{ta:TE}{t:TA}
theorem run_fn{pins:List (Addr×Obj)}{σ:St}{H:Hp}{s:kC}{Q:VK}{us:List kB}{vs:List V}(F:FnOk X.prog X.w X.K X.mg X.base CX k f fd ps sp)(hr:Room k X.A)(hb:Binds X.K fd ps ds)(hd:Vals dvs ds)(hx:Passes CX X E)
  (I:Inv X pins σ H s)(r:Vals vs us)(h:sp (vs++dvs) H Q E):wpAny (model X.prog X.w) X.A (call (.ref f) us) (EP X pins σ Q) X.xe s:=by
 have r2:Vals (vs++dvs) (us++ds):=r.append hd;have hl:(us++ds).length=ps.length:=by rw[←r2.length];exact F.len _ _ _ _ h
 refine wpAny_call (AZ (F.run X.A X.stack s H ⟨us,[]⟩ (us++ds) (vs++dvs) Q E hr I.env0 (hb s us I.kIn hl) r2 h) fun r s' hq=>?_)
 cases r with
 |error e=>exact hx pins σ H s e s' I hq
 |ok fl=>
  cases fl with
  |ret u=>exact I.after hq
  |next=>exact QQ hq
  |brk=>exact QQ hq
  |cont=>exact QQ hq
theorem zbh(F:FnOk X.prog X.w X.K X.mg X.base CX k f fd ps sp)(hr:Room k X.A)(hg:Gl X x)(hm:X.mg x=some (.ref f))(hk:ko X.K (.ref f)=true)(hb:Binds X.K fd ps ds)(hd:Vals dvs ds)(hx:Passes CX X E)
  (ha:PA X (e::es) t)(hdb:(x==("__debug__":Str))=false:=by decide)(he:uK (e::es) X.env=(false,eval e X.env)::uK es X.env:=by rfl)(hpl:(vC pos (uK es X.env)).any (·.1)=false:=by rfl):
  PE X (.Call (.Name x p) (e::es) [] pos) (tCall sp dvs E t):=by
 intro pins s σ H Q I h;refine Ul (ld_glob I hg hm ?_ hdb);refine PySem.W.callWith_K (h₀:=X.base) I.ok.mod.kin hk (thn (ha pos pins s σ H _ I h) fun us s1⟨vs,H1,I1,r,q⟩=>⟨I1.kIn,?_⟩) he hpl;exact run_fn F hr hb hd hx I1 r q
end
def PK(X:Cx)(kws:List gZ)(t:TA):Prop:=
 ∀(pos:Pos)(pins:List (Addr×Obj))(s:kC)(σ:St)(H:Hp)(Q:List V->Hp->Prop),Inv X pins σ H s->t σ H Q->wpAny (model X.prog X.w) X.A (evalAll ((jz pos (vE kws X.env)).map (·.2))) (AP X pins σ Q) X.xe s
section
variable{X:Cx}{CX:CXT}{k:Nat}{f C:Addr}{fd:Qy}{ps ks:List Str}{sp:Sp}{E:XK}{x m:Str}{p pos apos kpos:Pos}{e o:Expr}{es:List Expr}{kws:List gZ}{te ta:TE}{t tk:TA}{nm:Option Str}
theorem pk_nil:PK X [] tNil:=fun _ _ _ _ H Q I h=>wpAny_evalAll_nil ⟨[],H,I,.nil,h⟩
theorem pk_cons(ha:PE X e te)(hr:PK X kws t):PK X (⟨nm,e,kpos⟩::kws) (zcf te t):=by
 intro pos pins s σ H Q I h;show wpAny _ _ (evalAll ((do let v ←eval e X.env;standAt pos;pure v)::(jz pos (vE kws X.env)).map (·.2))) _ _ s;refine wpAny_evalAll_cons (kA (thn (ha pins s σ H _ I h) fun u s1⟨x,H1,I1,r1,q1⟩=>kA (jc (kL ?_))));exact thn (hr pos pins s1 σ H1 _ I1 q1) fun us s2⟨xs,H2,I2,r2,q2⟩=>⟨x::xs,H2,I2,.cons r1 r2,q2⟩
variable{g:List kB->List kB->List kB}{gV:List V->List V->List V}
end
structure zae(N P:List Str)(sc:Scope):Prop where
 kind:sc.kind=.function
 co:sc.isCoroutine=false
 gen:sc.isGenerator=false
 nd:N.Nodup
 pre:N.take P.length=P
 par:∀x∈P,sc.names.lookup x=some .local∨sc.names.lookup x=some .cell
 nofree:∀y∈sc.names,y.2≠.free
theorem zjc{kindOf:Str->Option hU}{x:Str}:∀{binds:List (Str×kB)}{m:Str->Option kB},(∀v,(x,v)∉binds)->bindL kindOf binds m x=m x
 |[],_,_=>rfl
 |(n,v)::r,m,h=>by
  unfold bindL;rw[zjc fun w hw=>h w (kI _ hw)]
  split
  ·have:x≠n:=by rintro rfl;exact h v po
   simp[this]
  ·rfl
theorem zk8{kindOf:Str->Option hU}{x:Str}:∀{binds:List (Str×kB)}{m:Str->Option kB},(∀v,(x,v)∉binds)->bindC kindOf binds m x=m x
 |[],_,_=>rfl
 |(n,v)::r,m,h=>by
  unfold bindC;rw[zk8 fun w hw=>h w (kI _ hw)]
  split
  ·rfl
  ·have:x≠n:=by rintro rfl;exact h v po
   simp[this]
theorem zka{kindOf:Str->Option hU}{x:Str}{v:kB}:∀{P:List Str}{vs:List kB}{i:Nat}{m:Str->Option kB},P.Nodup->P[i]?=some x->vs[i]?=some v->kindOf x=some .local->
  bindL kindOf (P.zip vs) m x=some v
 |[],_,_,_,_,h,_,_=>by simp at h
 |_::_,[],_,_,_,_,h,_=>by simp at h
 |p::P,w::vs,0,m,nd,h1,h2,hk=>by
  simp at h1 h2;subst h1;subst h2
  show bindL kindOf ((p,w)::P.zip vs) m p=_
  unfold bindL;rw[zjc fun v hv=>(Qj.mp nd).1 (jm hv).1,if_pos hk]
  simp
 |p::P,w::vs,i+1,m,nd,h1,h2,hk=>by
  show bindL kindOf ((p,w)::P.zip vs) m x=_
  unfold bindL;exact zka (i:=i) (Qj.mp nd).2 (by simpa using h1) (by simpa using h2) hk
theorem zk4{kindOf:Str->Option hU}{x:Str}{v:kB}:∀{P:List Str}{vs:List kB}{i:Nat}{m:Str->Option kB},P.Nodup->P[i]?=some x->vs[i]?=some v->kindOf x≠some .local->
  bindC kindOf (P.zip vs) m x=some v
 |[],_,_,_,_,h,_,_=>by simp at h
 |_::_,[],_,_,_,_,h,_=>by simp at h
 |p::P,w::vs,0,m,nd,h1,h2,hk=>by
  simp at h1 h2;subst h1;subst h2
  show bindC kindOf ((p,w)::P.zip vs) m p=_
  unfold bindC;rw[zk8 fun v hv=>(Qj.mp nd).1 (jm hv).1,if_neg hk]
  simp
 |p::P,w::vs,i+1,m,nd,h1,h2,hk=>by
  show bindC kindOf ((p,w)::P.zip vs) m x=_
  unfold bindC;exact zk4 (i:=i) (Qj.mp nd).2 (by simpa using h1) (by simpa using h2) hk
def start(N:List Str)(vs:List V):St:=vs.map some++jB (N.length-vs.length) none
def cxOf(CX:CXT)(P:pA)(w:pR)(K:kM)(mg:Str->Option kB)(base:Heap)(N:List Str)(qual:Str)(scope:Scope)(f:Addr)(cd:kB)(A:pj)(outer:List Env)(s:kC)(H:Hp)(E:XK):Cx where
 prog:=P
 w:=w
 K:=K
 mg:=mg
 base:=base
 A:=A.deeper (Aa qual scope s.heap.objs.size f cd)
 N:=N
 s₀:=s
 H₀:=H
 env:=Aa qual scope s.heap.objs.size f cd
 outer:=outer
 stack:=Aa qual scope s.heap.objs.size f cd::outer
 ex:=[]
 calm:=true
 fn:=fun _=>true
 pn:=[]
 xe:=fun e s'=>wpAny (model P w) (A.deeper (Aa qual scope s.heap.objs.size f cd)) (leaving (Aa qual scope s.heap.objs.size f cd) e) (fun _ s''=>CX outer H s E e s'') (fun e' s''=>CX outer H s E e' s'') s'
theorem zmp{sc:Scope}{n:Nat}{x:Str}(h:sc.names.lookup x=some .cell):∃c,(DS n sc.names []).lookup x=some c:=by
 have q:=Ab sc.names n [] (.inl h);exact gr.mp q
theorem znx{CX:CXT}{P:pA}{w:pR}{K:kM}{mg:Str->Option kB}{base:Heap}{N ps:List Str}{qual:Str}{scope:Scope}{f:Addr}{cd:kB}{A:pj}{outer:List Env}{s s1:kC}{H:Hp}{E:XK}{us:List kB}{vs:List V}
  (S:zae N ps scope)(hd:A.handled=none)(e0:Env0 P w K mg base A outer s H)(hl:vs.length=ps.length)(r:Vals vs us)
  (x:InCallC s s.heap.objs.size (bindL (Aa qual scope s.heap.objs.size f cd).kindOf (ps.zip us) fun _=>none) (DS (s.heap.objs.size+1) scope.names []) (bindC (Aa qual scope s.heap.objs.size f cd).kindOf (ps.zip us) fun _=>none) s1):
  Inv (cxOf CX P w K mg base N qual scope f cd A outer s H E) [] (start N vs) H s1:=by
 have hpl:ps.length<=N.length:=by have:=congrArg je S.pre;rw[pI] at this;omega
 obtain⟨h1,tk,rfl,hk⟩:=x.done;have noA:∀b:Addr,b∉(cxOf CX P w K mg base N qual scope f cd A outer s H E).ex:=fun b z=>absurd (show b∈([]:List Addr) from z) (by simp)
 refine⟨⟨e0.mod,S.kind,rfl,rfl,kG _,fun y z c h1 h2=>?_,fun y hy=>?_,fun y c _ h=>?_,fun _=>hd,BD e0.frames,.inr ⟨rfl,rfl⟩,fun b z=>absurd z (noA b),e0.bs,e0.bsz,fun b _ _=>noA b,fun b z=>absurd z (noA b),e0.funs,e0.frf⟩,
  rfl,e0.bare,Un.kept hk,⟨_,x.toInCall.ns,fun i y v h1 h2 h3=>?_⟩,fun y c h=>⟨_,x.cell y c h⟩,e0.hok.fresh (kG _),fun y c h=>?_,fun p hp=>absurd (show p∈([]:List (Addr×Obj)) from hp) (by simp),e0.hok.kept hk,?_⟩
 ·exact name_of_addr x.apart (uP h1) (uP h2)
 ·have hy:scope.names.lookup y=some .cell∨scope.names.lookup y=some .free:=hy;rcases hy with hy|hy
  ·exact zmp hy
  ·exact absurd rfl (S.nofree _ (uP hy))
 ·exact uq (x.above y c (uP h))
 ·have hi:i<vs.length:=by
   unfold start at h2
   by_cases hi:i<vs.length
   ·exact hi
   ·rw[pO (by simpa using hi)] at h2
    rw[AG] at h2
    split at h2<;>cases h2
  have ha:vs[i]?=some v:=by
   unfold start at h2;rw[uH (by simpa using hi),pG] at h2
   cases e:vs[i]? with
   |none=>rw[e] at h2;cases h2
   |some a=>rw[e] at h2;cases h2;rfl
  obtain⟨u,hu,rv⟩:=r.get ha;have hp:ps[i]?=some y:=by
   rw[←S.pre,gt (by omega)];exact h1
  have ndP:ps.Nodup:=by rw[←S.pre];exact S.nd.sublist (Bw _ _)
  refine⟨u,rv,?_⟩;rcases S.par y (kz hp) with k|k
  ·exact .inl ⟨k,zka ndP hp hu k⟩
  ·obtain⟨c,e⟩:=zmp (n:=s.heap.objs.size+1) k;refine .inr ⟨.inl k,c,e,?_⟩;have q:=x.cell y c e;rw[zk4 ndP hp hu (by show scope.names.lookup y≠_;rw[k];decide)] at q
   exact q
 ·exact e0.hok.fresh (uq (x.above y c (uP h)))
 ·unfold start;show _=N.length;rw[kJ,kO,UG];omega
theorem fn_of{CX:CXT}{P:pA}{w:pR}{K:kM}{mg:Str->Option kB}{base:Heap}{k:Nat}{f:Addr}{name qual:Str}{params:AH}{body:List Stmt}{scope:Scope}{dV kV doc pm cdv ct oc:kB}{an od:Option Addr}
  {osl:Array (Option kB)}{N ps:List Str}{sp:Sp}(lk:K.lookup f=some ⟨oc,od,.func (kN name qual params body scope dV kV doc pm an cdv ct),osl⟩)(hcd:km K cdv qual=true)(S:zae N ps scope)
  (len:∀vs H Q E,sp vs H Q E->vs.length=ps.length)
  (hbody:∀(A:pj)(outer:List Env)(s:kC)(H:Hp)(vs:List V)(Q:VK)(E:XK),Room k (A.deeper (Aa qual scope s.heap.objs.size f cdv))->sp vs H Q E->
   ∃t,PSs (cxOf CX P w K mg base N qual scope f cdv A outer s H E) body t/\t {nx:=fun _ H'=>Q .non H',rt:=Q} (start N vs) H):
  FnOk P w K mg base CX (k+1) f (kN name qual params body scope dV kV doc pm an cdv ct) ps sp:=by
 refine⟨len,fun A outer s H args us vs Q E hr e0 hb r hsp=>?_⟩;have hl:=len _ _ _ _ hsp;have KX:K.In s.heap:=e0.mod.kin.keeps fun b o e=>(e0.bs b o e).1;have lim:s.heap.NoLimit:=e0.mod.nolimit.keeps fun b o e=>(e0.bs b o e).1;have hkind:∀y∈ps.zip us,scope.names.lookup y.1=some .local∨(scope.names.lookup y.1=some .cell/\((DS (s.heap.objs.size+1) scope.names []).lookup y.1).isSome=true):=fun⟨n,v⟩ hy=>by
  rcases S.par n (jm hy).1 with q|q
  ·exact .inl q
  ·exact .inr ⟨q,Ab _ _ _ (.inl q)⟩
 refine codeAny_call_function hr.depth (KX _ _ lk) rfl S.co S.gen rfl (PySem.W.codeRec_of KX hcd) (hb _ _ _ _ ?_);refine wpAny_newFunctionEnv_cells S.kind hkind fun env he s1 x=>?_;subst he;refine⟨lim.keeps x.toInCall.keep,codeAny_func ?_⟩;obtain⟨t,ht,hq⟩:=hbody A outer s H vs Q E (hr.deeper _) hsp;have I:Inv (cxOf CX P w K mg base N qual scope f cdv A outer s H E) [] (start N vs) H s1:=znx S hr.hd e0 hl r x;refine uv (ht [] s1 (start N vs) H _ I hq) (fun fl s' hs=>?_) fun e s' hs=>hs;have fin:∀{σ':St}{H':Hp}{v:V}{u:kB},Inv (cxOf CX P w K mg base N qual scope f cdv A outer s H E) [] σ' H' s'->RelV v u->Q v H'->CE outer P w H s Q u s':=
  fun{σ' H' v u} J rv q=>⟨v,H',J.os,J.bare,J.base,J.hok,rv,q⟩
 cases fl with
 |ret u=>
  obtain⟨v,σ',H',J,rv,q⟩:=hs;exact fin J rv q
 |next=>
  obtain⟨σ',H',J,q⟩:=hs;exact fin (v:=V.non) (u:=ue) J rfl q
 |brk=>
  obtain⟨_,_,_,q⟩:=hs;exact QQ q
 |cont=>
  obtain⟨_,_,_,q⟩:=hs;exact QQ q
section
variable{X:Cx}{x:Str}{p pos:Pos}{e:Expr}{es:List Expr}{t:TA}{id T:String}{r:List V->Hp->VK->Prop}
def tCB(r:List V->Hp->VK->Prop)(t:TA):TE:=fun σ H Q=>t σ H fun vs H1=>r vs H1 Q
theorem zcj(hc:zf3 X (.builtin id) r)(hg:Gl X x)(hm:X.mg x=none)(hv:uo x=some (.builtin id))(ha:PA X (e::es) t)(hn:x≠"__name__":=by decide)(hdb:(x==("__debug__":Str))=false:=by decide)
  (he:uK (e::es) X.env=(false,eval e X.env)::uK es X.env:=by rfl) (hpl:(vC pos (uK es X.env)).any (·.1)=false:=by rfl):PE X (.Call (.Name x p) (e::es) [] pos) (tCB r t):=by
 intro pins s σ H Q I h;refine Ul (zh2 I hg hm hv ?_ hn hdb);exact PyProof.Rows.callWith_builtin1 (thn (ha pos pins s σ H _ I h) fun us s1⟨vs,H1,I1,r1,q1⟩=>hc pins s1 σ H1 vs us Q I1 r1 q1) he hpl
theorem zqn(hc:zf3 X (.type T) r)(hg:Gl X x)(hm:X.mg x=none)(hv:uo x=some (.type T))(ha:PA X (e::es) t)(hn:x≠"__name__":=by decide)(hdb:(x==("__debug__":Str))=false:=by decide)
  (he:uK (e::es) X.env=(false,eval e X.env)::uK es X.env:=by rfl) (hpl:(vC pos (uK es X.env)).any (·.1)=false:=by rfl):PE X (.Call (.Name x p) (e::es) [] pos) (tCB r t):=by
 intro pins s σ H Q I h;refine Ul (zh2 I hg hm hv ?_ hn hdb);exact vA (thn (ha pos pins s σ H _ I h) fun us s1⟨vs,H1,I1,r1,q1⟩=>hc pins s1 σ H1 vs us Q I1 r1 q1) he hpl
end
end L2
namespace HT
open PySem PyProof.Rows
def lexLt:List Int->List Int->Bool
 |[],[]=>false
 |[],_::_=>true
 |_::_,[]=>false
 |x::xs,y::ys=>if x=y then lexLt xs ys else decide (x<y)
theorem lexLt_cons(x y:Int)(xs ys:List Int):lexLt (x::xs) (y::ys)=if x=y then lexLt xs ys else decide (x<y):=rfl
theorem lexLt_nil_nil:lexLt [] []=false:=rfl
theorem eqAt_int(A:pj)(s:kC)(a:Int)(t:Tok)(c:Int)(u:Tok):∃e,SeqAt.EqAt A s (.int a t) (.int c u) e/\(e=true↔a=c):=
 ⟨(a==c),SeqAt.EqAt.int_int a t c u,by simp⟩
section
variable{prog:pA}{w:pR}{A:pj}{E:kB->kC->Prop}{s:kC}
def sIx(n d:Nat):Option Int->Nat
 |none=>d
 |some v=>if v<0 then(v+(n:Int)).toNat else min v.toNat n
theorem sIx_none(n d:Nat):sIx n d none=d:=rfl
theorem sIx_nat(n d k:Nat):sIx n d (some (k:Int))=min k n:=by
 show(if(k:Int)<0 then((k:Int)+(n:Int)).toNat else min (k:Int).toNat n)=min k n
 rw[if_neg (by omega),Qu]
end
end HT
namespace L2
open PySem PySem.Spec PyProof.Rows
abbrev TO:=St->Hp->(Option Int->Hp->Prop)->Prop
def PO(X:Cx)(e:Option Expr)(t:TO):Prop:=
 ∀(pins:List (Addr×Obj))(s:kC)(σ:St)(H:Hp)(Q:Option Int->Hp->Prop),Inv X pins σ H s->t σ H Q->
  wpAny (model X.prog X.w) X.A (evalPart e X.env) (fun u s'=>∃o H',Inv X pins σ H' s'/\IsPart u o/\Q o H') X.xe s
def zky:TO:=fun _ H Q=>Q none H
def tPart(t:TE):TO:=fun σ H Q=>t σ H fun x H1=>∃i,x=.int i/\Q (some i) H1
theorem zg6{ns:List Int}:∀{us:List kB},Vals (ns.map V.int) us->vM us ns:=by
 induction ns with
 |nil=>intro us r;rw[uU] at r;cases r;exact .nil
 |cons n ns ih=>
  intro us r;rw[kh] at r
  cases r with
  |cons r1 r2=>
   obtain⟨t,e⟩:=r1;subst e;exact .cons n t (ih r2)
section
variable{X:Cx}{e:Expr}{te:TE}{lo hi:Option Expr}{tl th:TO}{pos p2:Pos}
theorem zkr:PO X none zky:=by
 intro pins s σ H Q I h;rw[evalPart_none];exact kL ⟨none,H,I,.none,h⟩
theorem zll(h:PE X e te):PO X (some e) (tPart te):=by
 intro pins s σ H Q I hw;rw[evalPart_some];refine thn (h pins s σ H _ I hw) fun u s1⟨x,H1,I1,r1,q1⟩=>?_;obtain⟨i,rfl,q⟩:=q1;obtain⟨t,rfl⟩:=r1;exact⟨some i,H1,I1,.int i t,q⟩
def SlR(X:Cx)(r:V->Option Int->Option Int->Hp->VK->Prop):Prop:=
 ∀(pins:List (Addr×Obj))(s:kC)(σ:St)(H:Hp)(x:V)(v vl vu:kB)(lo hi:Option Int)(sl:Addr)(Q:VK),Inv X pins σ H s->RelV x v->s.heap.IsSliceOf sl vl vu .none->IsPart vl lo->IsPart vu hi->r x lo hi H Q->
  ∃T id,typeLookup (.type T) "__getitem__"=pure (some (.builtin id))/\s.TypeIs v T/\wpAny (model X.prog X.w) X.A (By v (.ref sl)) (EP X pins σ Q) X.xe s
def tSl(r:V->Option Int->Option Int->Hp->VK->Prop)(te:TE)(tl th:TO):TE:=fun σ H Q=>te σ H fun x H1=>tl σ H1 fun l H2=>th σ H2 fun u H3=>r x l u H3 Q
theorem ziq{r:V->Option Int->Option Int->Hp->VK->Prop}(hr:SlR X r)(he:PE X e te)(hl:PO X lo tl)(hu:PO X hi th):PE X (.Subscript e (.Slice lo hi none p2) pos) (tSl r te tl th):=by
 intro pins s σ H Q I h;refine DD (thn (he pins s σ H _ I h) fun v s1⟨x,H1,I1,r1,q1⟩=>?_);refine wpAny_Slice (thn (hl pins s1 σ H1 _ I1 q1) fun vl s2⟨l,H2,I2,pl,q2⟩=>thn (hu pins s2 σ H2 _ I2 q2) fun vu s3⟨u,H3,I3,pu,q3⟩=>?_);rw[evalPart_none];refine kL ?_;have I4:Inv X pins σ H3 {s3 with heap:=s3.heap.push {cls:=.type "slice",data:=.fields #[vl,vu,.none]}}:=I3.kept (t':=s3.toks) fun b ob q=>kT _ q;obtain⟨T,id,hT,ht,hg⟩:=hr pins {s3 with heap:=s3.heap.push {cls:=.type "slice",data:=.fields #[vl,vu,.none]}} σ H3 x v vl vu l u s3.heap.objs.size Q I4 r1 (Heap.IsSliceOf.new ..) pl pu q3;show wpAny (model X.prog X.w) X.A (Bd e (.Slice lo hi none p2) v (.ref s3.heap.objs.size)) (EP X pins σ Q) X.xe {s3 with heap:=s3.heap.push {cls:=.type "slice",data:=.fields #[vl,vu,.none]}};exact tail_any (ops:=[.ref s3.heap.objs.size,v]) ht hT hg (by with_unfolding_all rfl)
def cutV(xs:List V)(lo hi:Option Int):List V:=(xs.drop (HT.sIx xs.length 0 lo)).take (HT.sIx xs.length xs.length hi-HT.sIx xs.length 0 lo)
theorem zli(xs:List V)(lo hi:Option Int):(cutV xs lo hi).length<=xs.length:=by
 unfold cutV;rw[pI,pT];omega
end
def ixN(n:Nat)(i:Int):Option Nat:=if 0<=i then(if i<n then some i.toNat else none) else if-(n:Int)<=i then some (i+n).toNat else none
def atI{α:Type}(xs:List α)(i:Int):Option α:=(ixN xs.length i).bind fun j=>xs[j]?
theorem ixN_seq{n:Nat}{i:Int}{j:Nat}(h:ixN n i=some j):seqIndex? i n=some j/\j<n/\ -(n:Int)<=i/\i<n:=by
 unfold ixN at h
 by_cases h0:0<=i
 ·rw[if_pos h0] at h
  by_cases h1:i<n
  ·rw[if_pos h1] at h;have e:i.toNat=j:=uB h;exact⟨by rw[seqIndex_of h0 h1,e],by omega,by omega,h1⟩
  ·rw[if_neg h1] at h;cases h
 ·rw[if_neg h0] at h
  by_cases h1: -(n:Int)<=i
  ·rw[if_pos h1] at h;have e:(i+n).toNat=j:=uB h;exact⟨by rw[seqIndex_neg (by omega) h1,e],by omega,h1,by omega⟩
  ·rw[if_neg h1] at h;cases h
theorem zq2{α:Type}{xs:List α}{i:Int}{v:α}(h:atI xs i=some v):∃j,seqIndex? i xs.length=some j/\xs[j]?=some v/\j<xs.length/\ -(xs.length:Int)<=i/\i<xs.length:=by
 unfold atI at h
 cases e:ixN xs.length i with
 |none=>rw[e] at h;cases h
 |some j=>
  rw[e] at h;obtain⟨h1,h2,h3,h4⟩:=ixN_seq e;exact⟨j,h1,h,h2,h3,h4⟩
theorem zce{α:Type}{xs:List α}{j:Nat}{v:α}(h:xs[j]?=some v):atI xs (j:Int)=some v:=by
 have hj:j<xs.length:=(kH.mp h).1;have e:ixN xs.length (j:Int)=some j:=by
  unfold ixN;rw[if_pos (by omega),if_pos (by omega)];simp
 unfold atI;rw[e];exact h
def PlainIx(b:Expr):Prop:=∀o i,subscripted b false o i=operate [o,i] (By o i)
def IxR(X:Cx)(r:R2):Prop:=
 ∀(value slice:Expr)(pins:List (Addr×Obj))(s:kC)(σ:St)(H:Hp)(x y:V)(v u:kB)(Q:VK),Inv X pins σ H s->RelV x v->RelV y u->r x y H Q->
  subscripted slice false v u=operate [v,u] (By v u)->wpAny (model X.prog X.w) X.A (Bd value slice v u) (EP X pins σ Q) X.xe s
def MtR(X:Cx)(id:String)(r:V->List V->Hp->VK->Prop):Prop:=
 ∀(pins:List (Addr×Obj))(s:kC)(σ:St)(H:Hp)(x:V)(xs:List V)(v:kB)(us:List kB)(Q:VK),Inv X pins σ H s->RelV x v->Vals xs us->r x xs H Q->
  wpAny (model X.prog X.w) X.A (call (.builtin id) (v::us)) (EP X pins σ Q) X.xe s
section
variable{X:Cx}{a b:Expr}{ta tb:TE}{pos:Pos}
theorem zel{r:R2}(hr:IxR X r)(ha:PE X a ta)(hb:PE X b tb)(hs:PlainIx b):PE X (.Subscript a b pos) (tOp r ta tb):=by
 intro pins s σ H Q I h;exact DD (binT ha hb I h fun v u s2 x y H2 I2 rx ry q=>hr a b pins s2 σ H2 x y v u Q I2 rx ry q (hs _ _))
def rIxL(K:kM):R2:=fun x y H Q=>∃p xs i v,x=.ref p/\y=.int i/\SqL K H p xs/\atI xs i=some v/\Q v H
def rIxT(K:kM):R2:=fun x y H Q=>∃p xs i v,x=.ref p/\y=.int i/\SqT K H p xs/\atI xs i=some v/\Q v H
theorem zlf:IxR X (rIxL X.K):=by
 intro value slice pins s σ H x y v u Q I rx ry h hs;obtain⟨p,xs,i,z,rfl,rfl,hq,he,q⟩:=h
 cases rx;obtain⟨t,rfl⟩:=ry;obtain⟨its,r,pl,hz⟩:=I.list hq;obtain⟨j,h1,h2,h3,h4,h5⟩:=zq2 he;obtain⟨w,ew,rw'⟩:=r.get h2;have hl:=r.length;have hn:=line63;have fin:EP X pins σ Q w s:=⟨z,H,I,rw',q⟩
 by_cases h0:0<=i
 ·have hj:i.toNat=j:=by
   rw[seqIndex_of h0 h5] at h1;exact uB h1
  exact item_listR pl.isList h0 (by omega) (by rw[hj];simpa using ew) fin hs
 ·have hj:(i+(its.toArray.size:Int)).toNat=j:=by
   rw[seqIndex_neg (by omega) h4] at h1
   rw[pE,←hl];exact uB h1
  exact Ac (x:=w) pl.isList.typeIs Bz.lookup
   (wpAny_getItem_list_neg (Q:=fun r s'=>r=w/\EP X pins σ Q r s') pl.isList (by omega) (by rw[pE]<;>omega) (by omega) (by rw[hj];simpa using ew) ⟨rfl,fin⟩) hs
theorem ix_tup:IxR X (rIxT X.K):=by
 intro value slice pins s σ H x y v u Q I rx ry h hs;obtain⟨p,xs,i,z,rfl,rfl,hq,he,q⟩:=h
 cases rx;obtain⟨t,rfl⟩:=ry;obtain⟨its,r,pl,hz⟩:=I.tuple hq;obtain⟨j,h1,h2,h3,h4,h5⟩:=zq2 he;obtain⟨w,ew,rw'⟩:=r.get h2;have hl:=r.length;have hn:=line63;have fin:EP X pins σ Q w s:=⟨z,H,I,rw',q⟩;exact Ac (x:=w) pl.typeIs slot_tuple_getitem.lookup
  (getItem_tuple (j:=j) (Q:=fun r s'=>r=w/\EP X pins σ Q r s') pl (by omega) (by omega) (by rw[pE,←hl];exact h1) (by simpa using ew) ⟨rfl,fin⟩) hs
def rSetL:V->V->V->Hp->(Hp->Prop)->Prop:=fun o i v H Q=>∃p xs k j,o=.ref p/\i=.int k/\H p=some (.lst xs)/\ixN xs.length k=some j/\Q (upd H p (.lst (xs.set j v)))
theorem zj2(lo hi:Option Int)(n:Nat):(vm lo hi none n).1=((HT.sIx n 0 lo:Nat):Int)/\(vm lo hi none n).2.1=((HT.sIx n n hi:Nat):Int)/\(vm lo hi none n).2.2=1:=by
 refine⟨?_,?_,rfl⟩
 ·cases lo with
  |none=>simp[vm,HT.sIx]
  |some i=>
   simp only[vm,HT.sIx,CN,show(1:Int)>0 by decide,if_true]
   by_cases h:i<0
   ·simp only[h,if_true]<;>omega
   ·simp only[h,if_false]<;>omega
 ·cases hi with
  |none=>simp[vm,HT.sIx]
  |some i=>
   simp only[vm,HT.sIx,CN,show(1:Int)>0 by decide,if_true]
   by_cases h:i<0
   ·simp only[h,if_true]<;>omega
   ·simp only[h,if_false]<;>omega
theorem zi9(its:List kB)(lo hi:Option Int):slicePick its.toArray lo hi none=((its.drop (HT.sIx its.length 0 lo)).take (HT.sIx its.length its.length hi-HT.sIx its.length 0 lo)).toArray:=by
 obtain⟨h1,h2,h3⟩:=zj2 lo hi its.toArray.size;unfold slicePick;rw[h1,h2,h3];simp only[sliceRange_one,pick_run,pE]<;>rfl
def rSlL(K:kM):V->Option Int->Option Int->Hp->VK->Prop:=fun x lo hi H Q=>∃a xs,x=.ref a/\SqL K H a xs/\∀p,H p=none->Q (.ref p) (upd H p (.lst (cutV xs lo hi)))
theorem sl_list:SlR X (rSlL X.K):=by
 intro pins s σ H x v vl vu lo hi sl Q I rx hs pl pu h;obtain⟨a,xs,rfl,hx,q⟩:=h
 cases rx;obtain⟨its,r,ht,hz⟩:=I.list hx;have hlen:=r.length;refine⟨"list",_,Bz.lookup,ht.isList.typeIs,?_⟩;refine wpAny_getItem_list_slice ht.isList hs pl pu .none (by simp) ?_ (by rw[pE]<;>omega)
 rw[zi9,←hlen];refine⟨.ref s.heap.objs.size,_,I.laid (t':=s.toks) (o:=.lst (cutV xs lo hi)) (fun b ob q=>kT _ q) (kG _) ?_,rfl,q _ (I.hok.fresh (kG _))⟩;exact⟨pL (zli xs lo hi) hz,_,0,(r.drop (HT.sIx xs.length 0 lo)).take (HT.sIx xs.length xs.length hi-HT.sIx xs.length 0 lo),pM _ rfl⟩
theorem zdv:zf3 X (.builtin "len") (fun xs H Q=>∃p ys,xs=[.ref p]/\(SqL X.K H p ys∨SqT X.K H p ys)/\Q (.int ys.length) H):=by
 intro pins s σ H xs us Q I r h;obtain⟨p,ys,rfl,hq,q⟩:=h;obtain⟨u,rfl,rx⟩:=vals1 r
 cases rx;have hn:=line63;rcases hq with hq|hq
 ·obtain⟨its,r',pl,hz⟩:=I.list hq;have hlen:=r'.length;exact Calls.call_len_list pl.isList (by simp only[pE]<;>omega) ⟨.int ys.length,H,I.tok _,⟨s.toks+1,by rw[pE,hlen]⟩,q⟩
 ·obtain⟨its,r',pl,hz⟩:=I.tuple hq;have hlen:=r'.length;exact len_tuple pl (by simp only[pE]<;>omega) ⟨.int ys.length,H,I.tok _,⟨s.toks+1,by rw[pE,hlen]⟩,q⟩
theorem zk2:zf3 X (.type "list") (fun xs H Q=>∃p ys,xs=[.ref p]/\(SqL X.K H p ys∨SqT X.K H p ys)/\∀l,H l=none->Q (.ref l) (upd H l (.lst ys))):=by
 intro pins s σ H xs us Q I r h;obtain⟨p,ys,rfl,hq,q⟩:=h;obtain⟨u,rfl,rx⟩:=vals1 r
 cases rx;have fin:∀(its:List kB),Vals ys its->ys.length<=sizeLine->∀(h':Heap)(c':Nat),(∀b o',s.heap.get? b=some o'->h'.get? b=some o')->
   h'.get? s.heap.objs.size=some {cls:=.type "list",dict:=none,data:=.seq its.toArray c',slots:=#[]}->EP X pins σ Q (.ref s.heap.objs.size) {s with heap:=h'}:=fun its r' hz h' c' kp e=>
  ⟨.ref s.heap.objs.size,_,I.laid (t':=s.toks) kp (kG _) (show zdi X.prog X.w _ h' _ (.lst ys) from⟨hz,its,c',r',e⟩),rfl,q _ (I.hok.fresh (kG _))⟩
 rcases hq with hq|hq
 ·obtain⟨its,r',pl,hz⟩:=I.list hq;have hlen:=r'.length;obtain⟨o,ho,hc,n,hd⟩:=pl.isList;exact call_list_seq p (.inl rfl) ho hc hd (fun h' c' kp e=>fin its r' hz h' c' kp e) (by simp only[pE]<;>omega)
 ·obtain⟨its,r',pl,hz⟩:=I.tuple hq;have hlen:=r'.length;obtain⟨o,ho,hc,n,hd⟩:=pl;exact call_list_seq p (.inr rfl) ho hc hd (fun h' c' kp e=>fin its r' hz h' c' kp e) (by simp only[pE]<;>omega)
def tyV(K:kM)(T:String)(x:V)(H:Hp):Prop:=match x with
 |.str _=>T="str"
 |.int _=>T="int"
 |.ref p=>(T="list"/\∃xs,SqL K H p xs)∨(T="tuple"/\∃o,K.lookup p=some o/\o.cls=.type "tuple"/\o.dict=none)∨
   (T="dict"/\((∃kvs,H p=some (.dK kvs))∨∃kvs,H p=some (.dT kvs)))∨(T="set"/\∃S n,H p=some (.set S n))
 |_=>False
theorem tyV_is{pins:List (Addr×Obj)}{σ:St}{H:Hp}{s:kC}{T:String}{x:V}{v:kB}(I:Inv X pins σ H s)(r:RelV x v)(ty:tyV X.K T x H):
  s.TypeIs v T/\∀a,v=.ref a->∃ob,s.heap.get? a=some ob/\ob.dict=none:=by
 cases x with
 |str z=>
  obtain⟨t,rfl⟩:=r
  cases(show T="str" from ty);exact⟨typeIs_str s z t,fun _ e=>nomatch e⟩
 |int i=>
  obtain⟨t,rfl⟩:=r
  cases(show T="int" from ty);exact⟨typeIs_int s i t,fun _ e=>nomatch e⟩
 |ref p=>
  cases r;rcases ty with⟨rfl,xs,hq⟩|⟨rfl,o,hk,hc,hd⟩|⟨rfl,hk⟩|⟨rfl,S,n,hk⟩
  ·obtain⟨its,_,pl,_⟩:=I.list hq;refine⟨pl.isList.typeIs,fun a e=>?_⟩
   cases e;obtain⟨o,n,e,c,hd,_⟩:=pl;exact⟨o,e,hd⟩
  ·refine⟨⟨o,I.kIn p o hk,hc⟩,fun a e=>?_⟩
   cases e;exact⟨o,I.kIn _ o hk,hd⟩
  ·have z:∃o,s.heap.get? p=some o/\o.ExactDict:=by
    rcases hk with⟨kvs,hk⟩|⟨kvs,hk⟩
    ·obtain⟨_,_,_,_,o,_,_,e,ex,_⟩:=I.hok p _ hk;exact⟨o,e,ex⟩
    ·obtain⟨_,_,_,_,o,_,_,e,ex,_⟩:=I.hok p _ hk;exact⟨o,e,ex⟩
   obtain⟨o,e,ex⟩:=z;refine⟨⟨o,e,ex.1⟩,fun a e2=>?_⟩
   cases e2;exact⟨o,e,ex.2.1⟩
  ·obtain⟨o,_,_,_,e,ex,_⟩:=I.hok p _ hk;refine⟨⟨o,e,ex.1⟩,fun a e2=>?_⟩
   cases e2;exact⟨o,e,ex.2.1⟩
 |_=>exact QQ ty
def tBM0(K:kM)(T:String)(r:V->List V->Hp->VK->Prop)(to:TE):TE:=fun σ H Q=>to σ H fun x H1=>tyV K T x H1/\r x [] H1 Q
def tBM(K:kM)(T:String)(r:V->List V->Hp->VK->Prop)(to:TE)(t:TA):TE:=fun σ H Q=>to σ H fun x H1=>tyV K T x H1/\t σ H1 fun xs H2=>r x xs H2 Q
variable{o e:Expr}{es:List Expr}{to:TE}{t:TA}{name:Str}{apos cpos:Pos}{T id:String}{r:V->List V->Hp->VK->Prop}
theorem pe_bm0(pa:PlainAttrs T)(slot:Slot T name id)(hty:DV (.builtin id)=pure (.type "method_descriptor"))(hm:MtR X id r)(ho:PE X o to)
  (hbase:gu o name X.env (eval o X.env)=eval o X.env:=by rfl)(hline:(apos.endLine==cpos.line)=true:=by rfl):PE X (.Call (.Attribute o name apos) [] [] cpos) (tBM0 X.K T r to):=by
 intro pins s σ H Q I h;refine wpAny_Call_method0_late hbase hline (thn (ho pins s σ H _ I h) fun v s1⟨x,H1,I1,r1,ty,q1⟩=>?_);obtain⟨h1,h2⟩:=tyV_is I1 r1 ty;exact⟨T,id,pa,slot,hty,h1,h2,Qz rfl (PySem.evalArgs_none (hm pins s1 σ H1 x [] v [] Q I1 r1 .nil q1))⟩
theorem zir(pa:PlainAttrs T)(slot:Slot T name id)(hty:DV (.builtin id)=pure (.type "method_descriptor"))(hm:MtR X id r)(ho:PE X o to)(ha:PA X (e::es) t)
  (hbase:gu o name X.env (eval o X.env)=eval o X.env:=by rfl)
  (hfew:((vC cpos (uK (e::es) X.env)).all (fun x=> !x.1)&&(jz cpos (vE [] X.env)).all (fun x=>x.1.isSome)
   &&decide ((e::es).length+([]:List gZ).length+(if([]:List gZ).isEmpty then 0 else 1)<30))=true:=by rfl)
  (hline:(apos.endLine==cpos.line)=true:=by rfl) (hs:uK (e::es) X.env=(false,eval e X.env)::uK es X.env:=by rfl) (hplain:(vC cpos (uK es X.env)).any (·.1)=false:=by rfl):
  PE X (.Call (.Attribute o name apos) (e::es) [] cpos) (tBM X.K T r to t):=by
 intro pins s σ H Q I h;refine wpAny_Call_method_late hbase hfew hline rfl (thn (ho pins s σ H _ I h) fun v s1⟨x,H1,I1,r1,ty,q1⟩=>?_);obtain⟨h1,h2⟩:=tyV_is I1 r1 ty;refine⟨T,id,pa,slot,hty,h1,h2,?_⟩;have hA:=ha cpos pins s1 σ H1 _ I1 q1;rw[hs] at hA⊢;refine Qz (by show(false||(vC cpos (uK es X.env)).any (·.1))=false;rw[hplain]<;>rfl) (vF ?_)
 exact thn hA fun us s2⟨vs,H2,I2,r2,q2⟩=>hm pins s2 σ H2 x vs v us Q I2 r1 r2 q2
end
def MtM(X:Cx)(id:String)(r:V->List V->Hp->VK->Prop):Prop:=
 ∀(pins:List (Addr×Obj))(s:kC)(σ:St)(H:Hp)(x:V)(xs:List V)(v:kB)(us:List kB)(Q:VK),Inv X pins σ H s->RelV x v->Vals xs us->r x xs H Q->
  wpAny (model X.prog X.w) X.A (call (.builtin id) (v::us)) (EP X pins σ Q) X.xe s
theorem Vals.one:∀{x:V}{us:List kB},Vals [x] us->∃u,us=[u]/\RelV x u
 |_,_,.cons r .nil=>⟨_,rfl,r⟩
theorem Vals.zero:∀{us:List kB},Vals [] us->us=[]
 |_,.nil=>rfl
theorem Vals.dropLast{xs:List V}{us:List kB}(h:Vals xs us):Vals xs.dropLast us.dropLast:=by
 induction h with
 |nil=>exact .nil
 |cons r t ih=>
  cases t with
  |nil=>exact .nil
  |cons q t'=>exact .cons r ih
theorem znb{α:Type}(l:List α):l.eraseIdx (l.length-1)=l.dropLast:=by
 induction l with
 |nil=>rfl
 |cons a r ih=>
  cases r with
  |nil=>rfl
  |cons b r=>
   have e:(a::b::r).length-1=((b::r).length-1)+1:=by
    have h1:(a::b::r).length=r.length+2:=rfl;have h2:(b::r).length=r.length+1:=rfl;omega
   rw[e,List.eraseIdx_cons_succ,ih]
   all_goals rfl
section
variable{X:Cx}{pins:List (Addr×Obj)}{σ:St}{H:Hp}{s:kC}{l b:Addr}{xs ys zs:List V}
theorem Inv.lset{its its':List kB}{n:Nat}{f:Array kB->Array kB}{t':Nat}(I:Inv X pins σ H s)(hH:H l=some (.lst xs))
  (e:s.heap.get? l=some {cls:=.type "list",data:=.seq its.toArray n})(hf:f its.toArray=its'.toArray)(hv:Vals ys its')(hz:ys.length<=sizeLine):
  Inv X pins σ (upd H l (.lst ys)) {s with heap:=s.heap.update l (pQ f),toks:=t'}:=by
 have q:=PySem.IsL.update e f;rw[hf] at q;refine I.write (x:=l) (e:=l) (by rw[hH];exact trivial) (.inl rfl) (fun b' u hb hu=>(QY s.heap (pQ f) (ve hb)).trans hu) ⟨_,q⟩ ?_
 exact⟨hz,its',_,hv,q⟩
theorem Inv.lnew{its:List kB}{t':Nat}(I:Inv X pins σ H s)(hv:Vals ys its)(hz:ys.length<=sizeLine):
  Inv X pins σ (upd H s.heap.objs.size (.lst ys)) {s with heap:=s.heap.push {cls:=.type "list",data:=.seq its.toArray},toks:=t'}:=
 I.laid (fun _ _ q=>kT _ q) (kG _) ⟨hz,its,0,hv,pM _ rfl⟩
theorem Inv.fresh(I:Inv X pins σ H s):H s.heap.objs.size=none:=I.hok.fresh (kG _)
theorem Inv.lstM(I:Inv X pins σ H s)(hH:H l=some (.lst xs)):xs.length<=sizeLine/\∃(its:List kB)(n:Nat),Vals xs its/\xs.length=its.length/\s.heap.get? l=some {cls:=.type "list",data:=.seq its.toArray n}:=by
 obtain⟨z,its,n,r,e⟩:=I.hok l _ hH;exact⟨z,its,n,r,r.length,e⟩
theorem notLongL{n:Nat}(h:n<=sizeLine):vY n=false:=by
 unfold vY;exact decide_eq_false (by omega)
end
section
variable{X:Cx}
def rAppend:V->List V->Hp->VK->Prop:=fun x vs H Q=>∃l xs y,x=.ref l/\vs=[y]/\H l=some (.lst xs)/\xs.length<sizeLine/\Q .non (upd H l (.lst (xs++[y])))
theorem zc9:MtM X "list.append" rAppend:=by
 intro pins s σ H x vs v us Q I rx rv h;obtain⟨l,xs,y,rfl,rfl,hH,hz,q⟩:=h
 cases rx;obtain⟨u,rfl,ru⟩:=rv.one;obtain⟨z,its,n,r,hl,e⟩:=I.lstM hH;refine Bi F.slot_list_append ⟨_,e,rfl⟩ F.entry_list_append (F.args_list_append_2 _ _) (PySem.list_append l its.toArray n u (by rw[pE];omega)) ⟨e,?_⟩
 refine⟨.non,_,I.lset (its':=its++[u]) hH e (by simp) (r.append (.cons ru .nil)) ?_,rfl,q⟩
 rw[kJ,pH];omega
def zke:V->List V->Hp->VK->Prop:=fun x vs H Q=>∃l b xs zs,x=.ref l/\vs=[.ref b]/\H l=some (.lst xs)/\H b=some (.lst zs)/\xs.length+zs.length<=sizeLine/\Q .non (upd H l (.lst (xs++zs)))
theorem zk1:MtM X "list.extend" zke:=by
 intro pins s σ H x vs v us Q I rx rv h;obtain⟨l,b,xs,zs,rfl,rfl,hH,hB,hz,q⟩:=h
 cases rx;obtain⟨u,rfl,ru⟩:=rv.one
 cases ru;obtain⟨z,its,n,r,hl,e⟩:=I.lstM hH;obtain⟨z2,its2,n2,r2,hl2,e2⟩:=I.lstM hB;have hsz:its.toArray.size+its2.toArray.size<=sizeLine:=by rw[pE,pE];omega
 have hlong:¬(!its.toArray.isEmpty&&vY (its.toArray.size+its2.toArray.size))=true:=by
  rw[notLongL hsz,DE];exact pN
 refine Bi F.slot_list_extend ⟨_,e,rfl⟩ F.entry_list_extend (F.args_list_extend_2 _ _)
  (AutoSeq1.list_extend_list_list_0 l its.toArray n b its2.toArray n2 hlong (by rw[pE];omega) (by omega)) ⟨e,e2,?_⟩
 refine⟨.non,_,I.lset (its':=its++its2) hH e (by simp) (r.append r2) ?_,rfl,q⟩
 rw[kJ];omega
def rPop:V->List V->Hp->VK->Prop:=fun x vs H Q=>∃l xs y,x=.ref l/\vs=[]/\H l=some (.lst xs)/\xs[xs.length-1]?=some y/\Q y (upd H l (.lst xs.dropLast))
theorem mt_pop:MtM X "list.pop" rPop:=by
 intro pins s σ H x vs v us Q I rx rv h;obtain⟨l,xs,y,rfl,rfl,hH,hy,q⟩:=h
 cases rx;have hus:=rv.zero;subst hus;obtain⟨z,its,n,r,hl,e⟩:=I.lstM hH;obtain⟨u,hu,ru⟩:=r.get hy;have hy':its.toArray[its.toArray.size-1]?=some u:=by
  show its.toArray[its.length-1]?=some u
  rw[←UH,←hl];exact hu
 refine Bi F.slot_list_pop ⟨_,e,rfl⟩ F.entry_list_pop (F.args_list_pop_1 _) (MeetsSeq.list_pop_last l its.toArray n u hy' (by rw[pE];omega)) ⟨e,?_⟩
 refine⟨y,_,I.lset (its':=its.dropLast) hH e ?_ r.dropLast ?_,ru,q⟩
 ·show its.toArray.eraseIdxIfInBounds (its.toArray.size-1)=its.dropLast.toArray
  rw[pE,List.eraseIdxIfInBounds_toArray,znb]
 ·rw[List.length_dropLast];omega
def rClear:V->List V->Hp->VK->Prop:=fun x vs H Q=>∃l xs,x=.ref l/\vs=[]/\H l=some (.lst xs)/\Q .non (upd H l (.lst []))
def rCat:R2:=fun x y H Q=>∃l b xs zs,x=.ref l/\y=.ref b/\H l=some (.lst xs)/\H b=some (.lst zs)/\xs.length+zs.length<=sizeLine/\∀p,H p=none->Q (.ref p) (upd H p (.lst (xs++zs)))
theorem zpb:OpR X (vz .Add) rCat:=by
 intro pins s σ H x y v u Q I rx ry h;obtain⟨l,b,xs,zs,rfl,rfl,hH,hB,hz,q⟩:=h
 cases rx
 cases ry;obtain⟨z,its,n,r,hl,e⟩:=I.lstM hH;obtain⟨z2,its2,n2,r2,hl2,e2⟩:=I.lstM hB;refine PySem.P.add_list e e2 ?_ (by rw[pE,pE];omega)
 have ea:its.toArray++its2.toArray=(its++its2).toArray:=by simp
 rw[ea];exact⟨.ref _,_,I.lnew (t':=s.toks) (r.append r2) (by rw[kJ];omega),rfl,q _ I.fresh⟩
end
end L2
namespace Att
open PySem PySem.W PySem.Calls PyProof.Rows
theorem zhb{P:Params}{h:Heap}:∀(ns:List Int)(vs:List kB),WellAll P h vs (ns.map WData.int)->vM vs ns:=by
 intro ns
 induction ns with
 |nil=>
  intro vs w;rw[uU] at w
  cases w;exact .nil
 |cons n ns ih=>
  intro vs w;rw[kh] at w
  cases w with
  |cons a b=>
   cases a;exact .cons _ _ (ih _ b)
theorem zos{l:OpenLaw}{n:Nat}(hn:l.most=some n){P:Params}{h:Heap}{args:List WData}{vals:List kB}
  (hpre:l.row.toRowW.claim.pre args=true)(hwl:WellAll P h vals args):
  ∃a vs ns,vals=[pS a]/\args=[WData.list (ns.map WData.int)]/\h.get? a=some {cls:=.type "list",data:=.seq vs.toArray}/\vM vs ns/\ns.length<=n:=by
 have hsh:WShape.hasAll [] args [.list .int]=true:=(pre_splitW hpre).1;have hc:l.pre.holds [] {args:=args}=true:=(pre_splitW hpre).2;obtain⟨d,r,rfl,h1,h2⟩:=hasAllW_cons hsh;obtain rfl:=hasAllW_nil h2;obtain⟨xs,rfl,h3⟩:=hasW_list h1;obtain⟨ns,rfl⟩:=items_int h3;have hlen:ns.length<=n:=by
  unfold OpenLaw.pre at hc;have h4:(WTm.not (.lt (.lit (.int (n:Int))) (.len (.arg 0)))).holds [] {args:=[.list (ns.map .int)]}=true:=by
   have h4:=(holds_andW hc).1;rw[hn] at h4;exact h4
  have h5:=condW_of h4 (w_not (w_lt w_lit (w_len_list (w_arg rfl))));rw[kO] at h5;refine Nat.le_of_not_lt fun q=>?_;have q':(n:Int)<((ns.length:Nat):Int):=by omega
  first
   |(rw[decide_eq_true q'] at h5;exact absurd h5 (by decide))
   |(simp at h5;omega)
 cases hwl with
 |cons w1 w2=>
  cases w2
  cases w1 with
  |list ho hall=>exact⟨_,_,ns,rfl,rfl,ho,zhb ns _ hall,hlen⟩
theorem zqk(l:OpenLaw)(args:List WData):l.row.toRowW.claim.post args (.bool true) args=true:=
 postW_of (r:=l.row.toRowW) (X:=(true==true))
  (show WShape.has [] (.bool true) .bool=true by first|rfl|decide|simp[WShape.has,WShape.arms,WShape.armsAll])
  (show(WTm.eq .res (.lit (.bool true))).value [] {args:=args,res:=some (.bool true),after:=args}=some (.bool (true==true)) from w_eq_bool (w_res rfl) w_lit) rfl
theorem attach_call{l:OpenLaw}{n:Nat}{q:pA}{loose:List Str}{XP:(Str->Option kB)->Heap->Prop}{YP:pR->Heap->Prop}{d:DefRec}
  (hn:l.most=some n)(hdf:d.params.defaults=[])
  (call:∀(w:pR)(s₀ s₁:kC)(mg mb:Str->Option kB)(fa:Addr)(o:Obj)(pm cd doc:kB)(a:Addr)(vs:List kB)(ns:List Int),
   Ground q loose [] XP w s₀ mg mb s₁.heap->YP w s₁.heap->
   s₁.heap.get? fa=some o->o.data=.func (docDef d.name d.params d.body d.scope pm cd doc)->s₁.heap.CodeRec cd d.name->mg d.name=some (.ref fa)->
   s₁.heap.get? a=some {cls:=.type "list",data:=.seq vs.toArray}->vM vs ns->ns.length<=n->s₁.gens=#[]->
   ju (model l.prog w) BX (.call (.ref fa) ⟨[.ref a],[]⟩) (fun r s'=>r=.ok (.ret (.bool true))/\OldK s₁.heap s'.heap/\s'.os=s₁.os/\gU s'.gens) s₁):
  WalkO q loose XP YP l.row.toRowW d [] (fun f vs=>DF f vs):=by
 intro w s₀ s₁ mg mb G Y fa o pm cd doc dV kV ho hd hcd hD hmg hg args vals as hpre hlay hrd hwl hlo;obtain rfl:dV=.none:=Dflts.none hD hdf;obtain rfl:kV=.none:=Dflts.noKw hD;obtain⟨a,vs,ns,rfl,rfl,hobj,hints,hlen⟩:=zos hn hpre hwl;refine enter_call (AZ (call w s₀ s₁ mg mb fa o pm cd doc a vs ns G Y ho (fd_plain hd) hcd hmg hobj hints hlen hg) fun r s' hq=>?_);obtain⟨rfl,h2,h3,h4⟩:=hq;exact⟨.inl ⟨.bool true,.bool true,[],rfl,fun _=>rfl,.bool true,zqk l _,fun _=>⟨List.Pairwise.nil,fun _ hm=>(nomatch hm)⟩⟩,h2,h3,h4⟩
end Att
namespace L2
open PySem PySem.Spec PyProof.Rows
theorem zjk:∀{vs:List kB}{ns:List Int},vM vs ns->Vals (ns.map V.int) vs
 |_,_,.nil=>.nil
 |_,_,.cons n t h=>.cons ⟨t,rfl⟩ (zjk h)
def za4(s:Stmt):AH:=match s with
 |.FunctionDef _ a _ _ _ _ _ _ _ _=>a
 |_=>{posonlyargs:=[],args:=[],vararg:=none,kwonlyargs:=[],kw_defaults:=[],kwarg:=none,defaults:=[]}
def za3(s:Stmt):List Stmt:=match s with
 |.FunctionDef _ _ b _ _ _ _ _ _ _=>b
 |_=>[]
def za0(s:Stmt):Scope:=match s with
 |.FunctionDef _ _ _ _ _ _ sc _ _ _=>sc
 |_=>{kind:=.function,names:=[],isGenerator:=false,isCoroutine:=false}
abbrev CX0:CXT:=fun _ _ _ _ _ _=>False
abbrev E0:XK:=fun _ _ _=>False
theorem pass0{X:Cx}:Passes CX0 X E0:=fun _ _ _ _ _ _ _ h=>h.elim
structure Fun(K:kM)(x qual:Str)(st:Stmt)(f:Addr)(fd:Qy):Prop where
 ex:∃(oc:kB)(od:Option Addr)(kV doc pm:kB)(an:Option Addr)(cdv ct:kB)(osl:Array (Option kB)),
  fd=kN x qual (za4 st) (za3 st) (za0 st) .none kV doc pm an cdv ct/\K.lookup f=some ⟨oc,od,.func fd,osl⟩/\km K cdv qual=true
 kp:ko K (.ref f)=true
section
variable{P:pA}{w:pR}{K:kM}{mg:Str->Option kB}{base:Heap}
theorem Fun.ok{x qual:Str}{st:Stmt}{f:Addr}{fd:Qy}{N ps:List Str}{k:Nat}{sp:Sp}(F:Fun K x qual st f fd)(S:zae N ps (za0 st))(len:∀vs H Q E,sp vs H Q E->vs.length=ps.length)
  (hbody:∀(cdv:kB)(A:pj)(outer:List Env)(s:kC)(H:Hp)(vs:List V)(Q:VK)(E:XK),Room k (A.deeper (Aa qual (za0 st) s.heap.objs.size f cdv))->sp vs H Q E->
   ∃t,PSs (cxOf CX0 P w K mg base N qual (za0 st) f cdv A outer s H E).nox (za3 st) t/\t {nx:=fun _ H'=>Q .non H',rt:=Q} (start N vs) H):FnOk P w K mg base CX0 (k+1) f fd ps sp:=by
 obtain⟨oc,od,kV,doc,pm,an,cdv,ct,osl,rfl,lk,hcd⟩:=F.ex;refine fn_of lk hcd S len fun A outer s H vs Q E hr hsp=>?_;obtain⟨t,h,q⟩:=hbody cdv A outer s H vs Q E hr hsp;exact⟨t,h.nox,q⟩
theorem Fun.binds{x qual:Str}{st:Stmt}{f:Addr}{fd:Qy}{ps:List Str}(F:Fun K x qual st f fd)
  (h:∀(kV doc pm:kB)(an:Option Addr)(cdv ct:kB)(us:List kB),us.length=ps.length->Bv (kN x qual (za4 st) (za3 st) (za0 st) .none kV doc pm an cdv ct) ⟨us,[]⟩=pure (ps.zip us)):Binds K fd ps []:=by
 obtain⟨oc,od,kV,doc,pm,an,cdv,ct,osl,rfl,lk,hcd⟩:=F.ex;exact .all (h kV doc pm an cdv ct)
theorem zax{x qual:Str}{st:Stmt}{f:Addr}{oc:kB}{od an:Option Addr}{osl:Array (Option kB)}{kV doc pm cdv ct:kB}(l:K.lookup f=some ⟨oc,od,.func (kN x qual (za4 st) (za3 st) (za0 st) .none kV doc pm an cdv ct),osl⟩)
  (c:km K cdv qual=true)(k:ko K (.ref f)=true):Fun K x qual st f (kN x qual (za4 st) (za3 st) (za0 st) .none kV doc pm an cdv ct):=⟨⟨oc,od,kV,doc,pm,an,cdv,ct,osl,rfl,l,c⟩,k⟩
end
theorem zem{A:pj}{k:Nat}(hr:Room k A):A.units+1<cLine:=uS (Nat.add_le_add_left (by decide:1<=64) _) hr.units
theorem small1000{n:Nat}(h:n<=1000):n<sizeLine:=uS h (by decide)
section
variable{X:Cx}
theorem pv(i:Nat){x:Str}{pos:Pos}(hN:X.N[i]?=some x:=by rfl)(hv:Vis X.env.scope x:=by first|exact kj rfl|exact jU (kj rfl)|exact jU (jU rfl))(hd:(x==("__debug__":Str))=false:=by decide)
  (hcd:(x==("__classdict__":Str))=false:=by decide):PE X (.Name x pos) (tVar i):=pe_var hN hv hd hcd
end
theorem iteF{A B:Prop}(h:B):if false=true then A else B:=by
 rw[if_neg pN];exact h
theorem iteT{A B:Prop}(h:A):if true=true then A else B:=by
 rw[if_pos rfl];exact h
theorem ite2{c A B:Prop}[Decidable c](h1:c->A)(h2:¬c->B):if c then A else B:=by
 by_cases h:c
 ·rw[if_pos h];exact h1 h
 ·rw[if_neg h];exact h2 h
def Same(H H':Hp):Prop:=∀b o,H b=some o->H' b=some o
theorem Same.refl(H:Hp):Same H H:=fun _ _ h=>h
theorem Same.trans{H H1 H2:Hp}(a:Same H H1)(b:Same H1 H2):Same H H2:=fun c o h=>b c o (a c o h)
theorem Same.free{H H':Hp}(e:Same H H'){l:Addr}(h:H' l=Df):H l=Df:=by
 cases q:H l with
 |none=>rfl
 |some o=>
  rw[e l o q] at h
  cases h
theorem Same.seq{K:kM}{H H':Hp}{a:Addr}{xs:List V}(e:Same H H')(h:SqL K H a xs):SqL K H' a xs:=by
 rcases h with(h|⟨o,h⟩)|h
 ·exact .inl (.inl (e _ _ h))
 ·exact .inl (.inr ⟨o,e _ _ h⟩)
 ·exact .inr h
section
variable{X:Cx}
def CBig(i j:Int):Prop:=i.natAbs<2^1000000/\j.natAbs<2^1000000
theorem CBig.ok{i j:Int}(h:CBig i j):IntMulOk i j:=
 PySem.IntMulOk.of_le (BE.mpr h.1) (BE.mpr h.2) (by decide)
theorem zan:OpR X (vz .Mult) (rI CBig fun i j=>.int (i*j)):=opI fun _ _ _ _ _ _ _ hc q=>mul_int q hc.ok
def CDivB(_i j:Int):Prop:=j≠0/\j.natAbs<2^8999
theorem zea:OpR X (vz .FloorDiv) (rI CDivB fun i j=>.int (i.fdiv j)):=opI fun _ j _ _ _ _ _ hc q=>by
 refine floordiv_int hc.1 q (.inl (PyProof.noPylong_of_log2 ?_));have h0:j.natAbs≠0:=by have:=hc.1;omega
 have:=(Nat.log2_lt h0).mpr hc.2;omega
theorem bt_abs:uo "abs"=some (.builtin "abs"):=by decide+kernel
theorem zdn:uo "len"=some (.builtin "len"):=by decide+kernel
theorem zfw:uo "isinstance"=some (.builtin "isinstance"):=by decide+kernel
theorem zkc:uo "list"=some (.type "list"):=by decide+kernel
def dictO(a:Addr):HO:=.ext fun h=>∃o,h.get? a=some o/\o.cls=.type "dict"
def tyN(K:kM)(H:Hp)(x:V)(T:String):Prop:=match x with
 |.non=>T="NoneType"
 |.bl _=>T="bool"
 |.int _=>T="int"
 |.str _=>T="str"
 |.ref p=>(T="list"/\∃xs,SqL K H p xs)∨(T="tuple"/\∃xs,SqT K H p xs)∨(T="dict"/\H p=some (dictO p))
 |_=>False
theorem tyN_is{pins:List (Addr×Obj)}{σ:St}{H:Hp}{s:kC}{T:String}{x:V}{v:kB}(I:Inv X pins σ H s)(r:RelV x v)(ty:tyN X.K H x T):s.TypeIs v T:=by
 cases x with
 |non=>cases r;cases(show T="NoneType" from ty);rfl
 |bl b=>cases r;cases(show T="bool" from ty);rfl
 |int i=>obtain⟨t,rfl⟩:=r;cases(show T="int" from ty);exact typeIs_int s i t
 |str z=>obtain⟨t,rfl⟩:=r;cases(show T="str" from ty);exact typeIs_str s z t
 |ref p=>
  cases r;rcases ty with⟨rfl,xs,hq⟩|⟨rfl,xs,hq⟩|⟨rfl,hq⟩
  ·obtain⟨its,_,pl,_⟩:=I.list hq;exact pl.isList.typeIs
  ·obtain⟨its,_,⟨o,e,c,_⟩,_⟩:=I.tuple hq;exact⟨o,e,c⟩
  ·obtain⟨⟨o,e,c⟩,_⟩:=I.hok p _ hq;exact⟨o,e,c⟩
 |_=>exact QQ ty
theorem zfc{pins:List (Addr×Obj)}{σ:St}{H:Hp}{s:kC}{Tx T:String}{b:Bool}{x:V}{v:kB}{Q:VK}(hne:b=false->(jT Tx==jT T)=false)
  (hty:DV (.type T)=pure (.type "type"))(hsub:jV (.type Tx) (.type T)=pure b)(I:Inv X pins σ H s)(r:RelV x v)(ht:tyN X.K H x Tx)(q:Q (.bl b) H):
  wpAny (model X.prog X.w) X.A (call (.builtin "isinstance") [v,.type T]) (EP X pins σ Q) X.xe s:=by
 cases b with
 |true=>exact call_isinstance_yes (tyN_is I r ht) hty hsub ⟨.bl true,H,I,rfl,q⟩
 |false=>
  have hq:EP X pins σ Q (.bool false) {s with toks:=s.toks+1}:=⟨.bl false,H,I.tok _,rfl,q⟩
  cases x with
  |non=>cases r;cases(show Tx="NoneType" from ht);exact UK (isinstance_false_none (hne rfl) hty hsub) hq
  |bl b=>cases r;cases(show Tx="bool" from ht);exact UK (isinstance_false_bool (hne rfl) hty hsub) hq
  |int i=>obtain⟨t,rfl⟩:=r;cases(show Tx="int" from ht);exact UK (isinstance_false_int (hne rfl) hty hsub) hq
  |str z=>obtain⟨t,rfl⟩:=r;cases(show Tx="str" from ht);exact UK (isinstance_false_str (hne rfl) hty hsub) hq
  |ref p=>
   have ty:=tyN_is I r ht
   cases r;rcases ht with⟨rfl,xs,hs⟩|⟨rfl,xs,hs⟩|⟨rfl,hs⟩
   ·exact UK (isinstance_false_list (hne rfl) hty hsub) ⟨ty,hq⟩
   ·exact UK (isinstance_false_tuple (hne rfl) hty hsub) ⟨ty,hq⟩
   ·exact UK (isinstance_false_dict (hne rfl) hty hsub) ⟨ty,hq⟩
  |_=>exact QQ ht
def isiB(Tx T:String):Bool:=(Tx==T)||(Tx=="bool"&&T=="int")
theorem znu:DV (.type "list")=pure (.type "type"):=by kernel_rfl
theorem tyN_in{K:kM}{H:Hp}{x:V}{T:String}(h:tyN K H x T):T="NoneType"∨T="bool"∨T="int"∨T="str"∨T="list"∨T="tuple"∨T="dict":=by
 cases x with
 |non=>exact .inl h
 |bl b=>exact .inr (.inl h)
 |int i=>exact .inr (.inr (.inl h))
 |str z=>exact .inr (.inr (.inr (.inl h)))
 |ref p=>
  rcases h with⟨h,_⟩|⟨h,_⟩|⟨h,_⟩
  ·exact .inr (.inr (.inr (.inr (.inl h))))
  ·exact .inr (.inr (.inr (.inr (.inr (.inl h)))))
  ·exact .inr (.inr (.inr (.inr (.inr (.inr h)))))
 |_=>exact QQ h
def rIsi(K:kM)(T:String):List V->Hp->VK->Prop:=fun xs H Q=>∃x Tx,xs=[x,.ty T]/\tyN K H x Tx/\Q (.bl (isiB Tx T)) H
theorem isi_T{T:String}(hty:DV (.type T)=pure (.type "type"))(h1:jV (.type "NoneType") (.type T)=pure (isiB "NoneType" T))(h2:jV (.type "bool") (.type T)=pure (isiB "bool" T))(h3:jV (.type "int") (.type T)=pure (isiB "int" T))
  (h4:jV (.type "str") (.type T)=pure (isiB "str" T))(h5:jV (.type "list") (.type T)=pure (isiB "list" T))(h6:jV (.type "tuple") (.type T)=pure (isiB "tuple" T))(h7:jV (.type "dict") (.type T)=pure (isiB "dict" T))
  (hn:∀Tx∈["NoneType","bool","int","str","list","tuple","dict"],isiB Tx T=false->(jT Tx==jT T)=false):zf3 X (.builtin "isinstance") (rIsi X.K T):=by
 intro pins s σ H xs us Q I r h;obtain⟨x,Tx,rfl,ht,q⟩:=h;obtain⟨u,w',rfl,ru,rw'⟩:=vals2 r
 cases rw';rcases tyN_in ht with rfl|rfl|rfl|rfl|rfl|rfl|rfl
 ·exact zfc (hn _ (by simp)) hty h1 I ru ht q
 ·exact zfc (hn _ (by simp)) hty h2 I ru ht q
 ·exact zfc (hn _ (by simp)) hty h3 I ru ht q
 ·exact zfc (hn _ (by simp)) hty h4 I ru ht q
 ·exact zfc (hn _ (by simp)) hty h5 I ru ht q
 ·exact zfc (hn _ (by simp)) hty h6 I ru ht q
 ·exact zfc (hn _ (by simp)) hty h7 I ru ht q
theorem zfj:zf3 X (.builtin "isinstance") (rIsi X.K "list"):=isi_T znu (by rw[Ue];kernel_rfl) (by rw[Ue];kernel_rfl) (by rw[Ue];kernel_rfl) (by rw[Ue];kernel_rfl) (by rw[Ue];kernel_rfl) (by rw[Ue];kernel_rfl) (by rw[Ue];kernel_rfl) (by decide+kernel)
end
theorem cx_K{CX:CXT}{P:pA}{w:pR}{K:kM}{mg:Str->Option kB}{base:Heap}{N:List Str}{qual:Str}{scope:Scope}{f:Addr}{cd:kB}{A:pj}{outer:List Env}{s:kC}{H:Hp}{E:XK}:
  (cxOf CX P w K mg base N qual scope f cd A outer s H E).K=K:=rfl
theorem tyN_non{K:kM}{H:Hp}{T:String}:tyN K H .non T=(T="NoneType"):=rfl
theorem tyN_bl{K:kM}{H:Hp}{T:String}{b:Bool}:tyN K H (.bl b) T=(T="bool"):=rfl
theorem tyN_int{K:kM}{H:Hp}{T:String}{i:Int}:tyN K H (.int i) T=(T="int"):=rfl
theorem tyN_str{K:kM}{H:Hp}{T:String}{x:Str}:tyN K H (.str x) T=(T="str"):=rfl
theorem isi_ii:isiB "int" "int"=true:=by decide+kernel
theorem isi_ib:isiB "int" "bool"=false:=by decide+kernel
theorem isi_it:isiB "int" "tuple"=false:=by decide+kernel
theorem isi_il:isiB "int" "list"=false:=by decide+kernel
theorem isi_bi:isiB "bool" "int"=true:=by decide+kernel
theorem isi_bb:isiB "bool" "bool"=true:=by decide+kernel
theorem isi_ni:isiB "NoneType" "int"=false:=by decide+kernel
theorem isi_si:isiB "str" "int"=false:=by decide+kernel
theorem isi_ti:isiB "tuple" "int"=false:=by decide+kernel
theorem isi_li:isiB "list" "int"=false:=by decide+kernel
theorem isi_di:isiB "dict" "int"=false:=by decide+kernel
theorem isi_tt:isiB "tuple" "tuple"=true:=by decide+kernel
theorem isi_ll:isiB "list" "list"=true:=by decide+kernel
theorem scal_ii{i j:Int}:scal (.int i) (.int j)=true:=rfl
theorem scal_bb{i j:Bool}:scal (.bl i) (.bl j)=true:=rfl
theorem za2{H:Hp}{p:Addr}(h:H p=none)(o:HO):Same H (upd H p o):=fun b u q=>by rw[za7 (zam q h)];exact q
theorem cbig{i j:Int}{m n:Nat}(h1:i.natAbs<2^m)(h2:j.natAbs<2^n)(hm:m<=1000000:=by decide)(hn:n<=1000000:=by decide):CBig i j:=
 ⟨ku h1 (UM (by decide) hm),ku h2 (UM (by decide) hn)⟩
theorem cdivb{i j:Int}{n:Nat}(h0:j≠0)(h:j.natAbs<2^n)(hn:n<=8999:=by decide):CDivB i j:=⟨h0,ku h (UM (by decide) hn)⟩
def getI(σ:St)(i:Nat):Int:=match σ[i]? with
 |some (some (.int x))=>x
 |_=>0
theorem sz0:(0<=sizeLine)=True:=eq_true (by decide)
theorem sz1:(1<=sizeLine)=True:=eq_true (by decide)
theorem sz2:(2<=sizeLine)=True:=eq_true (by decide)
theorem sz3:(3<=sizeLine)=True:=eq_true (by decide)
theorem sz4:(4<=sizeLine)=True:=eq_true (by decide)
def NS(e:Expr):Prop:=∀es env,uK (e::es) env=(false,eval e env)::uK es env
theorem zao{a b c}:NS (Expr.Constant a b c):=fun _ _=>rfl
theorem za1{a b}:NS (Expr.Name a b):=fun _ _=>rfl
theorem zby{a b c d}:NS (Expr.Call a b c d):=fun _ _=>rfl
theorem za8{a b c d}:NS (Expr.BinOp a b c d):=fun _ _=>rfl
theorem zhl{a b c}:NS (Expr.UnaryOp a b c):=fun _ _=>rfl
theorem zbz{a b c}:NS (Expr.Tuple a b c):=fun _ _=>rfl
theorem za9{a b c}:NS (Expr.Subscript a b c):=fun _ _=>rfl
theorem zdl{a b c d}:NS (Expr.ListComp a b c d):=fun _ _=>rfl
section
variable{X:Cx}
theorem pa1{e1:Expr}{t1:TE}(h1:PE X e1 t1)(n1:NS e1):PA X [e1] (zcf t1 tNil):=(zb3 h1 zcz (n1 _ _))
theorem pa2{e1 e2:Expr}{t1 t2:TE}(h1:PE X e1 t1)(n1:NS e1)(h2:PE X e2 t2)(n2:NS e2):PA X [e1,e2] (zcf t1 (zcf t2 tNil)):=(zb3 h1 (zb3 h2 zcz (n2 _ _)) (n1 _ _))
theorem pa3{e1 e2 e3:Expr}{t1 t2 t3:TE}(h1:PE X e1 t1)(n1:NS e1)(h2:PE X e2 t2)(n2:NS e2)(h3:PE X e3 t3)(n3:NS e3):PA X [e1,e2,e3] (zcf t1 (zcf t2 (zcf t3 tNil))):=(zb3 h1 (zb3 h2 (zb3 h3 zcz (n3 _ _)) (n2 _ _)) (n1 _ _))
theorem pa4{e1 e2 e3 e4:Expr}{t1 t2 t3 t4:TE}(h1:PE X e1 t1)(n1:NS e1)(h2:PE X e2 t2)(n2:NS e2)(h3:PE X e3 t3)(n3:NS e3)(h4:PE X e4 t4)(n4:NS e4):PA X [e1,e2,e3,e4] (zcf t1 (zcf t2 (zcf t3 (zcf t4 tNil)))):=(zb3 h1 (zb3 h2 (zb3 h3 (zb3 h4 zcz (n4 _ _)) (n3 _ _)) (n2 _ _)) (n1 _ _))
theorem pa5{e1 e2 e3 e4 e5:Expr}{t1 t2 t3 t4 t5:TE}(h1:PE X e1 t1)(n1:NS e1)(h2:PE X e2 t2)(n2:NS e2)(h3:PE X e3 t3)(n3:NS e3)(h4:PE X e4 t4)(n4:NS e4)(h5:PE X e5 t5)(n5:NS e5):PA X [e1,e2,e3,e4,e5] (zcf t1 (zcf t2 (zcf t3 (zcf t4 (zcf t5 tNil))))):=(zb3 h1 (zb3 h2 (zb3 h3 (zb3 h4 (zb3 h5 zcz (n5 _ _)) (n4 _ _)) (n3 _ _)) (n2 _ _)) (n1 _ _))
theorem pa7{e1 e2 e3 e4 e5 e6 e7:Expr}{t1 t2 t3 t4 t5 t6 t7:TE}(h1:PE X e1 t1)(n1:NS e1)(h2:PE X e2 t2)(n2:NS e2)(h3:PE X e3 t3)(n3:NS e3)(h4:PE X e4 t4)(n4:NS e4)(h5:PE X e5 t5)(n5:NS e5)(h6:PE X e6 t6)(n6:NS e6)(h7:PE X e7 t7)(n7:NS e7):PA X [e1,e2,e3,e4,e5,e6,e7] (zcf t1 (zcf t2 (zcf t3 (zcf t4 (zcf t5 (zcf t6 (zcf t7 tNil))))))):=(zb3 h1 (zb3 h2 (zb3 h3 (zb3 h4 (zb3 h5 (zb3 h6 (zb3 h7 zcz (n7 _ _)) (n6 _ _)) (n5 _ _)) (n4 _ _)) (n3 _ _)) (n2 _ _)) (n1 _ _))
theorem pss2{e1 e2:Stmt}{t1 t2:TS}(h1:PS X e1 t1)(h2:PS X e2 t2):PSs X [e1,e2] (tSeq t1 t2):=(zac h1 (zah h2))
theorem pss3{e1 e2 e3:Stmt}{t1 t2 t3:TS}(h1:PS X e1 t1)(h2:PS X e2 t2)(h3:PS X e3 t3):PSs X [e1,e2,e3] (tSeq t1 (tSeq t2 t3)):=(zac h1 (zac h2 (zah h3)))
theorem pss4{e1 e2 e3 e4:Stmt}{t1 t2 t3 t4:TS}(h1:PS X e1 t1)(h2:PS X e2 t2)(h3:PS X e3 t3)(h4:PS X e4 t4):PSs X [e1,e2,e3,e4] (tSeq t1 (tSeq t2 (tSeq t3 t4))):=(zac h1 (zac h2 (zac h3 (zah h4))))
theorem pss5{e1 e2 e3 e4 e5:Stmt}{t1 t2 t3 t4 t5:TS}(h1:PS X e1 t1)(h2:PS X e2 t2)(h3:PS X e3 t3)(h4:PS X e4 t4)(h5:PS X e5 t5):PSs X [e1,e2,e3,e4,e5] (tSeq t1 (tSeq t2 (tSeq t3 (tSeq t4 t5)))):=(zac h1 (zac h2 (zac h3 (zac h4 (zah h5)))))
theorem pss8{e1 e2 e3 e4 e5 e6 e7 e8:Stmt}{t1 t2 t3 t4 t5 t6 t7 t8:TS}(h1:PS X e1 t1)(h2:PS X e2 t2)(h3:PS X e3 t3)(h4:PS X e4 t4)(h5:PS X e5 t5)(h6:PS X e6 t6)(h7:PS X e7 t7)(h8:PS X e8 t8):PSs X [e1,e2,e3,e4,e5,e6,e7,e8] (tSeq t1 (tSeq t2 (tSeq t3 (tSeq t4 (tSeq t5 (tSeq t6 (tSeq t7 t8))))))):=(zac h1 (zac h2 (zac h3 (zac h4 (zac h5 (zac h6 (zac h7 (zah h8))))))))
theorem pss14{e1 e2 e3 e4 e5 e6 e7 e8 e9 e10 e11 e12 e13 e14:Stmt}{t1 t2 t3 t4 t5 t6 t7 t8 t9 t10 t11 t12 t13 t14:TS}(h1:PS X e1 t1)(h2:PS X e2 t2)(h3:PS X e3 t3)(h4:PS X e4 t4)(h5:PS X e5 t5)(h6:PS X e6 t6)(h7:PS X e7 t7)(h8:PS X e8 t8)(h9:PS X e9 t9)(h10:PS X e10 t10)(h11:PS X e11 t11)(h12:PS X e12 t12)(h13:PS X e13 t13)(h14:PS X e14 t14):PSs X [e1,e2,e3,e4,e5,e6,e7,e8,e9,e10,e11,e12,e13,e14] (tSeq t1 (tSeq t2 (tSeq t3 (tSeq t4 (tSeq t5 (tSeq t6 (tSeq t7 (tSeq t8 (tSeq t9 (tSeq t10 (tSeq t11 (tSeq t12 (tSeq t13 t14))))))))))))):=(zac h1 (zac h2 (zac h3 (zac h4 (zac h5 (zac h6 (zac h7 (zac h8 (zac h9 (zac h10 (zac h11 (zac h12 (zac h13 (zah h14))))))))))))))
end
theorem zgz{α β:Type}(g:α->β->β){f:α->β->Sem (ForInStep β)}:∀{l:List α}(c:β),(∀x∈l,∀c,f x c=pure (.yield (g x c)))->forIn l c f=pure (l.foldl (fun c x=>g x c) c)
 |[],c,_=>rfl
 |x::l,c,h=>by
  have hx:=h x po c;rw[Am,hx,DT];exact zgz g (g x c) fun y hy=>h y (kI _ hy)
def zdk(env:Env)(x:Str×hU)(c:List (Str×Addr)):List (Str×Addr):=
 if x.2==uZ then(match env.cells.lookup x.1 with|some a=>(x.1,a)::c|none=>c) else c
theorem zg8{env:Env}:∀(l:List (Str×hU))(acc:List (Str×Addr)),(∀n c,acc.lookup n=some c->env.cells.lookup n=some c)->
  ∀n c,(l.foldl (fun c x=>zdk env x c) acc).lookup n=some c->env.cells.lookup n=some c
 |[],acc,h,n,c,e=>h n c e
 |x::l,acc,h,n,c,e=>by
  refine zg8 l (zdk env x acc) (fun n c e=>?_) n c e;unfold zdk at e
  split at e
  ·split at e
   ·rename_i a ha
    rw[uQ] at e
    split at e
    ·rename_i hb
     have hn:n=x.1:=by simpa using hb
     cases e;rw[hn];exact ha
    ·exact h n c e
   ·exact h n c e
  ·exact h n c e
theorem zga{env:Env}:∀(l:List (Str×hU))(acc:List (Str×Addr))(n:Str),((∃c,acc.lookup n=some c)∨((n,uZ)∈l/\∃c,env.cells.lookup n=some c))->
  ∃c,(l.foldl (fun c x=>zdk env x c) acc).lookup n=some c
 |[],acc,n,h=>by
  rcases h with h|⟨h,_⟩
  ·exact h
  ·cases h
 |x::l,acc,n,h=>by
  refine zga l (zdk env x acc) n ?_;rcases h with⟨c,h⟩|⟨h,c,hc⟩
  ·left;unfold zdk
   split
   ·split
    ·rw[uQ]
     split
     ·exact⟨_,rfl⟩
     ·exact⟨c,h⟩
    ·exact⟨c,h⟩
   ·exact⟨c,h⟩
  ·rcases kg.mp h with e|h
   ·left;subst e;unfold zdk;have ef:(uZ==uZ)=true:=rfl;have en:(n==n)=true:=by simp
    simp only[ef,if_true,hc,uQ,en];exact⟨c,rfl⟩
   ·exact .inr ⟨h,c,hc⟩
theorem znp{scope:Scope}{env:Env}(hf:∀n,(n,uZ)∈scope.names->∃c,env.cells.lookup n=some c):
  ∃cl,Bj scope env=pure cl/\(∀n c,cl.lookup n=some c->env.cells.lookup n=some c)/\∀n,(n,uZ)∈scope.names->∃c,cl.lookup n=some c:=by
 refine⟨scope.names.foldl (fun c x=>zdk env x c) [],?_,zg8 _ _ (fun n c e=>by simp at e),fun n h=>zga _ _ n (.inr ⟨h,hf n h⟩)⟩
 simp only[Bj];rw[zgz (zdk env) [] (fun x hx c=>?_)]
 ·rfl
 ·obtain⟨n,kind⟩:=x
  by_cases hk:kind=.free
  ·subst hk;obtain⟨a,ha⟩:=hf n hx;have ef:(uZ==uZ)=true:=rfl
   simp[cellOf,ha,zdk,ef]
  ·have e:(kind==uZ)=false:=by simpa using hk
   simp[e,zdk]
theorem zdz(env:Env)(x:Str):∀names:List (Str×hU),
  (names.map fun(n,k)=>if(k==uZ&&env.scope.kind==.function&&env.kindOf n==some .cell) then(n,Be) else(n,k)).lookup x=
  (names.lookup x).map fun k=>if(k==uZ&&env.scope.kind==.function&&env.kindOf x==some .cell) then Be else k
 |[]=>rfl
 |(n,k)::r=>by
  have ih:=zdz env x r;rw[kh]
  by_cases e:x=n
  ·subst e;have ex:(x==x)=true:=by simp
   by_cases c:(k==uZ&&env.scope.kind==.function&&env.kindOf x==some .cell)=true
   ·dsimp only;rw[if_pos c,uQ,ex,uQ,ex];exact congrArg some (if_pos c).symm
   ·dsimp only;rw[if_neg c,uQ,ex,uQ,ex];exact congrArg some (if_neg c).symm
  ·have e':(x==n)=false:=by simpa using e
   by_cases c:(k==uZ&&env.scope.kind==.function&&env.kindOf n==some .cell)=true
   ·dsimp only;rw[if_pos c,uQ,e',uQ,e'];exact ih
   ·dsimp only;rw[if_neg c,uQ,e',uQ,e'];exact ih
structure ze9(dsc:Scope)(N:List Str)(scope:Scope)(own:List Str)(ix:List Nat):Prop where
 kind:scope.kind=.function
 nocell:∀y∈scope.names,y.2≠Be
 names:∀y∈scope.names,y.2=NameKind.local->scope.names.lookup y.1=some .local
 free:∀y∈scope.names,y.2=uZ->dsc.names.lookup y.1=some .cell∨dsc.names.lookup y.1=some .free
 ix:∀i∈ix,i<N.length/\scope.names.lookup (N.getD i "")=some .free
def Cx.comp(X:Cx)(scope:Scope)(own:List Str)(ix:List Nat)(cl:List (Str×Addr))(C:Addr)(fp:List Addr)(s:kC)(H:Hp)(xe:kB->kC->Prop):Cx:=
 {X with N:=own++ix.map (fun i=>X.N.getD i ""),s₀:=s,H₀:=H,env:=jf scope cl C X.env,outer:=X.stack,ex:=fp,fn:=fun _=>false,pn:=[],xe:=xe}
theorem comp_K{X:Cx}{scope:Scope}{own:List Str}{ix:List Nat}{cl:List (Str×Addr)}{C:Addr}{fp:List Addr}{s:kC}{H:Hp}{xe:kB->kC->Prop}:(X.comp scope own ix cl C fp s H xe).K=X.K:=rfl
def selC(k:Nat)(ix:List Nat)(σ:St):St:=jB k none++ix.map (fun i=>(σ[i]?).join)
section
variable{X:Cx}{pins:List (Addr×Obj)}{σ:St}{H H4:Hp}{s s4:kC}{dsc scope:Scope}{own:List Str}{ix:List Nat}{cl:List (Str×Addr)}{C:Addr}{fp:List Addr}{xe:kB->kC->Prop}
theorem comp_fp(I:Inv X pins σ H s)(hf:∀b∈fp,FpOk X pins H b){b:Addr}(hb:b∈fp):b∉frs X.stack:=fun hs=>by
 obtain⟨_,f1,f2,_⟩:=hf b hb;rcases kg.mp (I.stkSub b hs) with e|e
 ·exact f1 e
 ·exact f2 e
theorem Inv.comp(I:Inv X pins σ H s)(hd:X.env.scope=dsc)(S:ze9 dsc X.N scope own ix)(cs:∀n c,cl.lookup n=some c->X.env.cells.lookup n=some c)(ch:∀n,(n,uZ)∈scope.names->∃c,cl.lookup n=some c)
  (hf:∀b∈fp,FpOk X pins H b)(ho:∀b∈fp,∃o,s.heap.get? b=some o)(I4:Inv X pins σ H4 s4)(un:Un (frs X.stack) fp H H4 s.heap s4.heap)(hC:s.heap.objs.size<=C)(hn:∃m,s4.heap.Ns C m)(hC0:H4 C=none):
  Inv (X.comp scope own ix cl C fp s H xe) [] (selC own.length ix σ) H4 s4:=by
 have kfree:∀x,scope.names.lookup x=some .free->(jf scope cl C X.env).kindOf x=some .cell∨(jf scope cl C X.env).kindOf x=some .free:=fun x h=>by
  have e:(jf scope cl C X.env).kindOf x=_:=zdz X.env x scope.names;rw[e,h,QJ]
  split
  ·exact .inl rfl
  ·exact .inr rfl
 have kback:∀x,((jf scope cl C X.env).kindOf x=some .cell∨(jf scope cl C X.env).kindOf x=some .free)->scope.names.lookup x=some .free:=fun x h=>by
  have e:(jf scope cl C X.env).kindOf x=_:=zdz X.env x scope.names;rw[e] at h
  cases q:scope.names.lookup x with
  |none=>rw[q] at h;rcases h with h|h<;>cases h
  |some k=>
   have nc:=S.nocell _ (uP q);rw[q,QJ] at h
   cases k<;>first|rfl|exact absurd rfl nc|(rcases h with h|h<;>cases h)
 refine⟨⟨I.ok.mod,S.kind,I.ok.glob,I.ok.blt,hC,fun x y c h1 h2=>I.ok.inj x y c (cs x c h1) (cs y c h2),fun x hx=>ch x (uP (kback x hx)),fun x c h=>(nomatch h),I.ok.hd,I.ok.frames,.inl rfl,fun b hb=>⟨fun z=>?_,fun x c e=>(hf b hb).2.2.2.2.1 x c (cs x c e)⟩,
  I.bs,pL I.ok.bsz I.sz,fun b o e hb=>?_,fun b hb=>comp_fp I hf hb,I.stack,I.stkFree⟩,I4.os.trans I.os.symm,I4.bare,un,?_,fun x c e=>I4.cell x c (cs x c e),hC0,fun x c e=>I4.freeC x c (cs x c e),fun p hp=>(nomatch hp),I4.hok,?_⟩
 ·obtain⟨o,e⟩:=ho b hb;have z':b=C:=z;exact absurd (ku (pB e) (by rw[z'];exact hC)) (UB _)
 ·rcases(hf b hb).2.2.2.1 with z|z
  ·exact I.ok.noex b o e z
  ·exact absurd (ku (pB e) (pL I.ok.bsz z)) (UB _)
 ·obtain⟨m,hm⟩:=hn;refine⟨m,hm,fun i x v e1 e2 _=>?_⟩;have e1':(own++ix.map (fun i=>X.N.getD i ""))[i]?=some x:=e1;unfold selC at e2
  by_cases hi:i<own.length
  ·rw[uH (by rw[UG];exact hi),AG,if_pos hi] at e2
   cases e2
  ·rw[pO (by rw[UG];omega),UG,pG] at e2
   rw[pO (by omega),pG] at e1'
   cases q:ix[i-own.length]? with
   |none=>rw[q] at e2;cases e2
   |some j=>
    rw[q] at e1' e2;rw[QJ,jC] at e1' e2;obtain⟨hj,hfr⟩:=S.ix j (kz q);rw[e1'] at hfr;have eN:X.N[j]?=some x:=by
     rw[kR hj,←e1',kZ,kR hj];rfl
    have es:σ[j]?=some (some v):=by
     cases w:σ[j]? with
     |none=>rw[w] at e2;cases e2
     |some o=>rw[w] at e2;exact congrArg some e2
    have kd:=S.free _ (uP hfr) rfl;rw[←hd] at kd;obtain⟨m4,hm4,hl⟩:=I4.loc;obtain⟨u,r,l⟩:=hl j x v eN es (.inr kd);refine⟨u,r,.inr ⟨kfree x hfr,?_⟩⟩;rcases l with⟨k,_⟩|⟨_,c,ec,cell⟩
    ·have k':X.env.scope.names.lookup x=some .local:=k;rcases kd with z|z<;>(rw[k'] at z;cases z)
    ·obtain⟨c',ec'⟩:=ch x (uP hfr);have z:=cs x c' ec';rw[ec] at z
     cases z;exact⟨c,ec',cell⟩
 ·show(selC own.length ix σ).length=(own++ix.map (fun i=>X.N.getD i "")).length
  unfold selC;rw[kJ,kJ,UG,kO,kO]
theorem Inv.outOf{pins':List (Addr×Obj)}{σ':St}{H':Hp}{s':kC}(I:Inv X pins σ H s)(hf:∀b∈fp,FpOk X pins H b)(J:Inv (X.comp scope own ix cl C fp s H xe) pins' σ' H' s'):Inv X pins σ H' s':=
 I.call' J.os J.base J.hok J.bare fun b hb=>by
  obtain⟨_,f1,_,f3,f4,f5⟩:=hf b hb;exact⟨f3,f1,f4,f5⟩
end
abbrev zqh(ifs:List Expr)(env:Env):Sem Bool:=forIn ifs true fun c r=>if r=true then do let ok ←isTrue c env (eval c env);pure (Cp ok) else pure (Cp r)
def PIf(X:Cx)(ifs:List Expr)(t:TT):Prop:=
 ∀(pins:List (Addr×Obj))(s:kC)(σ:St)(H:Hp)(Q:Bool->Hp->Prop),Inv X pins σ H s->t σ H Q->wpAny (model X.prog X.w) X.A (zqh ifs X.env) (TP X pins σ Q) X.xe s
def tYes:TT:=fun _ H Q=>Q true H
theorem zfd{X:Cx}:PIf X [] tYes:=fun _ _ _ H _ I h=>wpAny_tests_nil ⟨H,I,h⟩
theorem zin{X:Cx}{c:Expr}{t:TT}(h:PT X c t):PIf X [c] t:=fun pins s σ H Q I q=>wpAny_tests_one (h pins s σ H Q I q)
section
variable{prog:pA}{w:pR}{A:pj}{R:DU->kC->Prop}{s:kC}
abbrev nb(prog:pA)(w:pR)(A:pj)(env:Env)(R:DU->kC->Prop):kB->kC->Prop:=notedBy (model prog w) A env fun e s'=>R (.error e) s'
theorem zoz{elt target iter:Expr}{ifs:List Expr}{scope:Scope}{pos:Pos}{it acc:kB}{env:Env}(I:Nat->kC->Prop)
  (turn:∀n s,I n s->wpAny (model prog w) A (CM it) (fun r s₁=>(r=none/\R (.ok .next) s₁)∨∃v,r=some v/\
   wpAny (model prog w) A (jl target it v) (fun _ s₂=>wpAny (model prog w) A (assign target env v) (fun _ s₃=>wpAny (model prog w) A (zqh ifs env) (fun ok s₄=>
    if ok=true then wpAny (model prog w) A (eval elt env) (fun x s₅=>wpAny (model prog w) A (call (.builtin "list.append") [acc,x]) (fun _ s₆=>∃m,m<n/\I m s₆) (nb prog w A env R) s₅) (nb prog w A env R) s₄
    else ∃m,m<n/\I m s₄) (nb prog w A env R) s₃) (nb prog w A env R) s₂) (nb prog w A env R) s₁) (nb prog w A env R) s)
  (n:Nat) (h:I n s):ju (model prog w) A (.compLoop (.ListComp elt [⟨target,iter,ifs,0⟩] scope pos) 0 it acc env) R s:=by
 refine codeAny_loop rfl I (fun n s hI=>?_) n h;refine wpAny_noted ?_;have e:=compTurn_list elt target iter ifs scope pos it acc env;show wpAny (model prog w) A (compTurn (.ListComp elt [⟨target,iter,ifs,0⟩] scope pos) 0 it acc env) _ _ s;rw[e];refine kA (jc (kA (thn (turn n s hI) fun r s₁ h₁=>?_)));rcases h₁ with⟨rfl,h₁⟩|⟨v,rfl,h₁⟩
 ·exact kL h₁
 ·refine kA (thn h₁ fun _ s₂ h₂=>kA (thn h₂ fun _ s₃ h₃=>kA (thn h₃ fun ok s₄ h₄=>?_)))
  cases ok with
  |false=>exact kL ⟨rfl,h₄⟩
  |true=>
   refine kA (kA (thn h₄ fun x s₅ h₅=>kA (thn h₅ fun _ s₆ h₆=>?_)));exact kL (kL ⟨rfl,h₆⟩)
end
def tComp(k:Nat)(ix:List Nat)(wi:TI)(g:TG)(ti:TT)(te:TE):TE:=fun σ H Q=>wi σ H fun J H1=>∀D,H1 D=none->∃W:Nat->Nat->Hp->Prop,(∃m,W 0 m (upd H1 D (.lst [])))/\∀i m H2,W i m H2->
 (J.stop i H2/\Q (.ref D) H2)∨(J.go i H2/\∀x H3,J.yld i H2 x H3->g x (selC k ix σ) H3 fun σ4 H4=>ti σ4 H4 fun b H5=>if b=true then te σ4 H5 fun y H6=>∃ys,H6 D=some (.lst ys)/\ys.length<sizeLine/\∃m',m'<m/\W (i+1) m' (upd H6 D (.lst (ys++[y])))
  else ∃m',m'<m/\W (i+1) m' H5)
section
variable{X:Cx}{pins:List (Addr×Obj)}{σ:St}{H:Hp}{s:kC}{dsc scope:Scope}{own:List Str}{ix:List Nat}{elt tg iter:Expr}{ifs:List Expr}{pos:Pos}{wi:TI}{g:TG}{ti:TT}{te:TE}
def CompBody(X:Cx)(scope:Scope)(own:List Str)(ix:List Nat)(tg:Expr)(ifs:List Expr)(elt:Expr)(g:TG)(ti:TT)(te:TE):Prop:=
 ∀cl C fp s H xe,PG (X.comp scope own ix cl C fp s H xe) tg g/\PIf (X.comp scope own ix cl C fp s H xe) ifs ti/\PE (X.comp scope own ix cl C fp s H xe) elt te
theorem zm8{use:Option (kB->Sem Unit)}{RQ:kB->kC->Prop}{Q:VK}{p0:Pos}(hc:X.calm=true)(hd:X.env.scope=dsc)(S:ze9 dsc X.N scope own ix)(hi:PI X tg iter wi)(hb:CompBody X scope own ix tg ifs elt g ti te)
  (hs:∀x,vx iter X.env x=pure x)(I:Inv X pins σ H s)(h:tComp own.length ix wi g ti te σ H Q)
  (fin:∀D C H' s',Inv X pins σ H' s'->FpOk X pins H' C->(∃m,s'.heap.Ns C m)->Q (.ref D) H'->compPost (model X.prog X.w) X.A X.xe use RQ (.ref D) C (.ok .next) s'):
  wpAny (model X.prog X.w) X.A (comprehension (.ListComp elt [⟨tg,iter,ifs,0⟩] scope pos) scope X.env p0 (newList []) false (eval iter X.env) use) RQ X.xe s:=by
 obtain⟨cl,hcl,cs,ch⟩:=znp (scope:=scope) (env:=X.env) fun n hn=>I.ok.has n (by
  have z:=S.free _ hn rfl;rw[←hd] at z;exact z)
 refine wpAny_comprehension_free rfl hs hcl S.kind S.names (thn (hi pins s σ H _ I h) fun v s1 h1=>thn h1 fun itv s2 h2=>?_);obtain⟨it,fp,tn,J,H2,e,I2,T,st2,f2,W⟩:=h2;subst e;have hD0:H2 s2.heap.objs.size=none:=I2.fresh;obtain⟨W,⟨m0,w0⟩,turn⟩:=W _ hD0;have I3:=I2.lnew (ys:=[]) (its:=[]) (t':=s2.toks) .nil (pY _);refine Uz (BF S.nocell (by intro y hy;cases hy) (fun h₁ hns₁ hsb₁=>?_) S.kind)
 dsimp only at hns₁ hsb₁⊢;generalize hH3:s2.heap.push {cls:=.type "list",dict:=none,data:=.seq ([]:List kB).toArray}=g3 at hns₁ hsb₁⊢;have hC:g3.objs.size=s2.heap.objs.size+1:=by rw[←hH3,BG]
 have old3:∀b o,g3.get? b=some o->h₁.get? b=some o:=fun b o e=>hsb₁.extBut b o (pd (pB e)) (kT _ e);have old:∀b o,s2.heap.get? b=some o->h₁.get? b=some o:=fun b o e=>old3 b o (by rw[←hH3];exact kT _ e)
 have I4:Inv X pins σ (upd H2 s2.heap.objs.size (.lst [])) {s2 with heap:=h₁,toks:=s2.toks+0}:=I3.kept (t':=s2.toks+0) fun b o e=>old3 b o (by rw[←hH3];exact e)
 have fpo:∀b∈fp,∃o,s2.heap.get? b=some o:=fun b hb=>let⟨o,e,_⟩:=T.obj _ _ st2 b hb;⟨o,e⟩;have hC0:upd H2 s2.heap.objs.size (.lst []) g3.objs.size=none:=by
  rw[za7 (by rw[hC];exact Nat.succ_ne_self _)]
  exact I2.hok.fresh (by rw[hC];exact jg _)
 have hCs:s2.heap.objs.size<=g3.objs.size:=by rw[hC];exact jg _
 have into:∀{H':Hp}{s':kC}{xe:kB->kC->Prop},Inv X pins σ H' s'->Un (frs X.stack) fp H2 H' s2.heap s'.heap->(∃m,s'.heap.Ns g3.objs.size m)->H' g3.objs.size=none->Inv (X.comp scope own ix cl g3.objs.size fp s2 H2 xe) [] (selC own.length ix σ) H' s':=
  fun I' un hn h0=>I2.comp hd S cs ch f2 fpo I' un hCs hn h0
 have stat:∀{H':Hp}{xe:kB->kC->Prop}{σ':St}{s':kC},Inv (X.comp scope own ix cl g3.objs.size fp s2 H2 xe) [] σ' H' s'->(∀b∈fp,H' b=none)->∀b∈fp,FpOk (X.comp scope own ix cl g3.objs.size fp s2 H2 xe) [] H' b:=fun{H' xe σ' s'} K hn b hb=>
  ⟨hn b hb,(K.ok.exf b hb).1,K.ok.exfs b hb,.inl hb,(K.ok.exf b hb).2,fun p hp=>nomatch hp⟩
 have loop:∀s₃:kC,s₃={s2 with heap:=h₁,toks:=s2.toks+0}->
   ju (model X.prog X.w) X.A (.compLoop (.ListComp elt [⟨tg,iter,ifs,0⟩] scope pos) 0 (.ref it) (.ref s2.heap.objs.size) (jf scope cl g3.objs.size X.env)) (compPost (model X.prog X.w) X.A X.xe use RQ (.ref s2.heap.objs.size) g3.objs.size) s₃:=by
  rintro s₃ rfl;generalize hxe:nb X.prog X.w X.A (jf scope cl g3.objs.size X.env) (compPost (model X.prog X.w) X.A X.xe use RQ (.ref s2.heap.objs.size) g3.objs.size)=xe;obtain⟨hg,hif,hel⟩:=hb cl g3.objs.size fp s2 H2 xe;refine zoz (fun n s'=>∃i H',Inv (X.comp scope own ix cl g3.objs.size fp s2 H2 xe) [] (selC own.length ix σ) H' s'/\tn i s'.heap/\(∀b∈fp,H' b=none)/\W i n H') ?_ m0
   ⟨0,_,into I4 (Un.laid old (kG _) hD0) ⟨_,hns₁⟩ hC0,T.keep _ _ _ st2 fun b hb o e=>old b o e,fun b hb=>?_,w0⟩
  ·rintro n s3 ⟨i,H3,K3,st3,fr3,w3⟩;rw[hxe];rcases turn i n H3 w3 with⟨stop,qn⟩|⟨go,step⟩
   ·refine thn (T.done (X.comp scope own ix cl g3.objs.size fp s2 H2 xe) rfl rfl rfl hc i [] s3 _ H3 xe K3 (stat K3 fr3) st3 stop) fun r s4⟨hr,K4⟩=>.inl ⟨hr,?_⟩;obtain⟨m,hm,_⟩:=K4.loc;exact fin _ _ H3 s4 (I2.outOf f2 K4) (I2.fpOk hCs K4.free) ⟨m,hm⟩ qn
   ·refine thn (T.item (X.comp scope own ix cl g3.objs.size fp s2 H2 xe) rfl rfl rfl hc i [] s3 _ H3 xe K3 (stat K3 fr3) st3 go) fun r s4⟨u,hr,h4⟩=>.inr ⟨u,hr,?_⟩;refine thn h4 fun _ s5⟨x,H5,K5,r5,y5,st5,fr5⟩=>?_;have K5':=K5.pinned (stat K5 fr5) (T.obj _ _ st5);refine thn (hg _ s5 _ H5 x u _ K5' r5 (step x H5 y5)) fun _ s6⟨σ6,H6,K6,q6⟩=>?_;refine thn (hif _ s6 σ6 H6 _ K6 q6) fun b s7⟨H7,K7,q7⟩=>?_;have again:∀{σ8:St}{H8:Hp}{s8:kC},Inv (X.comp scope own ix cl g3.objs.size fp s2 H2 xe) ([]++zjj fp s5.heap) σ8 H8 s8->(∃m',m'<n/\W (i+1) m' H8)->∃m,m<n/\∃i H',Inv (X.comp scope own ix cl g3.objs.size fp s2 H2 xe) [] (selC own.length ix σ) H' s8/\tn i s8.heap/\(∀b∈fp,H' b=none)/\W i m H':=fun{σ8 H8 s8} K8⟨m',hm,w8⟩=>by
     obtain⟨m,hm8,_⟩:=K8.loc;refine⟨m',hm,i+1,H8,into (I2.outOf f2 K8) K8.base ⟨m,hm8⟩ K8.free,T.keep _ _ _ st5 fun b hb o e=>(K8.pin (b,o) (ki _ (ki _ (zf0 hb e)))).1,fun b hb=>?_,w8⟩;obtain⟨o,e,d⟩:=T.obj _ _ st5 b hb;exact(K8.pin (b,o) (ki _ (ki _ (zf0 hb e)))).2.1
    cases b with
    |false=>exact again K7 q7
    |true=>
     refine thn (hel _ s7 σ6 H7 _ K7 q7) fun v s8⟨y,H8,K8,r8,ys,e8,z8,q8⟩=>?_;refine thn (zc9 (X:=X.comp scope own ix cl g3.objs.size fp s2 H2 xe) _ s8 σ6 H8 (.ref s2.heap.objs.size) [y] (.ref s2.heap.objs.size) [v] (fun _ H'=>∃m',m'<n/\W (i+1) m' H') K8 rfl (.cons r8 .nil) ⟨_,ys,y,rfl,rfl,e8,z8,q8⟩) ?_;rintro u9 s9 ⟨v9,H9,K9,r9,q9⟩;exact again K9 q9
  ·have z:=(f2 b hb).1;obtain⟨o,e⟩:=fpo b hb;rw[za7 (pd (pB e))];exact z
 exact codeAny_compStart_list (loop _ rfl) (T.self _ 0 _ _ _ (T.keep _ _ _ st2 fun b hb o e=>old b o e) (loop _ rfl))
theorem zee{N:List Str}(hc:X.calm=true)(hd:X.env.scope=dsc)(hN:X.N=N)(S':ze9 dsc N scope own ix)(hi:PI X tg iter wi)(hb:CompBody X scope own ix tg ifs elt g ti te)
  (hs:∀x,vx iter X.env x=pure x:=by intro _;rfl):PE X (.ListComp elt [⟨tg,iter,ifs,0⟩] scope pos) (tComp own.length ix wi g ti te):=by
 have S:ze9 dsc X.N scope own ix:=by rw[hN];exact S'
 intro pins s σ H Q I h;rw[eval_ListComp];refine zm8 (use:=none) hc hd S hi hb hs I h fun D C H' s' I' f' hn q=>?_;obtain⟨m,hm⟩:=hn;obtain⟨f0,f1,f2,f3,f4,f5⟩:=f';exact⟨m,hm,fun h' sb=>⟨.ref D,H',I'.turned (t':=s'.toks) (fun b o hb e=>(sb.2 b hb).trans e) f0 f1 f3 f4 f5,rfl,q⟩⟩
theorem zkx{i:Nat}{x:Str}{N:List Str}{pos' pos1:Pos}(hN:X.N.Nodup)(hx0:X.N[i]?=some x)(hx:Loc X.env.scope x)(hc:X.calm=true)(hd:X.env.scope=dsc)(hN':X.N=N)(S':ze9 dsc N scope own ix)(hi:PI X tg iter wi)(hb:CompBody X scope own ix tg ifs elt g ti te)
  (hsw:BW (.ListComp elt [⟨tg,iter,ifs,0⟩] scope pos) (some (.Name x pos')) pos1.line X.env=pure true:=by rfl)(hf:X.fn x=true∨X.env.scope.names.lookup x=some .local:=by first|exact .inl rfl|exact .inr rfl|assumption)
  (hs:∀x,vx iter X.env x=pure x:=by intro _;rfl):PS X (.Assign [.Name x pos'] (.ListComp elt [⟨tg,iter,ifs,0⟩] scope pos) pos1) (tAsg (tComp own.length ix wi g ti te) (gName i)):=by
 have S:ze9 dsc X.N scope own ix:=by rw[hN'];exact S'
 intro pins s σ H D I h;rw[exec_Assign_Name_used _ _ _ _ hsw]
 have main:=zm8 (p0:=iter.pos) (pos:=pos) (use:=some (assign (.Name x pos') X.env)) (RQ:=fun _ s'=>SP X pins D .next s') hc hd S hi hb hs I h fun l C H' s' I' f' hn q=>by
  obtain⟨m,o,es,ep,ho,hdt,hr⟩:=hn;obtain⟨f0,f1,f2,f3,f4,f5⟩:=f';have Ip:Inv X (pins++[(C,o)]) σ H' s':=I'.pins_of fun p hp=>(ke.mp hp).elim (fun z=>I'.pin p (ki _ z)) fun z=>by
   have e:p=(C,o):=by simpa using z
   subst e;exact⟨ho,f0,f1,f2,fun v z=>by rw[hdt] at z;cases z⟩
  refine Br (zfs (v:=.ref l) Ip hN hx0 hx rfl (fun s2 I2=>?_) hf);have pc:=I2.pin (C,o) (ki _ (ki _ (by simp)))
  refine⟨m,⟨o,es,ep,pc.1,hdt,hr⟩,fun h' sb=>⟨_,H',I2.unpinned.turned (t':=s2.toks) (fun b o hb e=>(sb.2 b hb).trans e) pc.2.1 f1 f3 f4 f5,q⟩⟩
 refine kA (jc (kA ?_));exact kA (thn main fun _ s' hq=>kL (kL hq))
end
def CW(n:Nat)(Pv:Nat->List V->Hp->Prop):Nat->Nat->Hp->Prop:=fun i m H=>m=n-i/\i<=n/\∃ys,Pv i ys H
abbrev CPut(n:Nat)(Pv:Nat->List V->Hp->Prop)(D:Addr)(i:Nat)(y:V)(H:Hp):Prop:=∃ys,H D=some (.lst ys)/\ys.length<sizeLine/\∃m',m'<n-i/\CW n Pv (i+1) m' (upd H D (.lst (ys++[y])))
abbrev zol(n:Nat)(Pv:Nat->List V->Hp->Prop)(i:Nat)(H:Hp):Prop:=∃m',m'<n-i/\CW n Pv (i+1) m' H
theorem cw_put{n i:Nat}{Pv:Nat->List V->Hp->Prop}{D:Addr}{y:V}{ys:List V}{H:Hp}(hi:i<n)(hD:H D=some (.lst ys))(hz:ys.length<sizeLine)(p:Pv (i+1) (ys++[y]) (upd H D (.lst (ys++[y])))):CPut n Pv D i y H:=
 ⟨ys,hD,hz,n-(i+1),by omega,rfl,hi,_,p⟩
theorem cw_skip{n i:Nat}{Pv:Nat->List V->Hp->Prop}{ys:List V}{H:Hp}(hi:i<n)(p:Pv (i+1) ys H):zol n Pv i H:=⟨n-(i+1),by omega,rfl,hi,_,p⟩
def zql(J:It)(D:Addr)(g:TG)(ti:TT)(te:TE)(σ':St)(H:Hp)(Q:VK):Prop:=
 ∃W:Nat->Nat->Hp->Prop,(∃m,W 0 m (upd H D (.lst [])))/\∀i m H2,W i m H2->
  (J.stop i H2/\Q (.ref D) H2)∨(J.go i H2/\∀x H3,J.yld i H2 x H3->g x σ' H3 fun σ4 H4=>ti σ4 H4 fun b H5=>if b=true then te σ4 H5 fun y H6=>∃ys,H6 D=some (.lst ys)/\ys.length<sizeLine/\∃m',m'<m/\W (i+1) m' (upd H6 D (.lst (ys++[y])))
   else ∃m',m'<m/\W (i+1) m' H5)
theorem zc2{k:Nat}{ix:List Nat}{wi:TI}{g:TG}{ti:TT}{te:TE}{σ:St}{H:Hp}{Q:VK}(h:wi σ H fun J H1=>∀D,H1 D=none->zql J D g ti te (selC k ix σ) H1 Q):tComp k ix wi g ti te σ H Q:=h
theorem zkd{J:It}{D:Addr}{g:TG}{ti:TT}{te:TE}{σ':St}{H:Hp}{Q:VK}(n:Nat)(Pv:Nat->List V->Hp->Prop)(h0:Pv 0 [] (upd H D (.lst [])))(hgo:∀i ys H,i<n->Pv i ys H->J.go i H)(hst:∀ys H,Pv n ys H->J.stop n H)
  (hs:∀i ys H x H3,i<n->Pv i ys H->J.yld i H x H3->g x σ' H3 fun σ4 H4=>ti σ4 H4 fun b H5=>if b=true then te σ4 H5 fun y H6=>CPut n Pv D i y H6 else zol n Pv i H5)
  (hd:∀ys H,Pv n ys H->Q (.ref D) H):zql J D g ti te σ' H Q:=by
 refine⟨CW n Pv,⟨n,rfl,pY _,[],h0⟩,?_⟩;rintro i m H2 ⟨rfl,hi,ys,p⟩
 by_cases hlt:i<n
 ·exact .inr ⟨hgo i ys H2 hlt p,fun x H3 y=>hs i ys H2 x H3 hlt p y⟩
 ·have e:i=n:=by omega
  subst e;exact .inl ⟨hst ys H2 p,hd ys H2 p⟩
theorem zbx{K:kM}{a D:Addr}{xs:List V}{g:TG}{ti:TT}{te:TE}{σ':St}{H:Hp}{Q:VK}(Pv:Nat->List V->Hp->Prop)(h0:Pv 0 [] (upd H D (.lst [])))(hl:∀i ys H,Pv i ys H->SqL K H a xs)
  (hs:∀i ys H x,i<xs.length->xs[i]?=some x->Pv i ys H->g x σ' H fun σ4 H4=>ti σ4 H4 fun b H5=>if b=true then te σ4 H5 fun y H6=>CPut xs.length Pv D i y H6 else zol xs.length Pv i H5)
  (hd:∀ys H,Pv xs.length ys H->Q (.ref D) H):zql (Itl K a) D g ti te σ' H Q:=by
 refine zkd xs.length Pv h0 (fun i ys H hi p=>⟨xs,xs[i],hl i ys H p,by simp[hi]⟩) (fun ys H p=>⟨xs,hl _ ys H p,kG _⟩) (fun i ys H x H3 hi p y=>?_) hd
 obtain⟨e,y⟩:=y;subst e;exact hs i ys _ x hi (y xs (hl i ys _ p)) p
theorem zmr{D:Addr}{lo:Int}{n:Nat}{g:TG}{ti:TT}{te:TE}{σ':St}{H:Hp}{Q:VK}(Pv:Nat->List V->Hp->Prop)(h0:Pv 0 [] (upd H D (.lst [])))
  (hs:∀i ys H,i<n->Pv i ys H->g (.int (lo+i)) σ' H fun σ4 H4=>ti σ4 H4 fun b H5=>if b=true then te σ4 H5 fun y H6=>CPut n Pv D i y H6 else zol n Pv i H5)
  (hd:∀ys H,Pv n ys H->Q (.ref D) H):zql (Itr lo n) D g ti te σ' H Q:=by
 refine zkd n Pv h0 (fun i ys H hi p=>hi) (fun ys H p=>kG _) (fun i ys H x H3 hi p y=>?_) hd;obtain⟨e,y⟩:=y;subst e y;exact hs i ys _ hi p
mutual
def RdD(K:kM)(H:Hp):BH->V->Prop
 |.none,v=>v=.non
 |.bool b,v=>v=.bl b
 |.int i,v=>v=.int i
 |.str x,v=>v=.str x
 |.list ds,v=>∃p xs,v=.ref p/\SqL K H p xs/\RdDs K H ds xs
 |.tuple ds,v=>∃p xs,v=.ref p/\SqT K H p xs/\RdDs K H ds xs
 |.dict _,_=>False
def RdDs(K:kM)(H:Hp):List BH->List V->Prop
 |[],xs=>xs=[]
 |d::ds,xs=>∃x r,xs=x::r/\RdD K H d x/\RdDs K H ds r
end
section
variable{X:Cx}{pins:List (Addr×Obj)}{σ:St}{H:Hp}{s:kC}
mutual
theorem zd9(I:Inv X pins σ H s):∀(d:BH)(v:V)(u:kB),RdD X.K H d v->RelV v u->∃as,Reads s.heap u d as
 |.none,v,u,h,r=>by
  rw[RdD] at h;subst h;cases r;exact⟨_,.none⟩
 |.bool b,v,u,h,r=>by
  rw[RdD] at h;subst h;cases r;exact⟨_,.bool b⟩
 |.int i,v,u,h,r=>by
  rw[RdD] at h;subst h;obtain⟨t,rfl⟩:=r;exact⟨_,.int i t⟩
 |.str x,v,u,h,r=>by
  rw[RdD] at h;subst h;obtain⟨t,rfl⟩:=r;exact⟨_,.str x t⟩
 |.list ds,v,u,h,r=>by
  rw[RdD] at h;obtain⟨p,xs,rfl,hq,hs⟩:=h
  cases r;obtain⟨its,rv,pl,hz⟩:=I.list hq;obtain⟨o,ho,hc,n,hd⟩:=pl.isList;obtain⟨as,ra⟩:=zgw I ds xs its hs rv;exact⟨_,reads_list_at ho hc hd (by simpa using ra)⟩
 |.tuple ds,v,u,h,r=>by
  rw[RdD] at h;obtain⟨p,xs,rfl,hq,hs⟩:=h
  cases r;obtain⟨its,rv,pl,hz⟩:=I.tuple hq;obtain⟨o,ho,hc,n,hd⟩:=pl;obtain⟨as,ra⟩:=zgw I ds xs its hs rv;exact⟨_,reads_tuple_at ho hc hd (by simpa using ra)⟩
 |.dict kvs,v,u,h,r=>by
  rw[RdD] at h;exact h.elim
theorem zgw(I:Inv X pins σ H s):∀(ds:List BH)(xs:List V)(us:List kB),RdDs X.K H ds xs->Vals xs us->∃as,ReadsAll s.heap us ds as
 |[],xs,us,h,r=>by
  rw[RdDs] at h;subst h;cases r;exact⟨_,.nil⟩
 |d::ds,xs,us,h,r=>by
  rw[RdDs] at h;obtain⟨x,xr,rfl,hx,hr⟩:=h
  cases r with
  |cons r1 r2=>
   obtain⟨as,ra⟩:=zd9 I d _ _ hx r1;obtain⟨bs,rb⟩:=zgw I ds _ _ hr r2;exact⟨_,.cons ra rb⟩
end
end
def rEqD(K:kM):R2:=fun x y H Q=>∃d e,RdD K H d x/\RdD K H e y/\UA d=true/\UA e=true/\Q (.bl (uW d e)) H
def rNeD(K:kM):R2:=fun x y H Q=>∃d e,RdD K H d x/\RdD K H e y/\UA d=true/\UA e=true/\Q (.bl (!PyData.eqv d e)) H
theorem hu64{A:pj}{k:Nat}(hr:Room k A):A.units+64<cLine:=by have:=hr.un;omega
section
variable{X:Cx}
theorem zox(hu:X.A.units+64<cLine):OpR X (Ql .Eq) (rEqD X.K):=by
 intro pins s σ H x y v u Q I rx ry h;obtain⟨d,e,hd,he,sd,se,q⟩:=h;obtain⟨as,ra⟩:=zd9 I d x v hd rx;obtain⟨bs,rb⟩:=zd9 I e y u he ry;exact eq_dataH ra rb sd se hu ⟨.bl (uW d e),H,I,rfl,q⟩
theorem op_neD(hu:X.A.units+64<cLine):OpR X (Ql .NotEq) (rNeD X.K):=by
 intro pins s σ H x y v u Q I rx ry h;obtain⟨d,e,hd,he,sd,se,q⟩:=h;obtain⟨as,ra⟩:=zd9 I d x v hd rx;obtain⟨bs,rb⟩:=zd9 I e y u he ry;exact ne_dataH ra rb sd se hu ⟨.bl (!PyData.eqv d e),H,I,rfl,q⟩
end
section
variable{X:Cx}
theorem IxR.imp{r r':R2}(h:IxR X r)(i:∀x y H Q,r' x y H Q->r x y H Q):IxR X r':=fun value slice pins s σ H x y v u Q I rx ry q hs=>h value slice pins s σ H x y v u Q I rx ry (i x y H Q q) hs
theorem zf3.imp{f:kB}{r r':List V->Hp->VK->Prop}(h:zf3 X f r)(i:∀xs H Q,r' xs H Q->r xs H Q):zf3 X f r':=fun pins s σ H xs us Q I rv q=>h pins s σ H xs us Q I rv (i xs H Q q)
def rIxTH:R2:=fun x y H Q=>∃p xs i v,x=.ref p/\y=.int i/\H p=some (.tup xs)/\atI xs i=some v/\Q v H
def rIxLH:R2:=fun x y H Q=>∃p xs i v,x=.ref p/\y=.int i/\H p=some (.lst xs)/\atI xs i=some v/\Q v H
theorem za5:IxR X rIxTH:=ix_tup.imp fun x y H Q⟨p,xs,i,v,e1,e2,h,e3,q⟩=>⟨p,xs,i,v,e1,e2,.of h,e3,q⟩
theorem zai:IxR X rIxLH:=zlf.imp fun x y H Q⟨p,xs,i,v,e1,e2,h,e3,q⟩=>⟨p,xs,i,v,e1,e2,.of h,e3,q⟩
def rLenH:List V->Hp->VK->Prop:=fun xs H Q=>∃p ys,xs=[.ref p]/\(H p=some (.lst ys)∨H p=some (.tup ys))/\Q (.int ys.length) H
theorem zbq:zf3 X (.builtin "len") rLenH:=zdv.imp fun xs H Q⟨p,ys,e,h,q⟩=>⟨p,ys,e,h.imp .of .of,q⟩
def tyF(H:Hp)(x:V):Option String:=match x with
 |.non=>some "NoneType"
 |.bl _=>some "bool"
 |.int _=>some "int"
 |.str _=>some "str"
 |.ref p=>match H p with
  |some (.lst _)=>some "list"
  |some (.tup _)=>some "tuple"
  |_=>none
 |_=>none
theorem tyF_tyN{K:kM}{H:Hp}{x:V}{T:String}(h:tyF H x=some T):tyN K H x T:=by
 cases x with
 |non=>exact(uB h).symm
 |bl b=>exact(uB h).symm
 |int i=>exact(uB h).symm
 |str z=>exact(uB h).symm
 |ref p=>
  unfold tyF at h;dsimp only at h
  cases q:H p with
  |none=>rw[q] at h;cases h
  |some o=>
   rw[q] at h
   cases o with
   |lst xs=>exact .inl ⟨(uB h).symm,xs,.of q⟩
   |tup xs=>exact .inr (.inl ⟨(uB h).symm,xs,.of q⟩)
   |_=>cases h
 |_=>cases h
def rIsiF(T:String):List V->Hp->VK->Prop:=fun xs H Q=>∃x Tx,xs=[x,.ty T]/\tyF H x=some Tx/\Q (.bl (isiB Tx T)) H
theorem isiF{T:String}(h:zf3 X (.builtin "isinstance") (rIsi X.K T)):zf3 X (.builtin "isinstance") (rIsiF T):=h.imp fun xs H Q⟨x,Tx,e,t,q⟩=>⟨x,Tx,e,tyF_tyN t,q⟩
end
theorem zpf{H:Hp}{p:Addr}{xs:List V}(h:H p=some (.lst xs)):tyF H (.ref p)=some "list":=by unfold tyF;dsimp only;rw[h]
theorem tyF_non{H:Hp}:tyF H .non=some "NoneType":=rfl
theorem tyF_bl{H:Hp}{b:Bool}:tyF H (.bl b)=some "bool":=rfl
theorem tyF_int{H:Hp}{i:Int}:tyF H (.int i)=some "int":=rfl
theorem tyF_str{H:Hp}{z:Str}:tyF H (.str z)=some "str":=rfl
theorem at0{α:Type}{x:α}{r:List α}:atI (x::r) 0=some x:=zce (j:=0) rfl
theorem at1{α:Type}{x y:α}{r:List α}:atI (x::y::r) 1=some y:=zce (j:=1) rfl
theorem at2{α:Type}{x y z:α}{r:List α}:atI (x::y::z::r) 2=some z:=zce (j:=2) rfl
theorem at3{α:Type}{x y z t:α}{r:List α}:atI (x::y::z::t::r) 3=some t:=zce (j:=3) rfl
theorem at4{α:Type}{x y z t u:α}{r:List α}:atI (x::y::z::t::u::r) 4=some u:=zce (j:=4) rfl
theorem at5{α:Type}{x y z t u v:α}{r:List α}:atI (x::y::z::t::u::v::r) 5=some v:=zce (j:=5) rfl
theorem at6{α:Type}{x y z t u v w:α}{r:List α}:atI (x::y::z::t::u::v::w::r) 6=some w:=zce (j:=6) rfl
theorem at7{α:Type}{x y z t u v w x':α}{r:List α}:atI (x::y::z::t::u::v::w::x'::r) 7=some x':=zce (j:=7) rfl
theorem at8{α:Type}{x y z t u v w x' y':α}{r:List α}:atI (x::y::z::t::u::v::w::x'::y'::r) 8=some y':=zce (j:=8) rfl
theorem zaj{H H':Hp}{D:Addr}{o:HO}(g:Same H H')(h:H D=none):Same H (upd H' D o):=fun b u q=>by
 rw[za7 (zam q h)];exact g b u q
section
variable{X:Cx}
theorem SlR.imp{r r':V->Option Int->Option Int->Hp->VK->Prop}(h:SlR X r)(i:∀x lo hi H Q,r' x lo hi H Q->r x lo hi H Q):SlR X r':=fun pins s σ H x v vl vu lo hi sl Q I rx hs pl pu q=>h pins s σ H x v vl vu lo hi sl Q I rx hs pl pu (i x lo hi H Q q)
def rSlH:V->Option Int->Option Int->Hp->VK->Prop:=fun x lo hi H Q=>∃a xs,x=.ref a/\H a=some (.lst xs)/\∀p,H p=none->Q (.ref p) (upd H p (.lst (cutV xs lo hi)))
theorem zew:SlR X rSlH:=sl_list.imp fun x lo hi H Q⟨a,xs,e,h,q⟩=>⟨a,xs,e,.of h,q⟩
def rListH:List V->Hp->VK->Prop:=fun xs H Q=>∃p ys,xs=[.ref p]/\(H p=some (.lst ys)∨H p=some (.tup ys))/\∀l,H l=none->Q (.ref l) (upd H l (.lst ys))
theorem zmy:zf3 X (.type "list") rListH:=zk2.imp fun xs H Q⟨p,ys,e,h,q⟩=>⟨p,ys,e,h.imp .of .of,q⟩
def rIntB:List V->Hp->VK->Prop:=fun xs H Q=>∃k,xs=[.bl k]/\Q (.int (if k=true then 1 else 0)) H
theorem ze7{K:kM}{H:Hp}{p:Addr}{xs:List V}(h:H p=some (.lst xs)):tyV K "list" (.ref p) H:=.inl ⟨rfl,xs,.of h⟩
theorem bt_max:uo "max"=some (.builtin "max"):=by decide+kernel
end
def ForW(J:It)(g:TG)(tb:TS)(D:Ends)(σ:St)(H:Hp):Prop:=∃W:Nat->Nat->St->Hp->Prop,(∃m,W 0 m σ H)/\∀i m σ H,W i m σ H->
 (J.stop i H/\D.nx σ H)∨(J.go i H/\∃N:St->Hp->Prop,(∀σ' H',N σ' H'->∃m',m'<m/\W (i+1) m' σ' H')/\∀x H',J.yld i H x H'->g x σ H' fun σ2 H2=>tb {D with nx:=N,ct:=N,bk:=D.nx} σ2 H2)
theorem zbc{wi:TI}{g:TG}{tb:TS}{D:Ends}{σ:St}{H:Hp}(h:wi σ H fun J H1=>ForW J g tb D σ H1):tFor wi g tb D σ H:=h
section
variable{X:Cx}{pos:Pos}
def gTupH(n:Nat)(t:TGs):TG:=fun v σ H Q=>∃a xs,v=.ref a/\H a=some (.tup xs)/\xs.length=n/\t xs σ H Q
theorem zff{es:List Expr}{k:Nat}{t:TGs}{n:Nat}(hc:X.calm=true)(h:PGs X es t)(hn:(vk es X.env).length=n:=by rfl)(hst:(vk es X.env).findIdx? (·.1)=none:=by rfl):PG X (.Tuple es k pos) (gTupH n t):=
 fun pins s σ H v u Q I r hw=>pg_tup hc h hn hst pins s σ H v u Q I r (by
  obtain⟨a,xs,e,q,l,z⟩:=hw;exact⟨a,xs,e,.of q,l,z⟩)
end
open PySem.Builtin PySem.Builtin.Str
open PySem.W (KasT kas_asc kas_desc kas_rev kas_tail3 kas_descPart kas_count kas_place kas_bin kas_sort kas_ask kas_item)
def ansT{α:Type}(ans:Nat->Nat->Bool):KasT α->α
 |.ret a=>a
 |.ask i j k=>ansT ans (k (ans i j))
def Asks{α:Type}(n:Nat)(R:α->Prop):KasT α->Prop
 |.ret a=>R a
 |.ask i j k=>i<n/\j<n/\∀b,Asks n R (k b)
theorem Asks.bind{α β:Type}{n:Nat}{R:α->Prop}{S:β->Prop}{f:α->KasT β}:∀{t:KasT α},Asks n R t->(∀a,R a->Asks n S (f a))->Asks n S (t.bind f)
 |.ret a,h,k=>k a h
 |.ask i j g,h,k=>⟨h.1,h.2.1,fun b=>Asks.bind (h.2.2 b) k⟩
theorem Asks.ends{α:Type}{n:Nat}{R:α->Prop}{ans:Nat->Nat->Bool}:∀{t:KasT α},Asks n R t->R (ansT ans t)
 |.ret _,h=>h
 |.ask i j g,h=>Asks.ends (n:=n) (t:=g (ans i j)) (h.2.2 (ans i j))
theorem Asks.wp{α:Type}{n:Nat}{R:α->Prop}{ans:Nat->Nat->Bool}{cmp:Nat->Nat->(Bool->kC->Prop)->kC->Prop}{s:kC}{Q:α->kC->Prop}(hc:∀i j C,i<n->j<n->C (ans i j) s->cmp i j C s):
  ∀{t:KasT α},Asks n R t->Q (ansT ans t) s->t.kasWp cmp Q s
 |.ret _,_,q=>q
 |.ask i j g,h,q=>hc i j _ h.1 h.2.1 (Asks.wp (n:=n) (t:=g (ans i j)) hc (h.2.2 (ans i j)) q)
def Ord(n:Nat)(p:Array Nat):Prop:=p.toList.Perm (kc n)
theorem Ord.get{n:Nat}{p:Array Nat}(h:Ord n p)(hn:0<n)(i:Nat):p.getD i 0<n:=by
 by_cases hi:i<p.size
 ·have e:p.getD i 0=p[i]:=by simp[hV,hi]
  rw[e];exact kx.mp (h.mem_iff.mp (by simp))
 ·have e:p.getD i 0=0:=by simp[hV,hi]
  rw[e];exact hn
theorem Ord.of{n:Nat}{p q:Array Nat}(h:Ord n p)(e:q.Perm p):Ord n q:=(hX.mp e).trans h
theorem Ord.rev{n:Nat}{p:Array Nat}(h:Ord n p)(i j:Nat):Ord n (kas_rev p i j):=h.of (UN _ _ _ _)
theorem zij{n:Nat}{p:Array Nat}(h:Ord n p)(hn:0<n):∀(f m:Nat),Asks n (fun _=>True) (kas_asc p f m)
 |0,_=>trivial
 |f+1,m=>⟨h.get hn _,h.get hn _,fun b=>by
  cases b with
  |true=>dsimp only;rw[if_pos rfl];trivial
  |false=>dsimp only;rw[if_neg (by decide)];exact zij h hn f (m+1)⟩
theorem zfg{n:Nat}(hn:0<n):∀(f:Nat){p:Array Nat}(m q:Nat),Ord n p->Asks n (fun r=>Ord n r.1) (kas_desc f p m q)
 |0,_,_,_,h=>h
 |f+1,p,m,q,h=>⟨h.get hn _,h.get hn _,fun b=>by
  cases b with
  |true=>
   dsimp only;rw[if_pos rfl]
   by_cases z:q>0
   ·rw[if_pos z];exact zfg hn f _ _ (h.rev _ _)
   ·rw[if_neg z];exact zfg hn f _ _ h
  |false=>
   dsimp only;rw[if_neg (by decide)]
   refine⟨h.get hn _,h.get hn _,fun d=>?_⟩
   cases d with
   |true=>dsimp only;rw[if_pos rfl];exact h
   |false=>dsimp only;rw[if_neg (by decide)];exact zfg hn f _ _ h⟩
theorem zhi{n a b:Nat}{p:Array Nat}(hn:0<n)(h:Ord n p):Asks n (fun r=>Ord n r.2) (kas_tail3 a b p):=
 Asks.bind (zij (h.rev _ _) hn _ _) fun _ _=>h.rev _ _
theorem zft{n a b:Nat}{p:Array Nat}(hn:0<n)(h:Ord n p):Asks n (fun r=>Ord n r.2) (kas_descPart a b p):=
 Asks.bind (zfg hn _ _ _ h) fun r hr=>by
  by_cases z:r.2.2>0
  ·rw[if_pos z];exact zhi hn (hr.rev _ _)
  ·rw[if_neg z];exact zhi hn hr
theorem zhs{n b:Nat}{p:Array Nat}(hn:0<n)(h:Ord n p):Asks n (fun r=>Ord n r.2) (kas_count b p):=
 Asks.bind (zij h hn _ _) fun m _=>by
  by_cases z:(m==b)=true
  ·rw[if_pos z];exact h
  ·rw[if_neg z]
   by_cases y:m>1
   ·rw[if_pos y];refine⟨h.get hn _,h.get hn _,fun c=>?_⟩
    cases c with
    |true=>dsimp only;rw[if_pos rfl];exact h
    |false=>dsimp only;rw[if_neg (by decide)];exact zft hn (h.rev _ _)
   ·rw[if_neg y];exact zft hn h
theorem zg7{n:Nat}{p:Array Nat}(hn:0<n)(h:Ord n p)(k:Nat):∀(f l r:Nat),Asks n (fun _=>True) (kas_place p k f l r)
 |0,_,_=>trivial
 |f+1,l,r=>by
  unfold kas_place
  by_cases z:l≥r
  ·rw[if_pos z];trivial
  ·rw[if_neg z];refine⟨h.get hn _,h.get hn _,fun c=>?_⟩
   cases c with
   |true=>dsimp only;rw[if_pos rfl];exact zg7 hn h k f _ _
   |false=>dsimp only;rw[if_neg (by decide)];exact zg7 hn h k f _ _
theorem zln{n:Nat}(hn:0<n):∀(f:Nat){p:Array Nat}(k:Nat),Ord n p->Asks n (Ord n) (kas_bin f p k)
 |0,_,_,h=>h
 |f+1,p,k,h=>Asks.bind (zg7 hn h k _ _ _) fun l _=>zln hn f (k+1) (h.of (Cj _ _ _))
theorem zja{n:Nat}(hn:0<n):Asks n (Ord n) (kas_sort n):=
 Asks.bind (zhs hn (by unfold Ord;simp)) fun r hr=>by
  by_cases z:r.1<n
  ·rw[if_pos z];exact zln hn _ _ hr
  ·rw[if_neg z];exact hr
def Keeps(g h:Heap):Prop:=∀b o,g.get? b=some o->h.get? b=some o
theorem Keeps.push{g h:Heap}(k:Keeps g h)(o:Obj):Keeps g (h.push o):=fun b x e=>kT _ (k b x e)
theorem Keeps.upd{g h:Heap}{a:Addr}{f:Obj->Obj}(k:Keeps g h)(ha:g.objs.size<=a):Keeps g (h.update a f):=fun b x e=>by
 rw[uw _ _ _ _ (pd (ku (pB e) ha))];exact k b x e
theorem znm(vs:List kB):((kc vs.length).map fun i=>vs.getD i ue)=vs:=by
 refine CO (by simp) fun i h1 h2=>?_
 have hi:i<vs.length:=h2
 simp[hi]
open PySem.W (KasT kas_sort kas_ask)
section
open PySem.SeqAt
open PySem.AutoSeq1 (wpAny_loadPart')
open PySem.MeetsSeq PySem.MeetsSeq2 PySem.MeetsSeq3
theorem ltRc{A:pj}{s:kC}{a c:Int}{t u:Tok}(prog:pA)(w:pR)(E:kB->kC->Prop)(Q:kB->kC->Prop)(h:Q (.bool (decide (a<c))) s):wpAny (model prog w) A (Ck .Lt (.int a t) (.int c u)) Q E s:=
 (PyProof.Rows.lt_int h:wpAny (model prog w) A (Ql .Lt (.int a t) (.int c u)) Q E s)
theorem zq9(l b:Addr)(items items2:Array kB)(n n2:Nat)(dd dd2:Option Addr)(sl sl2:Array (Option kB))(ns ms:List Int)(hlen:ns.length=ms.length)(hi:vM items.toList ns)(hj:vM items2.toList ms):
  Meets (jD.«tuple.__lt__» ⟨[.ref l,.ref b],[]⟩)
   (fun _ R s=>s.heap.get? l=some {cls:=.type "tuple",dict:=dd,data:=.seq items n,slots:=sl}/\s.heap.get? b=some {cls:=.type "tuple",dict:=dd2,data:=.seq items2 n2,slots:=sl2}/\R (.ok (.ret (.bool (HT.lexLt ns ms)))) s):=
 .of_wp fun prog w A R s h=>by
  obtain⟨hp,g,d,tk,os⟩:=s;obtain⟨hl,hb,h⟩:=h;have f2:=AutoSeq1.sub_tuple_tuple;have z1:items.size=ns.length:=by rw[←hi.length];simp
  have z2:items2.size=ms.length:=by rw[←hj.length];simp
  wp_walk using An hl,An hb,vN _ (fun rest b s'=>b.1=none/\s'=⟨hp,g,d,tk,os⟩/\∃(vs ws:List kB)(ns' ms':List Int),rest=vs.zip ws/\vM vs ns'/\vM ws ms'/\ns'.length=ms'.length/\R (.ok (.ret (.bool (HT.lexLt ns' ms')))) ⟨hp,g,d,tk,os⟩) _
  case turn=>
   rintro⟨y,x⟩ rest b s' ⟨hb',rfl,vs,ws,ns',ms',hz,hvi,hwi,hln,hR⟩
   cases hvi with
   |nil=>rw[List.zip_nil_left] at hz;cases hz
   |cons a t hv=>
    cases hwi with
    |nil=>rw[List.zip_nil_right] at hz;cases hz
    |cons c u hw=>
     rw[hZ] at hz
     injection hz with q1 q2
     injection q1 with q3 q4
     subst q3 q4;rw[HT.lexLt_cons] at hR;simp only[pJ] at hln;obtain⟨e,he,hiff⟩:=HT.eqAt_int A.in1 ⟨hp,g,d,tk,os⟩ a t c u;refine kA (he prog w _ _ ?_)
     cases e with
     |true=>
      rw[if_pos (hiff.mp rfl)] at hR
      wp_walk
      exact⟨rfl,rfl,_,_,_,_,q2,hv,hw,by omega,hR⟩
     |false=>
      rw[if_neg (fun q=>absurd (hiff.mpr q) pN)] at hR;have hri:=ltRc (A:=A.in1) (s:=⟨hp,g,d,tk,os⟩) (a:=a) (c:=c) (t:=t) (u:=u) prog w
      wp_walk using hri
      exact⟨_,rfl,by simpa using hR⟩
  case fin=>
   rintro⟨b1,b2⟩ s' ⟨hb',rfl,vs,ws,ns',ms',hz,hvi,hwi,hln,hR⟩
   simp only at hb'
   subst hb';have hv:HT.lexLt ns' ms'=decide (items.size<items2.size):=by
    rw[decide_eq_false (by omega)]
    cases hvi with
    |nil=>
     cases hwi with
     |nil=>rfl
     |cons c u hw=>cases hln
    |cons a t hv=>
     cases hwi with
     |nil=>cases hln
     |cons c u hw=>rw[hZ] at hz;cases hz
   rw[hv] at hR
   wp_walk
   exact⟨_,rfl,by simpa[Builtin.Tuple.tupleCompareSizes] using hR⟩
  case h=>
   exact⟨rfl,rfl,items.toList,items2.toList,ns,ms,rfl,hi,hj,hlen,h⟩
end
def TupI(h:Heap)(v:kB)(ns:List Int):Prop:=∃(a:Addr)(its:Array kB)(n:Nat)(dd:Option Addr)(sl:Array (Option kB)),v=.ref a/\h.get? a=some {cls:=.type "tuple",dict:=dd,data:=.seq its n,slots:=sl}/\vM its.toList ns
def TupP(h:Heap)(v:kB)(ns ms:List Int):Prop:=∃(a:Addr)(x y:kB)(n:Nat)(dd:Option Addr)(sl:Array (Option kB)),v=.ref a/\h.get? a=some {cls:=.type "tuple",dict:=dd,data:=.seq #[x,y] n,slots:=sl}/\TupI h x ns/\TupI h y ms
theorem TupI.keeps{g h:Heap}{v:kB}{ns:List Int}(t:TupI g v ns)(k:Keeps g h):TupI h v ns:=by
 obtain⟨a,its,n,dd,sl,e,o,i⟩:=t;exact⟨a,its,n,dd,sl,e,k _ _ o,i⟩
theorem TupP.keeps{g h:Heap}{v:kB}{ns ms:List Int}(t:TupP g v ns ms)(k:Keeps g h):TupP h v ns ms:=by
 obtain⟨a,x,y,n,dd,sl,e,o,i,j⟩:=t;exact⟨a,x,y,n,dd,sl,e,k _ _ o,i.keeps k,j.keeps k⟩
theorem zho{h:Heap}:∀{us:List kB}{ns:List Int},vM us ns->∃as,ReadsAll h us (ns.map Um) as
 |_,_,.nil=>⟨_,.nil⟩
 |_,_,.cons n t r=>let⟨_,q⟩:=zho r;⟨_,.cons (.int n t) q⟩
theorem TupI.reads{h:Heap}{v:kB}{ns:List Int}(t:TupI h v ns):∃as,Reads h v (.tuple (ns.map Um)) as:=by
 obtain⟨a,its,n,dd,sl,rfl,o,i⟩:=t;obtain⟨as,r⟩:=zho (h:=h) i;exact⟨_,reads_tuple_at o rfl rfl (by simpa using r)⟩
theorem zm7:∀ns:List Int,uF (ns.map Um)=true
 |[]=>rfl
 |n::ns=>by simp only[kh,uF,zm7 ns,UE,Bool.and_self]
theorem zp0(ns:List Int):UE (.tuple (ns.map Um))=true:=by
 simp only[UE,zm7 ns]
theorem zmk:∀ns:List Int,uV (ns.map Um)<=1
 |[]=>by simp[uV]
 |n::ns=>by
  have:=zmk ns;simp only[kh,uV,vO];omega
theorem zlu:∀{ns ms:List Int},UX (ns.map Um) (ms.map Um)=decide (ns=ms)
 |[],[]=>rfl
 |[],m::ms=>rfl
 |n::ns,[]=>rfl
 |n::ns,m::ms=>by
  simp only[kh,UX,uW,zlu]
  by_cases h1:n=m<;>by_cases h2:ns=ms<;>simp[h1,h2]
section
variable{prog:pA}{w:pR}{A:pj}{E:kB->kC->Prop}{s:kC}{C:Bool->kC->Prop}
theorem zle{x y:kB}{ns ms:List Int}(hx:TupI s.heap x ns)(hy:TupI s.heap y ms)(hu:A.units+64<cLine)(q:C (decide (ns=ms)) s):wpAny (model prog w) A (eqBool x y) C E s:=by
 obtain⟨as,ra⟩:=hx.reads;obtain⟨bs,rb⟩:=hy.reads;refine PySem.SeqAt.eqBoolOverData prog w A E s x y _ _ as bs C ra rb (zp0 ns) (zp0 ms) ?_ ?_
 ·have:=zmk ns;have:(CA (ns.map Um)).depth<=2:=by simp only[vO];omega
  have:=Cq (CA (ns.map Um)).depth (CA (ms.map Um)).depth;omega
 ·simp only[uW];rw[zlu];exact q
theorem zp1{x y:kB}{ns ms:List Int}(hx:TupI s.heap x ns)(hy:TupI s.heap y ms)(hl:ns.length=ms.length)(hu:A.units+64<cLine)(q:C (HT.lexLt ns ms) s):wpAny (model prog w) A (oneLt' false x y) C E s:=by
 obtain⟨a,its,n,dd,sl,rfl,o,i⟩:=hx;obtain⟨b,its2,n2,dd2,sl2,rfl,o2,i2⟩:=hy;refine PySem.W.kat_one _ _ ?_;exact Ad (op:=.Lt) ⟨_,o,rfl⟩ ⟨_,o2,rfl⟩ Ax Ae (AI _ _) (zq9 a b its its2 n n2 dd dd2 sl sl2 ns ms hl i i2) ⟨o,o2,(fun z=>nomatch z),q⟩ (by omega)
def ltP(a b:List Int×List Int):Bool:=if a.1=b.1 then(if a.2=b.2 then false else HT.lexLt a.2 b.2) else HT.lexLt a.1 b.1
theorem lt_tupP{x y:kB}{a b:List Int×List Int}(hx:TupP s.heap x a.1 a.2)(hy:TupP s.heap y b.1 b.2)(l1:a.1.length=b.1.length)(l2:a.2.length=b.2.length)(hu:A.units+64<cLine)(q:C (ltP a b) s):wpAny (model prog w) A (DW (tuples' false) x y) C E s:=by
 obtain⟨p,x1,x2,n,dd,sl,rfl,o,i1,i2⟩:=hx;obtain⟨p',y1,y2,n',dd',sl',rfl,o',j1,j2⟩:=hy;unfold ltP at q;refine PySem.W.kat_lt o rfl o' rfl (CP (zle i1 j1 hu ?_))
 by_cases c:a.1=b.1
 ·rw[if_pos c] at q;rw[decide_eq_true c];refine Cr (CP (zle i2 j2 hu ?_))
  by_cases c2:a.2=b.2
  ·rw[if_pos c2] at q;rw[decide_eq_true c2];exact Cr (PySem.W.kat_nil q)
  ·rw[if_neg c2] at q;rw[decide_eq_false c2];exact DG (zp1 i2 j2 l2 hu q)
 ·rw[if_neg c] at q;rw[decide_eq_false c];exact DG (zp1 i1 j1 l1 hu q)
end
open PySem.W (KatTups) in
theorem ktups{h:Heap}:∀vs:List kB,(∀v,v∈vs->∃a b,a≠[]/\TupP h v a b)->∃fs,fs.length=vs.length/\KatTups h vs fs/\∀f,f∈fs->∃ns,TupI h f ns
 |[],_=>⟨[],rfl,.nil,fun f hf=>by cases hf⟩
 |v::vs,hv=>by
  obtain⟨fs,l,t,r⟩:=ktups vs fun u hu=>hv u (kI _ hu);obtain⟨a,b,ne,p,x,y,n,dd,sl,rfl,o,i,j⟩:=hv v (po ..);refine⟨x::fs,by simp[l],.cons o rfl rfl rfl t,fun f hf=>?_⟩
  rcases kg.mp hf with rfl|hf
  ·exact⟨_,i⟩
  ·exact r f hf
theorem znn{M:Model}{A:pj}{E:kB->kC->Prop}{s:kC}{vs:List kB}{Q:UO->kC->Prop}(hn:0<vs.length)(hv:∀v,v∈vs->∃a b,a≠[]/\TupP s.heap v a b)(q:Q (tuples' false) s):wpAny M A (BI vs.toArray) Q E s:=by
 obtain⟨fs,l,t,r⟩:=ktups vs hv;refine PySem.W.kat_kind (T:=.type "tuple") t (by omega) (fun f hf=>?_) (by decide) ?_
 ·obtain⟨ns,a,its,n,dd,sl,rfl,o,_⟩:=r f hf;exact(CQ o).andThen .now
 ·rw[show(jT "tuple"!=jT "tuple")=false from by decide]
  exact q
theorem zi7:∀{xs:List V}{us:List kB},Vals xs us->∀i,i<xs.length->RelV (xs.getD i .non) (us.getD i ue)
 |_,_,.nil,i,h=>by cases h
 |_,_,.cons r t,0,_=>r
 |_,_,.cons r t,i+1,h=>zi7 t i (Nat.lt_of_succ_lt_succ h)
theorem zmo{f:Nat->V}{g:Nat->kB}:∀l:List Nat,(∀i,i∈l->RelV (f i) (g i))->Vals (l.map f) (l.map g)
 |[],_=>.nil
 |i::l,h=>.cons (h i (po ..)) (zmo l fun j hj=>h j (kI _ hj))
section
variable{X:Cx}{pins:List (Addr×Obj)}{σ:St}{H:Hp}{s:kC}
theorem zkn(I:Inv X pins σ H s){a:Addr}{ns:List Int}(h:H a=some (.tup (ns.map V.int))):TupI s.heap (.ref a) ns:=by
 obtain⟨its,r,⟨⟨cls,dd,data,sl⟩,ho,hc,n,hd⟩,_⟩:=I.tuple (.of h)
 simp only at hc hd
 subst hc hd;exact⟨a,_,n,dd,sl,rfl,ho,zg6 r⟩
theorem zjh:uo "sorted"=some (.builtin "sorted"):=by decide+kernel
theorem hu100{A:pj}{k:Nat}(hr:Room k A):A.units+100<cLine:=by have:=hr.un;omega
end
structure OnlyT(ts:List Addr)(H:Hp):Prop where
 only:∀b,H b=none∨(∃o xs,H b=some (.frz o (.lst xs)))∨(b∈ts/\H b=some (.tbl #[]))
 tabs:∀b,b∈ts->H b=some (.tbl #[])
theorem znt{P:pA}{w:pR}{K:kM}{mg mb:Str->Option kB}{CX:CXT}{k:Nat}{fa a:Addr}{fd:Qy}{x:Str}{sp:Sp}{s₁:kC}{vs:List kB}{ns:List Int}{ts:List Addr}
  (KX:K.In s₁.heap)(hns:s₁.heap.Ns kY mg)(hb:s₁.heap.Ns AX mb)(hbb:∀x:Str,x≠"__name__"->mb x=uo x)(hlim:s₁.heap.NoLimit)(hg:s₁.gens=#[])
  (ha:s₁.heap.get? a=some {cls:=.type "list",data:=.seq vs.toArray})(hi:vM vs ns)(hl:ns.length<=sizeLine)(hr:Room k BX)
  (hT:∀b,b∈ts->s₁.heap.get? b=some (PySem.W.tabObj #[])/\K.lookup b=none/\isCodeTable s₁.heap b)
  (hbm:∃bm ob,mg "__builtins__"=some (.ref bm)/\bm≠AX/\s₁.heap.get? bm=some ob/\ob.cls=.type "module"/\ob.dict=some AX/\ob.data=.plain)
  (F:∀base:Heap,K.In base->base.Ns kY mg->(∀b,b∈ts->base.BuiltinsAt mg b)->FnOk P w K mg base CX k fa fd [x] sp) (hbind:∀(s:kC)(u:kB),Bu s fd ⟨[u],[]⟩ [(x,u)])
  (hsp:∀H:Hp,OnlyT ts H->SqL K H a (ns.map V.int)->sp [.ref a] H (fun v _=>v=.bl true) fun _ _ _=>False)
  (hCX:∀H e s',CX [] H s₁ (fun _ _ _=>False) e s'->False):
  ju (model P w) BX (.call (.ref fa) ⟨[.ref a],[]⟩) (fun r s'=>r=.ok (.ret (.bool true))/\OldK s₁.heap s'.heap/\s'.os=s₁.os/\gU s'.gens) s₁:=by
 have rv:=zjk hi;have lenV:=hi.length;have naT:a∉ts:=fun z=>by
  have e:=(hT a z).1;rw[ha] at e
  cases e
 have core:∀H:Hp,OnlyT ts H->SqL K H a (ns.map V.int)->HOk P w H s₁.heap->(∀b,H b≠none->b=a∨b∈ts)->(H a≠none->K.lookup a=none)->
   ju (model P w) BX (.call (.ref fa) ⟨[.ref a],[]⟩) (fun r s'=>r=.ok (.ret (.bool true))/\OldK s₁.heap s'.heap/\s'.os=s₁.os/\gU s'.gens) s₁:=by
  intro H hO hS hok hA hK;have base_of:∀{b:Addr}{o:Obj},s₁.heap.get? b=some o->H b=none->(hidT s₁.heap H).get? b=some o:=fun e n=>hidT_get e n;have noD:∀{b:Addr}{o:Obj},s₁.heap.get? b=some o->o.cls≠.none->o.cls≠.type "list"->H b=none:=fun{b o} e d1 d2=>by
   cases q:H b with
   |none=>rfl
   |some u=>
    rcases hA b (by rw[q];simp) with e'|e'
    ·subst e';rw[ha] at e;cases e;exact absurd rfl d2
    ·rw[(hT b e').1] at e;cases e;exact absurd rfl d1
  have noA:∀{b:Addr}{o:Obj}{es:Array AJ}{ep:Nat},s₁.heap.get? b=some o->o.data=.dict es ep->H b=none:=fun{b o es ep} e d=>by
   cases q:H b with
   |none=>rfl
   |some u=>
    rcases hA b (by rw[q];simp) with e'|e'
    ·subst e';rw[ha] at e;cases e;have d':Data.seq vs.toArray _=Data.dict es ep:=d
     cases d'
    ·rw[(hT b e').1] at e;cases e;have d':De #[]=Data.dict es ep:=d
     cases d'
  have nsK:∀{b:Addr}{m:Str->Option kB},s₁.heap.Ns b m->(hidT s₁.heap H).Ns b m:=fun{b m}⟨o,es,ep,e,d,r⟩=>⟨o,es,ep,base_of e (noA e d),d,r⟩;have hKb:K.In (hidT s₁.heap H):=fun b o e=>base_of (KX b o e) (by
   cases q:H b with
   |none=>rfl
   |some u=>
    rcases hA b (by rw[q];simp) with e'|e'
    ·subst e';rw[hK (by rw[q];simp)] at e;cases e
    ·rw[(hT b e').2.1] at e;cases e)
  have hM:Mod K mg (hidT s₁.heap H):=⟨hKb,nsK hns,⟨mb,nsK hb,hbb⟩,let⟨mc,h1,h2⟩:=hlim;⟨mc,nsK h1,h2⟩⟩;have hB:∀b,b∈ts->(hidT s₁.heap H).BuiltinsAt mg b:=fun b hb'=>by
   obtain⟨bm,ob,b1,b2,b3,b4,b5,b6⟩:=hbm;refine⟨bm,ob,b1,b2,fun q=>?_,fun q=>?_,base_of b3 (noD b3 (by rw[b4];simp) (by rw[b4];simp)),b4,b5,b6⟩
   ·obtain⟨o,es,ep,e,d,_⟩:=hns;rw[←q,b3] at e;cases e;rw[b6] at d;cases d
   ·rw[q,(hT b hb').1] at b3;cases b3;cases b4
  have e0:Env0 P w K mg (hidT s₁.heap H) BX [] s₁ H:=⟨rfl,hM,fun b o e=>of_hidT e,QZ (zpp _ _),trivial,fun b hb=>absurd (show b∈([]:List Addr) from hb) (by simp),hok,.of_eq hg⟩
  refine AZ ((F _ hKb (nsK hns) hB).run BX [] s₁ H ⟨[.ref a],[]⟩ [.ref a] [.ref a] _ _ hr e0 (hbind s₁ (.ref a)) (.cons rfl .nil) (hsp H hO hS)) fun r s' h=>?_
  cases r with
  |error e=>exact(hCX H e s' h).elim
  |ok fl=>
   cases fl with
   |next=>exact QQ h
   |brk=>exact QQ h
   |cont=>exact QQ h
   |ret u=>
    obtain⟨v,H',os,bare,un,hok',r',q⟩:=h;have q':v=.bl true:=q;subst q';obtain rfl:u=Dm true:=r';have at':∀b o,s₁.heap.get? b=some o->asItWas s₁.heap s'.heap b o:=fun b o e=>by
     cases q:H b with
     |none=>exact .inl (un.keep b o e q (by intro z;exact absurd (show b∈([]:List Addr) from z) (by simp)) (by simp))
     |some u=>
      rcases hO.only b with z|⟨ob,xs,z⟩|⟨hbt,z⟩
      ·rw[q] at z;cases z
      ·have z2:=un.frzs b ob _ z;obtain⟨e1,_⟩:=hok b _ z;obtain⟨e2,_⟩:=hok' b _ z2;rw[e] at e1;cases e1;exact .inl e2
      ·obtain⟨more,z2⟩:=un.tbls b _ z;have e2:s'.heap.get? b=some {cls:=.none,data:=.fields (#[]++more)}:=hok' b _ z2;have e1:=(hT b hbt).1;rw[e] at e1;cases e1;exact .inr (.inl ⟨(hT b hbt).2.2,rfl,#[],more,rfl,e2⟩)
    exact⟨rfl,⟨at',fun b o e=>un.there b o e (by simp)⟩,os,bare⟩
 cases hk:K.lookup a with
 |some o=>
  have e:=KX a o hk;rw[ha] at e
  cases e;refine core (fun b=>if b∈ts then some (.tbl #[]) else none) ⟨fun b=>?_,fun b hb'=>if_pos hb'⟩ (.inr ⟨_,vs.toArray,_,hk,rfl,rfl,rfl,by rw[pE,lenV];exact hl,by simpa using rv⟩) (fun b u z=>?_) (fun b z=>?_) fun z=>absurd (if_neg naT) z
  ·by_cases hbt:b∈ts
   ·exact .inr (.inr ⟨hbt,if_pos hbt⟩)
   ·exact .inl (if_neg hbt)
  ·by_cases hbt:b∈ts
   ·have z':=(if_pos hbt).symm.trans z
    cases z';exact(hT b hbt).1
   ·have z':=(if_neg hbt).symm.trans z
    cases z'
  ·by_cases hbt:b∈ts
   ·exact .inr hbt
   ·exact absurd (if_neg hbt) z
 |none=>
  refine core (fun b=>if b=a then some (.frz {cls:=.type "list",data:=.seq vs.toArray} (.lst (ns.map V.int))) else if b∈ts then some (.tbl #[]) else none) ⟨fun b=>?_,fun b hb'=>?_⟩ (.inl (.inr ⟨{cls:=.type "list",data:=.seq vs.toArray},if_pos rfl⟩)) (fun b u z=>?_) (fun b z=>?_) fun _=>hk
  ·by_cases hb:b=a
   ·exact .inr (.inl ⟨_,_,if_pos hb⟩)
   ·by_cases hbt:b∈ts
    ·exact .inr (.inr ⟨hbt,(if_neg hb).trans (if_pos hbt)⟩)
    ·exact .inl ((if_neg hb).trans (if_neg hbt))
  ·have hb:¬b=a:=fun z=>naT (z▸hb');exact(if_neg hb).trans (if_pos hb')
  ·by_cases hb:b=a
   ·have z':=(if_pos hb).symm.trans z
    cases z';subst hb;exact⟨ha,by rw[kO];exact hl,vs,_,rv,ha⟩
   ·by_cases hbt:b∈ts
    ·have z':=((if_neg hb).trans (if_pos hbt)).symm.trans z
     cases z';exact(hT b hbt).1
    ·have z':=((if_neg hb).trans (if_neg hbt)).symm.trans z
     cases z'
  ·by_cases hb:b=a
   ·exact .inl hb
   ·by_cases hbt:b∈ts
    ·exact .inr hbt
    ·exact absurd ((if_neg hb).trans (if_neg hbt)) z
theorem walk_ofT{l:Ao}{n k:Nat}{q:pA}{loose:List Str}{XP:(Str->Option kB)->Heap->Prop}{YP:pR->Heap->Prop}{d:DefRec}{K:Params->kM}{CX:pR->CXT}{sp:pR->List Addr->Sp}{x:Str}{ds:List Str}
  (hn:l.most=some n)(hn2:n<=sizeLine)(hdf:d.params.defaults=[])(hr:Room k BX)
  (hY:∀(w:pR)(h:Heap),YP w h->(K w.params).In h)
  (hD:∀y,y∈ds->∃e,(recsOf q).find? (fun e=>e.name==y)=some e)
  (F:∀(w:pR)(mg:Str->Option kB)(fa:Addr)(h:Heap),(K w.params).In h->h.Ns kY mg->mg d.name=some (.ref fa)->
   ∃(fd:Qy)(ts:List Addr),(∀b,b∈ts->(K w.params).lookup b=none/\∃y c,y∈ds/\gv (K w.params) y=some (c,b))/\(∀(s:kC)(u:kB),Bu s fd ⟨[u],[]⟩ [(x,u)])/\
    ∀base:Heap,(K w.params).In base->base.Ns kY mg->(∀b,b∈ts->base.BuiltinsAt mg b)->FnOk l.prog w (K w.params) mg base (CX w) k fa fd [x] (sp w ts))
  (hsp:∀(w:pR)(H:Hp)(a:Addr)(ns:List Int)(ts:List Addr),ns.length<=n->OnlyT ts H->SqL (K w.params) H a (ns.map V.int)->sp w ts [.ref a] H (fun v _=>v=.bl true) fun _ _ _=>False)
  (hCX:∀(w:pR)(H:Hp)(s:kC)(e:kB)(s':kC),CX w [] H s (fun _ _ _=>False) e s'->False):
  DL q loose XP YP l.row.toRowW d [] (fun f vs=>DF f vs):=by
 refine Att.attach_call hn hdf fun w s₀ s₁ mg mb fa o pm cd doc a vs ns G Y ho hd hcd hmg hobj hints hlen hg=>?_;have KX:=hY w _ Y;obtain⟨fd,ts,ht,hb,hF⟩:=F w mg fa _ KX G.T.g hmg;refine znt (ts:=ts) KX G.T.g G.T.b G.T.builtins G.T.nolimit hg hobj hints (pL hlen hn2) hr (fun b hb'=>?_) G.T.bmain hF hb (fun H hO hS=>hsp w H a ns ts hlen hO hS) fun H e s'=>hCX w H s₁ e s';obtain⟨hk,y,c,hy,e⟩:=ht b hb';obtain⟨r,hr'⟩:=hD y hy;obtain⟨C,hP⟩:=PySem.W.tab_of G.T KX hr' e;exact⟨hP,hk,(C.tab hP).isCodeTable⟩
open PySem.W (kla_fn kla_obj envX tabObj CodeHd)
structure zgo(x y:Str)(sc:Scope):Prop where
 kind:sc.kind=.function
 co:sc.isCoroutine=false
 gen:sc.isGenerator=false
 par:sc.names.lookup x=some .local
 cap:sc.names.lookup y=some .free
 nocell:∀z,z∈sc.names->z.2≠.cell
 free:∀z,z∈sc.names->z.2=.free->z.1=y
def zo8(P:pA)(w:pR)(K:kM)(mg:Str->Option kB)(base:Heap)(x y:Str)(qual:Str)(sc:Scope)(f:Addr)(cd:kB)(c:Addr)(A:pj)(outer:List Env)(s:kC)(H:Hp):Cx where
 prog:=P
 w:=w
 K:=K
 mg:=mg
 base:=base
 A:=A.deeper (envX qual sc s.heap.objs.size f cd [(y,c)])
 N:=[x,y]
 s₀:=s
 H₀:=H
 env:=envX qual sc s.heap.objs.size f cd [(y,c)]
 outer:=outer
 stack:=envX qual sc s.heap.objs.size f cd [(y,c)]::outer
 ex:=[]
 calm:=true
 fn:=fun _=>false
 pn:=[]
 xe:=fun _ _=>False
theorem zex{y z:Str}{c d:Addr}(h:([(y,c)]:List (Str×Addr)).lookup z=some d):z=y/\d=c:=by
 rw[uQ] at h
 by_cases e:z=y
 ·subst e;rw[beq_self_eq_true] at h
  cases h;exact⟨rfl,rfl⟩
 ·rw[beq_eq_false_iff_ne.mpr e] at h
  cases h
theorem zgy(y:Str)(c:Addr):([(y,c)]:List (Str×Addr)).lookup y=some c:=by rw[uQ,beq_self_eq_true]
theorem inv_lam{P:pA}{w:pR}{K:kM}{mg:Str->Option kB}{base:Heap}{x y qual:Str}{sc:Scope}{f c:Addr}{cd:kB}{A:pj}{outer:List Env}{s:kC}{H:Hp}{u uy:kB}{v vy:V}{h₁:Heap}{tk:Nat}
  (S:zgo x y sc)(hd:A.handled=none)(e0:Env0 P w K mg base A outer s H)(ru:RelV v u)(ry:RelV vy uy)(hc:s.heap.IsCell c (some uy))(hcn:H c=none)
  (hns:h₁.Ns s.heap.objs.size (fun z=>([(x,u)]:List (Str×kB)).reverse.lookup z))(hk:∀b o,s.heap.get? b=some o->h₁.get? b=some o):
  Inv (zo8 P w K mg base x y qual sc f cd c A outer s H) [] [some v,some vy] H {s with heap:=h₁,toks:=tk}:=by
 have noA:∀b:Addr,b∉(zo8 P w K mg base x y qual sc f cd c A outer s H).ex:=fun b z=>absurd (show b∈([]:List Addr) from z) (by simp)
 refine⟨⟨e0.mod,S.kind,rfl,rfl,kG _,fun y1 z1 d h1 h2=>?_,fun z hz=>?_,fun z d hf _=>?_,fun _=>hd,BD e0.frames,.inr ⟨rfl,rfl⟩,fun b z=>absurd z (noA b),e0.bs,e0.bsz,fun b _ _=>noA b,fun b z=>absurd z (noA b),e0.funs,e0.frf⟩,
  rfl,e0.bare,Un.kept hk,⟨_,hns,fun i z v' h1 h2 h3=>?_⟩,fun z d h=>?_,e0.hok.fresh (kG _),fun z d h=>?_,fun p hp=>absurd (show p∈([]:List (Addr×Obj)) from hp) (by simp),e0.hok.kept hk,rfl⟩
 ·exact(zex h1).1.trans (zex h2).1.symm
 ·have hz:sc.names.lookup z=some .cell∨sc.names.lookup z=some .free:=hz;rcases hz with hz|hz
  ·exact absurd rfl (S.nocell _ (uP hz))
  ·have e:=S.free _ (uP hz) rfl;have e:z=y:=e;subst e;exact⟨c,zgy _ _⟩
 ·cases hf
 ·match i,h1,h2 with
  |0,h1,h2=>
   cases h1
   cases h2;refine⟨u,ru,.inl ⟨S.par,?_⟩⟩;show([(x,u)]:List (Str×kB)).reverse.lookup x=some u
   simp
  |1,h1,h2=>
   cases h1
   cases h2;obtain⟨o,ho,hd'⟩:=hc;exact⟨uy,ry,.inr ⟨.inr S.cap,c,zgy _ _,o,hk _ _ ho,hd'⟩⟩
 ·obtain⟨_,rfl⟩:=zex h;obtain⟨o,ho,hd'⟩:=hc;exact⟨_,o,hk _ _ ho,hd'⟩
 ·obtain⟨_,rfl⟩:=zex h;exact hcn
section
variable{X:Cx}{pins:List (Addr×Obj)}{σ:St}{H:Hp}{s:kC}
theorem lam_run{A:pj}{k:Nat}{x y name qual:Str}{params:AH}{body:Expr}{sc:Scope}{fa c c':Addr}{pm ctv u uy:kB}{v vy:V}{te:TE}{Q:VK}(I:Inv X pins σ H s)
  (e0:Env0 X.prog X.w X.K X.mg X.base A X.stack s H)(hr:Room k A)(S:zgo x y sc)(ho:s.heap.get? fa=some (kla_obj name qual params body sc [(y,c)] pm c' ctv))(hcd:s.heap.CodeRec (.ref c') qual)
  (hb:Bv (kla_fn name qual params body sc [(y,c)] pm (.ref c') ctv) ⟨[u],[]⟩=pure [(x,u)])(ru:RelV v u)(ry:RelV vy uy)(hc:s.heap.IsCell c (some uy))(hcn:H c=none)
  (hbody:PE (zo8 X.prog X.w X.K X.mg X.base x y qual sc fa (.ref c') c A X.stack s H) body te)(q:te [some v,some vy] H Q):
  wpAny (model X.prog X.w) A (call (.ref fa) [u]) (EP X pins σ Q) (fun _ _=>False) s:=by
 refine wpAny_call (AZ (R:=CR CX0 X.stack X.prog X.w H s Q E0) ?_ fun r s' hq=>?_)
 ·refine PySem.W.kla_callFunE hr.depth ho rfl S.co S.gen rfl hcd ?_;rw[hb];refine kL (BF S.nocell (fun z hz=>?_) (fun h₁ hns hsb=>⟨I.nolimit.fresh _ hsb,?_⟩) S.kind)
  ·rw[kX] at hz;rw[hz];exact S.par
  ·show ju _ _ (.expr body (envX qual sc s.heap.objs.size fa (.ref c') [(y,c)])) _ _
   have kp:∀d u,s.heap.get? d=some u->h₁.get? d=some u:=fun d u z=>hsb.extBut d u (pd (pB z)) (kT _ z);have J:=inv_lam (tk:=s.toks+1) (f:=fa) (qual:=qual) (cd:=.ref c') S hr.hd e0 ru ry hc hcn hns kp;refine PySem.W.kla_codeExpr (uv (hbody [] _ _ H Q J q) (fun r s' hs=>?_) fun e s' hs=>hs.elim);obtain⟨v',H',J',r',q'⟩:=hs;exact⟨v',H',J'.os,J'.bare,J'.base,J'.hok,r',q'⟩
 ·cases r with
  |error e=>exact hq.elim
  |ok fl=>
   cases fl with
   |ret u=>exact I.after hq
   |next=>exact QQ hq
   |brk=>exact QQ hq
   |cont=>exact QQ hq
end
open PySem.W (kla_fn kla_obj envX tabObj CodeHd)
def zj3(c:Addr)(q:Str):HO:=.ext fun h=>h.CodeRec (.ref c) q
def zd2(H:Hp)(P:Addr)(pos:Pos)(q:Str):Prop:=∃ps,H P=some (.tbl ps)/\TriplesOk ps.toList/\(codeAmong pos ps.toList=none∨∃c,codeAmong pos ps.toList=some (.ref c)/\H c=some (zj3 c q))
def zb9(P:Addr)(H H':Hp):Prop:=∀b o,b≠P->H b=some o->H' b=some o
theorem zb9.refl(P:Addr)(H:Hp):zb9 P H H:=fun _ _ _ h=>h
theorem zb9.of{P:Addr}{H H':Hp}(g:Same H H'):zb9 P H H':=fun b o _ h=>g b o h
theorem zb9.trans{P:Addr}{H H1 H2:Hp}(a:zb9 P H H1)(b:zb9 P H1 H2):zb9 P H H2:=fun c o n h=>b c o n (a c o n h)
theorem zd2.same{H H':Hp}{P:Addr}{pos:Pos}{q:Str}(h:zd2 H P pos q)(g:Same H H'):zd2 H' P pos q:=by
 obtain⟨ps,e,t,z⟩:=h;refine⟨ps,g _ _ e,t,?_⟩;rcases z with z|⟨c,z,y⟩
 ·exact .inl z
 ·exact .inr ⟨c,z,g _ _ y⟩
section
variable{X:Cx}{pins:List (Addr×Obj)}{σ:St}{H:Hp}{s:kC}
theorem lam_make{params:AH}{body:Expr}{sc:Scope}{pos:Pos}{c0 P:Addr}{clos:List (Str×Addr)}{Q:kB->kC->Prop}(I:Inv X pins σ H s)(hcode:X.env.code=.ref c0)(C:CodeHd X.base c0 P)(hB:X.base.BuiltinsAt X.mg P)
  (hcl:Bj sc X.env=pure clos)(hdef:defaultsOf params X.env=([],[]))(ht:zd2 H P pos (X.env.qual++"<lambda>"))
  (q:∀(fa c':Addr)(ctv:kB)(H':Hp)(s':kC),Inv X pins σ H' s'->zb9 P H H'->zd2 H' P pos (X.env.qual++"<lambda>")->s'.heap.get? fa=some (kla_obj "<lambda>" (X.env.qual++"<lambda>") params body sc clos ((X.mg "__name__").getD .none) c' ctv)->
   H' c'=some (zj3 c' (X.env.qual++"<lambda>"))->FpOk X pins H' fa->Q (.ref fa) s'):
  wpAny (model X.prog X.w) X.A (eval (.Lambda params body sc pos) X.env) Q X.xe s:=by
 obtain⟨ps,hP,tr,alt⟩:=ht;have hPh:s.heap.get? P=some (tabObj ps):=I.hok P _ hP;have kb:=I.bk;have hg:s.heap.Ns kY X.mg:=I.ok.mod.glob.keeps kb;have Cs:=C.keeps kb;have Bs:s.heap.BuiltinsAt X.mg P:=by
  obtain⟨bm,o,b1,b2,b3,b4,b5,b6⟩:=hB;exact⟨bm,o,b1,b2,b3,b4,kb _ _ b5,b6⟩
 have neG:kY≠P:=fun z=>by
  obtain⟨o,es,ep,e,hd,_⟩:=hg;rw[z,hPh] at e;cases e;cases hd
 refine PySem.W.kla_eval hdef ?_;rcases alt with hn|⟨c',hf,hc'⟩
 ·refine PySem.W.kla_makeFunction hcl I.ok.glob hg hcode Cs hPh tr hn neG Bs fun c' ctv h' tk hx hge hlt hrec htb=>?_;have neC:∀b u,H b=some u->b≠c':=fun b u e z=>by
   rw[z,I.hok.fresh hge] at e;cases e
  have nP:∀b,H b=none->b≠P:=fun b n z=>by rw[z,hP] at n;cases n
  have cP:c'≠P:=fun z=>by rw[←z,I.hok.fresh hge] at hP;cases hP
  have keep:∀b o,b≠P->s.heap.get? b=some o->(h'.push (kla_obj "<lambda>" (X.env.qual++"<lambda>") params body sc clos ((X.mg "__name__").getD .none) c' ctv)).get? b=some o:=fun b o n e=>kT _ (hx b o n e);have hP':=kT (kla_obj "<lambda>" (X.env.qual++"<lambda>") params body sc clos ((X.mg "__name__").getD .none) c' ctv) htb;have upP:∀b u,b≠P->H b=some u->upd (upd H P (.tbl (ps++#[UW pos.line,UW pos.col,.ref c']))) c' (zj3 c' (X.env.qual++"<lambda>")) b=some u:=fun b u n e=>by rw[za7 (neC b u e),za7 n];exact e
  have up0:upd (upd H P (.tbl (ps++#[UW pos.line,UW pos.col,.ref c']))) c' (zj3 c' (X.env.qual++"<lambda>")) P=some (.tbl (ps++#[UW pos.line,UW pos.col,.ref c'])):=by rw[za7 cP.symm,upd_same]
  have J:Inv X pins σ (upd (upd H P (.tbl (ps++#[UW pos.line,UW pos.col,.ref c']))) c' (zj3 c' (X.env.qual++"<lambda>"))) {s with heap:=h'.push (kla_obj "<lambda>" (X.env.qual++"<lambda>") params body sc clos ((X.mg "__name__").getD .none) c' ctv),toks:=tk}:=by
   refine I.step (g':=s.gens) (d':=s.drawn) (ch:=[]) (fun _ z=>nomatch z) (fun b o _ _ _ e n=>keep b o (nP b n) e) (fun b o _ _ _ e n=>⟨o.slots,keep b o (nP b n) e⟩) (fun b o _ e n=>?_) (fun b o _ e=>?_) (fun b xs e=>?_) (fun b o u e=>?_) (fun b qs e=>?_) (fun m hm=>?_) (fun b u e=>?_) I.bare
   ·rw[za7 (pd (ku (pB e) hge)),za7 (nP b n)];exact n
   ·by_cases z:b=P
    ·exact⟨_,z▸hP'⟩
    ·exact⟨o,keep b o z e⟩
   ·exact upP b _ (fun z=>by rw[z,hP] at e;cases e) e
   ·exact upP b _ (fun z=>by rw[z,hP] at e;cases e) e
   ·by_cases z:b=P
    ·subst z;rw[hP] at e
     cases e;exact⟨_,up0⟩
    ·exact⟨#[],by rw[upP b _ z e];simp⟩
   ·obtain⟨o,es,ep,ho,r⟩:=hm;exact⟨o,es,ep,keep _ o (nP _ I.free) ho,r⟩
   ·by_cases z:b=c'
    ·subst z;rw[upd_same] at e
     cases e;have hr2:=hrec.push (kla_obj "<lambda>" (X.env.qual++"<lambda>") params body sc clos ((X.mg "__name__").getD .none) b ctv);obtain⟨c2,oc,vs,t,e2,hoc,hd,hv⟩:=id hr2
     cases e2;refine⟨hr2,⟨oc,hoc⟩,fun h1 h2 ph k=>?_⟩;obtain⟨c3,oc3,vs3,t3,e3,hoc3,hd3,hv3⟩:=ph
     cases e3;exact⟨_,oc3,vs3,t3,rfl,k _ hoc3,hd3,hv3⟩
    ·rw[za7 z] at e
     by_cases y:b=P
     ·subst y;rw[upd_same] at e
      cases e;exact hP'
     ·rw[za7 y] at e;refine(I.hok b u e).stay (fun d v hd hv=>keep d v ?_ hv) (fun d hd=>?_) fun d xs hd=>?_
      ·rcases hd with rfl|hd
       ·exact y
       ·intro z';rw[z',hP] at hd;cases hd
      ·exact upP d _ (fun z'=>by rw[z',hP] at hd;cases hd) hd
      ·exact upP d _ (fun z'=>by rw[z',hP] at hd;cases hd) hd
  refine q h'.objs.size c' ctv _ _ J (fun b o n e=>upP b o n e) ⟨_,up0,?_,.inr ⟨c',?_,upd_same⟩⟩ (pM _ rfl) upd_same ?_
  ·rw[pX];exact TriplesOk_snoc _ _ _ _ tr
  ·rw[pX];exact codeAmong_snoc _ tr hn
  ·have hsz:s.heap.objs.size<=h'.objs.size:=pL hge (uq hlt);have nf:upd (upd H P (.tbl (ps++#[UW pos.line,UW pos.col,.ref c']))) c' (zj3 c' (X.env.qual++"<lambda>")) h'.objs.size=none:=by
    rw[za7 (AY hlt),za7]
    ·exact I.hok.fresh hsz
    ·intro z;rw[←z,I.hok.fresh hsz] at hP
     cases hP
   exact I.fpOk hsz nf
 ·have hrec:s.heap.CodeRec (.ref c') (X.env.qual++"<lambda>"):=(I.hok c' _ hc').1;refine PySem.W.kla_makeFunctionHit hcl I.ok.glob hg hcode Cs hPh tr hf Bs fun ctv h' tk hk hsz=>?_;have J:Inv X pins σ H {s with heap:=h'.push {cls:=.type "function",data:=.func (kla_fn "<lambda>" (X.env.qual++"<lambda>") params body sc clos ((X.mg "__name__").getD .none) (.ref c') ctv)},toks:=tk}:=I.kept fun b o e=>kT _ (hk b o e);exact q h'.objs.size c' ctv H _ J (.refl P H) ⟨ps,hP,tr,.inr ⟨c',hf,hc'⟩⟩ (pM _ rfl) hc' (I.fpOk hsz (I.hok.fresh hsz))
end
open PySem.W (KasT kas_sort kas_ask kas_item)
section
variable{prog:pA}{w:pR}{A:pj}{E:kB->kC->Prop}{s:kC}{vs ks:List kB}{g:Heap}{a kS:Addr}{e e1:Nat}{f:kB}
def KeyFin(prog:pA)(w:pR)(A:pj)(a kS:Addr)(e1:Nat)(vs ks:List kB)(P:vn->kC->Prop)(s:kC):Prop:=
 s.heap.get? a=some (pP "list" #[] e1)/\∃(κ:UO)(ans:Nat->Nat->Bool),
  (2<=vs.length->∀Q':UO->kC->Prop,Q' κ s->wpAny (model prog w) A (BI ks.toArray) Q' (fun _ _=>False) s)/\
  (2<=vs.length->∀i j C,i<vs.length->j<vs.length->C (ans i j) s->kas_ask prog w A κ ks i j C s)/\
  ∀p:Array Nat,Ord vs.length p->(2<=vs.length->p=ansT ans (kas_sort vs.length))->P (.done (.ret .none)) {s with heap:=(s.heap.update kS (pQ fun _=>(#[]:Array kB))).update a (pQ fun _=>Qa (p.toList.map fun i=>vs.getD i ue))}
theorem zhm{st:ud}{p:Array Nat}{P:vn->kC->Prop}(hs:(arrOf st).map (·.2)=Qa (p.toList.map fun i=>vs.getD i ue))(hf:vZ st=none)(hz:p.size=vs.length)(h64:vs.length<64)(hkl:ks.length<64)(nak:a≠kS)
  (hk:s.heap.get? kS=some (pP "list" ks.toArray e))(ha:s.heap.get? a=some (pP "list" #[] e1))
  (q:P (.done (.ret .none)) {s with heap:=(s.heap.update kS (pQ fun _=>(#[]:Array kB))).update a (pQ fun _=>Qa (p.toList.map fun i=>vs.getD i ue))}):
  wpAny (model prog w) A (ksk_tail a false e1 (.ref kS) st) P E s:=by
 have ha2:(s.heap.update kS (pQ fun _=>(#[]:Array kB))).get? a=some (pP "list" #[] e1):=by rw[uw _ _ _ _ nak];exact ha
 have hsz:(Qa (p.toList.map fun i=>vs.getD i ue)).size=vs.length:=by simp[hz]
 unfold ksk_tail;dsimp only;rw[hs];refine kA (Ut hk rfl ?_ (by rw[pE,gY];omega) (pY _))
 refine kA (jh ?_);refine kA (gc ha2 rfl ?_);refine kA (Ut ha2 rfl ?_ (pY _) (by simp only[pF,if_false];rw[hsz,gY];omega))
 rw[hf];simp only[bne_self_eq_false,pF,if_false];exact kL q
theorem zqf{P:vn->kC->Prop}(hl:ks.length=vs.length)(h64:vs.length<64)(nak:a≠kS)(hk:s.heap.get? kS=some (pP "list" ks.toArray e))(h:KeyFin prog w A a kS e1 vs ks P s):
  wpAny (model prog w) A (ksk_end a false vs.toArray e1 (.ref kS) ks.toArray) P E s:=by
 obtain⟨ha,κ,ans,hkind,hask,q⟩:=h;have z0:vs.toArray.size=vs.length:=rfl;unfold ksk_end;dsimp only;simp only[pF,if_false]
 by_cases h2:vs.length<2
 ·rw[z0,if_pos h2,if_pos h2,DT];rw[Ct];refine kA (kL ?_);refine zhm (p:=Qa (kc vs.length)) ?_ rfl (by simp) h64 (by omega) nak hk ha (q _ (by unfold Ord;simp) fun z=>absurd h2 (Nat.not_lt.mpr z))
  show(ks.toArray.zip vs.toArray).map (·.2)=_
  rw[show(Qa (kc vs.length)).toList=kc vs.length from rfl,znm]
  apply AK.mp
  simp[CS,hl]
 ·have h2':2<=vs.length:=by omega
  rw[z0,if_neg h2,if_neg h2];refine kA (uv (hkind h2' (fun κ' s'=>κ'=κ/\s'=s) ⟨rfl,rfl⟩) (fun κ' s' hs=>?_) fun _ _ z=>z.elim);obtain⟨rfl,rfl⟩:=hs;have run:=Asks.wp (R:=Ord vs.length) (Q:=fun p s''=>s''=s'/\Ord vs.length p/\p=ansT ans (kas_sort vs.length)) (fun i j C hi hj=>hask h2' i j C hi hj) (zja (by omega)) ⟨rfl,Asks.ends (zja (by omega)),rfl⟩
  refine kA (uv (PySem.W.kat_run (E:=E) (ks:=ks) (vs:=vs) (Q:=fun st s''=>∃p:Array Nat,p.size=vs.length/\arrOf st=p.map (kas_item (ks.toArray.zip vs.toArray))/\vZ st=none/\s''=s'/\Ord vs.length p/\p=ansT ans (kas_sort vs.length)) hl h2' h64 (fun p st s'' b1 b2 b3 b4=>⟨p,b1,b2,b3,b4⟩) run) ?_ fun _ _ z=>z);rintro⟨⟨⟩,st⟩ s'' ⟨p,hp,har,hf,rfl,or,ep⟩;exact zhm (PySem.W.kat_snds hl har) hf hp h64 (by omega) nak hk ha (q p or fun _=>ep)
structure zlo(prog:pA)(w:pR)(A:pj)(a kS:Addr)(e1:Nat)(f:kB)(vs:List kB)(P:vn->kC->Prop)(J:Nat->List kB->Nat->kC->Prop):Prop where
 store:∀i ks e s,J i ks e s->s.heap.get? kS=some (pP "list" ks.toArray e)/\ks.length=i
 turn:∀i x ks e s,vs[i]?=some x->J i ks e s->wpAny (model prog w) A (call f [x]) (fun k s'=>s'.heap.get? kS=some (pP "list" ks.toArray e)/\
  ∀c,(s'.heap.update kS (pQ (·.push k))).get? kS=some (pP "list" (ks++[k]).toArray c)->J (i+1) (ks++[k]) c {s' with heap:=s'.heap.update kS (pQ (·.push k))}) (fun _ _=>False) s
 fin:∀ks e s,J vs.length ks e s->KeyFin prog w A a kS e1 vs ks P s
theorem zhh{P:vn->kC->Prop}{J:Nat->List kB->Nat->kC->Prop}{body:kB->PUnit->Sem (ForInStep PUnit)}(R:zlo prog w A a kS e1 f vs P J)
  (hb:∀i x ks e(s:kC),vs[i]?=some x->J i ks e s->wpAny (model prog w) A (body x ⟨⟩) (fun r s'=>r=.yield ⟨⟩/\∃k c,J (i+1) (ks++[k]) c s') E s):
  ∀(r:List kB)(i:Nat)(ks:List kB)(e:Nat)(s:kC),i<=vs.length->vs.drop i=r->J i ks e s->wpAny (model prog w) A (forIn r Dn body) (fun _ s'=>∃ks e,J vs.length ks e s') E s
 |[],i,ks,e,s,hi,hr,h=>by
  rw[DH];have e0:i=vs.length:=Cu hi (BJ.mp hr);subst e0;exact kL ⟨ks,e,h⟩
 |x::r,i,ks,e,s,hi,hr,h=>by
  rw[Am];have hx:vs[i]?=some x:=by
   have z:=congrArg (fun l=>l[0]?) hr
   simpa[Uo] using z
  have hr2:vs.drop (i+1)=r:=by
   have z:=congrArg (List.drop 1) hr
   simpa[vG,Nat.add_comm] using z
  refine kA (uv (hb i x ks e s hx h) (fun q s' hq=>?_) fun _ _ z=>z);obtain⟨rfl,k,c,h2⟩:=hq;exact zhh R hb r (i+1) (ks++[k]) c s' (kH.mp hx).1 hr2 h2
theorem znh{P:vn->kC->Prop}{J:Nat->List kB->Nat->kC->Prop}(R:zlo prog w A a kS e1 f vs P J)(h64:vs.length<64)(nak:a≠kS)(h0:J 0 [] 0 s):
  wpAny (model prog w) A (ksk_rest a f false vs.toArray e1 (.ref kS)) P E s:=by
 unfold ksk_rest;refine kA (Qm ?_);rw[List.forIn_toArray];refine kA (uv (zhh R (fun i x ks e s' hx hJ=>?_) vs 0 [] 0 s (pY _) gB h0) (fun _ s' hd=>?_) fun _ _ z=>z)
 ·have hi:=(kH.mp hx).1;have hl:=(R.store i ks e s' hJ).2;refine kA (gz (uv (R.turn i x ks e s' hx hJ) (fun k s'' hk=>?_) fun _ _ hF=>hF.elim));obtain⟨hk1,hk2⟩:=hk;have pk:(Qa ks).push k=Qa (ks++[k]):=by rw[List.push_toArray]
  obtain⟨c2,hc2⟩:∃c2,(s''.heap.update kS (pQ (·.push k))).get? kS=some (pP "list" (Qa (ks++[k])) c2):=⟨_,by rw[←pk];exact vf hk1 (·.push k)⟩
  try dsimp only
  refine kA (Ut hk1 rfl ?_ (by rw[pE,gY];omega) (pL (QZ (Array.size_push ..)) (by rw[pE,gY];omega)))
  exact kL ⟨rfl,k,c2,hk2 c2 hc2⟩
 ·obtain⟨ks,e,hJ⟩:=hd;obtain⟨hk,hl⟩:=R.store _ _ _ _ hJ
  try dsimp only
  refine kA (QM hk rfl ?_);exact zqf hl h64 nak hk (R.fin ks e s' hJ)
theorem zn0{n:Nat}{P:vn->kC->Prop}(hg:Keeps g s.heap)(ga:g.objs.size<=a)(ho:s.heap.get? a=some (pP "list" vs.toArray n))(h64:vs.length<64)
  (h:∀kS e1 h',Keeps g h'->a<kS->h'.get? a=some (pP "list" #[] e1)->h'.get? kS=some (pP "list" #[] 0)->∃J,zlo prog w A a kS e1 f vs P J/\J 0 [] 0 {s with heap:=h'}):
  wpAny (model prog w) A (ksk_tree a f false) P E s:=by
 have zl:vs.length<=sizeLine:=pL (uq h64) (by decide)
 have k1:Keeps g (s.heap.update a (pQ fun _=>(#[]:Array kB))):=hg.upd ga;obtain⟨c1,o1⟩:∃c1,(s.heap.update a (pQ fun _=>(#[]:Array kB))).get? a=some (pP "list" #[] c1):=⟨_,vf ho _⟩;have k3:=(k1.push (pP "tuple" vs.toArray 0)).push (pP "list" #[] 0);have o3:=kT (pP "list" #[] 0) (kT (pP "tuple" vs.toArray 0) o1);have lt:a<((s.heap.update a (pQ fun _=>(#[]:Array kB))).push (pP "tuple" vs.toArray 0)).objs.size:=pB (kT _ o1);obtain⟨J,R,h0⟩:=h _ c1 _ k3 lt o3 (pM _ rfl);unfold ksk_tree;refine kA (QM ho rfl (kA (Ut ho rfl (kA (gc o1 rfl (kA (wpAny_newTuple (kA (jd (QD ?_) (pY _))) zl)))) zl (pY _))));exact znh (s:={s with heap:=((s.heap.update a (pQ fun _=>(#[]:Array kB))).push (pP "tuple" vs.toArray 0)).push (pP "list" #[] 0)}) R h64 (pd lt) h0
theorem zni{l fa:Addr}{Q:kB->kC->Prop}(hl:s.heap.IsList l vs.toArray)(h64:vs.length<64)
  (h:∀D kS e1 h',D=s.heap.objs.size+1->Keeps s.heap h'->D<kS->h'.get? D=some (pP "list" #[] e1)->h'.get? kS=some (pP "list" #[] 0)->∃J,zlo prog w A.in1.in1 D kS e1 (.ref fa) vs (fun r s'=>r=.done (.ret .none)->Q (.ref D) s') J/\J 0 [] 0 {s with heap:=h'}):
  wpAny (model prog w) A (call (.builtin "sorted") [.ref l] [(QN "key",.ref fa)]) Q E s:=by
 have zl:vs.length<=sizeLine:=pL (uq h64) (by decide)
 have k0:Keeps s.heap s.heap:=fun _ _ e=>e;have k2:=((k0.push (pP "list" #[] 0)).upd (a:=s.heap.objs.size) (f:=pQ (·++vs.toArray)) (kG _)).push (pP "list" vs.toArray 0);have z2:((s.heap.push (pP "list" #[] 0)).update s.heap.objs.size (pQ (·++vs.toArray))).objs.size=s.heap.objs.size+1:=by
  rw[CT,size_push']
 have o2:(((s.heap.push (pP "list" #[] 0)).update s.heap.objs.size (pQ (·++vs.toArray))).push (pP "list" vs.toArray 0)).get? (s.heap.objs.size+1)=some (pP "list" vs.toArray 0):=
  z2▸pM _ rfl
 refine call_function_entry_kw kind_sorted plain_sorted entry_sorted (ksk_s1 _ _) ?_;unfold jD.«sorted»;refine kA (m:=checkCount _ _ _ _) (kL (kA (collect_list hl (kA (jd ?_ zl)) zl)));rw[show(({s with heap:=(s.heap.push (pP "list" #[] 0)).update s.heap.objs.size (pQ (·++vs.toArray))}:kC).heap.objs.size)=s.heap.objs.size+1 from z2];refine kA (QD (wpAny_call_entry_kw slot_list_sort ⟨_,o2,rfl⟩ Cv ?body (ksk_l1 _ _)))
 case body=>
  show wpAny (model prog w) A.in1.in1 (jD.«list.sort» ⟨[.ref (s.heap.objs.size+1)],[(QN "key",.ref fa)]⟩) _ _ _
  rw[ksk_t1];refine uv (zn0 (s:={s with heap:=((s.heap.push (pP "list" #[] 0)).update s.heap.objs.size (pQ (·++vs.toArray))).push (pP "list" vs.toArray 0)}) (P:=fun r s'=>r=.done (.ret .none)/\(r=.done (.ret .none)->Q (.ref (s.heap.objs.size+1)) s')) k2 (jg _) o2 h64 fun kS e1 h' kk lt ha hk=>?_) (fun r s' hq=>?_) fun _ _ z=>z
  ·obtain⟨J,R,h0⟩:=h _ kS e1 h' rfl kk lt ha hk;refine⟨J,⟨R.store,R.turn,fun ks e s' hJ=>?_⟩,h0⟩;obtain⟨f1,κ,ans,f2,f3,f4⟩:=R.fin ks e s' hJ;exact⟨f1,κ,ans,f2,f3,fun p or ep=>⟨rfl,f4 p or ep⟩⟩
  ·obtain⟨rfl,hq⟩:=hq;exact⟨_,rfl,kL ⟨_,rfl,hq rfl⟩⟩
end
open PySem.W (kla_fn kla_obj envX tabObj CodeHd KasT kas_sort kas_ask)
open PySem.W (KatTups) in
theorem ktupsI{h:Heap}:∀vs:List kB,(∀v,v∈vs->∃a:Int×Int,TupI h v [a.1,a.2])->∃fs,fs.length=vs.length/\KatTups h vs fs/\∀f,f∈fs->∃n t,f=.int n t
 |[],_=>⟨[],rfl,.nil,fun f hf=>by cases hf⟩
 |v::vs,hv=>by
  obtain⟨fs,l,t,r⟩:=ktupsI vs fun u hu=>hv u (kI _ hu);obtain⟨a,p,its,n,dd,sl,rfl,o,i⟩:=hv v (po ..);obtain⟨u1,t1,e⟩:∃u1 t,its[0]?=some u1/\u1=.int a.1 t:=by
   rw[←UH]
   revert i
   generalize its.toList=l;intro i
   cases i with
   |cons k t r=>exact⟨_,t,rfl,rfl⟩
  refine⟨u1::fs,by simp[l],.cons o rfl rfl e.1 t,fun f hf=>?_⟩
  rcases kg.mp hf with rfl|hf
  ·exact⟨_,t1,e.2⟩
  ·exact r f hf
section
variable{X:Cx}{pins:List (Addr×Obj)}{σ:St}{H:Hp}{s:kC}
theorem Inv.track{D:Addr}{h':Heap}{xs:List V}{its:List kB}{n:Nat}{t':Nat}(I:Inv X pins σ H s)(hf:FpOk X pins H D)(k:∀b o,b≠D->s.heap.get? b=some o->h'.get? b=some o)
  (hz:xs.length<=sizeLine)(r:Vals xs its)(ho:h'.get? D=some {cls:=.type "list",data:=.seq its.toArray n}):Inv X pins σ (upd H D (.lst xs)) {s with heap:=h',toks:=t'}:=by
 obtain⟨f0,f1,f2,f3,f4,f5⟩:=hf;have nD:∀b u,H b=some u->b≠D:=fun b u e z=>by rw[z,f0] at e;cases e
 refine I.step (g':=s.gens) (d':=s.drawn) (ch:=[D]) (fun b hb=>?_) (fun b o _ _ hc e _=>k b o (fun z=>hc (by simp[z])) e) (fun b o _ _ hc e _=>⟨o.slots,k b o (fun z=>hc (by simp[z])) e⟩) (fun b o hc _ n=>by rw[za7 fun z=>hc (by simp[z])];exact n)
  (fun b o hc e=>⟨o,k b o (fun z=>hc (by simp[z])) e⟩) (fun b xs e=>by rw[za7 (nD b _ e)];exact e) (fun b o u e=>by rw[za7 (nD b _ e)];exact e) (fun b ps e=>⟨#[],by rw[za7 (nD b _ e),e];simp⟩) (fun m hm=>?_) (fun b u e=>?_) I.bare
 ·have e:b=D:=by simpa using hb
  subst e;exact⟨f3,f1,f4,f5⟩
 ·obtain⟨o,es,ep,ho,r⟩:=hm;exact⟨o,es,ep,k _ o f1.symm ho,r⟩
 ·by_cases z:b=D
  ·subst z;rw[upd_same] at e
   cases e;exact⟨hz,its,n,r,ho⟩
  ·rw[za7 z] at e;refine(I.hok b u e).stay (fun c v hc q=>k c v ?_ q) (fun c q=>by rw[za7 (nD c _ q)];exact q) fun c xs q=>by rw[za7 (nD c _ q)];exact q
   rcases hc with rfl|hc
   ·exact z
   ·exact nD c _ hc
theorem cell_of{y:Str}{c:Addr}{i:Nat}{vy:V}(I:Inv X pins σ H s)(hN:X.N[i]?=some y)(hσ:σ[i]?=some (some vy))(hk:X.env.scope.names.lookup y=some .cell)(hc:X.env.cells.lookup y=some c):∃u,RelV vy u/\s.heap.IsCell c (some u):=by
 obtain⟨m,hn,hl⟩:=I.loc;obtain⟨u,r,l⟩:=hl i y vy hN hσ (.inr (.inl hk));refine⟨u,r,?_⟩;rcases l with⟨l,_⟩|⟨_,c',e,z⟩
 ·have l:X.env.scope.names.lookup y=some .local:=l;rw[hk] at l
  cases l
 ·rw[hc] at e
  cases e;exact z
end
open PySem.W (kla_fn kla_obj envX tabObj CodeHd KasT kas_sort kas_ask)
abbrev KPT:=Hp->List V->(Nat->Nat->Bool)->Prop
def KeyKP(X:Cx)(KP:KPT):Prop:=∀(pins:List (Addr×Obj))(σ:St)(H:Hp)(s:kC)(zs:List V)(ks:List kB)(ans:Nat->Nat->Bool),Inv X pins σ H s->Vals zs ks->KP H zs ans->∃κ:UO,
 (2<=ks.length->∀Q':UO->kC->Prop,Q' κ s->wpAny (model X.prog X.w) X.A.in1.in1 (BI ks.toArray) Q' (fun _ _=>False) s)/\(2<=ks.length->∀i j C,i<ks.length->j<ks.length->C (ans i j) s->kas_ask X.prog X.w X.A.in1.in1 κ ks i j C s)
structure KeyR(KP:KPT)(te:TE)(vy:V)(c':Addr)(q:Str)(vs:List V)(H:Hp)(Q:VK)(Pv:Nat->List V->Hp->Prop):Prop where
 start:Pv 0 [] H
 code:∀i zs H',Pv i zs H'->H' c'=some (zj3 c' q)
 len:∀i zs H',Pv i zs H'->zs.length=i
 turn:∀i zs H' v,vs[i]?=some v->Pv i zs H'->te [some v,some vy] H' fun k H''=>Pv (i+1) (zs++[k]) H''
 fin:∀zs H',Pv vs.length zs H'->∃ans,KP H' zs ans/\∀D p,H' D=none->Ord vs.length p->(2<=vs.length->p=ansT ans (kas_sort vs.length))->Q (.ref D) (upd H' D (.lst (p.toList.map fun i=>vs.getD i .non)))
section
variable{X:Cx}{pins:List (Addr×Obj)}{σ:St}{H:Hp}{s:kC}
theorem vals_get?{xs:List V}{us:List kB}(r:Vals xs us){i:Nat}{u:kB}(h:us[i]?=some u):∃v,xs[i]?=some v/\RelV v u:=by
 have hi:i<us.length:=(kH.mp h).1;have hx:i<xs.length:=by rw[r.length];exact hi
 refine⟨xs[i],kR hx,?_⟩;have z:=zi7 r i hx;have e1:xs.getD i .non=xs[i]:=by simp[hx]
 have e2:us.getD i ue=u:=by rw[kZ,h];rfl
 rw[e1,e2] at z;exact z
theorem zk6:∀{xs:List V}{us:List kB}{v:V}{u:kB},Vals xs us->RelV v u->Vals (xs++[v]) (us++[u])
 |_,_,_,_,.nil,r=>.cons r .nil
 |_,_,_,_,.cons a t,r=>.cons a (zk6 t r)
theorem zq1{KP:KPT}{k i0:Nat}{x y ql:Str}{params:AH}{body:Expr}{sc:Scope}{fa c c' l:Addr}{pm ctv:kB}{vy:V}{vs:List V}{te:TE}{Q:VK}{Pv:Nat->List V->Hp->Prop}(I:Inv X pins σ H s)(hKP:KeyKP X KP)(hr:Room (k+2) X.A)(S:zgo x y sc)
  (hN:X.N[i0]?=some y)(hσ:σ[i0]?=some (some vy))(hk:X.env.scope.names.lookup y=some .cell)(hcl:X.env.cells.lookup y=some c)(hfa:FpOk X pins H fa)(hfo:s.heap.get? fa=some (kla_obj "<lambda>" ql params body sc [(y,c)] pm c' ctv))
  (hbind:∀u,Bv (kla_fn "<lambda>" ql params body sc [(y,c)] pm (.ref c') ctv) ⟨[u],[]⟩=pure [(x,u)])(hbody:∀(A:pj)(s:kC)(H:Hp),A.units+64<cLine->PE (zo8 X.prog X.w X.K X.mg X.base x y ql sc fa (.ref c') c A X.stack s H) body te)
  (hl:H l=some (.lst vs))(h64:vs.length<64)(R:KeyR KP te vy c' ql vs H Q Pv):wpAny (model X.prog X.w) X.A (call (.builtin "sorted") [.ref l] [(QN "key",.ref fa)]) (EP X pins σ Q) X.xe s:=by
 obtain⟨its,rv,pl,hz⟩:=I.list (.of hl);have len:vs.length=its.length:=rv.length;have un:=hr.un;refine zni (vs:=its) pl.isList (by omega) fun D kS e1 h' eD kk lt hD hkS=>?_
 have sD:s.heap.objs.size<=D:=by omega
 have sK:s.heap.objs.size<=kS:=by omega
 have fD:=I.fpOk sD (I.hok.fresh sD);have fK:=I.fpOk sK (I.hok.fresh sK);have faD:fa≠D:=pd (ku (pB hfo) sD);have faK:fa≠kS:=pd (ku (pB hfo) sK);have DK:D≠kS:=pd lt;have nseq:∀(b:Array kB)(m:Nat)(v:Option kB),(pP "list" b m).data≠.cell v:=fun b m v z=>nomatch (show Data.seq b m=DR v from z);have nfun:∀v,(kla_obj "<lambda>" ql params body sc [(y,c)] pm c' ctv).data≠.cell v:=fun v z=>nomatch (show Data.func _=DR v from z);have pin3:∀{ks:List kB}{e:Nat}{H':Hp}{s':kC},Inv X pins σ H' s'->H' fa=none->H' D=none->H' kS=none->s'.heap.get? fa=some (kla_obj "<lambda>" ql params body sc [(y,c)] pm c' ctv)->s'.heap.get? D=some (pP "list" #[] e1)->s'.heap.get? kS=some (pP "list" ks.toArray e)->
   Inv X (pins++[(fa,kla_obj "<lambda>" ql params body sc [(y,c)] pm c' ctv),(D,pP "list" #[] e1),(kS,pP "list" ks.toArray e)]) σ H' s':=fun{ks e H' s'} J n1 n2 n3 o1 o2 o3=>by
  refine J.pins_of fun p hp=>?_;rcases ke.mp hp with hp|hp
  ·exact J.pin p (ki _ hp)
  ·simp only[kg,UC,or_false] at hp;rcases hp with rfl|rfl|rfl
   ·exact⟨o1,n1,hfa.2.1,hfa.2.2.1,nfun⟩
   ·exact⟨o2,n2,fD.2.1,fD.2.2.1,nseq _ _⟩
   ·exact⟨o3,n3,fK.2.1,fK.2.2.1,nseq _ _⟩
 have of3:∀{ks:List kB}{e:Nat}{H':Hp}{s':kC},Inv X (pins++[(fa,kla_obj "<lambda>" ql params body sc [(y,c)] pm c' ctv),(D,pP "list" #[] e1),(kS,pP "list" ks.toArray e)]) σ H' s'->
   Inv X pins σ H' s'/\(H' fa=none/\H' D=none/\H' kS=none)/\s'.heap.get? fa=some (kla_obj "<lambda>" ql params body sc [(y,c)] pm c' ctv)/\s'.heap.get? D=some (pP "list" #[] e1)/\s'.heap.get? kS=some (pP "list" ks.toArray e):=fun{ks e H' s'} J=>by
  have p1:=J.pin (fa,kla_obj "<lambda>" ql params body sc [(y,c)] pm c' ctv) (ki _ (ki _ (by simp)))
  have p2:=J.pin (D,pP "list" #[] e1) (ki _ (ki _ (by simp)))
  have p3:=J.pin (kS,pP "list" ks.toArray e) (ki _ (ki _ (by simp)))
  exact⟨J.unpinned,⟨p1.2.1,p2.2.1,p3.2.1⟩,p1.1,p2.1,p3.1⟩
 refine⟨fun i ks e s'=>∃H' zs,Inv X (pins++[(fa,kla_obj "<lambda>" ql params body sc [(y,c)] pm c' ctv),(D,pP "list" #[] e1),(kS,pP "list" ks.toArray e)]) σ H' s'/\Vals zs ks/\Pv i zs H',⟨fun i ks e s' hJ=>?_,fun i u ks e s' hu hJ=>?_,fun ks e s' hJ=>?_⟩,H,[],?_,.nil,R.start⟩
 ·obtain⟨H',zs,J,r,p⟩:=hJ;exact⟨(of3 J).2.2.2.2,by rw[←r.length];exact R.len _ _ _ p⟩
 ·obtain⟨H',zs,J,r,p⟩:=hJ;obtain⟨J0,⟨n1,n2,n3⟩,o1,o2,o3⟩:=of3 J;obtain⟨v,hv,ru⟩:=vals_get? rv hu;obtain⟨uy,ry,hcell⟩:=cell_of J hN hσ hk hcl;have hcd:s'.heap.CodeRec (.ref c') ql:=(J.hok c' _ (R.code _ _ _ p)).1;refine uv (lam_run J J.env0.in1.in1 (hr.in1.in1) S o1 hcd (hbind u) ru ry hcell (J.freeC _ _ hcl) (hbody _ s' H' (by show X.A.units+1+1+64<cLine;omega)) (R.turn i zs H' v hv p)) (fun u' s'' hs=>?_) fun _ _ z=>z
  obtain⟨kv,H'',J',rk,p'⟩:=hs;obtain⟨J1,⟨m1,m2,m3⟩,q1,q2,q3⟩:=of3 J';refine⟨q3,fun c2 hc2=>⟨H'',zs++[kv],?_,zk6 r rk,p'⟩⟩;have J2:Inv X pins σ H'' {s'' with heap:=s''.heap.update kS (pQ (·.push u')),toks:=s''.toks}:=J1.turned (it:=kS) (fun b o hb e=>by rw[uw _ _ _ _ hb];exact e) m3 fK.2.1 fK.2.2.2.1 fK.2.2.2.2.1 fK.2.2.2.2.2
  exact pin3 J2 m1 m2 m3 (by show(s''.heap.update kS _).get? fa=_;rw[uw _ _ _ _ faK];exact q1) (by show(s''.heap.update kS _).get? D=_;rw[uw _ _ _ _ DK];exact q2) hc2
 ·obtain⟨H',zs,J,r,p⟩:=hJ;obtain⟨J0,⟨n1,n2,n3⟩,o1,o2,o3⟩:=of3 J;rw[←len] at p;obtain⟨ans,ok,q⟩:=R.fin zs H' p;have zl:=R.len _ _ _ p;have kl:ks.length=its.length:=by rw[←r.length,zl,len]
  obtain⟨κ,k1,k2⟩:=hKP _ _ _ _ _ _ _ J0 r ok;rw[kl] at k1 k2;refine⟨o2,κ,ans,k1,k2,fun pm' or ep _=>?_⟩
  ·have J2:Inv X pins σ H' {s' with heap:=s'.heap.update kS (pQ fun _=>(#[]:Array kB)),toks:=s'.toks}:=J0.turned (it:=kS) (fun b o hb e=>by rw[uw _ _ _ _ hb];exact e) n3 fK.2.1 fK.2.2.2.1 fK.2.2.2.2.1 fK.2.2.2.2.2
   have o4:(s'.heap.update kS (pQ fun _=>(#[]:Array kB))).get? D=some (pP "list" #[] e1):=by rw[uw _ _ _ _ DK];exact o2
   rw[←len] at or ep;have lo:pm'.toList.length=vs.length:=by rw[or.length_eq,ua]
   obtain⟨c5,o5⟩:∃c5,((s'.heap.update kS (pQ fun _=>(#[]:Array kB))).update D (pQ fun _=>Qa (pm'.toList.map fun i=>its.getD i ue))).get? D=some (pP "list" (Qa (pm'.toList.map fun i=>its.getD i ue)) c5):=⟨_,vf o4 _⟩;refine⟨.ref D,upd H' D (.lst (pm'.toList.map fun i=>vs.getD i .non)),J2.track (t':=s'.toks) ⟨n2,fD.2⟩ (fun b o hb e=>by rw[uw _ _ _ _ hb];exact e) ?_ (zmo _ fun i hi=>zi7 rv i ?_) o5,rfl,q D pm' n2 or ep⟩
   ·rw[kO,lo];exact pL (uq h64) (by decide)
   ·exact kx.mp (or.mem_iff.mp hi)
 ·have J0:Inv X pins σ H {s with heap:=h',toks:=s.toks}:=I.kept kk;exact pin3 J0 hfa.1 (I.hok.fresh sD) (I.hok.fresh sK) (kk _ _ hfo) hD hkS
end
open PySem.W (kla_fn kla_obj envX tabObj CodeHd KasT kas_sort kas_ask)
section
variable{X:Cx}{p pos lpos kpos:Pos}{e body:Expr}{params:AH}{sc:Scope}{x y:Str}{c c0 P:Addr}{i0 k:Nat}{te tl:TE}
def tSortK(KP:KPT)(P:Addr)(lpos:Pos)(ql:Str)(i0:Nat)(te tl:TE):TE:=fun σ H Q=>zcf tl tNil σ H fun xs H1=>∃l vs vy,xs=[.ref l]/\H1 l=some (.lst vs)/\vs.length<64/\σ[i0]?=some (some vy)/\zd2 H1 P lpos ql/\
 ∀c' H2,zb9 P H1 H2->zd2 H2 P lpos ql->H2 c'=some (zj3 c' ql)->∃Pv,KeyR KP te vy c' ql vs H2 Q Pv
theorem pe_sortK{KP:KPT}(hKP:KeyKP X KP)(hr:Room (k+2) X.A)(hg:Gl X "sorted")(hm:X.mg "sorted"=none)(ha:PA X [e] (zcf tl tNil))(S:zgo x y sc)(hN:X.N[i0]?=some y)(hk:X.env.scope.names.lookup y=some .cell)(hcl:X.env.cells.lookup y=some c)
  (hclos:Bj sc X.env=pure [(y,c)])(hdef:defaultsOf params X.env=([],[]))(hcode:X.env.code=.ref c0)(C:CodeHd X.base c0 P)(hB:X.base.BuiltinsAt X.mg P)
  (hbind:∀(pm cd ctv u:kB),Bv (kla_fn "<lambda>" (X.env.qual++"<lambda>") params body sc [(y,c)] pm cd ctv) ⟨[u],[]⟩=pure [(x,u)])
  (hbody:∀(fa c':Addr)(A:pj)(s:kC)(H:Hp),A.units+64<cLine->PE (zo8 X.prog X.w X.K X.mg X.base x y (X.env.qual++"<lambda>") sc fa (.ref c') c A X.stack s H) body te)
  (he:vC pos (uK [e] X.env)=(false,eval e X.env)::vC pos (uK [] X.env):=by rfl)(hpl:(vC pos (uK [e] X.env)).any (·.1)=false:=by rfl):
  PE X (.Call (.Name "sorted" p) [e] [⟨some "key",.Lambda params body sc lpos,kpos⟩] pos) (tSortK KP P lpos (X.env.qual++"<lambda>") i0 te tl):=by
 intro pins s σ H Q I h;refine Ul (zh2 I hg hm zjh ?_);refine callWith_kw (thn (ha pos pins s σ H _ I h) fun us s1⟨vs',H1,I1,r1,q1⟩=>?_) he hpl rfl rfl;obtain⟨l,vs,vy,ev,hl,h64,hσ,ht,q⟩:=q1;subst ev;obtain⟨u,rfl,ru⟩:=vals1 r1
 cases ru;refine kws_cons (lam_make (C:=C) I1 hcode hB hclos hdef ht fun fa c' ctv H2 s2 I2 st lt hfo hc' ffa=>kws_nil ?_);obtain⟨Pv,R⟩:=q c' H2 st lt hc';have nl:l≠P:=fun z=>by
  obtain⟨ps,hP,_⟩:=ht;rw[z,hP] at hl
  cases hl
 exact zq1 I2 hKP hr S hN hσ hk hcl ffa hfo (fun u=>hbind _ _ _ u) (hbody fa c') (st l _ nl hl) h64 R
end
section
variable{κ:Type}[DecidableEq κ]
def valV(kvs:List (κ×V))(k:κ):Option V:=(kvs.find? fun kv=>decide (kv.1=k)).map (·.2)
def putK(kvs:List (κ×V))(k:κ)(v:V):List (κ×V):=
 if(kvs.any fun kv=>decide (kv.1=k))=true then kvs.map (fun kv=>if kv.1=k then(kv.1,v) else kv) else kvs++[(k,v)]
theorem zci{p:κ×V}{r:List (κ×V)}{k:κ}(e:p.1=k):valV (p::r) k=some p.2:=by simp[valV,ul,e]
theorem zck{p:κ×V}{r:List (κ×V)}{k:κ}(e:¬p.1=k):valV (p::r) k=valV r k:=by simp[valV,ul,e]
theorem zfi(k:κ):∀kvs:List (κ×V),(kvs.any fun kv=>decide (kv.1=k))=(valV kvs k).isSome
 |[]=>rfl
 |p::r=>by
  rw[AA]
  by_cases e:p.1=k
  ·simp only[zci e,decide_eq_true e,DX,Option.isSome_some]
  ·rw[zck e,decide_eq_false e,DM];exact zfi k r
theorem zfq(k j:κ)(y:V):∀kvs:List (κ×V),valV (kvs.map fun kv=>if kv.1=k then(kv.1,y) else kv) j=(valV kvs j).map fun x=>if j=k then y else x
 |[]=>rfl
 |p::r=>by
  have ih:=zfq k j y r;rw[kh]
  by_cases h:p.1=k
  ·rw[if_pos h]
   by_cases e:p.1=j
   ·rw[zci (p:=(p.1,y)) e,zci e,QJ,if_pos (e.symm.trans h)]
   ·rw[zck (p:=(p.1,y)) e,zck e,ih]
  ·rw[if_neg h]
   by_cases e:p.1=j
   ·rw[zci (p:=p) e,zci e,QJ,if_neg (fun z=>h (e.trans z))]
   ·rw[zck (p:=p) e,zck e,ih]
theorem zjp(k j:κ)(y:V):∀kvs:List (κ×V),valV kvs k=none->valV (kvs++[(k,y)]) j=if j=k then some y else valV kvs j
 |[],_=>by
  by_cases e:k=j
  ·rw[if_pos e.symm];exact zci (p:=(k,y)) e
  ·rw[if_neg (fun z=>e z.symm)];exact zck (p:=(k,y)) e
 |p::r,hn=>by
  rw[jW];have hk:¬p.1=k:=fun z=>by rw[zci z] at hn;cases hn
  rw[zck hk] at hn;have ih:=zjp k j y r hn
  by_cases e:p.1=j
  ·rw[zci e,zci e,if_neg (fun z=>hk (e.trans z))]
  ·rw[zck e,zck e,ih]
theorem zda(kvs:List (κ×V))(k j:κ)(y:V):valV (putK kvs k y) j=if j=k then some y else valV kvs j:=by
 unfold putK
 by_cases a:(kvs.any fun kv=>decide (kv.1=k))=true
 ·rw[if_pos a,zfq];rw[zfi] at a
  by_cases e:j=k
  ·obtain⟨x,hx⟩:=gr.mp a;rw[if_pos e,e,hx,QJ,if_pos rfl]
  ·rw[if_neg e]
   cases valV kvs j with
   |none=>rfl
   |some x=>rw[QJ,if_neg e]
 ·rw[if_neg a];refine zjp k j y kvs ?_;rw[zfi] at a
  cases q:valV kvs k with
  |none=>rfl
  |some x=>rw[q] at a;exact(a rfl).elim
theorem zbn(kvs:List (κ×V))(k:κ)(v:V):(putK kvs k v).length<=kvs.length+1:=by
 unfold putK
 split
 ·rw[kO];omega
 ·rw[kJ,pJ,Qw];omega
theorem zm2{kvs:List (κ×V)}{k:κ}(v:V)(h:valV kvs k=none):putK kvs k v=kvs++[(k,v)]:=by
 unfold putK;rw[zfi,h];exact if_neg (by decide)
theorem RelO.isSome_eq{o:Option V}{u:Option kB}(r:RelO o u):o.isSome=u.isSome:=by
 cases o with
 |none=>cases u with
  |none=>rfl
  |some _=>exact(show False from r).elim
 |some _=>cases u with
  |none=>exact(show False from r).elim
  |some _=>rfl
theorem RelO.getD{o:Option V}{u:Option kB}{d:V}{d':kB}(r:RelO o u)(rd:RelV d d'):RelV (o.getD d) (u.getD d'):=by
 cases o with
 |none=>cases u with
  |none=>exact rd
  |some _=>exact(show False from r).elim
 |some _=>cases u with
  |none=>exact(show False from r).elim
  |some _=>exact r
theorem KV.val{kvs:List (κ×V)}{vs:List (κ×kB)}(r:KV kvs vs)(k:κ):RelO (valV kvs k) (BY vs k):=by
 unfold KV at r
 induction r with
 |nil=>exact vH
 |@cons p q ps qs h t ih=>
  obtain⟨h1,h2⟩:=h
  by_cases e:p.1=k
  ·have e':q.1=k:=h1.symm.trans e;have b:BY (q::qs) k=some q.2:=by simp[BY,ul,e']
   rw[zci e,b];exact h2
  ·have e':¬q.1=k:=fun z=>e (h1.trans z);have b:BY (q::qs) k=BY qs k:=by simp[BY,ul,e']
   rw[zck e,b];exact ih
theorem KV.any{kvs:List (κ×V)}{vs:List (κ×kB)}(r:KV kvs vs)(k:κ):(kvs.any fun kv=>decide (kv.1=k))=vs.any fun kv=>decide (kv.1=k):=by
 unfold KV at r
 induction r with
 |nil=>rfl
 |cons h t ih=>rw[AA,AA,ih,h.1]
theorem KV.repl{kvs:List (κ×V)}{vs:List (κ×kB)}(r:KV kvs vs)(k:κ){y:V}{u:kB}(ry:RelV y u):
  KV (kvs.map fun kv=>if kv.1=k then(kv.1,y) else kv) (vs.map fun kv=>if kv.1=k then(kv.1,u) else kv):=by
 unfold KV at r⊢
 induction r with
 |nil=>exact .nil
 |@cons p q ps qs h t ih=>
  rw[kh,kh];refine .cons ?_ ih;obtain⟨h1,h2⟩:=h
  by_cases e:p.1=k
  ·rw[if_pos e,if_pos (h1.symm.trans e)];exact⟨h1,ry⟩
  ·rw[if_neg e,if_neg (fun z=>e (h1.trans z))];exact⟨h1,h2⟩
theorem KV.put{kvs:List (κ×V)}{vs:List (κ×kB)}(r:KV kvs vs)(k:κ){y:V}{u:kB}(ry:RelV y u):KV (putK kvs k y) (stored vs k u):=by
 unfold putK stored;rw[r.any k]
 by_cases e:(vs.any fun kv=>decide (kv.1=k))=true
 ·rw[if_pos e,if_pos e];exact r.repl k ry
 ·rw[if_neg e,if_neg e];exact Cl r ⟨rfl,ry⟩
theorem KV.length{kvs:List (κ×V)}{vs:List (κ×kB)}(r:KV kvs vs):kvs.length=vs.length:=Us r
end
theorem zn1{P:pA}{w:pR}{k:Key}{u:kB}(r:RelV (kV k) u):(zab P w).is k u=true:=by
 cases k with
 |inl i=>obtain⟨t,e⟩:=(show ∃t,u=CK i t from r);subst e;exact zl8 P w i t
 |inr x=>obtain⟨t,e⟩:=(show ∃t,u=DQ x t from r);subst e;exact zkl P w x t
theorem ziz{P:pA}{w:pR}:∀{ks:List Key}{us:List kB},Vals (ks.map kV) us->ItemsAre (zab P w) ks us
 |[],_,r=>by rw[uU] at r;cases r;exact .nil
 |k::ks,_,r=>by
  rw[kh] at r
  cases r with
  |cons h t=>exact .cons (zn1 h) (ziz t)
abbrev KT(H:Hp):List (List Key×V)->List (List Key×Addr×kB)->Prop:=vv fun p q=>p.1=q.1/\H q.2.1=some (.tup (p.1.map kV))/\RelV p.2 q.2.2
theorem KT.val{H:Hp}{kvs:List (List Key×V)}{xs:List (List Key×Addr×kB)}(r:KT H kvs xs)(k:List Key):RelO (valV kvs k) ((atKey xs k).map (·.2)):=by
 induction r with
 |nil=>exact vH
 |@cons p q ps qs h t ih=>
  obtain⟨h1,_,h2⟩:=h
  by_cases e:p.1=k
  ·have e':q.1=k:=h1.symm.trans e;have b:atKey (q::qs) k=some q.2:=by simp[atKey,ul,e']
   rw[zci e,b];exact h2
  ·have e':¬q.1=k:=fun z=>e (h1.trans z);have b:atKey (q::qs) k=atKey qs k:=by simp[atKey,ul,e']
   rw[zck e,b];exact ih
theorem KT.repl{H:Hp}{kvs:List (List Key×V)}{xs:List (List Key×Addr×kB)}(r:KT H kvs xs)(k:List Key){y:V}{u:kB}(ry:RelV y u):
  KT H (kvs.map fun kv=>if kv.1=k then(kv.1,y) else kv) (xs.map (putAt k u)):=by
 induction r with
 |nil=>exact .nil
 |@cons p q ps qs h t ih=>
  rw[kh,kh];refine .cons ?_ ih;obtain⟨h1,h2,h3⟩:=h;unfold putAt
  by_cases e:p.1=k
  ·rw[if_pos e,if_pos (h1.symm.trans e)];exact⟨h1,h2,ry⟩
  ·rw[if_neg e,if_neg (fun z=>e (h1.trans z))];exact⟨h1,h2,h3⟩
theorem KT.put{H:Hp}{kvs:List (List Key×V)}{xs:List (List Key×Addr×kB)}(r:KT H kvs xs)(k:List Key){b:Addr}{y:V}{u:kB}(hb:H b=some (.tup (k.map kV)))(ry:RelV y u):
  KT H (putK kvs k y) (CB xs k b u):=by
 have e:(kvs.any fun kv=>decide (kv.1=k))=(atKey xs k).isSome:=by
  rw[zfi,(r.val k).isSome_eq,vB]
 unfold putK CB;rw[e]
 by_cases q:(atKey xs k).isSome=true
 ·rw[if_pos q,if_pos q];exact r.repl k ry
 ·rw[if_neg q,if_neg q];exact Cl r ⟨rfl,hb,ry⟩
theorem KT.keeps{H H':Hp}{kvs:List (List Key×V)}{xs:List (List Key×Addr×kB)}(r:KT H kvs xs)(ht:∀b ys,H b=some (.tup ys)->H' b=some (.tup ys)):KT H' kvs xs:=
 Paired.mapP r fun _ _ z=>⟨z.1,ht _ _ z.2.1,z.2.2⟩
section
variable{P:pA}{w:pR}{H:Hp}{h:Heap}{a:Addr}
theorem rd_of{u:HO}(ok:HOk P w H h)(e:Rd H a u):zdi P w H h a u:=e.ok ok
theorem zks{kvs:List (Key×V)}(ok:HOk P w H h)(e:Rd H a (.dK kvs)):kvs.length<=sizeLine/\(a==QP)=false/\∃vs,KV kvs vs/\h.DictOf (zab P w) a vs:=
 show zdi P w H h a (.dK kvs) from rd_of ok e
theorem dk_of{kvs:List (Key×V)}(ok:HOk P w H h)(e:H a=some (.dK kvs)):kvs.length<=sizeLine/\(a==QP)=false/\∃vs,KV kvs vs/\h.DictOf (zab P w) a vs:=zks ok (.inl e)
theorem zf5{ks:List Key}(ok:HOk P w H h)(e:H a=some (.tup (ks.map kV))):(uJ (zab P w)).is h ks a:=by
 obtain⟨_,its,r,o,h1,h2,n,h3⟩:=(show zdi P w H h a (.tup (ks.map kV)) from ok a _ e);exact⟨o,its.toArray,n,h1,h2,h3,by simpa using ziz r⟩
theorem zl9{kvs:List (List Key×V)}(ok:HOk P w H h)(e:Rd H a (.dT kvs)):kvs.length<=sizeLine/\(a==QP)=false/\
  ∃xs,KT H kvs xs/\h.DictOfH (uJ (zab P w)) a xs:=by
 obtain⟨z,y,xs,r,o,es,ep,h1,h2,h3,h4,h5⟩:=(show zdi P w H h a (.dT kvs) from rd_of ok e);refine⟨z,y,xs,r,o,es,ep,h1,h2,h3,h4,fun x hx=>?_,h5⟩;have all:∀{l:List (List Key×V)}{m:List (List Key×Addr×kB)},KT H l m->∀x∈m,(uJ (zab P w)).is h x.1 x.2.1:=by
  intro l m q
  induction q with
  |nil=>intro x hx;exact nomatch hx
  |@cons p q ps qs hq t ih=>
   intro x hx;rcases kg.mp hx with e|hx
   ·subst e;exact zf5 ok (by rw[←hq.1];exact hq.2.1)
   ·exact ih x hx
 exact all r x hx
theorem dt_of{kvs:List (List Key×V)}(ok:HOk P w H h)(e:H a=some (.dT kvs)):kvs.length<=sizeLine/\(a==QP)=false/\
  ∃xs,KT H kvs xs/\h.DictOfH (uJ (zab P w)) a xs:=zl9 ok (.inl e)
end
def DGet(H:Hp)(a:Addr)(y:V)(r:Option V):Prop:=
 (∃kvs k,Rd H a (.dK kvs)/\y=kV k/\r=valV kvs k)∨∃kvs k b,Rd H a (.dT kvs)/\y=.ref b/\H b=some (.tup (k.map kV))/\r=valV kvs k
def DPut(H:Hp)(a:Addr)(y v:V)(H':Hp):Prop:=
 (∃kvs k,H a=some (.dK kvs)/\y=kV k/\kvs.length<sizeLine/\H'=upd H a (.dK (putK kvs k v)))∨
 ∃kvs k b,H a=some (.dT kvs)/\y=.ref b/\H b=some (.tup (k.map kV))/\kvs.length<sizeLine/\H'=upd H a (.dT (putK kvs k v))
theorem DGet.t{H:Hp}{a b:Addr}{kvs:List (List Key×V)}{k:List Key}(e:H a=some (.dT kvs))(eb:H b=some (.tup (k.map kV))):DGet H a (.ref b) (valV kvs k):=.inr ⟨kvs,k,b,.inl e,rfl,eb,rfl⟩
theorem DPut.t{H:Hp}{a b:Addr}{kvs:List (List Key×V)}{k:List Key}{v:V}(e:H a=some (.dT kvs))(eb:H b=some (.tup (k.map kV)))(hl:kvs.length<sizeLine):
  DPut H a (.ref b) v (upd H a (.dT (putK kvs k v))):=.inr ⟨kvs,k,b,e,rfl,eb,hl,rfl⟩
section
variable{X:Cx}{pins:List (Addr×Obj)}{σ:St}{H:Hp}{s:kC}{a:Addr}{y v:V}{u r:kB}{o:Option V}{A:pj}{E:kB->kC->Prop}
theorem Inv.big(I:Inv X pins σ H s):QP<s.heap.objs.size:=by
 have h:kY<s.heap.objs.size:=(I.mod.glob.keeps I.bk).lt;exact CC (by decide) h
theorem zpd{Q:kB->kC->Prop}(hu:A.units+1<cLine)(I:Inv X pins σ H s)(g:DGet H a y (some v))(ry:RelV y u)(h:∀w' s',Inv X pins σ H s'->RelV v w'->Q w' s'):
  wpAny (model X.prog X.w) A (By (.ref a) u) Q E s:=by
 rcases g with⟨kvs,k,e,ey,l⟩|⟨kvs,k,b,e,ey,eb,l⟩
 ·subst ey;obtain⟨z,hd,vs,rel,dd⟩:=zks I.hok e;obtain⟨w',hw,rw'⟩:=RelO.some_of (v:=v) (o:=BY vs k) (by rw[l];exact rel.val k)
  exact wpAny_getItem_of (zn1 ry) dd.mapOf hw (h w' _ (I.tok _) rw')
 ·subst ey
  cases(show u=pS b from ry);obtain⟨z,hd,xs,rel,dd⟩:=zl9 I.hok e;obtain⟨w',hw,rw'⟩:=RelO.some_of (v:=v) (o:=(atKey xs k).map (·.2)) (by rw[l];exact rel.val k)
  obtain⟨p,hp,hp2⟩:=jE.mp hw;refine wpAny_getItem_heap (uj hu) (zf5 I.hok eb) dd hp ?_;rw[hp2];exact h w' _ (I.tok _) rw'
theorem d_in{Q:kB->kC->Prop}(hu:A.units+1<cLine)(I:Inv X pins σ H s)(g:DGet H a y o)(ry:RelV y u)(h:∀s',Inv X pins σ H s'->Q (.bool o.isSome) s'):
  wpAny (model X.prog X.w) A (Ql .In u (.ref a)) Q E s:=by
 rcases g with⟨kvs,k,e,ey,l⟩|⟨kvs,k,b,e,ey,eb,l⟩
 ·subst ey;obtain⟨z,hd,vs,rel,dd⟩:=zks I.hok e;refine wpAny_in_of (zn1 ry) hd dd.mapOf ?_;rw[←(rel.val k).isSome_eq,←l];exact h _ (I.tok _)
 ·subst ey
  cases(show u=pS b from ry);obtain⟨z,hd,xs,rel,dd⟩:=zl9 I.hok e;refine wpAny_in_heap (uj hu) (zf5 I.hok eb) hd dd ?_;have q:=(rel.val k).isSome_eq;rw[vB] at q;rw[←q,←l];exact h _ (I.tok _)
theorem d_notIn{Q:kB->kC->Prop}(hu:A.units+1<cLine)(I:Inv X pins σ H s)(g:DGet H a y o)(ry:RelV y u)(h:∀s',Inv X pins σ H s'->Q (.bool (!o.isSome)) s'):
  wpAny (model X.prog X.w) A (Ql .NotIn u (.ref a)) Q E s:=by
 rcases g with⟨kvs,k,e,ey,l⟩|⟨kvs,k,b,e,ey,eb,l⟩
 ·subst ey;obtain⟨z,hd,vs,rel,dd⟩:=zks I.hok e;refine wpAny_notIn_of (zn1 ry) hd dd.mapOf ?_;rw[←(rel.val k).isSome_eq,←l];exact h _ (I.tok _)
 ·subst ey
  cases(show u=pS b from ry);obtain⟨z,hd,xs,rel,dd⟩:=zl9 I.hok e;refine CU (uj hu) (zf5 I.hok eb) hd dd ?_;have q:=(rel.val k).isSome_eq;rw[vB] at q;rw[←q,←l];exact h _ (I.tok _)
theorem zg1{h':Heap}{t':Nat}{ob:HO}(I:Inv X pins σ H s)(mu:Mut (H a))(hs:UL a s.heap h')(he:∃q,h'.get? a=some q)(new:zdi X.prog X.w (upd H a ob) h' a ob):
  Inv X pins σ (upd H a ob) {s with heap:=h',toks:=t'}:=
 I.write (x:=a) (e:=a) mu (.inl rfl) (fun b q hb z=>(hs.2 b hb).trans z) he new
theorem dk_new{P:pA}{w:pR}{H':Hp}{h':Heap}{kvs:List (Key×V)}{vs:List (Key×kB)}(z:kvs.length<=sizeLine)(hd:(a==QP)=false)(rel:KV kvs vs)(dd:h'.DictOf (zab P w) a vs):
  zdi P w H' h' a (.dK kvs):=⟨z,hd,vs,rel,dd⟩
theorem zqq{H':Hp}{Q:Unit->kC->Prop}(hu:A.units+1<cLine)(I:Inv X pins σ H s)(g:DPut H a y v H')(ry:RelV y u)(rv:RelV v r)(h:∀s',Inv X pins σ H' s'->Q () s'):
  wpAny (model X.prog X.w) A (setItem (.ref a) u r) Q E s:=by
 rcases g with⟨kvs,k,e,ey,l,eH⟩|⟨kvs,k,b,e,ey,eb,l,eH⟩
 ·subst ey eH;obtain⟨z,hd,vs,rel,dd⟩:=dk_of I.hok e;have hz:vs.length<=sizeLine:=by rw[←rel.length];exact z
  have hl:(putK kvs k v).length<=sizeLine:=by have:=zbn kvs k v;omega
  refine wpAny_setItem_pairs (hsz:=hz) (zn1 ry) dd fun h' dd' hs=>h _ ?_;have he:∃q,h'.get? a=some q:=let⟨q,_,_,hq,_⟩:=dd';⟨q,hq⟩;exact zg1 I (by rw[e];exact vH) hs he (dk_new hl hd (rel.put k rv) dd')
 ·subst ey eH
  cases(show u=pS b from ry);obtain⟨z,hd,xs,rel,dd⟩:=dt_of I.hok e;have hz:xs.length<=sizeLine:=by rw[←Us rel];exact z
  have hl:(putK kvs k v).length<=sizeLine:=by have:=zbn kvs k v;omega
  refine Bk (hsz:=hz) (uj hu) (zf5 I.hok eb) dd fun h' dd' hs=>h _ ?_;obtain⟨q,es,ep,hq,h2,h3,h4,_,h5⟩:=dd';refine zg1 I (by rw[e];exact vH) hs ⟨q,hq⟩ ⟨hl,hd,_,(rel.put k eb rv).keeps fun c ys ec=>?_,q,es,ep,hq,h2,h3,h4,h5⟩
  rw[za7 (zqj ec e (fun z=>nomatch z))];exact ec
end
def NoSl(i:Expr):Prop:=∀ov iv,subscripted i false ov iv=operate [ov,iv] (By ov iv)
theorem subD_of{prog:pA}{w:pR}{A:pj}{E:kB->kC->Prop}{s:kC}{env:Env}{value slice:Expr}{pos:Pos}{T id:String}{Q:kB->kC->Prop}
  (hl:typeLookup (.type T) "__getitem__"=pure (some (.builtin id)))(hs:NoSl slice)
  (h:wpAny (model prog w) A (eval value env) (fun o s₁=>wpAny (model prog w) A (eval slice env) (fun i s₂=>s₂.TypeIs o T/\wpAny (model prog w) A (By o i) Q E s₂) E s₁) E s):
  wpAny (model prog w) A (eval (.Subscript value slice pos) env) Q E s:=by
 refine DD (uv h (fun o s₁ h₁=>uv h₁ (fun i s₂ h₂=>?_) fun _ _ x=>x) fun _ _ x=>x);obtain⟨hT,h₂⟩:=h₂;unfold Bd;refine kA ?_;rw[getitemInPython_of_ne hT.not_modules];refine kA (vg hT hl ?_);have fin:wpAny (model prog w) A (subscripted slice false o i) (fun r s₃=>wpAny (model prog w) A (letTemporaryGo value o r>>=fun _=>pure r) Q E s₃) E s₂:=by
  rw[hs o i];exact wpAny_operating (uv h₂ (fun r s₃ h₃=>kA (wpAny_letTemporaryGo (kL h₃))) fun _ _ x=>x)
 first
  |exact kL (kA fin)
  |exact kA (kL (kA fin))
  |exact kA fin
theorem zl7{X:Cx}{pins:List (Addr×Obj)}{σ:St}{H:Hp}{s:kC}{a:Addr}{y:V}{o:Option V}(I:Inv X pins σ H s)(g:DGet H a y o):s.TypeIs (.ref a) "dict":=by
 rcases g with⟨kvs,k,e,_,_⟩|⟨kvs,k,b,e,_,_,_⟩
 ·obtain⟨_,_,vs,_,dd⟩:=zks I.hok e;exact dd.typeIs
 ·obtain⟨_,_,xs,_,dd⟩:=zl9 I.hok e;exact dd.typeIs
def tDGet(td ty:TE):TE:=fun σ H Q=>td σ H fun x H1=>ty σ H1 fun y H2=>∃a v,x=.ref a/\DGet H2 a y (some v)/\Q v H2
def tDIn(ty td:TE):TE:=fun σ H Q=>ty σ H fun y H1=>td σ H1 fun x H2=>∃a o,x=.ref a/\DGet H2 a y o/\Q (.bl o.isSome) H2
def zkp(ty td:TE):TE:=fun σ H Q=>ty σ H fun y H1=>td σ H1 fun x H2=>∃a o,x=.ref a/\DGet H2 a y o/\Q (.bl (!o.isSome)) H2
def sDPut(td ty tv:TE):TS:=fun D σ H=>tv σ H fun v H1=>td σ H1 fun x H2=>ty σ H2 fun y H3=>∃a H4,x=.ref a/\DPut H3 a y v H4/\D.nx σ H4
section
variable{X:Cx}{o i e value:Expr}{pos pos' tpos:Pos}{td ty tv:TE}
theorem zkf(hu:X.A.units+1<cLine)(ho:PE X o td)(hi:PE X i ty)(hs:NoSl i):PE X (.Subscript o i pos) (tDGet td ty):=by
 intro pins s σ H Q I h;refine subD_of PySem.F.slot_dict_getitem.lookup hs (thn (ho pins s σ H _ I h) fun u s1⟨x,H1,I1,rx,q1⟩=>thn (hi pins s1 σ H1 _ I1 q1) fun iv s2⟨y,H2,I2,ry,a,v,ex,g,q2⟩=>?_);subst ex;obtain rfl:u=pS a:=rx;exact⟨zl7 I2 g,zpd hu I2 g ry fun w' s3 I3 rw'=>⟨v,H2,I3,rw',q2⟩⟩
theorem pc_din(hu:X.A.units+1<cLine)(hi:PE X i ty)(ho:PE X o td):PC X .In i o (tDIn ty td):=by
 intro pins s σ H Q I h;refine thn (hi pins s σ H _ I h) fun iv s1⟨y,H1,I1,ry,q1⟩=>thn (ho pins s1 σ H1 _ I1 q1) fun u s2⟨x,H2,I2,rx,a,ov,ex,g,q2⟩=>?_;subst ex;obtain rfl:u=pS a:=rx;exact d_in hu I2 g ry fun s3 I3=>⟨.bl ov.isSome,H2,I3,rfl,q2⟩
theorem zje(hu:X.A.units+1<cLine)(hi:PE X i ty)(ho:PE X o td):PC X .NotIn i o (zkp ty td):=by
 intro pins s σ H Q I h;refine thn (hi pins s σ H _ I h) fun iv s1⟨y,H1,I1,ry,q1⟩=>thn (ho pins s1 σ H1 _ I1 q1) fun u s2⟨x,H2,I2,rx,a,ov,ex,g,q2⟩=>?_;subst ex;obtain rfl:u=pS a:=rx;exact d_notIn hu I2 g ry fun s3 I3=>⟨.bl (!ov.isSome),H2,I3,rfl,q2⟩
theorem zl4(hu:X.A.units+1<cLine)(ho:PE X o td)(hi:PE X i ty)(hv:PE X value tv)(hs:BW value (some (.Subscript o i pos')) pos.line X.env=pure false):
  PS X (.Assign [.Subscript o i pos'] value pos) (sDPut td ty tv):=by
 intro pins s σ H D I h;refine Ag (thn (hv pins s σ H _ I h) fun r s1⟨v,H1,I1,rv,q1⟩=>thn (ho pins s1 σ H1 _ I1 q1) fun u s2⟨x,H2,I2,rx,q2⟩=>thn (hi pins s2 σ H2 _ I2 q2) fun iv s3⟨y,H3,I3,ry,a,H4,ex,g,q3⟩=>?_) hs;subst ex;obtain rfl:u=pS a:=rx;exact zqq hu I3 g ry rv fun s4 I4=>⟨σ,H4,I4,q3⟩
end
theorem zmm{P:pA}{w:pR}{H:Hp}(h:Heap)(hb:QP<h.objs.size):zdi P w H (h.push {cls:=.type "dict",data:=.dict #[]}) h.objs.size (.dT []):=
 ⟨pY _,beq_eq_false_iff_ne.mpr (ve (pd hb)),[],.nil,_,#[],0,pM _ rfl,⟨rfl,rfl,rfl⟩,rfl,rfl,Qq⟩
def zmq:TE:=fun _ H Q=>∀p,H p=none->Q (.ref p) (upd H p (.dT []))
section
variable{X:Cx}{pos:Pos}
theorem zgl:PE X (.Dict [] [] pos) zmq:=fun pins s σ H Q I h=>
 CV ⟨.ref s.heap.objs.size,_,I.laid (a:=s.heap.objs.size) (o:=.dT []) (t':=s.toks) (fun _ _ q=>kT _ q) (kG _) (zmm s.heap I.big),rfl,h _ (I.hok.fresh (kG _))⟩
end
structure M1(X:Cx)(o:Expr)(m:Str)(apos:Pos)(e:Expr)(cpos:Pos):Prop where
 base:gu o m X.env (eval o X.env)=eval o X.env
 few:((vC cpos (uK [e] X.env)).all (fun x=> !x.1)&&(jz cpos (vE [] X.env)).all (fun x=>x.1.isSome)
  &&decide (([e]:List Expr).length+([]:List gZ).length+(if([]:List gZ).isEmpty then 0 else 1)<30))=true
 line:(apos.endLine==cpos.line)=true
 trees:vC cpos (uK [e] X.env)=[(false,eval e X.env)]
structure M2(X:Cx)(o:Expr)(m:Str)(apos:Pos)(e f:Expr)(cpos:Pos):Prop where
 base:gu o m X.env (eval o X.env)=eval o X.env
 few:((vC cpos (uK [e,f] X.env)).all (fun x=> !x.1)&&(jz cpos (vE [] X.env)).all (fun x=>x.1.isSome)
  &&decide (([e,f]:List Expr).length+([]:List gZ).length+(if([]:List gZ).isEmpty then 0 else 1)<30))=true
 line:(apos.endLine==cpos.line)=true
 trees:vC cpos (uK [e,f] X.env)=[(false,eval e X.env),(false,eval f X.env)]
def IsD(H:Hp)(a:Addr):Prop:=(∃kvs,Rd H a (.dK kvs))∨∃kvs,Rd H a (.dT kvs)
theorem zoh{X:Cx}{pins:List (Addr×Obj)}{σ:St}{H:Hp}{s:kC}{a:Addr}(I:Inv X pins σ H s)(d:IsD H a):
  s.TypeIs (.ref a) "dict"/\(∀b,pS a=.ref b->∃ob,s.heap.get? b=some ob/\ob.dict=none)/\(a==QP)=false:=by
 rcases d with⟨kvs,e⟩|⟨kvs,e⟩
 ·obtain⟨_,hd,vs,_,dd⟩:=zks I.hok e;refine⟨dd.typeIs,fun b q=>?_,hd⟩
  cases q;obtain⟨ob,_,_,h1,h2,_⟩:=dd;exact⟨ob,h1,h2.2.1⟩
 ·obtain⟨_,hd,xs,_,dd⟩:=zl9 I.hok e;refine⟨dd.typeIs,fun b q=>?_,hd⟩
  cases q;obtain⟨ob,_,_,h1,h2,_⟩:=dd;exact⟨ob,h1,h2.2.1⟩
section
variable{X:Cx}{pins:List (Addr×Obj)}{σ:St}{H:Hp}{s:kC}{a:Addr}{y d:V}{u r:kB}{o:Option V}{A:pj}{E:kB->kC->Prop}
theorem d_get2{Q:kB->kC->Prop}(hu:A.units+1<cLine)(I:Inv X pins σ H s)(g:DGet H a y o)(ry:RelV y u)(rd:RelV d r)(h:∀w' s',Inv X pins σ H s'->RelV (o.getD d) w'->Q w' s'):
  wpAny (model X.prog X.w) A (call (.builtin "dict.get") [.ref a,u,r]) Q E s:=by
 rcases g with⟨kvs,k,e,ey,l⟩|⟨kvs,k,b,e,ey,eb,l⟩
 ·subst ey;obtain⟨z,hd,vs,rel,dd⟩:=zks I.hok e;refine Ah jP dd.typeIs Ai (AL _ _ _) (meets_dict_get_default (zab X.prog X.w) a (zn1 ry) hd r) ⟨_,dd.mapOf,h _ _ (I.tok _) ?_⟩;rw[l];exact(rel.val k).getD rd
 ·subst ey
  cases(show u=pS b from ry);obtain⟨z,hd,xs,rel,dd⟩:=zl9 I.hok e;refine Ah jP dd.typeIs Ai (AL _ _ _) (meetsH_dict_get_default (uJ (zab X.prog X.w)) a b hd r) ⟨uj hu,k,xs,zf5 I.hok eb,dd,h _ _ (I.tok _) ?_⟩;rw[l];exact(rel.val k).getD rd
end
def zqg(td ty tx:TE):TE:=fun σ H Q=>td σ H fun x H1=>∃a,x=.ref a/\IsD H1 a/\ty σ H1 fun y H2=>tx σ H2 fun z H3=>∃o,DGet H3 a y o/\Q (o.getD z) H3
section
variable{X:Cx}{o e f:Expr}{apos cpos:Pos}{td ty tx:TE}
theorem zm0(hu:X.A.units+1<cLine)(ho:PE X o td)(he:PE X e ty)(hf:PE X f tx)(m:M2 X o "get" apos e f cpos):PE X (.Call (.Attribute o "get" apos) [e,f] [] cpos) (zqg td ty tx):=by
 intro pins s σ H Q I h;refine ge m.base m.few m.line vo jP PySem.F.type_dict_get (thn (ho pins s σ H _ I h) fun u s1⟨x,H1,I1,rx,a,ex,d,q1⟩=>?_);subst ex;obtain rfl:u=pS a:=rx;obtain⟨t1,t2,_⟩:=zoh I1 d;refine⟨t1,t2,?_⟩;rw[m.trees];refine Qz rfl (vF (UD (thn (he pins s1 σ H1 _ I1 q1) fun iv s2⟨y,H2,I2,ry,q2⟩=>
  UD (thn (hf pins s2 σ H2 _ I2 q2) fun fv s3⟨z,H3,I3,rz,ov,g,q3⟩=>jA ?_))))
 exact d_get2 hu I3 g ry rz fun w' s4 I4 rw'=>⟨_,H3,I4,rw',q3⟩
end
section
variable{X:Cx}{x:Str}{p pos:Pos}{e:Expr}{es:List Expr}{kws:List gZ}{ks:List Str}{t tk:TA}{id:String}{r:List V->List V->Hp->VK->Prop}
def CallKR(X:Cx)(f:kB)(ks:List Str)(r:List V->List V->Hp->VK->Prop):Prop:=
 ∀(pins:List (Addr×Obj))(s:kC)(σ:St)(H:Hp)(xs zs:List V)(us ws:List kB)(Q:VK),Inv X pins σ H s->Vals xs us->Vals zs ws->r xs zs H Q->wpAny (model X.prog X.w) X.A (call f us (ks.zip ws)) (EP X pins σ Q) X.xe s
def tCBK(r:List V->List V->Hp->VK->Prop)(t tk:TA):TE:=fun σ H Q=>t σ H fun xs H1=>tk σ H1 fun zs H2=>r xs zs H2 Q
theorem zp7(hc:CallKR X (.builtin id) ks r)(hg:Gl X x)(hm:X.mg x=none)(hv:uo x=some (.builtin id))(ha:PA X (e::es) t)(hkw:PK X kws tk)(hks:(jz pos (vE kws X.env)).filterMap (·.1)=ks:=by rfl)
  (hn:x≠"__name__":=by decide) (hdb:(x==("__debug__":Str))=false:=by decide) (he:vC pos (uK (e::es) X.env)=(false,eval e X.env)::vC pos (uK es X.env):=by rfl) (hpl:(vC pos (uK (e::es) X.env)).any (·.1)=false:=by rfl)
  (hall:(jz pos (vE kws X.env)).all (·.1.isSome)=true:=by rfl) (hno:(jz pos (vE kws X.env)).any (·.1.isNone)=false:=by rfl):PE X (.Call (.Name x p) (e::es) kws pos) (tCBK r t tk):=by
 intro pins s σ H Q I h;refine Ul (zh2 I hg hm hv ?_ hn hdb);refine callWith_kw (thn (ha pos pins s σ H _ I h) fun us s1⟨vs,H1,I1,r1,q1⟩=>thn (hkw pos pins s1 σ H1 _ I1 q1) fun ws s2⟨zs,H2,I2,r2,q2⟩=>?_) he hpl hall hno;rw[hks];exact hc pins s2 σ H2 vs zs us ws Q I2 r1 r2 q2
end
section
variable{prog:pA}{w:pR}{A:pj}{R:DU->kC->Prop}{I:Addr}{fp wr:List Addr}{n:Nat}{P:Nat->kB->Prop}{St:Nat->Heap->Prop}
theorem maxD_on(W:Walks prog w A.in1 I fp wr n P St)(bt:Nat->Nat->Bool)(hc:CmpOf prog w A.in1 .Gt P bt)(S:Addr)(nS:S∉fp)(kw:List (Str×kB)):∀(k j:Nat)(s:kC)(vb:kB)(c:Nat),n-(j+1)=k->j+1<=n->St (j+1) s.heap->P (jF bt j) vb->
  s.heap.get? S=some {cls:=.type "list",dict:=none,data:=.seq #[vb,vb] c,slots:=#[]}->(∀v h' tk,P (jF bt (n-1)) v->(∀b o,b∉wr->b≠S->s.heap.get? b=some o->h'.get? b=some o)->R (.ok (.ret v)) {s with heap:=h',toks:=tk})->
  ju (model prog w) A (.builtin "max.loop" ⟨[.ref I,.none,.ref S],kw⟩) R s:=by
 have nw:S∉wr:=fun z=>nS (W.sub _ z);have nm:(BK "max"++BK ".loop":String)="max.loop":=by decide
 intro k
 induction k with
 |zero=>
  intro j s vb c hk hj st hb oS q;have ej:j+1=n:=by omega
  refine vh AM ?_;rw[UP Uf _];refine kA (m:=CY (.ref S)) (vI oS rfl (kA (jG (W.done s _ _ (ej▸st) fun h' tk kp=>?_))));refine kA (Ap (kp S _ nw oS) rfl (kA (jh (kL ?_))));exact q vb _ tk (by rw[←ej];exact hb) fun b o b1 b2 e=>(QY _ _ (ve b2)).trans (kp b o b1 e)
 |succ k ih=>
  intro j s vb c hk hj st hb oS q;refine vh AM ?_;rw[UP Uf _];refine kA (m:=CY (.ref S)) (vI oS rfl (kA (jG (W.item (j+1) s _ _ (by omega) st fun v h' tk hP st' kp=>?_))))
  have oS':=kp S _ nw oS;refine kA (kL ?_);refine kA (m:=tryCatch (holding [v,v] (Ck CmpOp.Gt v vb>>=_)) _) (jG (QD (kA (hc (j+1) (jF bt j) v vb _ _ _ hP hb (kA (QD (Qt (kA (jh (kL ?_))))))))))
  cases bb:bt (j+1) (jF bt j) with
  |true=>
   simp only[if_true];refine kA (Ap oS' rfl (kA (jh ?_)));rw[nm];refine kL ⟨va Uf _,ih (j+1) _ v _ (by omega) (by omega) (W.frame _ _ _ st' fun b hf o e=>(QY _ _ (fun z:S=b=>nS (by rw[z];exact hf))).trans e) (by simp only[jF,bb,if_true];exact hP) (UI _ oS' rfl) fun v' h'' tk'' hP' kp'=>?_⟩
   exact q v' h'' tk'' hP' fun b o b1 b2 e=>kp' b o b1 b2 ((QY _ _ (ve b2)).trans (kp b o b1 e))
  |false=>
   simp only[pF,if_false];refine kA (jh ?_);rw[nm];exact kL ⟨va Uf _,ih (j+1) _ vb c (by omega) (by omega) st' (by simp only[jF,bb,pF,if_false];exact hb) oS' fun v' h'' tk'' hP' kp'=>q v' h'' tk'' hP' fun b o b1 b2 e=>kp' b o b1 b2 (kp b o b1 e)⟩
theorem znc(W:Walks prog w A.in1 I fp wr n P St)(bt:Nat->Nat->Bool)(hc:CmpOf prog w A.in1 .Gt P bt)(S:Addr)(nS:S∉fp){k:Str}{d:kB}{s:kC}{c:Nat}(st:St 0 s.heap)
  (oS:s.heap.get? S=some {cls:=.type "list",dict:=none,data:=.seq #[] c,slots:=#[]})
  (q:∀v h' tk,((0<n/\P (jF bt (n-1)) v)∨(n=0/\v=d))->(∀b o,b∉wr->b≠S->s.heap.get? b=some o->h'.get? b=some o)->R (.ok (.ret v)) {s with heap:=h',toks:=tk}):
  ju (model prog w) A (.builtin "max.loop" ⟨[.ref I,.none,.ref S],[(k,d)]⟩) R s:=by
 have nw:S∉wr:=fun z=>nS (W.sub _ z);have nm:(BK "max"++BK ".loop":String)="max.loop":=by decide
 refine vh AM ?_;rw[UP Uf _]
 by_cases h0:n=0
 ·subst h0;refine kA (m:=CY (.ref S)) (vI oS rfl (kA (jG (W.done s _ _ st fun h' tk kp=>?_))));exact kA (Qm (kL (q d h' tk (.inr ⟨rfl,rfl⟩) fun b o b1 _ e=>kp b o b1 e)))
 ·refine kA (m:=CY (.ref S)) (vI oS rfl (kA (jG (W.item 0 s _ _ (by omega) st fun v h' tk hP st' kp=>?_))))
  refine kA (kL ?_);refine kA (Ap (kp S _ nw oS) rfl ?_);rw[nm];refine kL ⟨va Uf _,maxD_on W bt hc S nS _ _ 0 _ v _ rfl (by omega) (W.frame _ _ _ st' fun b hf o e=>(QY _ _ (fun z:S=b=>nS (by rw[z];exact hf))).trans e) hP (UI _ (kp S _ nw oS) rfl) fun v' h'' tk'' hP' kp'=>?_⟩
  exact q v' h'' tk'' (.inl ⟨by omega,hP'⟩) fun b o b1 b2 e=>kp' b o b1 b2 ((QY _ _ (ve b2)).trans (kp b o b1 e))
end
theorem zpi(a v:kB):argsOk "max" ⟨[a],[(QN "default",v)]⟩:=by unfold argsOk;kernel_rfl
theorem zls(val:Nat->Int):∀k,jF (fun i j=>decide (val i>val j)) k<=k/\∀i,i<=k->val i<=val (jF (fun i j=>decide (val i>val j)) k)
 |0=>⟨kG _,fun i hi=>by rw[Nat.le_zero.mp hi];exact uE _⟩
 |k+1=>by
  obtain⟨h1,h2⟩:=zls val k;unfold jF
  by_cases c:val (k+1)>val (jF (fun i j=>decide (val i>val j)) k)
  ·rw[if_pos (decide_eq_true c)];refine⟨kG _,fun i hi=>?_⟩
   by_cases e:i=k+1
   ·rw[e];exact uE _
   ·have:=h2 i (by omega)
    omega
  ·rw[if_neg (by rw[decide_eq_false c];decide)]
   refine⟨by omega,fun i hi=>?_⟩
   by_cases e:i=k+1
   ·rw[e];omega
   ·exact h2 i (by omega)
def rMaxD:List V->List V->Hp->VK->Prop:=fun xs zs H Q=>∃p ns d,xs=[.ref p]/\zs=[.int d]/\H p=some (.lst (ns.map V.int))/\∀g,(∀n,n∈ns->n<=g)->(g∈ns∨(ns=[]/\g=d))->Q (.int g) H
section
variable{X:Cx}
theorem zq6(hc:X.calm=true):CallKR X (.builtin "max") [QN "default"] rMaxD:=by
 intro pins s σ H xs zs us ws Q I r rz h;obtain⟨p,ns,d,rfl,rfl,hp,q⟩:=h;obtain⟨u,rfl,ru⟩:=vals1 r;obtain⟨u',rfl,t,rfl⟩:=vals1 rz
 cases ru;obtain⟨its,rv,pl,hz⟩:=I.list (.of hp);have ia:vM its ns:=by
  have:=zg6 rv
  simpa using this
 have len:=ia.length;have ne:p≠s.heap.objs.size:=pd pl.lt;have nm:(BK "max"++BK ".loop":String)="max.loop":=by decide
 refine kmk_tree PySem.F.kind_max PySem.F.plain_max PySem.F.entry_max (zpi _ _) ?_;refine kA (m:=jv "max" ["key","default"] 0 ⟨[],[(QN "default",.int d t)]⟩) (wpAny_of_eq (show jv "max" ["key","default"] 0 ⟨[],[(QN "default",.int d t)]⟩=pure [none,some (.int d t)] from rfl) (kA (kL (kA (gX pl.isList (kA (jd ?_ (pY _))))))));rw[nm];have W:=Do (prog:=X.prog) (w:=X.w) (A:=X.A.in1) (show X.A.in1.handled=none from I.ok.hd hc) s.heap.objs.size p ne its.toArray;have it:∀i v,its.toArray[i]?=some v->∃t,v=CK (ns.getD i 0) t:=fun i v hv=>DI ia i v (by simpa using hv)
 have sz:(s.heap.push {cls:=.type "list_iterator",data:=.fields #[.ref p,.int 0 0]}).objs.size=s.heap.objs.size+1:=by rw[BG]
 refine kL ⟨va PySem.F.plain_max_loop _,znc W (fun i j=>decide (ns.getD i 0>ns.getD j 0)) (CmpOf.ints_gt (fun i=>ns.getD i 0) it) _ (fun z=>?_) (st:=W.frame 0 _ _ ⟨⟨_,pM _ rfl,rfl,rfl⟩,pl.isList.push _⟩ fun b _ o e=>kT _ e) (pM _ rfl) fun v h' tk hv kp=>?_⟩
 ·rw[sz] at z;have l2:p<s.heap.objs.size:=pl.lt;rcases kg.mp z with z|z
  ·exact absurd z (AY (CZ _))
  ·exact absurd (kX.mp z) (AY (gf l2))
 ·have keep:∀b o,s.heap.get? b=some o->h'.get? b=some o:=fun b o e=>by
   have lt:=pB e;refine kp b o (fun z=>?_) (fun z=>?_) (kT _ (kT _ e))
   ·exact absurd (show b=s.heap.objs.size by simpa using z) (pd lt)
   ·rw[sz] at z;exact absurd z (pd (gf lt))
  obtain⟨b1,b2⟩:=zls (fun i=>ns.getD i 0) (its.toArray.size-1);have J:Inv X pins σ H {s with heap:=h',toks:=tk}:=I.kept keep;rcases hv with⟨h0,hv⟩|⟨h0,rfl⟩
  ·obtain⟨t',rfl⟩:=it _ _ hv;have h0:0<its.length:=by simpa using h0
   have zi:its.toArray.size=its.length:=rfl;rw[zi] at b1 b2⊢;refine⟨.int _,H,J,⟨t',rfl⟩,q _ (fun n hn=>?_) (.inl ?_)⟩
   ·obtain⟨i,hi,e⟩:=QV.mp hn;have:=b2 i (by omega)
    have e':ns.getD i 0=n:=by simp[hi,e]
    rw[e'] at this;exact this
   ·have hb:jF (fun i j=>decide (ns.getD i 0>ns.getD j 0)) (its.length-1)<ns.length:=by omega
    rw[kZ,kR hb];exact Qn _
  ·have h0:its.length=0:=by simpa using h0
   have n0:ns=[]:=Uk (by omega)
   exact⟨.int d,H,J,⟨t,rfl⟩,q d (fun n hn=>by rw[n0] at hn;cases hn) (.inr ⟨n0,rfl⟩)⟩
end
section
variable{prog:pA}{w:pR}{A:pj}{E:kB->kC->Prop}{s:kC}
theorem sd_heap{d a:Addr}{xs:List (List Key×Addr×kB)}{k:List Key}{v:kB}{Q:kB->kC->Prop}(hu:(uJ (zab prog w)).room A)(hkey:(uJ (zab prog w)).is s.heap k a)(hm:s.heap.DictOfH (uJ (zab prog w)) d xs)(hz:xs.length<=sizeLine)
  (q1:∀p,atKey xs k=some p->Q p.2 {s with toks:=s.toks+(uJ (zab prog w)).draws k})
  (q2:atKey xs k=none->∀h',h'.DictOfH (uJ (zab prog w)) d (CB xs k a v)->UL d s.heap h'->Q v {s with heap:=h',toks:=s.toks+(uJ (zab prog w)).draws k}):
  wpAny (model prog w) A (BL d (.ref a) v) Q E s:=by
 obtain⟨o,es,ep,ho,hc,hd,he,his,hn⟩:=hm;unfold BL;refine QD (kA ((uJ (zab prog w)).pyHash hu hkey (kA (BZ (s:={s with toks:=s.toks+(uJ (zab prog w)).draws k}) hu hkey ho hd he his hn (fun hno=>?_) fun j p hj=>?_))))
 ·have an:=atKey_none_of_get hno;have hnot:k∉xs.map (·.1):=not_mem_keys_of_get hno;refine kA (Qm (kA (BM (hz:=by have e:=Aq he;omega) (s:={s with toks:=s.toks+(uJ (zab prog w)).draws k}) ho hd (kL (q2 an _ ⟨_,_,ep+1,UI _ ho (Ba (vJ hd _)),hc.mapDictKeys _,vJ hd _,?_,?_,?_⟩ (Qi ..))))))
  ·rw[Cm an]
   simp[he,DA]
  ·rw[Cm an];intro x hx;rcases ke.mp hx with y|y
   ·exact(uJ (zab prog w)).keeps (his x y) ho hd (Qi ..)
   ·rw[kX.mp y];exact(uJ (zab prog w)).keeps hkey ho hd (Qi ..)
  ·rw[Cm an,pV,Qb];refine⟨hn,by simp,fun x hx y hy e=>hnot ?_⟩
   have y':y=k:=by simpa using hy
   rw[←y',←e];exact hx
 ·refine kA (UQ (s:={s with toks:=s.toks+(uJ (zab prog w)).draws k}) ho hd ?_);rw[entry_at he j,hj];exact kA (Qm (kL (q1 p (atKey_of_get hn hj))))
theorem sd_meets{d a:Addr}(hd:(d==QP)=false)(v:kB):MeetsIn prog w (jD.«dict.setdefault» ⟨[.ref d,.ref a,v],[]⟩) (fun A R s=>(uJ (zab prog w)).room A.in1/\∃k xs,(uJ (zab prog w)).is s.heap k a/\s.heap.DictOfH (uJ (zab prog w)) d xs/\xs.length<=sizeLine/\
  (∀p,atKey xs k=some p->R (.ok (.ret p.2)) {s with toks:=s.toks+(uJ (zab prog w)).draws k})/\
  (atKey xs k=none->∀h',h'.DictOfH (uJ (zab prog w)) d (CB xs k a v)->UL d s.heap h'->R (.ok (.ret v)) {s with heap:=h',toks:=s.toks+(uJ (zab prog w)).draws k})):=
 .of_wp fun A R s⟨hu,k,xs,hkey,hm,hz,h1,h2⟩=>by
  unfold jD.«dict.setdefault» gC;refine kA (kA (jQ hm.typeIs ?_));show wpAny _ _ (pure (d,pS a,some v)) _ _ s;refine kL ?_;show wpAny _ _ (if(d==QP)=true then _ else(BL d (pS a) v>>=_)) _ _ s;rw[if_neg (by rw[hd];decide)]
  exact kA (sd_heap hu hkey hm hz (fun p hp=>kL ⟨p.2,rfl,h1 p hp⟩) fun hn h' hm' hs'=>kL ⟨v,rfl,h2 hn h' hm' hs'⟩)
end
section
variable{X:Cx}{pins:List (Addr×Obj)}{σ:St}{H:Hp}{s:kC}
def rSD(a:Addr)(y z:V)(H:Hp)(Q:VK):Prop:=∃kvs k b,H a=some (.dT kvs)/\y=.ref b/\H b=some (.tup (k.map kV))/\kvs.length<sizeLine/\(∀v,valV kvs k=some v->Q v H)/\(valV kvs k=none->Q z (upd H a (.dT (putK kvs k z))))
theorem zj8{A:pj}{E:kB->kC->Prop}{a:Addr}{y z:V}{u r:kB}{Q:VK}(hu:A.units+1<cLine)(I:Inv X pins σ H s)(g:rSD a y z H Q)(ry:RelV y u)(rz:RelV z r):
  wpAny (model X.prog X.w) A (call (.builtin "dict.setdefault") [.ref a,u,r]) (EP X pins σ Q) E s:=by
 obtain⟨kvs,k,b,e,rfl,eb,l,q1,q2⟩:=g
 cases(show u=pS b from ry);obtain⟨zz,hd,xs,rel,dd⟩:=dt_of I.hok e;have hz:xs.length<=sizeLine:=by rw[←Us rel];exact zz
 have hl:(putK kvs k z).length<=sizeLine:=by have:=zbn kvs k z;omega
 refine Ah jn dd.typeIs PySem.F.entry_dict_setdefault (PySem.F.args_dict_setdefault_3 _ _ _) (sd_meets hd r) ⟨uj hu,k,xs,zf5 I.hok eb,dd,hz,fun p hp=>?_,fun hn h' dd' hs=>?_⟩
 ·have rv:=rel.val k;rw[hp] at rv
  cases hv:valV kvs k with
  |none=>rw[hv] at rv;exact rv.elim
  |some v=>
   rw[hv] at rv;exact⟨v,H,I.tok _,rv,q1 v hv⟩
 ·have hv:valV kvs k=none:=by
   have rv:=rel.val k;rw[hn] at rv
   cases hv:valV kvs k with
   |none=>rfl
   |some v=>rw[hv] at rv;exact rv.elim
  obtain⟨o,es,ep,ho,h2,h3,h4,_,h5⟩:=dd';refine⟨z,upd H a (.dT (putK kvs k z)),zg1 I (by rw[e];exact vH) hs ⟨o,ho⟩ ⟨hl,hd,_,(rel.put k eb rz).keeps fun c ys ec=>?_,o,es,ep,ho,h2,h3,h4,h5⟩,rz,q2 hv⟩
  rw[za7 (zqj ec e (fun z=>nomatch z))];exact ec
variable{o e f:Expr}{td ty tx:TE}{apos cpos:Pos}
def tDSd(td ty tx:TE):TE:=fun σ H Q=>td σ H fun x H1=>∃a,x=.ref a/\IsD H1 a/\ty σ H1 fun y H2=>tx σ H2 fun z H3=>rSD a y z H3 Q
theorem pe_dsd(hu:X.A.units+1<cLine)(ho:PE X o td)(he:PE X e ty)(hf:PE X f tx)(m:M2 X o "setdefault" apos e f cpos):PE X (.Call (.Attribute o "setdefault" apos) [e,f] [] cpos) (tDSd td ty tx):=by
 intro pins s σ H Q I h;refine ge m.base m.few m.line vo jn PySem.F.type_dict_setdefault (thn (ho pins s σ H _ I h) fun u s1⟨x,H1,I1,rx,a,ex,d,q1⟩=>?_);subst ex;obtain rfl:u=pS a:=rx;obtain⟨t1,t2,_⟩:=zoh I1 d;refine⟨t1,t2,?_⟩;rw[m.trees];exact Qz rfl (vF (UD (thn (he pins s1 σ H1 _ I1 q1) fun iv s2⟨y,H2,I2,ry,q2⟩=>UD (thn (hf pins s2 σ H2 _ I2 q2) fun fv s3⟨z,H3,I3,rz,g⟩=>jA (zj8 hu I3 g ry rz)))))
end
section
variable{prog:pA}{w:pR}{A:pj}{E:kB->kC->Prop}{s:kC}
theorem znr{d:Addr}{od:Obj}{es:Array AJ}{ep:Nat}{Q:kB->kC->Prop}(hd:(d==QP)=false)(ho:s.heap.get? d=some od)(hc:od.cls=.type "dict")(hdat:od.data=.dict es ep)
  (q:Q (.ref s.heap.objs.size) {s with heap:=s.heap.push {cls:=.type "dict_keyiterator",data:=.fields #[.ref d,.int 0 0,.int es.size 0,.int ep 0]}}):wpAny (model prog w) A (pyIter (.ref d)) Q E s:=by
 have ty:s.TypeIs (.ref d) "dict":=⟨od,ho,hc⟩;refine wpAny_pyIter_slot ty Aj (Ug Aj ty PySem.F.entry_dict_iter ?_ (PySem.F.args_dict_iter_1 _));unfold jD.«dict.__iter__»;refine kA ?_;unfold Builtin.Dict.dictSlotNone;refine kA (jQ ty (kL ?_));refine kA (m:=Ay d) ?_;unfold Ay;rw[if_neg (by rw[hd];decide)]
 refine kL (kA (UQ ho hdat (kA (Ar ho hdat (kA (Uz (kL ⟨_,rfl,"dict_keyiterator",_,⟨_,pM _ rfl,rfl⟩,PySem.F.slot_dict_keyiterator_next.lookup,?_⟩)))))))
 simpa[UW] using q
theorem zmv{it d:Addr}{i ep:Nat}{od:Obj}{es:Array AJ}{Q:Option kB->kC->Prop}(hit:s.heap.IsKeyIter it d i es.size ep)(ho:s.heap.get? d=some od)(hdat:od.data=.dict es ep)(hi:i<es.size)
  (q:∀h',h'.IsKeyIter it d (i+1) es.size ep->UL it s.heap h'->Q (some es[i].key) {s with heap:=h'}):wpAny (model prog w) A (CM (.ref it)) Q E s:=by
 obtain⟨o,hoi,hci,hdi⟩:=id hit;have own:jo "dict_keyiterator"=false:=by decide
 unfold CM;refine kA (gz (AN (name:=QN "__next__") hit.typeIs QR (Ug QR hit.typeIs vc (kA (kL (kA (kA ?_)))) (vW _))))
 first|refine kA (Qr hit.typeIs (kL (kA (gH hoi hdi ?_))))|refine kA (UY hit.typeIs (kL (kA (gH hoi hdi ?_))))
 simp only[own,pF,if_false];show wpAny _ _ (if(pS d==ue)=true then _ else _) _ _ s;have nv:¬((pS d==ue)=true):=pN;rw[if_neg nv];refine kA (kL (kA (UQ ho hdat ?_)));rw[if_neg (by simp)]
 refine kA (kL (kA (Ar ho hdat ?_)));rw[if_neg (by simp)]
 refine kL ?_;simp only[show ¬((i:Int)<0) from by omega,if_false,Qu,uc hi]
 refine kA ?_
 first|refine kA (Qr hit.typeIs (kL (kA (jR hit.typeIs ?_))))|refine kA (UY hit.typeIs (kL (kA (jR hit.typeIs ?_))))
 refine kA (m:=setField (.ref it) 1 (UW ((i:Int)+1))) (wpAny_setField hoi hdi (by simp) ?_)
 have st:(s.heap.update it (DN (·.setIfInBounds 1 (UW ((i:Int)+1))))).IsKeyIter it d (i+1) es.size ep:=⟨_,UI _ hoi (Obj.isFreed_of_fields (Bl hdi _)),(Obj.cls_mapFields ..).trans hci,by rw[Bl hdi];simp[UW]⟩
 refine kA (QD (kA (jR (s:={s with heap:=s.heap.update it (DN (·.setIfInBounds 1 (UW ((i:Int)+1))))}) st.typeIs ?_)));exact kL (kL ⟨_,rfl,kL (q _ st (Qi ..))⟩)
theorem zo0{it d:Addr}{i ep:Nat}{od:Obj}{es:Array AJ}{Q:Option kB->kC->Prop}(hh:A.handled=none)(hit:s.heap.IsKeyIter it d i es.size ep)(ho:s.heap.get? d=some od)(hdat:od.data=.dict es ep)(hi:es.size<=i)
  (q:∀h',Heap.ExtBut it s.heap h'->Q none {s with heap:=h'}):wpAny (model prog w) A (CM (.ref it)) Q E s:=by
 obtain⟨o,hoi,hci,hdi⟩:=id hit;have own:jo "dict_keyiterator"=false:=by decide
 unfold CM;refine kA (gz (AN (name:=QN "__next__") hit.typeIs QR (Ug QR hit.typeIs vc (kA (kL (kA (kA ?_)))) (vW _))))
 first|refine kA (Qr hit.typeIs (kL (kA (gH hoi hdi ?_))))|refine kA (UY hit.typeIs (kL (kA (gH hoi hdi ?_))))
 simp only[own,pF,if_false];show wpAny _ _ (if(pS d==ue)=true then _ else _) _ _ s;have nv:¬((pS d==ue)=true):=pN;rw[if_neg nv];refine kA (kL (kA (UQ ho hdat ?_)));rw[if_neg (by simp)]
 refine kA (kL (kA (Ar ho hdat ?_)));rw[if_neg (by simp)]
 refine kL ?_;simp only[show ¬((i:Int)<0) from by omega,if_false,Qu,Array.getElem?_eq_none hi]
 refine kA ?_
 first|refine kA (Qr hit.typeIs (kL ?_))|refine kA (UY hit.typeIs (kL ?_))
 refine kA (m:=setField (.ref it) 0 .none) (wpAny_setField hoi hdi (by simp) ?_)
 refine kA (m:=newExc (.type "StopIteration") []) ?_;simp only[newExc,newTuple]
 refine kA (Uz (kA (m:=firstArgMember _ _) (wpAny_of_eq (a:=ue) (by first|rfl|(simp only[firstArgMember];rfl)) (Uz ?_ (by size_fits)))) (by size_fits))
 simp only[raiseNew];refine kA (wpAny_handled ?_);rw[show A.in1.handled=none from hh];refine kA (kL (wpAny_throw ?_));refine kA (vQ (T:="StopIteration") (b:=true) ⟨_,pM _ rfl,rfl⟩ isSubtype_stop (kL ?_));exact q _ (((Qi ..).extBut.push _).push _)
end
open PySem.W (kas_sort kas_ask)
def ltL:List (Int×Int)->List (Int×Int)->Bool
 |[],ys=>decide (0<ys.length)
 |_::_,[]=>false
 |x::xs,y::ys=>if x=y then ltL xs ys else HT.lexLt [x.1,x.2] [y.1,y.2]
def LstI(h:Heap)(v:kB)(ns:List (Int×Int)):Prop:=∃(a:Addr)(its:List kB)(n:Nat),v=.ref a/\h.get? a=some (pP "list" its.toArray n)/\its.length=ns.length/\∀(i:Nat)(u:kB)(k:Int×Int),its[i]?=some u->ns[i]?=some k->TupI h u [k.1,k.2]
section
variable{prog:pA}{w:pR}{A:pj}{E:kB->kC->Prop}{s:kC}{R:DU->kC->Prop}
theorem rc_pair{x y:kB}{k l:Int×Int}{Q:kB->kC->Prop}(hx:TupI s.heap x [k.1,k.2])(hy:TupI s.heap y [l.1,l.2])(hu:A.units+64<cLine)(q:Q (.bool (HT.lexLt [k.1,k.2] [l.1,l.2])) s):wpAny (model prog w) A (Ck .Lt x y) Q E s:=by
 obtain⟨a,its,n,dd,sl,rfl,o,i⟩:=hx;obtain⟨b,its2,n2,dd2,sl2,rfl,o2,i2⟩:=hy;exact Ad (op:=.Lt) ⟨_,o,rfl⟩ ⟨_,o2,rfl⟩ Ax Ae (AI _ _) (zq9 a b its its2 n n2 dd dd2 sl sl2 [k.1,k.2] [l.1,l.2] rfl i i2) ⟨o,o2,(fun z=>nomatch z),q⟩ (by omega)
theorem ll_loop{a b:Addr}{xs ys:List kB}{n m:Nat}{ns ms:List (Int×Int)}(hu:A.units+70<cLine)(ha:s.heap.get? a=some (pP "list" xs.toArray n))(hb:s.heap.get? b=some (pP "list" ys.toArray m))(lx:xs.length=ns.length)(ly:ys.length=ms.length)
  (tx:∀(i:Nat)(u:kB)(k:Int×Int),xs[i]?=some u->ns[i]?=some k->TupI s.heap u [k.1,k.2])(ty:∀(i:Nat)(u:kB)(k:Int×Int),ys[i]?=some u->ms[i]?=some k->TupI s.heap u [k.1,k.2]):
  ∀(f i:Nat),ns.length-i=f->i<=ns.length->i<=ms.length->R (.ok (.ret (.bool (ltL (ns.drop i) (ms.drop i))))) s->ju (model prog w) A (.builtin "list.__eq__.loop" ⟨[.ref a,.ref b,UW (i:Int),UW 0],[]⟩) R s:=by
 have fin:∀i:Nat,i<=ns.length->i<=ms.length->(ns.length=i∨ms.length=i)->ltL (ns.drop i) (ms.drop i)=decide (xs.length<ys.length):=fun i h1 h2 h3=>by
  rcases h3 with h3|h3
  ·rw[Uq (by omega),ltL,pT]
   exact decide_eq_decide.mpr (by omega)
  ·rw[Uq (l:=ms) (by omega)]
   cases e:ns.drop i with
   |nil=>
    have:=BJ.mp e;rw[ltL];exact decide_eq_decide.mpr (by simp;omega)
   |cons k r=>
    rw[ltL];have:i<ns.length:=by
     rcases UR i ns.length with z|z
     ·exact z
     ·rw[Uq z] at e;cases e
    exact(decide_eq_false (by omega)).symm
 intro f
 induction f with
 |zero=>
  intro i hf h1 h2 q;have e:ns.length=i:=by omega
  refine vh AO ?_;rw[UP Uh _];rw[fin i h1 h2 (.inl e)] at q;have gx:xs[i]?=none:=Uv (by omega)
  refine kA (QM ha rfl (kA (QM hb rfl ?_)));simp only[UW,Qu,Uw,gx];exact kA (QM ha rfl (kA (QM hb rfl (kL q))))
 |succ f ih=>
  intro i hf h1 h2 q;refine vh AO ?_;rw[UP Uh _];have li:i<xs.length:=by omega
  have gx:xs[i]?=some xs[i]:=kR li;refine kA (QM ha rfl (kA (QM hb rfl ?_)))
  by_cases hy:ms.length=i
  ·rw[fin i h1 h2 (.inr hy)] at q;have gy:ys[i]?=none:=Uv (by omega)
   simp only[UW,Qu,Uw,gx,gy];exact kA (QM ha rfl (kA (QM hb rfl (kL q))))
  ·have lj:i<ys.length:=by omega
   have gy:ys[i]?=some ys[i]:=kR lj;have gn:ns[i]?=some ns[i]:=kR (by omega)
   have gm:ms[i]?=some ms[i]:=kR (by omega)
   have dx:ns.drop i=ns[i]::ns.drop (i+1):=Qk (by omega)
   have dy:ms.drop i=ms[i]::ms.drop (i+1):=Qk (by omega)
   rw[dx,dy,ltL] at q;have t1:=tx i _ _ gx gn;have t2:=ty i _ _ gy gm;simp only[UW,Qu,Uw,gx,gy];refine kA (zle t1 t2 (by show A.units+1+64<_;omega) ?_)
   by_cases e:ns[i]=ms[i]
   ·rw[if_pos e] at q;rw[decide_eq_true (by rw[e])]
    simp only[if_true];have z:=ih (i+1) (by omega) (by omega) (by omega) q
    exact kL ⟨va Uh _,by simpa[UW] using z⟩
   ·rw[if_neg e] at q;have ne:¬[ns[i].1,ns[i].2]=[ms[i].1,ms[i].2]:=fun z=>by
     simp only[jp,and_true] at z;exact e (QX z.1 z.2)
    rw[decide_eq_false ne];simp only[pF,if_false];refine kA (QM ha rfl (kA (QM hb rfl ?_)));simp only[Uw,gx,gy];exact kA (rc_pair t1 t2 (by show A.units+1+64<_;omega) (kL q))
end
open PySem.W (kas_sort kas_ask)
theorem listLt(a b:Addr):Meets (jD.«list.__lt__» ⟨[.ref a,.ref b],[]⟩) (fun A R s=>A.units+70<cLine/\∃(xs ys:List kB)(n m:Nat)(ns ms:List (Int×Int)),s.heap.get? a=some (pP "list" xs.toArray n)/\s.heap.get? b=some (pP "list" ys.toArray m)/\xs.length=ns.length/\ys.length=ms.length/\
  (∀(i:Nat)(u:kB)(k:Int×Int),xs[i]?=some u->ns[i]?=some k->TupI s.heap u [k.1,k.2])/\(∀(i:Nat)(u:kB)(k:Int×Int),ys[i]?=some u->ms[i]?=some k->TupI s.heap u [k.1,k.2])/\R (.ok (.ret (.bool (ltL ns ms)))) s):=by
 intro prog w A R s h;obtain⟨hu,xs,ys,n,m,ns,ms,ha,hb,lx,ly,tx,ty,q⟩:=h;refine kA (m:=Bm (.ref b) (.type "list")) (vQ (T:="list") (b:=true) ⟨_,hb,rfl⟩ AutoSeq1.sub_list_list ?_);exact kL ⟨va Uh _,ll_loop (i:=0) hu ha hb lx ly tx ty _ rfl (pY _) (pY _) q⟩
section
variable{prog:pA}{w:pR}{A:pj}{E:kB->kC->Prop}{s:kC}{C:Bool->kC->Prop}
theorem lt_lst{x y:kB}{ns ms:List (Int×Int)}(hx:LstI s.heap x ns)(hy:LstI s.heap y ms)(hu:A.units+70<cLine)(q:C (ltL ns ms) s):wpAny (model prog w) A (DW oneType' x y) C E s:=by
 obtain⟨a,xs,n,rfl,ha,lx,tx⟩:=hx;obtain⟨b,ys,m,rfl,hb,ly,ty⟩:=hy;rw[keyLt'_oneType,oneLt'_eq];simp only[if_true];refine kA (wpAny_cRoomFor (by omega) (kA (wpAny_callSpecialIfBound?_slot ⟨_,ha,rfl⟩ BN (Bi BN ⟨_,ha,rfl⟩ PySem.F.entry_list_lt (PySem.F.args_list_lt_2 _ _) (listLt a b) ⟨hu,xs,ys,n,m,ns,ms,ha,hb,lx,ly,tx,ty,?_⟩))))
 exact Qt q
theorem zo7{M:Model}{vs:List kB}{Q:UO->kC->Prop}(h2:2<=vs.length)(hv:∀v,v∈vs->∃ns,LstI s.heap v ns)(q:Q oneType' s):wpAny M A (BI vs.toArray) Q E s:=by
 refine PySem.W.kas_kind (T:=.type "list") h2 (fun v h=>?_) (by decide) (by decide) q
 obtain⟨ns,a,its,n,rfl,o,_⟩:=hv v h;exact(CQ o).andThen .now
end
open PySem.W (KasT kas_asc kas_desc kas_rev kas_tail3 kas_descPart kas_count kas_place kas_bin kas_sort)
structure Tot(n:Nat)(ans:Nat->Nat->Bool):Prop where
 irr:∀i,ans i i=false
 tr:∀i j k,ans i j=true->ans j k=true->ans i k=true
 tot:∀i j,i<n->j<n->i≠j->ans i j=true∨ans j i=true
def Up(ans:Nat->Nat->Bool)(p:Array Nat)(m:Nat):Prop:=∀i j,i<j->j<m->ans (p.getD i 0) (p.getD j 0)=true
def Down(ans:Nat->Nat->Bool)(p:Array Nat)(m:Nat):Prop:=∀i j,i<j->j<m->ans (p.getD j 0) (p.getD i 0)=true
theorem ze6{α β:Type}{ans:Nat->Nat->Bool}{f:α->KasT β}:∀t:KasT α,ansT ans (t.bind f)=ansT ans (f (ansT ans t))
 |.ret _=>rfl
 |.ask i j k=>ze6 (k (ans i j))
section
variable{n:Nat}{ans:Nat->Nat->Bool}
theorem Ord.ne{p:Array Nat}(h:Ord n p){i j:Nat}(hij:i<j)(hj:j<n):p.getD i 0≠p.getD j 0:=by
 have z:p.size=n:=by have:=h.length_eq;simpa using this
 have nd:p.toList.Nodup:=h.nodup_iff.mpr List.nodup_range;have e1:p.getD i 0=p.toList[i]'(by simp;omega):=by simp[hV,show i<p.size by omega]
 have e2:p.getD j 0=p.toList[j]'(by simp;omega):=by simp[hV,show j<p.size by omega]
 rw[e1,e2];exact(vU.mp nd) i j _ _ hij
theorem Tot.fl(T:Tot n ans){p:Array Nat}(h:Ord n p){i j:Nat}(hij:i<j)(hj:j<n)(hf:ans (p.getD j 0) (p.getD i 0)=false):ans (p.getD i 0) (p.getD j 0)=true:=by
 rcases T.tot _ _ (h.get (by omega) i) (h.get (by omega) j) (h.ne hij hj) with z|z
 ·exact z
 ·rw[hf] at z;cases z
theorem Up.step(T:Tot n ans){p:Array Nat}{m:Nat}(u:Up ans p m)(h:∀i,i+1=m->ans (p.getD i 0) (p.getD m 0)=true):Up ans p (m+1):=fun i j hij hj=>by
 by_cases z:j<m
 ·exact u i j hij z
 ·have e:j=m:=by omega
  subst e
  by_cases y:i+1=j
  ·exact h i y
  ·exact T.tr _ _ _ (u i (j-1) (by omega) (by omega)) (h (j-1) (by omega))
theorem Down.step(T:Tot n ans){p:Array Nat}{m:Nat}(u:Down ans p m)(h:∀i,i+1=m->ans (p.getD m 0) (p.getD i 0)=true):Down ans p (m+1):=fun i j hij hj=>by
 by_cases z:j<m
 ·exact u i j hij z
 ·have e:j=m:=by omega
  subst e
  by_cases y:i+1=j
  ·exact h i y
  ·exact T.tr _ _ _ (h (j-1) (by omega)) (u i (j-1) (by omega) (by omega))
theorem zou(T:Tot n ans){p:Array Nat}(h:Ord n p):∀f m,1<=m->m+f=n->Up ans p m->m<=ansT ans (kas_asc p f m)/\ansT ans (kas_asc p f m)<=n/\Up ans p (ansT ans (kas_asc p f m))/\(ansT ans (kas_asc p f m)<n->ans (p.getD (ansT ans (kas_asc p f m)) 0) (p.getD (ansT ans (kas_asc p f m)-1) 0)=true)
 |0,m,h1,hm,u=>⟨kG _,by show m<=n;omega,u,fun z=>by have:m<n:=z;omega⟩
 |f+1,m,h1,hm,u=>by
  have e:ansT ans (kas_asc p (f+1) m)=ansT ans (if ans (p.getD m 0) (p.getD (m-1) 0)=true then .ret m else kas_asc p f (m+1)):=rfl;rw[e]
  cases c:ans (p.getD m 0) (p.getD (m-1) 0) with
  |true=>rw[if_pos rfl];exact⟨kG _,by show m<=n;omega,u,fun _=>c⟩
  |false=>
   rw[if_neg (by decide)]
   obtain⟨a1,a2,a3⟩:=zou T h f (m+1) (by omega) (by omega) (u.step T fun i hi=>by
    have e:m-1=i:=by omega
    rw[e] at c;exact T.fl h (by omega) (by omega) c)
   exact⟨by omega,a2,a3⟩
theorem zjd(T:Tot n ans){p:Array Nat}(h:Ord n p):∀f m,1<=m->m+f=n->Down ans p m->∃m',ansT ans (kas_desc f p m 0)=(p,m',0)/\m<=m'/\m'<=n/\Down ans p m'
 |0,m,h1,hm,u=>⟨m,rfl,kG _,by omega,u⟩
 |f+1,m,h1,hm,u=>by
  have e:ansT ans (kas_desc (f+1) p m 0)=ansT ans (if ans (p.getD m 0) (p.getD (m-1) 0)=true then(if 0>0 then kas_desc f (kas_rev p (m-(0+1)) m) (m+1) 0 else kas_desc f p (m+1) 0)
   else .ask (p.getD (m-1) 0) (p.getD m 0) fun d=>if d=true then .ret (p,m,0) else kas_desc f p (m+1) (0+1)):=rfl
  rw[e]
  cases c:ans (p.getD m 0) (p.getD (m-1) 0) with
  |true=>
   rw[if_pos rfl,if_neg (by decide)]
   obtain⟨m',a1,a2,a3⟩:=zjd T h f (m+1) (by omega) (by omega) (u.step T fun i hi=>by
    have e:m-1=i:=by omega
    rw[e] at c;exact c)
   exact⟨m',a1,by omega,a3⟩
  |false=>
   rw[if_neg (by decide)]
   have y:=T.fl h (i:=m-1) (j:=m) (by omega) (by omega) c
   show ∃m',ansT ans (if ans (p.getD (m-1) 0) (p.getD m 0)=true then .ret (p,m,0) else kas_desc f p (m+1) (0+1))=_/\_
   rw[y,if_pos rfl];exact⟨m,rfl,kG _,by omega,u⟩
theorem zmb{p:Array Nat}{m:Nat}(hm:m<=p.size){k:Nat}(hk:k<m):(kas_rev p 0 m).getD k 0=p.getD (m-1-k) 0:=by
 have e:(kas_rev p 0 m)[k]?=p[m-1-k]?:=by
  unfold kas_rev;rw[getElem?_mirror_all hm,if_pos (by omega)]
  congr 1
  omega
 rw[ug,ug,e]
theorem up_count(T:Tot n ans)(hn:0<n){p:Array Nat}(h:Ord n p):∃m p',ansT ans (kas_count n p)=(m,p')/\1<=m/\m<=n/\Up ans p' m:=by
 have u1:Up ans p 1:=fun i j hij hj=>by omega
 have z:p.size=n:=by have:=h.length_eq;simpa using this
 obtain⟨a1,a2,a3,a4⟩:=zou T h (n-1) 1 (kG _) (by omega) u1
 unfold kas_count;rw[ze6];generalize ansT ans (kas_asc p (n-1) 1)=m at a1 a2 a3 a4⊢
 by_cases c1:m=n
 ·subst c1;simp only[beq_self_eq_true,if_true];exact⟨m,p,rfl,a1,a2,a3⟩
 ·have c1':(m==n)=false:=beq_eq_false_iff_ne.mpr c1;simp only[c1',pF,if_false]
  by_cases c2:m>1
  ·rw[if_pos c2];have y:=a3 0 (m-1) (by omega) (by omega)
   show ∃m' p',ansT ans (if ans (p.getD 0 0) (p.getD (m-1) 0)=true then .ret (m,p) else kas_descPart m n (kas_rev p 0 m))=_/\_
   rw[y,if_pos rfl];exact⟨m,p,rfl,a1,a2,a3⟩
  ·have e:m=1:=by omega
   subst e;rw[if_neg c2];have y:=a4 (by omega)
   have d2:Down ans p (1+1):=fun i j hij hj=>by
    have e1:i=0:=by omega
    have e2:j=1:=by omega
    subst e1 e2;exact y
   obtain⟨m',b1,b2,b3,b4⟩:=zjd T h (n-(1+1)) (1+1) (by omega) (by omega) d2
   unfold kas_descPart;rw[ze6,b1];simp only[gt_iff_lt,UB,if_false];unfold kas_tail3;rw[ze6];have o2:Ord n (kas_rev p 0 m'):=h.rev _ _;have u2:Up ans (kas_rev p 0 m') m':=fun i j hij hj=>by
    rw[zmb (by omega) (by omega),zmb (by omega) (by omega)]
    exact b4 _ _ (by omega) (by omega)
   obtain⟨g1,g2,g3,g4⟩:=zou T o2 (n-m') m' (by omega) (by omega) u2
   exact⟨_,_,rfl,by omega,g2,g3⟩
theorem ziv(T:Tot n ans){p:Array Nat}(h:Ord n p){k:Nat}(hk:k<n)(u:Up ans p k):∀f l r,l<=r->r<=k->r-l<=f->(∀i,i<l->ans (p.getD i 0) (p.getD k 0)=true)->(∀i,r<=i->i<k->ans (p.getD k 0) (p.getD i 0)=true)->
  ∃l',ansT ans (kas_place p k f l r)=l'/\l'<=k/\(∀i,i<l'->ans (p.getD i 0) (p.getD k 0)=true)/\(∀i,l'<=i->i<k->ans (p.getD k 0) (p.getD i 0)=true)
 |0,l,r,h1,h2,h3,hl,hr=>⟨l,rfl,by omega,hl,fun i a b=>hr i (by omega) b⟩
 |f+1,l,r,h1,h2,h3,hl,hr=>by
  unfold kas_place
  by_cases c:l≥r
  ·rw[if_pos c];exact⟨l,rfl,by omega,hl,fun i a b=>hr i (by omega) b⟩
  ·rw[if_neg c];show ∃l',ansT ans (if ans (p.getD k 0) (p.getD ((l+r)/2) 0)=true then kas_place p k f l ((l+r)/2) else kas_place p k f ((l+r)/2+1) r)=l'/\_;have m1:l<=(l+r)/2:=by omega
   have m2:(l+r)/2<r:=by omega
   cases e:ans (p.getD k 0) (p.getD ((l+r)/2) 0) with
   |true=>
    rw[if_pos rfl];refine ziv T h hk u f l _ m1 (by omega) (by omega) hl fun i a b=>?_
    by_cases y:i=(l+r)/2
    ·rw[y];exact e
    ·exact T.tr _ _ _ e (u _ _ (by omega) b)
   |false=>
    rw[if_neg (by decide)]
    have y:=T.fl h (i:=(l+r)/2) (j:=k) (by omega) hk e
    refine ziv T h hk u f _ r (by omega) h2 (by omega) (fun i a=>?_) hr
    by_cases x:i=(l+r)/2
    ·rw[x];exact y
    ·exact T.tr _ _ _ (u i ((l+r)/2) (by omega) (by omega)) y
theorem zmf{p:Array Nat}{k l:Nat}(hk:k<p.size)(hl:l<=k)(i:Nat):(bubble p k (k-l)).getD i 0=if i=l then p.getD k 0 else if l<i/\i<=k then p.getD (i-1) 0 else p.getD i 0:=by
 have e:=getElem?_bubble hk (k-l) (by omega) i
 have x:k-(k-l)=l:=by omega
 rw[x] at e;rw[ug,e]
 by_cases c1:i=l
 ·rw[if_pos c1,if_pos c1,ug]
 ·rw[if_neg c1,if_neg c1]
  by_cases c2:l<i/\i<=k
  ·rw[if_pos c2,if_pos c2,ug]
  ·rw[if_neg c2,if_neg c2,ug]
theorem up_bin(T:Tot n ans):∀f(p:Array Nat) k,Ord n p->1<=k->k+f=n->Up ans p k->Up ans (ansT ans (kas_bin f p k)) n
 |0,p,k,h,h1,hk,u=>by
  have e:k=n:=by omega
  subst e;exact u
 |f+1,p,k,h,h1,hk,u=>by
  have z:p.size=n:=by have:=h.length_eq;simpa using this
  unfold kas_bin;rw[ze6];obtain⟨l,e,a1,a2,a3⟩:=ziv T h (k:=k) (by omega) u k 0 k (pY _) (kG _) (by omega) (fun i hi=>by omega) (fun i a b=>by omega)
  rw[e];refine up_bin T f _ (k+1) (h.of (Cj _ _ _)) (by omega) (by omega) fun i j hij hj=>?_
  rw[zmf (by omega) a1,zmf (by omega) a1]
  by_cases c1:i=l
  ·rw[if_pos c1,if_neg (by omega),if_pos (by omega)]
   exact a3 _ (by omega) (by omega)
  ·rw[if_neg c1]
   by_cases c2:l<i/\i<=k
   ·rw[if_pos c2,if_neg (by omega),if_pos (by omega)]
    exact u _ _ (by omega) (by omega)
   ·rw[if_neg c2]
    by_cases c3:j=l
    ·rw[if_pos c3];exact a2 _ (by omega)
    ·rw[if_neg c3]
     by_cases c4:l<j/\j<=k
     ·rw[if_pos c4];exact u _ _ (by omega) (by omega)
     ·rw[if_neg c4];exact u _ _ (by omega) (by omega)
theorem up_sort(T:Tot n ans)(hn:0<n):Up ans (ansT ans (kas_sort n)) n:=by
 have o0:Ord n (Qa (kc n)):=by unfold Ord;simp
 obtain⟨m,p,e,m1,m2,u⟩:=up_count T hn o0;have o1:Ord n (m,p).2:=by
  rw[←e];exact Asks.ends (zhs hn o0)
 unfold kas_sort;rw[ze6,e]
 by_cases c:m<n
 ·simp only[c,if_true];have x:max m 1=m:=by omega
  rw[x];exact up_bin T (n-m) p m o1 m1 (by omega) u
 ·simp only[c,if_false];have x:m=n:=by omega
  subst x;exact u
end
open PySem.W (kas_sort kas_ask)
def LsI(H:Hp)(v:V)(ns:List (Int×Int)):Prop:=∃(q:Addr)(qs:List V),v=.ref q/\H q=some (.lst qs)/\qs.length=ns.length/\∀(j:Nat)(k:Int×Int),ns[j]?=some k->∃b,qs[j]?=some (.ref b)/\H b=some (.tup [.int k.1,.int k.2])
def KPl:KPT:=fun H zs ans=>∃kp:Nat->List (Int×Int),(∀i,i<zs.length->LsI H (zs.getD i .non) (kp i))/\ans=fun i j=>ltL (kp i) (kp j)
section
variable{X:Cx}{pins:List (Addr×Obj)}{σ:St}{H:Hp}{s:kC}
theorem lstI_of(I:Inv X pins σ H s){v:V}{u:kB}{ns:List (Int×Int)}(h:LsI H v ns)(r:RelV v u):LstI s.heap u ns:=by
 obtain⟨q,qs,rfl,hq,hl,he⟩:=h
 cases(show u=pS q from r);obtain⟨z,its,n,rv,hlen,e⟩:=I.lstM hq;refine⟨q,its,n,rfl,e,by rw[←rv.length];exact hl,fun i u k hu hk=>?_⟩
 obtain⟨b,hb,hH⟩:=he i k hk;obtain⟨v,hv,rr⟩:=vals_get? rv hu;rw[hb] at hv
 cases hv
 cases(show u=pS b from rr);exact zkn I (ns:=[k.1,k.2]) hH
theorem zn7(hu:X.A.units+80<cLine):KeyKP X KPl:=by
 intro pins σ H s zs ks ans I r h;obtain⟨kp,ok,rfl⟩:=h;have len:=r.length;have lst:∀i,i<ks.length->LstI s.heap (ks.getD i ue) (kp i):=fun i hi=>lstI_of I (ok i (by omega)) (zi7 r i (by omega))
 refine⟨oneType',fun h2 Q' q'=>zo7 h2 (fun v hv=>?_) q',fun h2 i j C hi hj cc=>lt_lst (lst i hi) (lst j hj) (by show X.A.units+1+1+70<_;omega) cc⟩
 obtain⟨i,hi,e⟩:=QV.mp hv;refine⟨kp i,?_⟩;have t:=lst i hi;have e':ks.getD i ue=v:=by simp[hi,e]
 rw[e'] at t;exact t
end
def TupR(h:Heap)(v:kB)(ns ms:List Int)(l r:Bool):Prop:=∃(a:Addr)(x y:kB)(n:Nat)(dd:Option Addr)(sl:Array (Option kB)),v=.ref a/\h.get? a=some {cls:=.type "tuple",dict:=dd,data:=.seq #[x,y,.bool l,.bool r] n,slots:=sl}/\TupI h x ns/\TupI h y ms
open PySem.W (KatTups) in
theorem ktupsR{h:Heap}:∀vs:List kB,(∀v,v∈vs->∃a b l r,a≠[]/\TupR h v a b l r)->∃fs,fs.length=vs.length/\KatTups h vs fs/\∀f,f∈fs->∃ns,TupI h f ns
 |[],_=>⟨[],rfl,.nil,fun f hf=>by cases hf⟩
 |v::vs,hv=>by
  obtain⟨fs,l,t,r⟩:=ktupsR vs fun u hu=>hv u (kI _ hu);obtain⟨a,b,l',r',ne,p,x,y,n,dd,sl,rfl,o,i,j⟩:=hv v (po ..);refine⟨x::fs,by simp[l],.cons o rfl rfl rfl t,fun f hf=>?_⟩
  rcases kg.mp hf with rfl|hf
  ·exact⟨_,i⟩
  ·exact r f hf
open PySem.W (CodeHd codeHdIn tabIn)
structure FunC(K:kM)(x qual:Str)(st:Stmt)(f:Addr)(fd:Qy)(c P:Addr):Prop where
 ex:∃(oc:kB)(od:Option Addr)(kV doc pm:kB)(an:Option Addr)(ct:kB)(osl:Array (Option kB)),
  fd=kN x qual (za4 st) (za3 st) (za0 st) .none kV doc pm an (.ref c) ct/\K.lookup f=some ⟨oc,od,.func fd,osl⟩/\km K (.ref c) qual=true
 hd:codeHdIn K c P=true
section
variable{P:pA}{w:pR}{K:kM}{mg:Str->Option kB}{base:Heap}
theorem FunC.ok{x qual:Str}{st:Stmt}{f c tb:Addr}{fd:Qy}{N ps:List Str}{k:Nat}{sp:Sp}(F:FunC K x qual st f fd c tb)(S:zae N ps (za0 st))(len:∀vs H Q E,sp vs H Q E->vs.length=ps.length)
  (hbody:∀(A:pj)(outer:List Env)(s:kC)(H:Hp)(vs:List V)(Q:VK)(E:XK),Room k (A.deeper (Aa qual (za0 st) s.heap.objs.size f (.ref c)))->sp vs H Q E->
   ∃t,PSs (cxOf CX0 P w K mg base N qual (za0 st) f (.ref c) A outer s H E).nox (za3 st) t/\t {nx:=fun _ H'=>Q .non H',rt:=Q} (start N vs) H):FnOk P w K mg base CX0 (k+1) f fd ps sp:=by
 obtain⟨oc,od,kV,doc,pm,an,ct,osl,rfl,lk,hcd⟩:=F.ex;refine fn_of lk hcd S len fun A outer s H vs Q E hr hsp=>?_;obtain⟨t,h,q⟩:=hbody A outer s H vs Q E hr hsp;exact⟨t,h.nox,q⟩
end
theorem zd2.ne{H:Hp}{P:Addr}{pos:Pos}{q:Str}(t:zd2 H P pos q){a:Addr}{o:HO}(h:H a=some o)(n:∀ps,o≠.tbl ps):a≠P:=fun z=>by
 obtain⟨ps,e,_⟩:=t;rw[z,e] at h
 cases h;exact n ps rfl
theorem zb9.tup{P:Addr}{pos:Pos}{q:Str}{H H':Hp}(g:zb9 P H H')(t:zd2 H P pos q){a:Addr}{xs:List V}(h:H a=some (.tup xs)):H' a=some (.tup xs):=g a _ (t.ne h fun _ z=>nomatch z) h
theorem zb9.lst{P:Addr}{pos:Pos}{q:Str}{H H':Hp}(g:zb9 P H H')(t:zd2 H P pos q){a:Addr}{xs:List V}(h:H a=some (.lst xs)):H' a=some (.lst xs):=g a _ (t.ne h fun _ z=>nomatch z) h
open PySem.W (kas_sort)
structure STO{α:Type}(lt:α->α->Bool):Prop where
 irr:∀a,lt a a=false
 tr:∀a b c,lt a b=true->lt b c=true->lt a c=true
 tot:∀a b,a≠b->lt a b=true∨lt b a=true
def lexB{α β:Type}[DecidableEq α](r:α->α->Bool)(s:β->β->Bool)(a b:α×β):Bool:=if a.1=b.1 then s a.2 b.2 else r a.1 b.1
theorem STO.lex{α β:Type}[DecidableEq α]{r:α->α->Bool}{s:β->β->Bool}(R:STO r)(S:STO s):STO (lexB r s) where
 irr a:=by unfold lexB;rw[if_pos rfl];exact S.irr _
 tr a b c h1 h2:=by
  unfold lexB at*
  by_cases e1:a.1=b.1
  ·rw[if_pos e1] at h1
   by_cases e2:b.1=c.1
   ·rw[if_pos e2] at h2;rw[if_pos (e1.trans e2)];exact S.tr _ _ _ h1 h2
   ·rw[if_neg e2] at h2;rw[if_neg (fun z=>e2 (e1.symm.trans z)),e1];exact h2
  ·rw[if_neg e1] at h1
   by_cases e2:b.1=c.1
   ·rw[if_neg (fun z=>e1 (z.trans e2.symm)),←e2];exact h1
   ·rw[if_neg e2] at h2;have n:a.1≠c.1:=fun z=>by
     rw[←z] at h2;have:=R.tr _ _ _ h1 h2;rw[R.irr] at this
     cases this
    rw[if_neg n];exact R.tr _ _ _ h1 h2
 tot a b h:=by
  unfold lexB
  by_cases e:a.1=b.1
  ·rw[if_pos e,if_pos e.symm];exact S.tot _ _ fun z=>h (QX e z)
  ·rw[if_neg e,if_neg fun z=>e z.symm];exact R.tot _ _ e
theorem STO.int:STO (fun a b:Int=>decide (a<b)) where
 irr a:=decide_eq_false (by omega)
 tr a b c h1 h2:=decide_eq_true (by have:=of_decide_eq_true h1;have:=of_decide_eq_true h2;omega)
 tot a b h:=by
  rcases Int.lt_or_gt_of_ne h with h|h
  ·exact .inl (decide_eq_true h)
  ·exact .inr (decide_eq_true h)
abbrev lt2:Int×Int->Int×Int->Bool:=lexB (fun a b=>decide (a<b)) (fun a b=>decide (a<b))
theorem sto2:STO lt2:=STO.int.lex STO.int
theorem lex1(a b:Int):HT.lexLt [a] [b]=decide (a<b):=by
 rw[HT.lexLt_cons,HT.lexLt_nil_nil]
 by_cases e:a=b
 ·rw[if_pos e];exact(decide_eq_false (by omega)).symm
 ·rw[if_neg e]
theorem lex2(a b c d:Int):HT.lexLt [a,b] [c,d]=lt2 (a,b) (c,d):=by
 rw[HT.lexLt_cons,lex1];rfl
theorem zov{α β:Type}{lt:β->β->Bool}(S:STO lt)(k:α->β)(z:α){fs:List α}(nd:(fs.map k).Nodup){p:Array Nat}(or:Ord fs.length p)(ep:2<=fs.length->p=ansT (fun i j=>lt (k (fs.getD i z)) (k (fs.getD j z))) (kas_sort fs.length)):
  (p.toList.map fun i=>fs.getD i z).Perm fs/\(p.toList.map fun i=>fs.getD i z).Pairwise fun a b=>lt (k a) (k b)=true:=by
 have rg:((kc fs.length).map fun i=>fs.getD i z)=fs:=by
  refine CO (by simp) fun i h1 h2=>?_
  have hi:i<fs.length:=h2
  simp[hi]
 have lo:p.toList.length=fs.length:=by rw[or.length_eq,ua]
 refine⟨?_,?_⟩
 ·have:=or.map fun i=>fs.getD i z;rw[rg] at this;exact this
 ·by_cases h2:2<=fs.length
  ·have nd':=List.pairwise_map.mp nd;have T:Tot fs.length (fun i j=>lt (k (fs.getD i z)) (k (fs.getD j z))):=⟨fun i=>S.irr _,fun i j l=>S.tr _ _ _,fun i j hi hj hn=>S.tot _ _ fun e=>hn (by
    have e1:fs.getD i z=fs[i]:=by simp[hi]
    have e2:fs.getD j z=fs[j]:=by simp[hj]
    rw[e1,e2] at e;rcases jH i j with h|h|h
    ·exact absurd e ((vU.mp nd') i j hi hj h)
    ·exact h
    ·exact absurd e.symm ((vU.mp nd') j i hj hi h))⟩
   have u:=up_sort T (by omega)
   rw[←ep h2] at u;refine List.pairwise_iff_getElem.mpr fun i j hi hj hij=>?_;have hi':i<p.size:=by simpa using hi
   have hj':j<p.size:=by simpa using hj
   have hn:p.size=fs.length:=by simpa using lo
   have:=u i j hij (by omega)
   have e1:p.getD i 0=p[i]:=by simp[hV,hi']
   have e2:p.getD j 0=p[j]:=by simp[hV,hj']
   rw[e1,e2] at this
   simpa using this
  ·have l1:(p.toList.map fun i=>fs.getD i z).length<=1:=by rw[kO,lo];omega
   revert l1
   generalize (p.toList.map fun i=>fs.getD i z)=ws;intro l1
   match ws,l1 with
   |[],_=>exact .nil
   |[a],_=>exact Qv _ _
end L2
namespace L2
open PySem
theorem hu80{A:pj}{k:Nat}(hr:Room k A):A.units+80<cLine:=by have:=hu100 hr;omega
def lamAt(st:Stmt):Scope×Pos:=match(za3 st).getLast? with
 |some (.Return (some (.Call _ _ (⟨_,.Lambda _ _ sc lp,_⟩::_) _)) _)=>(sc,lp)
 |_=>(za0 st,⟨0,0,0,0⟩)
end L2
namespace L2
open PySem PySem.Spec PyProof.Rows
def cnt(mask:Nat)(owner:Array (Option Nat)):Nat:=((kc (mask+1)).filter fun j=>(owner.getD j none).isSome).length
section
variable{X:Cx}
def zgu(K:kM):R2:=fun x y H Q=>∃d es,RdD K H d x/\RdD K H (.list es) y/\d.canLay0=true/\uF es=true/\d.depth<=60/\Q (.bl (!(es.any fun e=>uW e d))) H
theorem zp9(hu:X.A.units+64<cLine):OpR X (Ql .NotIn) (zgu X.K):=by
 intro pins s σ H x y v u Q I rx ry h;obtain⟨d,es,hd,he,c1,c2,c3,q⟩:=h;obtain⟨as,ra⟩:=zd9 I d x v hd rx;obtain⟨bs,rb⟩:=zd9 I _ y u he ry;exact SeqAt.notIn_list_reads rb ra c2 c1 (by omega) ⟨.bl _,H,I,rfl,q⟩
end
namespace RV
end RV
section
variable{prog:pA}{w:pR}{K:Type}[DecidableEq K](knd:KeyKind prog w K)
inductive zeh(h:Heap):List (List K)->List kB->Prop
 |nil:zeh h [] []
 |cons {k:List K} {b:Addr} {ks:List (List K)} {vs:List kB}:IsTupleKey knd h k b->zeh h ks vs->zeh h (k::ks) (.ref b::vs)
def zdm(h:Heap)(ks:List (List K))(a:Addr):Prop:=∃o items n,h.get? a=some o/\o.cls=.type "tuple"/\o.data=.seq items n/\zeh knd h ks items.toList
variable{knd}
theorem zeh.inj{h:Heap}{x y:List (List K)}{vs:List kB}(hx:zeh knd h x vs)(hy:zeh knd h y vs):x=y:=by
 induction hx generalizing y with
 |nil=>cases hy;rfl
 |cons h1 _ ih=>
  cases hy with
  |cons h2 t2=>rw[h1.inj h2,ih t2]
theorem zdm.typeIs{s:kC}{ks:List (List K)}{a:Addr}(x:zdm knd s.heap ks a):s.TypeIs (.ref a) "tuple":=let⟨o,_,_,ho,hc,_⟩:=x;⟨o,ho,hc⟩
theorem zdm.inj{h:Heap}{a:Addr}{x y:List (List K)}(hx:zdm knd h x a)(hy:zdm knd h y a):x=y:=by
 obtain⟨o,items,n,ho,_,hd,hi⟩:=hx;obtain⟨o',items',n',ho',_,hd',hi'⟩:=hy;obtain rfl:o=o':=uB (ho.symm.trans ho');rw[hd] at hd'
 injection hd' with h1 _
 subst h1;exact hi.inj hi'
theorem zdm.keeps{h h':Heap}{ks:List (List K)}{a d:Addr}{o:Obj}{es ep}(x:zdm knd h ks a)(ho:h.get? d=some o)(hd:o.data=.dict es ep)(hs:UL d h h'):zdm knd h' ks a:=by
 obtain⟨o',items,n,ho',hc,hd',hi⟩:=x;have hne:a≠d:=by
  rintro rfl;obtain rfl:o'=o:=uB (ho'.symm.trans ho);rw[hd] at hd';exact nomatch hd'
 refine⟨o',items,n,(hs.2 a hne).trans ho',hc,hd',?_⟩;generalize items.toList=vs at hi
 induction hi with
 |nil=>exact .nil
 |cons h1 _ ih=>exact .cons (h1.keeps ho hd hs) ih
def zil(knd:KeyKind prog w K)(ks:List (List K)):Int:=reduceHash (ut (ks.map (jI knd)))
def zdj(ks:List (List K)):Nat:=(ks.map fun k=>k.length+1).sum
variable{A:pj}{E:kB->kC->Prop}{s:kC}
theorem zl2{ks:List (List K)}{a:Addr}{Q:Int->kC->Prop}(hu:A.units+2<cLine)(hk:zdm knd s.heap ks a)(h:Q (zil knd ks) {s with toks:=s.toks+(zdj ks+1)}):
  wpAny (model prog w) A (pyHash (.ref a)) Q E s:=by
 have hT:=hk.typeIs;obtain⟨o,items,n,ho,_,hd,hi⟩:=hk;unfold pyHash
 first|unfold pyHashByItsType|skip
 first|refine kA (wpAny_cRoomFor_or (.inr (by omega)) ?_)|skip
 refine kA (vg hT Ui.lookup ?_);show wpAny _ _ (if(some (Value.builtin "tuple.__hash__")==some ue)=true then _ else _) Q E s;rw[if_neg (by rw[beq_builtin_none];exact pN)]
 refine kA (vg hT Ui.lookup ?_);show wpAny _ _ (callSpecialIfBoundUnlessNone? (.ref a) "__hash__" _>>=_) Q E s;refine kA (wpAny_callSpecialIfBoundUnlessNone?_slot hT Ui (Ug Ui hT PySem.F.entry_tuple_hash ?_ (PySem.F.args_tuple_hash_1 _)));show wpAny _ _ (Builtin.Tuple.tupleItemsOf (.ref a)>>=_) _ _ s;refine kA (gI ho hd ?_);refine kA ?_;rw[←gJ];refine vN _
  (fun rest(b:Array Int) s'=>∃done left,ks=done++left/\zeh knd s.heap left rest/\b.toList=done.map (jI knd)/\s'={s with toks:=s.toks+zdj done})
  _ ?_ ?_ _ _ ⟨[],ks,rfl,hi,rfl,rfl⟩
 ·rintro x rest b s' ⟨done,left,rfl,hl,hb,rfl⟩
  cases hl with
  |@cons k b' ks' _ h1 hl'=>
   refine kA ((uJ knd).pyHash (k:=k) (uj (by omega)) h1 ?_)
   have e:zdj (done++[k])=zdj done+(k.length+1):=by simp[zdj]
   have eh:∀t,({({s with toks:=s.toks+zdj done}:kC) with toks:=t}:kC)={s with toks:=t}:=fun _=>rfl
   first
    |exact kL ⟨done++[k],ks',by simp,hl',by simp[hb,uJ],by rw[e,←UZ];rfl⟩
    |exact kA (kL (kL ⟨done++[k],ks',by simp,hl',by simp[hb,uJ],by rw[e,←UZ];rfl⟩))
 ·rintro b s' ⟨done,left,rfl,hl,hb,rfl⟩
  cases hl;rw[pU] at h;show wpAny _ _ (retInt (ut b.toList)) _ _ _;rw[hb];refine wpAny_ret_mkInt ?_;show wpAny _ _ (if(decide (-(2:Int)^63<=ut (done.map (jI knd)))&&decide (ut (done.map (jI knd))<2^63))=true then _ else _) Q E _;unfold zil reduceHash at h
  by_cases hr:(decide (-(2:Int)^63<=ut (done.map (jI knd)))&&decide (ut (done.map (jI knd))<2^63))=true
  ·rw[if_pos hr];rw[if_pos hr] at h;exact kL (by simpa[UZ] using h)
  ·rw[if_neg hr];rw[if_neg hr] at h;exact kA (Qm (kL (by simpa[UZ] using h)))
theorem zjv{x y:List (List K)}{a b:Addr}{P:vn->kC->Prop}(hu:A.units<cLine)(hx:zdm knd s.heap x a)(hy:zdm knd s.heap y b)(h:P (.done (.ret (.bool (decide (x=y))))) s):
  wpAny (model prog w) A (jD.«tuple.__eq__» ⟨[.ref a,.ref b],[]⟩) P E s:=by
 have hTb:=hy.typeIs;obtain⟨oa,xs,na,hoa,_,hda,hia⟩:=hx;obtain⟨ob,ys,nb,hob,_,hdb,hib⟩:=hy;show wpAny _ _ (Bm (.ref b) (.type "tuple")>>=_) _ _ s;refine kA (vQ hTb jS ?_);simp only[Ua,pF,if_false];refine kA (gI hoa hda ?_);refine kA (gI hob hdb ?_);refine kA ?_;refine vN _
  (fun rest r s'=>r.1=none/\s'=s/\∃x' y' xs' ys',rest=List.zip xs' ys'/\zeh knd s.heap x' xs'/\zeh knd s.heap y' ys'/\decide (x'=y')=decide (x=y)/\(xs'.length==ys'.length)=(xs.size==ys.size))
  _ ?_ ?_ _ _ ⟨rfl,rfl,x,y,xs.toList,ys.toList,rfl,hia,hib,rfl,by simp⟩
 ·rintro⟨u,v⟩ rest r s' ⟨hr,rfl,x',y',xs',ys',hz,hx',hy',hdec,hlen⟩
  cases hx' with
  |nil=>simp at hz
  |@cons k1 u' x'' xs'' h1 hx''=>
   cases hy' with
   |nil=>simp at hz
   |@cons k2 v' y'' ys'' h2 hy''=>
    simp only[hZ,jp,Uu] at hz;obtain⟨⟨rfl,rfl⟩,rfl⟩:=hz;refine kA ((uJ knd).eqBool (x:=k1) (y:=k2) hu h1 h2 ?_)
    by_cases hk:k1=k2
    ·subst hk;rw[decide_eq_true rfl];simp only[Ua,pF,if_false];refine kL ⟨rfl,rfl,x'',y'',xs'',ys'',rfl,hx'',hy'',?_,by simpa using hlen⟩
     rw[←hdec]
     by_cases hxy:x''=y''
     ·simp[hxy]
     ·simp[hxy]
    ·rw[decide_eq_false hk];simp only[BO,if_true];have hf:decide (x=y)=false:=by rw[←hdec];simp[hk]
     rw[hf] at h;exact kA (kL (kL (kL h)))
 ·rintro⟨r1,r2⟩ s' ⟨hr,rfl,x',y',xs',ys',hz,hx',hy',hdec,hlen⟩
  simp only at hr
  subst hr;refine kL ?_;have hfin:(xs.size==ys.size)=decide (x=y):=by
   rw[←hdec,←hlen]
   cases hx' with
   |nil=>
    cases hy' with
    |nil=>simp
    |cons _ _=>simp
   |cons _ _=>
    cases hy' with
    |nil=>simp
    |cons _ _=>simp at hz
  show P (.done (.ret (.bool (xs.size==ys.size)))) s'
  rw[hfin];exact h
theorem zlb{x y:List (List K)}{a b:Addr}{Q:Bool->kC->Prop}(hu:A.units+2<cLine)(hx:zdm knd s.heap x a)(hy:zdm knd s.heap y b)(h:Q (decide (x=y)) s):
  wpAny (model prog w) A (eqBool (.ref a) (.ref b)) Q E s:=by
 unfold eqBool
 try with_reducible refine QD ?_
 show wpAny _ _ (if(pS a==pS b)=true then _ else _) Q E s
 by_cases hab:(pS a==pS b)=true
 ·rw[if_pos hab];have e:a=b:=by have:=eq_of_beq hab;injection this
  subst e;obtain rfl:=hx.inj hy;exact kA (Qm (kL (by simpa using h)))
 ·rw[if_neg hab];exact kA (wpAny_richCompare_same_room (op:=.Eq) hx.typeIs hy.typeIs Ux
   (Ug Ux hx.typeIs PySem.F.entry_tuple_eq (zjv (uj (knd:=knd) (by omega)) hx hy ⟨_,rfl,(fun e=>nomatch e),Qt h⟩) (PySem.F.args_tuple_eq_2 _ _)) (by omega))
theorem zn9(n:Nat){ks:List K}{a:Addr}{Q:Bool->kC->Prop}(hk:IsTupleKey knd s.heap ks a)(h:Q true s):wpAny (model prog w) A (Ca (n+1) (.ref a)) Q E s:=by
 have hT:=hk.typeIs;obtain⟨o,items,m,ho,_,hd,hi⟩:=hk;unfold Ca;refine kA (vg hT Ux.lookup ?_);show wpAny _ _ (Bm (.ref a) (.type "tuple")>>=_) _ _ s;refine kA (vQ hT jS ?_);simp only[Ua,pF,if_false];refine kA (vI ho hd ?_);refine kA ?_;show wpAny _ _ (forIn items _ _) _ _ s;rw[←gJ];refine vN _ (fun rest r s'=>r.1=none/\s'=s/\∀v∈rest,carriedByValue v=true) _ ?_ ?_ _ _ ⟨rfl,rfl,hi.byValue⟩
 ·rintro v rest r s' ⟨hr,rfl,hall⟩;rw[eqIsQuiet_byValue _ (hall v po)];refine kA (kL ?_);simp only[Ua,pF,if_false];exact kL ⟨rfl,rfl,fun u hu'=>hall u (kI _ hu')⟩
 ·rintro⟨r1,r2⟩ s' ⟨hr,rfl,_⟩
  simp only at hr
  subst hr;exact kL h
theorem znd{ks:List (List K)}{a:Addr}{Q:Bool->kC->Prop}(hk:zdm knd s.heap ks a)(h:Q true s):wpAny (model prog w) A (Ca 8 (.ref a)) Q E s:=by
 have hT:=hk.typeIs;obtain⟨o,items,n,ho,_,hd,hi⟩:=hk;unfold Ca;refine kA (vg hT Ux.lookup ?_);show wpAny _ _ (Bm (.ref a) (.type "tuple")>>=_) _ _ s;refine kA (vQ hT jS ?_);simp only[Ua,pF,if_false];refine kA (vI ho hd ?_);refine kA ?_;show wpAny _ _ (forIn items _ _) _ _ s;rw[←gJ];refine vN _ (fun rest r s'=>r.1=none/\s'=s/\∃left,zeh knd s.heap left rest) _ ?_ ?_ _ _ ⟨rfl,rfl,ks,hi⟩
 ·rintro v rest r s' ⟨hr,rfl,left,hl⟩
  cases hl with
  |@cons k b ks' _ h1 hl'=>
   refine kA (zn9 6 h1 ?_);simp only[Ua,pF,if_false];exact kL ⟨rfl,rfl,ks',hl'⟩
 ·rintro⟨r1,r2⟩ s' ⟨hr,rfl,_⟩
  simp only at hr
  subst hr;exact kL h
end
def zez{prog:pA}{w:pR}{K:Type}[DecidableEq K](knd:KeyKind prog w K):HeapKind prog w (List (List K)) where
 is:=zdm knd
 hash:=zil knd
 draws:=fun ks=>zdj ks+1
 room:=fun A=>A.units+2<cLine
 inj:=fun hx hy=>hx.inj hy
 keeps:=fun x ho hd hs=>x.keeps ho hd hs
 pyHash:=fun hu hk h=>zl2 hu hk h
 eqBool:=fun hu hx hy h=>zlb hu hx hy h
 quiet:=fun hk h=>znd hk h
theorem zji{prog:pA}{w:pR}{K:Type}[DecidableEq K]{knd:KeyKind prog w K}{A:pj}(hu:A.units+3<cLine):(zez knd).room A.in1:=by
 show A.in1.units+2<cLine
 simp
 omega
abbrev K2:=List (List Key)
def NK(H:Hp)(b:Addr)(ks:K2):Prop:=∃cs:List Addr,H b=some (.tup (cs.map V.ref))/\vv (fun(c:Addr)(k:List Key)=>H c=some (.tup (k.map kV))) cs ks
theorem NK.two{H:Hp}{b c d:Addr}{k l:List Key}(h:H b=some (.tup [.ref c,.ref d]))(h1:H c=some (.tup (k.map kV)))(h2:H d=some (.tup (l.map kV))):NK H b [k,l]:=⟨[c,d],h,.cons h1 (.cons h2 .nil)⟩
section
variable{P:pA}{w:pR}{H:Hp}{h:Heap}{a b:Addr}
theorem zng{cs:List Addr}{its:List kB}{ks:K2}(ok:HOk P w H h)(r:Vals (cs.map V.ref) its)(p:vv (fun(c:Addr)(k:List Key)=>H c=some (.tup (k.map kV))) cs ks):zeh (zab P w) h ks its:=by
 induction p generalizing its with
 |nil=>cases r;exact .nil
 |@cons c k cs ks h1 _ ih=>
  rw[kh] at r
  cases r with
  |cons r1 r2=>
   cases r1;exact .cons (zf5 ok h1) (ih r2)
theorem zib{ks:K2}(ok:HOk P w H h)(e:NK H b ks):(zez (zab P w)).is h ks b:=by
 obtain⟨cs,e1,e2⟩:=e;obtain⟨_,its,r,o,h1,h2,n,h3⟩:=(show zdi P w H h b (.tup (cs.map V.ref)) from ok b _ e1);exact⟨o,its.toArray,n,h1,h2,h3,by simpa using zng ok r e2⟩
end
abbrev N3:=K2×Addr×V
def KNp:List N3->List (K2×Addr×kB)->Prop:=vv fun p q=>p.1=q.1/\p.2.1=q.2.1/\RelV p.2.2 q.2.2
def nD(P:pA)(w:pR)(a:Addr)(kvs:List N3):HO:=.ext fun h=>(a==QP)=false/\kvs.length<=sizeLine/\(kvs.map (·.1)).Nodup/\∃xs,KNp kvs xs/\∃o es ep,h.get? a=some o/\o.ExactDict/\o.data=.dict es ep/\es.toList=xs.map (DA (zez (zab P w)))
def KN(H:Hp)(kvs:List N3):Prop:=∀p,p∈kvs->NK H p.2.1 p.1
def valN(kvs:List N3)(k:K2):Option V:=(kvs.find? fun kv=>decide (kv.1=k)).map (·.2.2)
def putN(kvs:List N3)(k:K2)(b:Addr)(v:V):List N3:=if(valN kvs k).isSome=true then kvs.map (fun kv=>if kv.1=k then(kv.1,kv.2.1,v) else kv) else kvs++[(k,b,v)]
theorem zlp{p:N3}{r:List N3}{k:K2}(e:p.1=k):valN (p::r) k=some p.2.2:=by simp[valN,ul,e]
theorem zm9{p:N3}{r:List N3}{k:K2}(e:¬p.1=k):valN (p::r) k=valN r k:=by simp[valN,ul,e]
theorem zd6{kvs:List N3}{k:K2}:(valN kvs k).isSome=true↔k∈kvs.map (·.1):=by
 induction kvs with
 |nil=>simp[valN]
 |cons p r ih=>
  by_cases e:p.1=k
  ·rw[zlp e];simp[e]
  ·rw[zm9 e,ih,kh,kg];exact⟨.inr,fun h=>h.elim (fun z=>absurd z.symm e) id⟩
theorem ziw(kvs:List N3)(k:K2)(b:Addr)(v:V):(putN kvs k b v).length<=kvs.length+1:=by
 unfold putN
 split
 ·rw[kO];omega
 ·simp
theorem zgv(kvs:List N3)(k:K2)(b:Addr)(v:V):(putN kvs k b v).map (·.1)=if(valN kvs k).isSome=true then kvs.map (·.1) else kvs.map (·.1)++[k]:=by
 unfold putN
 split
 ·rw[Ur];refine ux fun kv _=>?_;show(if kv.1=k then(kv.1,kv.2.1,v) else kv).1=kv.1
  split<;>rfl
 ·simp
theorem zhq{kvs:List N3}{k:K2}{b:Addr}{v:V}(h:(kvs.map (·.1)).Nodup):((putN kvs k b v).map (·.1)).Nodup:=by
 rw[zgv]
 split
 ·exact h
 ·rename_i n
  refine Qb.mpr ⟨h,Qv _ _,fun x hx y hy e=>?_⟩;rw[kX.mp hy] at e;subst e;exact n (zd6.mpr hx)
theorem KNp.val{kvs:List N3}{xs:List (K2×Addr×kB)}(r:KNp kvs xs)(k:K2):RelO (valN kvs k) ((atKey xs k).map (·.2)):=by
 unfold KNp at r
 induction r with
 |nil=>exact vH
 |@cons p q ps qs h t ih=>
  obtain⟨h1,_,h2⟩:=h
  by_cases e:p.1=k
  ·have e':q.1=k:=h1.symm.trans e;have b:atKey (q::qs) k=some q.2:=by simp[atKey,ul,e']
   rw[zlp e,b];exact h2
  ·have e':¬q.1=k:=fun z=>e (h1.trans z);have b:atKey (q::qs) k=atKey qs k:=by simp[atKey,ul,e']
   rw[zm9 e,b];exact ih
theorem KNp.put{kvs:List N3}{xs:List (K2×Addr×kB)}(r:KNp kvs xs)(k:K2){b:Addr}{y:V}{u:kB}(ry:RelV y u):KNp (putN kvs k b y) (CB xs k b u):=by
 have e:(valN kvs k).isSome=(atKey xs k).isSome:=by rw[(r.val k).isSome_eq,vB]
 unfold putN CB;rw[e]
 by_cases q:(atKey xs k).isSome=true
 ·rw[if_pos q,if_pos q];unfold KNp at*;clear e q
  induction r with
  |nil=>exact .nil
  |@cons p q ps qs h t ih=>
   rw[kh,kh];refine .cons ?_ ih;obtain⟨h1,h2,h3⟩:=h;unfold putAt
   by_cases e:p.1=k
   ·rw[if_pos e,if_pos (h1.symm.trans e)];exact⟨h1,h2,ry⟩
   ·rw[if_neg e,if_neg (fun z=>e (h1.trans z))];exact⟨h1,h2,h3⟩
 ·rw[if_neg q,if_neg q];exact Cl r ⟨rfl,rfl,ry⟩
theorem KNp.keys{kvs:List N3}{xs:List (K2×Addr×kB)}(r:KNp kvs xs):xs.map (·.1)=kvs.map (·.1)/\xs.map (fun q=>q.2.1)=kvs.map (fun p=>p.2.1):=by
 unfold KNp at r
 induction r with
 |nil=>exact⟨rfl,rfl⟩
 |cons h _ ih=>rw[kh,kh,kh,kh,ih.1,ih.2,h.1,h.2.1];exact⟨rfl,rfl⟩
section
variable{P:pA}{w:pR}{H:Hp}{h:Heap}{a:Addr}{kvs:List N3}
theorem nd_rd(ok:HOk P w H h)(e:Rd H a (nD P w a kvs))(kn:KN H kvs):kvs.length<=sizeLine/\(a==QP)=false/\∃xs,KNp kvs xs/\h.DictOfH (zez (zab P w)) a xs:=by
 obtain⟨⟨hd,z,nd,xs,r,o,es,ep,h1,h2,h3,h4⟩,_⟩:=(show zdi P w H h a (nD P w a kvs) from e.ok ok);refine⟨z,hd,xs,r,o,es,ep,h1,h2,h3,h4,fun x hx=>?_,by rw[r.keys.1];exact nd⟩
 have all:∀{l:List N3}{m:List (K2×Addr×kB)},KNp l m->(∀p,p∈l->NK H p.2.1 p.1)->∀x∈m,(zez (zab P w)).is h x.1 x.2.1:=by
  intro l m q;unfold KNp at q
  induction q with
  |nil=>intro _ x hx;exact nomatch hx
  |@cons p q ps qs hq t ih=>
   intro hl x hx;rcases kg.mp hx with e|hx
   ·subst e;rw[←hq.1,←hq.2.1];exact zib ok (hl p (by simp))
   ·exact ih (fun p hp=>hl p (kI _ hp)) x hx
 exact all r kn x hx
theorem nd_ok{H':Hp}{h':Heap}{xs:List (K2×Addr×kB)}(z:kvs.length<=sizeLine)(hd:(a==QP)=false)(nd:(kvs.map (·.1)).Nodup)(r:KNp kvs xs)(dd:h'.DictOfH (zez (zab P w)) a xs):zdi P w H' h' a (nD P w a kvs):=by
 obtain⟨o,es,ep,h1,h2,h3,h4,_⟩:=dd;refine⟨⟨hd,z,nd,xs,r,o,es,ep,h1,h2,h3,h4⟩,⟨o,h1⟩,?_⟩;rintro k1 k2 ⟨hd,z,nd,xs,r,o,es,ep,h1,h2,h3,h4⟩ k;exact⟨hd,z,nd,xs,r,o,es,ep,k _ h1,h2,h3,h4⟩
end
def zko(P:pA)(w:pR)(ty td:TE):TE:=fun σ H Q=>ty σ H fun y H1=>td σ H1 fun x H2=>∃a kvs b k,x=.ref a/\y=.ref b/\Rd H2 a (nD P w a kvs)/\KN H2 kvs/\NK H2 b k/\Q (.bl (!(valN kvs k).isSome)) H2
def sNPut(P:pA)(w:pR)(td ty tv:TE):TS:=fun D σ H=>tv σ H fun v H1=>td σ H1 fun x H2=>ty σ H2 fun y H3=>∃a kvs b k,x=.ref a/\y=.ref b/\H3 a=some (nD P w a kvs)/\KN H3 kvs/\NK H3 b k/\kvs.length<sizeLine/\D.nx σ (upd H3 a (nD P w a (putN kvs k b v)))
def tNNew(P:pA)(w:pR):TE:=fun _ H Q=>∀p,H p=none->Q (.ref p) (upd H p (nD P w p []))
section
variable{X:Cx}{P:pA}{w:pR}{o i e value:Expr}{pos pos' tpos:Pos}{td ty tv:TE}
theorem zoo(hP:X.prog=P)(hw:X.w=w):PE X (.Dict [] [] pos) (tNNew P w):=fun pins s σ H Q I h=>by
 subst hP hw;exact CV ⟨.ref s.heap.objs.size,_,I.laid (a:=s.heap.objs.size) (o:=nD X.prog X.w s.heap.objs.size []) (t':=s.toks) (fun _ _ q=>kT _ q) (kG _)
  (nd_ok (pY _) (beq_eq_false_iff_ne.mpr (ve (pd I.big))) Qq .nil (Heap.DictOfH.new s.heap)),rfl,h _ (I.hok.fresh (kG _))⟩
theorem zjo(hP:X.prog=P)(hw:X.w=w)(hu:X.A.units+64<cLine)(hi:PE X i ty)(ho:PE X o td):PC X .NotIn i o (zko P w ty td):=by
 subst hP hw;intro pins s σ H Q I h;refine thn (hi pins s σ H _ I h) fun iv s1⟨y,H1,I1,ry,q1⟩=>thn (ho pins s1 σ H1 _ I1 q1) fun u s2⟨x,H2,I2,rx,a,kvs,b,k,ex,ey,e,kn,nk,q2⟩=>?_;subst ex ey;obtain rfl:u=pS a:=rx;obtain rfl:iv=pS b:=ry;obtain⟨z,hd,xs,rel,dd⟩:=nd_rd I2.hok e kn;refine CU (zji (by omega)) (zib I2.hok nk) hd dd ?_
 have q:=(rel.val k).isSome_eq;rw[vB] at q;rw[←q];exact⟨.bl _,H2,I2.tok _,rfl,q2⟩
theorem zpj(hP:X.prog=P)(hw:X.w=w)(hu:X.A.units+64<cLine)(ho:PE X o td)(hi:PE X i ty)(hv:PE X value tv)(hs:BW value (some (.Subscript o i pos')) pos.line X.env=pure false):
  PS X (.Assign [.Subscript o i pos'] value pos) (sNPut P w td ty tv):=by
 subst hP hw;intro pins s σ H D I h;refine Ag (thn (hv pins s σ H _ I h) fun r s1⟨v,H1,I1,rv,q1⟩=>thn (ho pins s1 σ H1 _ I1 q1) fun u s2⟨x,H2,I2,rx,q2⟩=>thn (hi pins s2 σ H2 _ I2 q2) fun iv s3⟨y,H3,I3,ry,a,kvs,b,k,ex,ey,e,kn,nk,l,q3⟩=>?_) hs;subst ex ey;obtain rfl:u=pS a:=rx;obtain rfl:iv=pS b:=ry;obtain⟨z,hd,xs,rel,dd⟩:=nd_rd I3.hok (.inl e) kn;have hz:xs.length<=sizeLine:=by rw[←Us rel];exact z
 have hl:(putN kvs k b v).length<=sizeLine:=by have:=ziw kvs k b v;omega
 obtain⟨⟨_,_,nd,_⟩,_⟩:=I3.hok a _ e;refine Bk (hsz:=hz) (zji (by omega)) (zib I3.hok nk) dd fun h' dd' hs=>⟨σ,_,?_,q3⟩
 have he:∃q,h'.get? a=some q:=let⟨q,_,_,hq,_⟩:=dd';⟨q,hq⟩;exact zg1 I3 (by rw[e];exact vH) hs he (nd_ok hl hd (zhq nd) (rel.put k rv) dd')
end
def Itf(d:Addr)(o:Obj)(u:HO)(bs:List Addr):It:=
 ⟨fun i H=>i<bs.length/\H d=some (.frz o u),fun i H x H'=>H'=H/\∃b,bs[i]?=some b/\x=.ref b,fun i H=>bs.length<=i/\H d=some (.frz o u)⟩
theorem zn2{P:pA}{w:pR}{K:kM}{tg:Expr}{d it:Addr}{o:Obj}{u:HO}{es:Array AJ}{ep:Nat}{bs:List Addr}(hd:o.data=.dict es ep)(hb:es.toList.map (·.key)=bs.map pS):
  Turn P w K tg (Itf d o u bs) [it] it (fun i h=>h.IsKeyIter it d i es.size ep) where
 mem:=by simp
 obj:=fun i h st b z=>by
  rw[kX.mp z];obtain⟨u,e,_,c⟩:=st;exact⟨u,e,fun v y=>by rw[c] at y;cases y⟩
 keep:=fun i h h' st k=>by
  obtain⟨u,e,c⟩:=st;exact⟨u,k it (by simp) u e,c⟩
 item:=by
  intro X hP hw hK hc i pins s σ H E I hf st hg;subst hP hw hK;obtain⟨f0,f1,f2,f3,f4,f5⟩:=hf it (by simp)
  have lb:es.size=bs.length:=by
   have:=congrArg je hb
   simpa using this
  have hi:i<es.size:=by rw[lb];exact hg.1
  have od:=(I.hok d _ hg.2).1;refine zmv st od hd hi fun h' st' sb=>?_;have I1:Inv X pins σ H {s with heap:=h'}:=I.turned (t':=s.toks) (fun b o hb e=>(sb.2 b hb).trans e) f0 f1 f3 f4 f5;have hib:i<bs.length:=hg.1;have ek:es[i].key=.ref bs[i]:=by
   have z:=congrArg (fun l=>l[i]?) hb;simp only[pG,UH,uc hi,kR hib,QJ,jC] at z;exact z
  obtain⟨u,e,c,dd⟩:=id st';exact⟨_,rfl,go_of (s:={s with heap:=h'}) e c dd (by decide) ⟨.ref bs[i],H,I1,ek,⟨rfl,bs[i],kR hib,rfl⟩,st',fun b z=>(hf b z).1⟩⟩
 done:=by
  intro X hP hw hK hc i pins s σ H E I hf st hg;subst hP hw hK;obtain⟨f0,f1,f2,f3,f4,f5⟩:=hf it (by simp)
  have lb:es.size=bs.length:=by
   have:=congrArg je hb
   simpa using this
  exact zo0 (I.ok.hd hc) st (I.hok d _ hg.2).1 hd (by rw[lb];exact hg.1) fun h' eb=>⟨rfl,I.turned (t':=s.toks) (fun b o z e=>eb b o z e) f0 f1 f3 f4 f5⟩
 self:=fun A i s Q E st h=>wpAny_pyIter_keyiter st h
section
variable{X:Cx}{tg:Expr}{pins:List (Addr×Obj)}{σ:St}{H:Hp}{s:kC}{P:pA}{w:pR}
theorem Inv.freezeN{d:Addr}{o:Obj}{kvs:List N3}(I:Inv X pins σ H s)(e:H d=some (nD P w d kvs))(ho:s.heap.get? d=some o):Inv X pins σ (upd H d (.frz o (nD P w d kvs))) s:=by
 have ne:∀b u,H b=some u->u≠nD P w d kvs->b≠d:=fun b u q n z=>by rw[z,e] at q;cases q;exact n rfl
 have J:=I.step (g':=s.gens) (d':=s.drawn) (t':=s.toks) (h':=s.heap) (H':=upd H d (.frz o (nD P w d kvs))) (ch:=[]) (fun _ z=>nomatch z) (fun b u _ _ _ q _=>q) (fun b u _ _ _ q _=>⟨u.slots,q⟩) (fun b u _ _ n=>by rw[za7 fun z=>by rw[z,e] at n;cases n];exact n)
  (fun b u _ q=>⟨u,q⟩) (fun b xs q=>by rw[za7 (ne b _ q fun z=>nomatch z)];exact q) (fun b u v q=>by rw[za7 (ne b _ q fun z=>nomatch z)];exact q) (fun b ps q=>⟨#[],by rw[za7 (ne b _ q fun z=>nomatch z),q];simp⟩) (fun m hm=>hm) (fun b u q=>?_) I.bare
 ·exact J
 ·by_cases z:b=d
  ·subst z;rw[upd_same] at q
   cases q;refine⟨ho,((I.hok b _ e).stay (fun c v _ r=>r) (fun c r=>?_) fun c xs r=>?_)⟩
   ·rw[za7 (ne c _ r fun z=>nomatch z)];exact r
   ·rw[za7 (ne c _ r fun z=>nomatch z)];exact r
  ·rw[za7 z] at q;refine(I.hok b u q).stay (fun c v _ r=>r) (fun c r=>?_) fun c xs r=>?_
   ·rw[za7 (ne c _ r fun z=>nomatch z)];exact r
   ·rw[za7 (ne c _ r fun z=>nomatch z)];exact r
def iDictN(P:pA)(w:pR)(td:TE):TI:=fun σ H R=>td σ H fun x H1=>∃d kvs,x=.ref d/\H1 d=some (nD P w d kvs)/\∀o,R (Itf d o (nD P w d kvs) (kvs.map fun p=>p.2.1)) (upd H1 d (.frz o (nD P w d kvs)))
theorem pi_dictN{l:Expr}{tl:TE}(hP:X.prog=P)(hw:X.w=w)(hl:PE X l tl):PI X tg l (iDictN P w tl):=by
 subst hP hw;intro pins s σ H R I h;refine thn (hl pins s σ H _ I h) fun v s1⟨x,H1,I1,r1,q1⟩=>?_;obtain⟨d,kvs,rfl,e,q⟩:=q1
 cases r1;obtain⟨⟨hd,z,nd,xs,rel,o,es,ep,ho,hx,hdat,he⟩,_⟩:=I1.hok d _ e;have hk:es.toList.map (·.key)=(kvs.map fun p=>p.2.1).map pS:=by
  rw[he,Ur,←rel.keys.2,Ur];rfl
 have F:=I1.freezeN e ho;have nw:∀b o',s1.heap.get? b=some o'->(s1.heap.push {cls:=.type "dict_keyiterator",data:=.fields #[.ref d,.int 0 0,.int es.size 0,.int ep 0]}).get? b=some o':=fun b o' e'=>kT _ e';refine znr hd ho hx.1 hdat ⟨s1.heap.objs.size,[s1.heap.objs.size],_,Itf d o (nD X.prog X.w d kvs) (kvs.map fun p=>p.2.1),_,rfl,F.kept (t':=s1.toks) nw,zn2 hdat hk,⟨_,pM _ rfl,rfl,rfl⟩,fun b hb=>?_,q o⟩;rw[kX.mp hb];exact F.fpOk (kG _) (F.hok.fresh (kG _))
end
theorem zn3{d D:Addr}{o:Obj}{u:HO}{bs:List Addr}{g:TG}{ti:TT}{te:TE}{σ':St}{H:Hp}{Q:VK}(Pv:Nat->List V->Hp->Prop)(h0:Pv 0 [] (upd H D (.lst [])))(hl:∀i ys H,Pv i ys H->H d=some (.frz o u))
  (hs:∀i ys H b,bs[i]?=some b->Pv i ys H->g (.ref b) σ' H fun σ4 H4=>ti σ4 H4 fun b H5=>if b=true then te σ4 H5 fun y H6=>CPut bs.length Pv D i y H6 else zol bs.length Pv i H5)
  (hd:∀ys H,Pv bs.length ys H->Q (.ref D) H):zql (Itf d o u bs) D g ti te σ' H Q:=by
 refine zkd bs.length Pv h0 (fun i ys H hi p=>⟨hi,hl i ys H p⟩) (fun ys H p=>⟨kG _,hl _ ys H p⟩) (fun i ys H x H3 hi p y=>?_) hd;obtain⟨e,b,hb,ex⟩:=y;subst e ex;exact hs i ys _ b hb p
def gallop':Bool->uI->Array uI->Nat->Nat->Nat->StateT ud Sem (Option Nat):=sortPriv%PySem.Builtin.gallop
def mergeLo':Array uI->Array uI->StateT ud Sem (Array uI):=sortPriv%PySem.Builtin.mergeLo
def mergeHi':Array uI->Array uI->StateT ud Sem (Array uI):=sortPriv%PySem.Builtin.mergeHi
section
variable{prog:pA}{w:pR}{A:pj}{E:kB->kC->Prop}{s:kC}{a₀:Array uI}{κ:UO}
def QL(prog:pA)(w:pR)(A:pj)(E:kB->kC->Prop)(s:kC)(κ:UO)(a₀:Array uI):Prop:=
 ∀(x y:uI)(st:ud)(Q:Option Bool->ud->Prop),x∈a₀->y∈a₀->kindOf st=κ->(∀b,Q (some b) st)->wpS (model prog w) A E s (lt' x y) Q st
theorem zas{arr:Array uI}{i:Nat}{st:ud}{Q:uI->ud->Prop}(h:i<arr.size)(q:Q arr[i] st):wpS (model prog w) A E s (elem' arr i) Q st:=by
 rw[elem'_eq,uc h];exact kD q
theorem zb5(hq:QL prog w A E s κ a₀){left:Bool}{key:uI}{arr:Array uI}{base n hint:Nat}{st:ud}{Q:Option Nat->ud->Prop}(hk:key∈a₀)(ha:∀x,x∈arr->x∈a₀)(hb:base+n<=arr.size)(hh:hint<n)(hκ:kindOf st=κ)(h:∀k,k<=n->Q (some k) st):
  wpS (model prog w) A E s (gallop' left key arr base n hint) Q st:=by
 have bey:∀(i:Nat)(Q:Option Bool->ud->Prop),i<n->(∀b,Q (some b) st)->wpS (model prog w) A E s ((do let x ←elem' arr (base+i);if left then lt' x key else return(←lt' key x).map (!·)):StateT ud Sem (Option Bool)) Q st:=by
  intro i Q hi hQ;refine kF (zas (by omega) ?_)
  have hx:arr[base+i]∈a₀:=ha _ (uz _)
  cases left with
  |true=>exact hq _ _ _ _ hx hk hκ hQ
  |false=>exact kF (hq _ _ _ _ hk hx hκ fun b=>kD (hQ _))
 refine kF (bey hint _ hh fun right=>?_)
 cases right with
 |true=>
  show wpS _ _ _ _ (_>>=_) _ _
  refine kF (uu (uD (I:=fun _(c:Option (Option Nat)×Nat×Nat) st'=>st=st'/\c.1=none) (Q:=fun c st'=>st=st'/\c.1=none) ?_ (fun _ _ z=>z) ⟨rfl,rfl⟩) ?_)
  ·rintro x ⟨r,lastofs,ofs⟩ st' _ _ ⟨rfl,e⟩;dsimp only at e⊢
   by_cases c:ofs≥n-hint
   ·rw[if_pos c];exact kD ⟨rfl,rfl⟩
   ·rw[if_neg c];refine kF (bey (hint+ofs) _ (by omega) fun b=>?_)
    cases b with
    |true=>exact kD ⟨rfl,rfl⟩
    |false=>exact kD ⟨rfl,rfl⟩
  ·rintro⟨r,lastofs,ofs⟩ st' ⟨rfl,e⟩;dsimp only at e⊢;subst e;show wpS _ _ _ _ (_>>=_) _ _;refine kF (uu (uD (I:=fun _(c:Option (Option Nat)×Nat×Nat) st'=>st=st'/\c.1=none/\c.2.2<=n) (Q:=fun c st'=>st=st'/\c.1=none/\c.2.2<=n) ?_ (fun _ _ z=>z) ⟨rfl,rfl,(by show hint+min ofs (n-hint)<=n;omega)⟩) ?_)
   ·rintro x ⟨r,lo,hi⟩ st' _ _ ⟨rfl,e,hhi⟩;dsimp only at e hhi⊢
    by_cases c:lo≥hi
    ·rw[if_pos c];exact kD ⟨rfl,rfl,hhi⟩
    ·rw[if_neg c];refine kF (bey (lo+(hi-lo)/2) _ (by omega) fun b=>?_)
     cases b with
     |true=>exact kD ⟨rfl,rfl,hhi⟩
     |false=>exact kD ⟨rfl,rfl,(by show lo+(hi-lo)/2<=n;omega)⟩
   ·rintro⟨r,lo,hi⟩ st' ⟨rfl,e,hhi⟩;dsimp only at e hhi⊢;subst e;exact kD (h hi hhi)
 |false=>
  show wpS _ _ _ _ (_>>=_) _ _
  refine kF (uu (uD (I:=fun _(c:Option (Option Nat)×Nat×Nat) st'=>st=st'/\c.1=none) (Q:=fun c st'=>st=st'/\c.1=none) ?_ (fun _ _ z=>z) ⟨rfl,rfl⟩) ?_)
  ·rintro x ⟨r,lastofs,ofs⟩ st' _ _ ⟨rfl,e⟩;dsimp only at e⊢
   by_cases c:ofs≥hint+1
   ·rw[if_pos c];exact kD ⟨rfl,rfl⟩
   ·rw[if_neg c];refine kF (bey (hint-ofs) _ (by omega) fun b=>?_)
    cases b with
    |true=>exact kD ⟨rfl,rfl⟩
    |false=>exact kD ⟨rfl,rfl⟩
  ·rintro⟨r,lastofs,ofs⟩ st' ⟨rfl,e⟩;dsimp only at e⊢;subst e;show wpS _ _ _ _ (_>>=_) _ _;refine kF (uu (uD (I:=fun _(c:Option (Option Nat)×Nat×Nat) st'=>st=st'/\c.1=none/\c.2.2<=n) (Q:=fun c st'=>st=st'/\c.1=none/\c.2.2<=n) ?_ (fun _ _ z=>z) ⟨rfl,rfl,(by show hint-lastofs<=n;omega)⟩) ?_)
   ·rintro x ⟨r,lo,hi⟩ st' _ _ ⟨rfl,e,hhi⟩;dsimp only at e hhi⊢
    by_cases c:lo≥hi
    ·rw[if_pos c];exact kD ⟨rfl,rfl,hhi⟩
    ·rw[if_neg c];refine kF (bey (lo+(hi-lo)/2) _ (by omega) fun b=>?_)
     cases b with
     |true=>exact kD ⟨rfl,rfl,hhi⟩
     |false=>exact kD ⟨rfl,rfl,(by show lo+(hi-lo)/2<=n;omega)⟩
   ·rintro⟨r,lo,hi⟩ st' ⟨rfl,e,hhi⟩;dsimp only at e hhi⊢;subst e;exact kD (h hi hhi)
end
section
variable{prog:pA}{w:pR}{A:pj}{E:kB->kC->Prop}{s:kC}{a₀:Array uI}{κ:UO}
def Prm(a b out:Array uI)(ia ib:Nat):Prop:=(out.toList++(a.toList.drop ia++b.toList.drop ib)).Perm (a.toList++b.toList)/\ia<=a.size/\ib<=b.size
theorem zd8(a:Array uI)(i j:Nat):(a.extract i j).toList=(a.toList.drop i).take (j-i):=by simp
theorem zhz(a:Array uI)(i:Nat):(a.extract i).toList=a.toList.drop i:=by
 rw[zd8];exact kU (by rw[pT,Ud];omega)
theorem zo6(a:Array uI)(i k:Nat):(a.extract i (i+k)).toList=(a.toList.drop i).take k:=by rw[zd8,Nat.add_sub_cancel_left]
theorem zcb{a b out:Array uI}{ia ib:Nat}(h:Prm a b out ia ib):(out++a.extract ia++b.extract ib).toList.Perm (a.toList++b.toList):=by
 rw[pX,pX,zhz,zhz,pC];exact h.1
theorem zcc{a b out:Array uI}{ia ib:Nat}(h:Prm a b out ia ib):(out++b.extract ib++a.extract ia).toList.Perm (a.toList++b.toList):=by
 rw[pX,pX,zhz,zhz,pC];exact(pg _ uT).trans h.1
theorem zqi{a b out:Array uI}{ia ib:Nat}(h:Prm a b out ia ib)(k:Nat)(hk:ib+k<=b.size):Prm a b (out++b.extract ib (ib+k)) ia (ib+k):=by
 refine⟨?_,h.2.1,hk⟩;rw[pX,zo6,pC];refine(pg _ ?_).trans h.1;have e2:b.toList.drop ib=(b.toList.drop ib).take k++b.toList.drop (ib+k):=by rw[←vG,uO]
 generalize b.toList.drop (ib+k)=t at*;generalize (b.toList.drop ib).take k=u at*;rw[e2,←pC,←pC];exact List.perm_append_comm.append_right _
theorem prm_a{a b out:Array uI}{ia ib:Nat}(h:Prm a b out ia ib)(k:Nat)(hk:ia+k<=a.size):Prm a b (out++a.extract ia (ia+k)) (ia+k) ib:=by
 refine⟨?_,hk,h.2.2⟩;rw[pX,zo6,pC,←pC ((a.toList.drop ia).take k),←vG,uO];exact h.1
theorem zia(out a:Array uI)(i:Nat)(h:i<a.size):out.push a[i]=out++a.extract i (i+1):=by
 apply AK.mp
 rw[pX,zo6,CD]
 congr 1
 have h':i<a.toList.length:=by simpa using h
 rw[Qk h']
 simp
theorem zhk{a b out:Array uI}{ia ib:Nat}(h:Prm a b out ia ib)(hk:ib<b.size):Prm a b (out.push b[ib]) ia (ib+1):=by rw[zia];exact zqi h 1 hk
theorem zfy{a b out:Array uI}{ia ib:Nat}(h:Prm a b out ia ib)(hk:ia<a.size):Prm a b (out.push a[ia]) (ia+1) ib:=by rw[zia];exact prm_a h 1 hk
theorem prm_0{a b:Array uI}(hb:0<b.size):Prm a b #[b[0]] 0 1:=by
 have h:Prm a b #[] 0 0:=⟨by simp,pY _,pY _⟩
 exact zhk h hb
abbrev gSt(st:ud)(g:Nat):ud:=Ak (kindOf st) (arrOf st) (pz st) g (vZ st)
theorem lo_at(hq:QL prog w A E s κ a₀){a b:Array uI}{st:ud}{Q:Array uI->ud->Prop}(ha:∀x,x∈a->x∈a₀)(hb:∀x,x∈b->x∈a₀)(a1:0<a.size)(b1:0<b.size)(hκ:kindOf st=κ)
  (h:∀r g,r.toList.Perm (a.toList++b.toList)->Q r (gSt st g)):wpS (model prog w) A E s (mergeLo' a b) Q st:=by
 have ea:∀{i:Nat}(h:i<a.size),a[i]∈a₀:=fun h=>ha _ (uz h);have eb:∀{i:Nat}(h:i<b.size),b[i]∈a₀:=fun h=>hb _ (uz h);have est:gSt st (BP st)=st:=rfl;refine kF (gK (Qm ⟨rfl,?_⟩));refine kF (zas b1 ?_);dsimp only
 by_cases c1:(1==b.size)=true
 ·rw[if_pos c1];exact kD (est▸h _ (BP st) (zcb (prm_0 b1)))
 rw[if_neg c1]
 by_cases c2:(0+1==a.size)=true
 ·rw[if_pos c2];exact kD (est▸h _ (BP st) (zcc (prm_0 b1)))
 rw[if_neg c2];have c1':1≠b.size:=fun z=>c1 (by rw[←z];rfl)
 have c2':1≠a.size:=fun z=>c2 (by rw[←z];rfl)
 refine kF (vj ?_);refine kF (uu (uD
  (I:=fun x(c:Option (Array uI)×Array uI×Nat×Nat×Nat) st'=>(c.1=none/\Prm a b c.2.1 c.2.2.1 c.2.2.2.1/\c.2.2.1+1<a.size/\c.2.2.2.1<b.size/\x+1<=c.2.2.1+c.2.2.2.1)/\∃g,st'=gSt st g)
  (Q:=fun c st'=>∃r,c.1=some r/\r.toList.Perm (a.toList++b.toList)/\∃g,st'=gSt st g) ?_ ?_ ⟨⟨rfl,prm_0 b1,by show 0+1<_;omega,by show 1<_;omega,by show 0+1<=0+1;omega⟩,_,rfl⟩) ?_)
 ·rintro x ⟨r0,out,ia,ib,mg⟩ st' _ hx ⟨⟨e0,hp,hia,hib,hlo⟩,g,rfl⟩;dsimp only at e0 hp hia hib hlo⊢;refine kF (uu (uD
   (I:=fun y(c:Option (Array uI)×Array uI×Nat×Nat×Nat×Nat) st'=>(c.1=none/\Prm a b c.2.1 c.2.2.1 c.2.2.2.1/\c.2.2.1+1<a.size/\c.2.2.2.1<b.size/\ia+ib+min y 1<=c.2.2.1+c.2.2.2.1)/\∃g,st'=gSt st g)
   (Q:=fun c st'=>((∃r,c.1=some r/\r.toList.Perm (a.toList++b.toList))∨(c.1=none/\Prm a b c.2.1 c.2.2.1 c.2.2.2.1/\c.2.2.1+1<a.size/\c.2.2.2.1<b.size/\ia+ib+1<=c.2.2.1+c.2.2.2.1))/\∃g,st'=gSt st g) ?_ ?_ ⟨⟨rfl,hp,hia,hib,by show ia+ib+min 0 1<=ia+ib;omega⟩,_,rfl⟩) ?_)
  ·rintro y ⟨r1,out,ja,jb,ac,bc⟩ st' _ hy ⟨⟨e1,hp,hja,hjb,hl1⟩,g,rfl⟩;dsimp only at e1 hp hja hjb hl1⊢;refine kF (zas hjb (kF (zas (show ja<a.size by omega) (kF (hq _ _ _ _ (eb hjb) (ea (by omega)) hκ fun bw=>?_)))))
   cases bw with
   |true=>
    refine kF (zas hjb ?_)
    try dsimp only
    have hp1:=zhk hp hjb
    by_cases d:(jb+1==b.size)=true
    ·rw[if_pos d];exact kD ⟨.inl ⟨_,rfl,zcb hp1⟩,_,rfl⟩
    rw[if_neg d];have d':jb+1≠b.size:=fun z=>d (by rw[z];exact beq_self_eq_true _)
    by_cases f:bc+1≥mg
    ·rw[if_pos f];exact kD ⟨.inr ⟨rfl,hp1,hja,(by show jb+1<b.size;omega),(by show ia+ib+1<=ja+(jb+1);omega)⟩,_,rfl⟩
    ·rw[if_neg f];exact kD ⟨⟨rfl,hp1,hja,(by show jb+1<b.size;omega),(by show ia+ib+min (y+1) 1<=ja+(jb+1);omega)⟩,_,rfl⟩
   |false=>
    refine kF (zas (show ja<a.size by omega) ?_)
    try dsimp only
    have hp1:=zfy hp (show ja<a.size by omega)
    by_cases d:(ja+1+1==a.size)=true
    ·rw[if_pos d];exact kD ⟨.inl ⟨_,rfl,zcc hp1⟩,_,rfl⟩
    rw[if_neg d];have d':ja+1+1≠a.size:=fun z=>d (by rw[z];exact beq_self_eq_true _)
    by_cases f:ac+1≥mg
    ·rw[if_pos f];exact kD ⟨.inr ⟨rfl,hp1,(by show ja+1+1<a.size;omega),hjb,(by show ia+ib+1<=ja+1+jb;omega)⟩,_,rfl⟩
    ·rw[if_neg f];exact kD ⟨⟨rfl,hp1,(by show ja+1+1<a.size;omega),hjb,(by show ia+ib+min (y+1) 1<=ja+1+jb;omega)⟩,_,rfl⟩
  ·rintro c st' ⟨⟨e1,hp,hja,hjb,hl1⟩,g⟩;exact⟨.inr ⟨e1,hp,hja,hjb,by omega⟩,g⟩
  ·rintro⟨r1,out,ja,jb,ac,bc⟩ st' ⟨hc,g,rfl⟩;dsimp only at hc⊢;rcases hc with⟨r,rfl,hr⟩|⟨rfl,hp,hja,hjb,hl1⟩
   ·exact kD ⟨r,rfl,hr,_,rfl⟩
   dsimp only;refine kF (gK (Qm ⟨rfl,?_⟩));refine kF (uu (uD
    (I:=fun y(c:Option (Array uI)×Array uI×Nat×Nat×Nat×Nat×Nat) st'=>(c.1=none/\Prm a b c.2.1 c.2.2.1 c.2.2.2.1/\c.2.2.1+1<a.size/\c.2.2.2.1<b.size/\ia+ib+1<=c.2.2.1+c.2.2.2.1)/\∃g,st'=gSt st g)
    (Q:=fun c st'=>((∃r,c.1=some r/\r.toList.Perm (a.toList++b.toList))∨(c.1=none/\Prm a b c.2.1 c.2.2.1 c.2.2.2.1/\c.2.2.1+1<a.size/\c.2.2.2.1<b.size/\ia+ib+1<=c.2.2.1+c.2.2.2.1))/\∃g,st'=gSt st g) ?_ (fun c st' z=>⟨.inr z.1,z.2⟩) ⟨⟨rfl,hp,hja,hjb,hl1⟩,_,rfl⟩) ?_)
   ·rintro y ⟨r2,out,ka,kb,mg2,ac2,bc2⟩ st' _ hy ⟨⟨e2,hp,hka,hkb,hl2⟩,g,rfl⟩;dsimp only at e2 hp hka hkb hl2⊢
    by_cases mm:mg2>1
    ·rw[if_pos mm];refine kF (uN ?_);refine kF (zas hkb ?_);refine kF (zb5 hq (eb hkb) ha (by omega) (by omega) hκ fun k hk=>?_)
     try dsimp only
     by_cases k0:k>0
     ·rw[if_pos k0];have hp1:=prm_a hp k (by omega)
      by_cases d1:(ka+k+1==a.size)=true
      ·rw[if_pos d1];exact kD ⟨.inl ⟨_,rfl,zcc hp1⟩,_,rfl⟩
      rw[if_neg d1];have d1':ka+k+1≠a.size:=fun z=>d1 (by rw[z];exact beq_self_eq_true _)
      by_cases d2:(ka+k==a.size)=true
      ·rw[if_pos d2];exact kD ⟨.inl ⟨_,rfl,zcb hp1⟩,_,rfl⟩
      rw[if_neg d2];have d2':ka+k≠a.size:=fun z=>d2 (by rw[z];exact beq_self_eq_true _)
      refine kF (zas hkb ?_)
      try dsimp only
      have hp2:=zhk hp1 hkb
      by_cases d3:(kb+1==b.size)=true
      ·rw[if_pos d3];exact kD ⟨.inl ⟨_,rfl,zcb hp2⟩,_,rfl⟩
      rw[if_neg d3];have d3':kb+1≠b.size:=fun z=>d3 (by rw[z];exact beq_self_eq_true _)
      refine kF (zas (show ka+k<a.size by omega) ?_)
      refine kF (zb5 hq (ea (by omega)) hb (by omega) (by omega) hκ fun k2 hk2=>?_)
      try dsimp only
      by_cases k20:k2>0
      ·rw[if_pos k20];have hp3:=zqi hp2 k2 (by omega)
       by_cases d4:(kb+1+k2==b.size)=true
       ·rw[if_pos d4];exact kD ⟨.inl ⟨_,rfl,zcb hp3⟩,_,rfl⟩
       rw[if_neg d4];have d4':kb+1+k2≠b.size:=fun z=>d4 (by rw[z];exact beq_self_eq_true _)
       refine kF (zas (show ka+k<a.size by omega) ?_)
       try dsimp only
       have hp4:=zfy hp3 (show ka+k<a.size by omega)
       by_cases d5:(ka+k+1+1==a.size)=true
       ·rw[if_pos d5];exact kD ⟨.inl ⟨_,rfl,zcc hp4⟩,_,rfl⟩
       rw[if_neg d5];have d5':ka+k+1+1≠a.size:=fun z=>d5 (by rw[z];exact beq_self_eq_true _)
       by_cases d6:(decide (k<7)&&decide (k2<7))=true
       ·rw[if_pos d6];exact kD ⟨.inr ⟨rfl,hp4,(by show ka+k+1+1<a.size;omega),(by show kb+1+k2<b.size;omega),(by show ia+ib+1<=ka+k+1+(kb+1+k2);omega)⟩,_,rfl⟩
       ·rw[if_neg d6];exact kD ⟨⟨rfl,hp4,(by show ka+k+1+1<a.size;omega),(by show kb+1+k2<b.size;omega),(by show ia+ib+1<=ka+k+1+(kb+1+k2);omega)⟩,_,rfl⟩
      ·rw[if_neg k20];refine kF (zas (show ka+k<a.size by omega) ?_)
       try dsimp only
       have hp4:=zfy hp2 (show ka+k<a.size by omega)
       by_cases d5:(ka+k+1+1==a.size)=true
       ·rw[if_pos d5];exact kD ⟨.inl ⟨_,rfl,zcc hp4⟩,_,rfl⟩
       rw[if_neg d5];have d5':ka+k+1+1≠a.size:=fun z=>d5 (by rw[z];exact beq_self_eq_true _)
       by_cases d6:(decide (k<7)&&decide (k2<7))=true
       ·rw[if_pos d6];exact kD ⟨.inr ⟨rfl,hp4,(by show ka+k+1+1<a.size;omega),(by show kb+1<b.size;omega),(by show ia+ib+1<=ka+k+1+(kb+1);omega)⟩,_,rfl⟩
       ·rw[if_neg d6];exact kD ⟨⟨rfl,hp4,(by show ka+k+1+1<a.size;omega),(by show kb+1<b.size;omega),(by show ia+ib+1<=ka+k+1+(kb+1);omega)⟩,_,rfl⟩
     ·rw[if_neg k0];refine kF (zas hkb ?_)
      try dsimp only
      have hp2:=zhk hp hkb
      by_cases d3:(kb+1==b.size)=true
      ·rw[if_pos d3];exact kD ⟨.inl ⟨_,rfl,zcb hp2⟩,_,rfl⟩
      rw[if_neg d3];have d3':kb+1≠b.size:=fun z=>d3 (by rw[z];exact beq_self_eq_true _)
      refine kF (zas (show ka<a.size by omega) ?_)
      refine kF (zb5 hq (ea (by omega)) hb (by omega) (by omega) hκ fun k2 hk2=>?_)
      try dsimp only
      by_cases k20:k2>0
      ·rw[if_pos k20];have hp3:=zqi hp2 k2 (by omega)
       by_cases d4:(kb+1+k2==b.size)=true
       ·rw[if_pos d4];exact kD ⟨.inl ⟨_,rfl,zcb hp3⟩,_,rfl⟩
       rw[if_neg d4];have d4':kb+1+k2≠b.size:=fun z=>d4 (by rw[z];exact beq_self_eq_true _)
       refine kF (zas (show ka<a.size by omega) ?_)
       try dsimp only
       have hp4:=zfy hp3 (show ka<a.size by omega)
       by_cases d5:(ka+1+1==a.size)=true
       ·rw[if_pos d5];exact kD ⟨.inl ⟨_,rfl,zcc hp4⟩,_,rfl⟩
       rw[if_neg d5];have d5':ka+1+1≠a.size:=fun z=>d5 (by rw[z];exact beq_self_eq_true _)
       by_cases d6:(decide (k<7)&&decide (k2<7))=true
       ·rw[if_pos d6];exact kD ⟨.inr ⟨rfl,hp4,(by show ka+1+1<a.size;omega),(by show kb+1+k2<b.size;omega),(by show ia+ib+1<=ka+1+(kb+1+k2);omega)⟩,_,rfl⟩
       ·rw[if_neg d6];exact kD ⟨⟨rfl,hp4,(by show ka+1+1<a.size;omega),(by show kb+1+k2<b.size;omega),(by show ia+ib+1<=ka+1+(kb+1+k2);omega)⟩,_,rfl⟩
      ·rw[if_neg k20];refine kF (zas (show ka<a.size by omega) ?_)
       try dsimp only
       have hp4:=zfy hp2 (show ka<a.size by omega)
       by_cases d5:(ka+1+1==a.size)=true
       ·rw[if_pos d5];exact kD ⟨.inl ⟨_,rfl,zcc hp4⟩,_,rfl⟩
       rw[if_neg d5];have d5':ka+1+1≠a.size:=fun z=>d5 (by rw[z];exact beq_self_eq_true _)
       by_cases d6:(decide (k<7)&&decide (k2<7))=true
       ·rw[if_pos d6];exact kD ⟨.inr ⟨rfl,hp4,(by show ka+1+1<a.size;omega),(by show kb+1<b.size;omega),(by show ia+ib+1<=ka+1+(kb+1);omega)⟩,_,rfl⟩
       ·rw[if_neg d6];exact kD ⟨⟨rfl,hp4,(by show ka+1+1<a.size;omega),(by show kb+1<b.size;omega),(by show ia+ib+1<=ka+1+(kb+1);omega)⟩,_,rfl⟩
    ·rw[if_neg mm];refine kF (uN ?_);refine kF (zas hkb ?_);refine kF (zb5 hq (eb hkb) ha (by omega) (by omega) hκ fun k hk=>?_)
     try dsimp only
     by_cases k0:k>0
     ·rw[if_pos k0];have hp1:=prm_a hp k (by omega)
      by_cases d1:(ka+k+1==a.size)=true
      ·rw[if_pos d1];exact kD ⟨.inl ⟨_,rfl,zcc hp1⟩,_,rfl⟩
      rw[if_neg d1];have d1':ka+k+1≠a.size:=fun z=>d1 (by rw[z];exact beq_self_eq_true _)
      by_cases d2:(ka+k==a.size)=true
      ·rw[if_pos d2];exact kD ⟨.inl ⟨_,rfl,zcb hp1⟩,_,rfl⟩
      rw[if_neg d2];have d2':ka+k≠a.size:=fun z=>d2 (by rw[z];exact beq_self_eq_true _)
      refine kF (zas hkb ?_)
      try dsimp only
      have hp2:=zhk hp1 hkb
      by_cases d3:(kb+1==b.size)=true
      ·rw[if_pos d3];exact kD ⟨.inl ⟨_,rfl,zcb hp2⟩,_,rfl⟩
      rw[if_neg d3];have d3':kb+1≠b.size:=fun z=>d3 (by rw[z];exact beq_self_eq_true _)
      refine kF (zas (show ka+k<a.size by omega) ?_)
      refine kF (zb5 hq (ea (by omega)) hb (by omega) (by omega) hκ fun k2 hk2=>?_)
      try dsimp only
      by_cases k20:k2>0
      ·rw[if_pos k20];have hp3:=zqi hp2 k2 (by omega)
       by_cases d4:(kb+1+k2==b.size)=true
       ·rw[if_pos d4];exact kD ⟨.inl ⟨_,rfl,zcb hp3⟩,_,rfl⟩
       rw[if_neg d4];have d4':kb+1+k2≠b.size:=fun z=>d4 (by rw[z];exact beq_self_eq_true _)
       refine kF (zas (show ka+k<a.size by omega) ?_)
       try dsimp only
       have hp4:=zfy hp3 (show ka+k<a.size by omega)
       by_cases d5:(ka+k+1+1==a.size)=true
       ·rw[if_pos d5];exact kD ⟨.inl ⟨_,rfl,zcc hp4⟩,_,rfl⟩
       rw[if_neg d5];have d5':ka+k+1+1≠a.size:=fun z=>d5 (by rw[z];exact beq_self_eq_true _)
       by_cases d6:(decide (k<7)&&decide (k2<7))=true
       ·rw[if_pos d6];exact kD ⟨.inr ⟨rfl,hp4,(by show ka+k+1+1<a.size;omega),(by show kb+1+k2<b.size;omega),(by show ia+ib+1<=ka+k+1+(kb+1+k2);omega)⟩,_,rfl⟩
       ·rw[if_neg d6];exact kD ⟨⟨rfl,hp4,(by show ka+k+1+1<a.size;omega),(by show kb+1+k2<b.size;omega),(by show ia+ib+1<=ka+k+1+(kb+1+k2);omega)⟩,_,rfl⟩
      ·rw[if_neg k20];refine kF (zas (show ka+k<a.size by omega) ?_)
       try dsimp only
       have hp4:=zfy hp2 (show ka+k<a.size by omega)
       by_cases d5:(ka+k+1+1==a.size)=true
       ·rw[if_pos d5];exact kD ⟨.inl ⟨_,rfl,zcc hp4⟩,_,rfl⟩
       rw[if_neg d5];have d5':ka+k+1+1≠a.size:=fun z=>d5 (by rw[z];exact beq_self_eq_true _)
       by_cases d6:(decide (k<7)&&decide (k2<7))=true
       ·rw[if_pos d6];exact kD ⟨.inr ⟨rfl,hp4,(by show ka+k+1+1<a.size;omega),(by show kb+1<b.size;omega),(by show ia+ib+1<=ka+k+1+(kb+1);omega)⟩,_,rfl⟩
       ·rw[if_neg d6];exact kD ⟨⟨rfl,hp4,(by show ka+k+1+1<a.size;omega),(by show kb+1<b.size;omega),(by show ia+ib+1<=ka+k+1+(kb+1);omega)⟩,_,rfl⟩
     ·rw[if_neg k0];refine kF (zas hkb ?_)
      try dsimp only
      have hp2:=zhk hp hkb
      by_cases d3:(kb+1==b.size)=true
      ·rw[if_pos d3];exact kD ⟨.inl ⟨_,rfl,zcb hp2⟩,_,rfl⟩
      rw[if_neg d3];have d3':kb+1≠b.size:=fun z=>d3 (by rw[z];exact beq_self_eq_true _)
      refine kF (zas (show ka<a.size by omega) ?_)
      refine kF (zb5 hq (ea (by omega)) hb (by omega) (by omega) hκ fun k2 hk2=>?_)
      try dsimp only
      by_cases k20:k2>0
      ·rw[if_pos k20];have hp3:=zqi hp2 k2 (by omega)
       by_cases d4:(kb+1+k2==b.size)=true
       ·rw[if_pos d4];exact kD ⟨.inl ⟨_,rfl,zcb hp3⟩,_,rfl⟩
       rw[if_neg d4];have d4':kb+1+k2≠b.size:=fun z=>d4 (by rw[z];exact beq_self_eq_true _)
       refine kF (zas (show ka<a.size by omega) ?_)
       try dsimp only
       have hp4:=zfy hp3 (show ka<a.size by omega)
       by_cases d5:(ka+1+1==a.size)=true
       ·rw[if_pos d5];exact kD ⟨.inl ⟨_,rfl,zcc hp4⟩,_,rfl⟩
       rw[if_neg d5];have d5':ka+1+1≠a.size:=fun z=>d5 (by rw[z];exact beq_self_eq_true _)
       by_cases d6:(decide (k<7)&&decide (k2<7))=true
       ·rw[if_pos d6];exact kD ⟨.inr ⟨rfl,hp4,(by show ka+1+1<a.size;omega),(by show kb+1+k2<b.size;omega),(by show ia+ib+1<=ka+1+(kb+1+k2);omega)⟩,_,rfl⟩
       ·rw[if_neg d6];exact kD ⟨⟨rfl,hp4,(by show ka+1+1<a.size;omega),(by show kb+1+k2<b.size;omega),(by show ia+ib+1<=ka+1+(kb+1+k2);omega)⟩,_,rfl⟩
      ·rw[if_neg k20];refine kF (zas (show ka<a.size by omega) ?_)
       try dsimp only
       have hp4:=zfy hp2 (show ka<a.size by omega)
       by_cases d5:(ka+1+1==a.size)=true
       ·rw[if_pos d5];exact kD ⟨.inl ⟨_,rfl,zcc hp4⟩,_,rfl⟩
       rw[if_neg d5];have d5':ka+1+1≠a.size:=fun z=>d5 (by rw[z];exact beq_self_eq_true _)
       by_cases d6:(decide (k<7)&&decide (k2<7))=true
       ·rw[if_pos d6];exact kD ⟨.inr ⟨rfl,hp4,(by show ka+1+1<a.size;omega),(by show kb+1<b.size;omega),(by show ia+ib+1<=ka+1+(kb+1);omega)⟩,_,rfl⟩
       ·rw[if_neg d6];exact kD ⟨⟨rfl,hp4,(by show ka+1+1<a.size;omega),(by show kb+1<b.size;omega),(by show ia+ib+1<=ka+1+(kb+1);omega)⟩,_,rfl⟩
   ·rintro⟨r2,out,ka,kb,mg2,ac2,bc2⟩ st' ⟨hc,g,rfl⟩;dsimp only at hc⊢;rcases hc with⟨r,rfl,hr⟩|⟨rfl,hp,hka,hkb,hl2⟩
    ·exact kD ⟨r,rfl,hr,_,rfl⟩
    dsimp only;refine kF (uN (kD ⟨⟨rfl,hp,hka,hkb,(by show x+1+1<=ka+kb;omega)⟩,_,rfl⟩))
 ·rintro c st' ⟨⟨e0,hp,hia,hib,hlo⟩,_⟩
  exfalso
  omega
 ·rintro⟨r0,out,ia,ib,mg⟩ st' ⟨r,e,hr,g,rfl⟩;dsimp only at e⊢;subst e;exact kD (h r g hr)
end
section
variable{prog:pA}{w:pR}{A:pj}{E:kB->kC->Prop}{s:kC}{a₀:Array uI}{κ:UO}
def PrmH(a b out:Array uI)(na nb:Nat):Prop:=((a.toList.take na++b.toList.take nb)++out.toList).Perm (a.toList++b.toList)/\na<=a.size/\nb<=b.size
theorem ext_0(a:Array uI)(n:Nat):(a.extract 0 n).toList=a.toList.take n:=by rw[zd8,gB,DY]
theorem zat{a b out:Array uI}{na nb:Nat}(h:PrmH a b out na nb):(a.extract 0 na++b.extract 0 nb++out.reverse).toList.Perm (a.toList++b.toList):=by
 rw[pX,pX,ext_0,ext_0,US];exact(pg _ (jJ _)).trans h.1
theorem zbs{a b out:Array uI}{na nb:Nat}(h:PrmH a b out na nb):(b.extract 0 nb++a.extract 0 na++out.reverse).toList.Perm (a.toList++b.toList):=by
 rw[pX,pX,ext_0,ext_0,US];exact(List.Perm.append uT (jJ _)).trans h.1
theorem zmg{l:List uI}{k n:Nat}(h:k<=n):l.take n=l.take k++(l.drop k).take (n-k):=by
 rw[←uO k (l.take n),List.take_take,Qx h,List.drop_take]
theorem zpe{a b out:Array uI}{na nb:Nat}(h:PrmH a b out na nb)(k:Nat)(hk:k<=na):PrmH a b (out++(a.extract k na).reverse) k nb:=by
 refine⟨?_,pL hk h.2.1,h.2.2⟩;refine jq ?_ h.1;rw[pX,US,zd8,zmg hk];generalize a.toList.take k=x;generalize (a.toList.drop k).take (na-k)=y;generalize b.toList.take nb=z;generalize out.toList=o;have:(o++y.reverse).Perm (y++o):=(pg _ (jJ _)).trans uT;refine(pg _ this).trans ?_;rw[pC,pC,pC];refine pg _ ?_;rw[←pC,←pC];exact List.Perm.append_right _ uT
theorem zjz{a b out:Array uI}{na nb:Nat}(h:PrmH a b out na nb)(k:Nat)(hk:k<=nb):PrmH a b (out++(b.extract k nb).reverse) na k:=by
 refine⟨?_,h.2.1,pL hk h.2.2⟩;refine jq ?_ h.1;rw[pX,US,zd8,zmg hk];generalize b.toList.take k=x;generalize (b.toList.drop k).take (nb-k)=y;generalize a.toList.take na=z;generalize out.toList=o;have:(o++y.reverse).Perm (y++o):=(pg _ (jJ _)).trans uT;refine(pg _ this).trans ?_;rw[pC,pC,pC]
theorem zml(out a:Array uI)(n:Nat)(h0:0<n)(h:n-1<a.size):out.push a[n-1]=out++(a.extract (n-1) n).reverse:=by
 obtain⟨m,rfl⟩:∃m,n=m+1:=⟨n-1,by omega⟩
 have e:=zia out a m h;simp only[Qo] at*;rw[e]
 congr 1
 apply AK.mp
 have h':m<a.toList.length:=by simpa using h
 rw[US,zo6,Qk h']
 simp
theorem ze0{a b out:Array uI}{na nb:Nat}(h:PrmH a b out na nb)(h0:0<na):PrmH a b (out.push (a[na-1]'(by have:=h.2.1;omega))) (na-1) nb:=by rw[zml _ _ _ h0];exact zpe h (na-1) (by omega)
theorem zhc{a b out:Array uI}{na nb:Nat}(h:PrmH a b out na nb)(h0:0<nb):PrmH a b (out.push (b[nb-1]'(by have:=h.2.2;omega))) na (nb-1):=by rw[zml _ _ _ h0];exact zjz h (nb-1) (by omega)
theorem zo5{a b:Array uI}(ha:0<a.size):PrmH a b #[a[a.size-1]] (a.size-1) b.size:=by
 have h:PrmH a b #[] a.size b.size:=⟨by rw[kU (by simp),kU (by simp)];simp,kG _,kG _⟩
 exact ze0 h ha
theorem hi_at(hq:QL prog w A E s κ a₀){a b:Array uI}{st:ud}{Q:Array uI->ud->Prop}(ha:∀x,x∈a->x∈a₀)(hb:∀x,x∈b->x∈a₀)(a1:0<a.size)(b1:0<b.size)(hκ:kindOf st=κ)
  (h:∀r g,r.toList.Perm (a.toList++b.toList)->Q r (gSt st g)):wpS (model prog w) A E s (mergeHi' a b) Q st:=by
 have ea:∀{i:Nat}(h:i<a.size),a[i]∈a₀:=fun h=>ha _ (uz h);have eb:∀{i:Nat}(h:i<b.size),b[i]∈a₀:=fun h=>hb _ (uz h);have est:gSt st (BP st)=st:=rfl;refine kF (gK (Qm ⟨rfl,?_⟩));refine kF (zas (show a.size-1<a.size by omega) ?_)
 try dsimp only
 by_cases c1:(a.size-1==0)=true
 ·rw[if_pos c1];exact kD (est▸h _ (BP st) (zat (zo5 a1)))
 rw[if_neg c1]
 by_cases c2:(b.size==1)=true
 ·rw[if_pos c2];exact kD (est▸h _ (BP st) (zbs (zo5 a1)))
 rw[if_neg c2];have c1':a.size-1≠0:=fun z=>c1 (by rw[z];rfl)
 have c2':b.size≠1:=fun z=>c2 (by rw[z];rfl)
 refine kF (vj ?_);refine kF (uu (uD
  (I:=fun x(c:Option (Array uI)×Nat×Nat×Array uI×Nat) st'=>((c.1=none/\PrmH a b c.2.2.2.1 c.2.1 c.2.2.1/\0<c.2.1/\1<c.2.2.1)/\c.2.1+c.2.2.1+x+1<=a.size+b.size)/\∃g,st'=gSt st g)
  (Q:=fun c st'=>∃r,c.1=some r/\r.toList.Perm (a.toList++b.toList)/\∃g,st'=gSt st g) ?_ ?_ ⟨⟨⟨rfl,zo5 a1,by show 0<a.size-1;omega,by show 1<b.size;omega⟩,by show a.size-1+b.size+0+1<=_;omega⟩,_,rfl⟩) ?_)
 ·rintro x ⟨r0,na,nb,out,mg⟩ st' _ hx ⟨⟨⟨e0,hp,hna,hnb⟩,hlo⟩,g,rfl⟩;dsimp only at e0 hp hna hnb hlo⊢;have lna:=hp.2.1;have lnb:=hp.2.2;refine kF (uu (uD
   (I:=fun y(c:Option (Array uI)×Nat×Nat×Array uI×Nat×Nat) st'=>((c.1=none/\PrmH a b c.2.2.2.1 c.2.1 c.2.2.1/\0<c.2.1/\1<c.2.2.1)/\c.2.1+c.2.2.1+min y 1<=na+nb)/\∃g,st'=gSt st g)
   (Q:=fun c st'=>((∃r,c.1=some r/\r.toList.Perm (a.toList++b.toList))∨((c.1=none/\PrmH a b c.2.2.2.1 c.2.1 c.2.2.1/\0<c.2.1/\1<c.2.2.1)/\c.2.1+c.2.2.1+1<=na+nb))/\∃g,st'=gSt st g) ?_ ?_ ⟨⟨⟨rfl,hp,hna,hnb⟩,by show na+nb+min 0 1<=na+nb;omega⟩,_,rfl⟩) ?_)
  ·rintro y ⟨r1,ja,jb,out,ac,bc⟩ st' _ hy ⟨⟨⟨e1,hp,hja,hjb⟩,hl1⟩,g,rfl⟩;dsimp only at e1 hp hja hjb hl1⊢;have lja:=hp.2.1;have ljb:=hp.2.2;refine kF (zas (show jb-1<b.size by omega) (kF (zas (show ja-1<a.size by omega) (kF (hq _ _ _ _ (eb (by omega)) (ea (by omega)) hκ fun bw=>?_)))))
   cases bw with
   |true=>
    refine kF (zas (show ja-1<a.size by omega) ?_)
    try dsimp only
    have hp1:=ze0 hp hja
    by_cases d:(ja-1==0)=true
    ·rw[if_pos d];exact kD ⟨.inl ⟨_,rfl,zat hp1⟩,_,rfl⟩
    rw[if_neg d];have d':ja-1≠0:=fun z=>d (by rw[z];rfl)
    by_cases f:ac+1≥mg
    ·rw[if_pos f];exact kD ⟨.inr ⟨⟨rfl,hp1,(by show 0<ja-1;omega),hjb⟩,(by show ja-1+jb+1<=na+nb;omega)⟩,_,rfl⟩
    ·rw[if_neg f];exact kD ⟨⟨⟨rfl,hp1,(by show 0<ja-1;omega),hjb⟩,(by show ja-1+jb+min (y+1) 1<=na+nb;omega)⟩,_,rfl⟩
   |false=>
    refine kF (zas (show jb-1<b.size by omega) ?_)
    try dsimp only
    have hp1:=zhc hp (show 0<jb by omega)
    by_cases d:(jb-1==1)=true
    ·rw[if_pos d];exact kD ⟨.inl ⟨_,rfl,zbs hp1⟩,_,rfl⟩
    rw[if_neg d];have d':jb-1≠1:=fun z=>d (by rw[z];rfl)
    by_cases f:bc+1≥mg
    ·rw[if_pos f];exact kD ⟨.inr ⟨⟨rfl,hp1,hja,(by show 1<jb-1;omega)⟩,(by show ja+(jb-1)+1<=na+nb;omega)⟩,_,rfl⟩
    ·rw[if_neg f];exact kD ⟨⟨⟨rfl,hp1,hja,(by show 1<jb-1;omega)⟩,(by show ja+(jb-1)+min (y+1) 1<=na+nb;omega)⟩,_,rfl⟩
  ·rintro c st' ⟨⟨i1,hl1⟩,g⟩;exact⟨.inr ⟨i1,by omega⟩,g⟩
  ·rintro⟨r1,ja,jb,out,ac,bc⟩ st' ⟨hc,g,rfl⟩;dsimp only at hc⊢;rcases hc with⟨r,rfl,hr⟩|⟨⟨rfl,hp,hja,hjb⟩,hl1⟩
   ·exact kD ⟨r,rfl,hr,_,rfl⟩
   dsimp only;refine kF (gK (Qm ⟨rfl,?_⟩));refine kF (uu (uD
    (I:=fun y(c:Option (Array uI)×Nat×Nat×Array uI×Nat×Nat×Nat) st'=>((c.1=none/\PrmH a b c.2.2.2.1 c.2.1 c.2.2.1/\0<c.2.1/\1<c.2.2.1)/\c.2.1+c.2.2.1+1<=na+nb)/\∃g,st'=gSt st g)
    (Q:=fun c st'=>((∃r,c.1=some r/\r.toList.Perm (a.toList++b.toList))∨((c.1=none/\PrmH a b c.2.2.2.1 c.2.1 c.2.2.1/\0<c.2.1/\1<c.2.2.1)/\c.2.1+c.2.2.1+1<=na+nb))/\∃g,st'=gSt st g) ?_ (fun c st' z=>⟨.inr z.1,z.2⟩) ⟨⟨⟨rfl,hp,hja,hjb⟩,hl1⟩,_,rfl⟩) ?_)
   ·rintro y ⟨r2,ka,kb,out,mg2,ac2,bc2⟩ st' _ hy ⟨⟨⟨e2,hp,hka,hkb⟩,hl2⟩,g,rfl⟩;dsimp only at e2 hp hka hkb hl2⊢;have lka:=hp.2.1;have lkb:=hp.2.2
    by_cases mm:mg2>1
    ·rw[if_pos mm];refine kF (uN ?_);refine kF (zas (show kb-1<b.size by omega) ?_)
     refine kF (zb5 hq (eb (by omega)) ha (by omega) (by omega) hκ fun k hk=>?_)
     try dsimp only
     by_cases k0:ka-k>0
     ·rw[if_pos k0];have hp1:=zpe hp k hk
      by_cases d1:(k==0)=true
      ·rw[if_pos d1];exact kD ⟨.inl ⟨_,rfl,zat hp1⟩,_,rfl⟩
      rw[if_neg d1];have d1':k≠0:=fun z=>d1 (by rw[z];rfl)
      refine kF (zas (show kb-1<b.size by omega) ?_)
      try dsimp only
      have hp2:=zhc hp1 (show 0<kb by omega)
      by_cases d3:(kb-1==1)=true
      ·rw[if_pos d3];exact kD ⟨.inl ⟨_,rfl,zbs hp2⟩,_,rfl⟩
      rw[if_neg d3];have d3':kb-1≠1:=fun z=>d3 (by rw[z];rfl)
      refine kF (zas (show k-1<a.size by omega) ?_)
      refine kF (zb5 hq (ea (by omega)) hb (by omega) (by omega) hκ fun k2 hk2=>?_)
      try dsimp only
      by_cases k20:kb-1-k2>0
      ·rw[if_pos k20];have hp3:=zjz hp2 k2 hk2
       by_cases d4:(k2==1)=true
       ·rw[if_pos d4];exact kD ⟨.inl ⟨_,rfl,zbs hp3⟩,_,rfl⟩
       rw[if_neg d4];have d4':k2≠1:=fun z=>d4 (by rw[z];rfl)
       by_cases d7:(k2==0)=true
       ·rw[if_pos d7];exact kD ⟨.inl ⟨_,rfl,zat hp3⟩,_,rfl⟩
       rw[if_neg d7];have d7':k2≠0:=fun z=>d7 (by rw[z];rfl)
       refine kF (zas (show k-1<a.size by omega) ?_)
       try dsimp only
       have hp4:=ze0 hp3 (show 0<k by omega)
       by_cases d5:(k-1==0)=true
       ·rw[if_pos d5];exact kD ⟨.inl ⟨_,rfl,zat hp4⟩,_,rfl⟩
       rw[if_neg d5];have d5':k-1≠0:=fun z=>d5 (by rw[z];rfl)
       by_cases d6:(decide (ka-k<7)&&decide (kb-1-k2<7))=true
       ·rw[if_pos d6];exact kD ⟨.inr ⟨⟨rfl,hp4,(by show 0<k-1;omega),(by show 1<k2;omega)⟩,(by show k-1+(k2)+1<=na+nb;omega)⟩,_,rfl⟩
       ·rw[if_neg d6];exact kD ⟨⟨⟨rfl,hp4,(by show 0<k-1;omega),(by show 1<k2;omega)⟩,(by show k-1+(k2)+1<=na+nb;omega)⟩,_,rfl⟩
      ·rw[if_neg k20];refine kF (zas (show k-1<a.size by omega) ?_)
       try dsimp only
       have hp4:=ze0 hp2 (show 0<k by omega)
       by_cases d5:(k-1==0)=true
       ·rw[if_pos d5];exact kD ⟨.inl ⟨_,rfl,zat hp4⟩,_,rfl⟩
       rw[if_neg d5];have d5':k-1≠0:=fun z=>d5 (by rw[z];rfl)
       by_cases d6:(decide (ka-k<7)&&decide (kb-1-k2<7))=true
       ·rw[if_pos d6];exact kD ⟨.inr ⟨⟨rfl,hp4,(by show 0<k-1;omega),(by show 1<kb-1;omega)⟩,(by show k-1+(kb-1)+1<=na+nb;omega)⟩,_,rfl⟩
       ·rw[if_neg d6];exact kD ⟨⟨⟨rfl,hp4,(by show 0<k-1;omega),(by show 1<kb-1;omega)⟩,(by show k-1+(kb-1)+1<=na+nb;omega)⟩,_,rfl⟩
     ·rw[if_neg k0];refine kF (zas (show kb-1<b.size by omega) ?_)
      try dsimp only
      have hp2:=zhc hp (show 0<kb by omega)
      by_cases d3:(kb-1==1)=true
      ·rw[if_pos d3];exact kD ⟨.inl ⟨_,rfl,zbs hp2⟩,_,rfl⟩
      rw[if_neg d3];have d3':kb-1≠1:=fun z=>d3 (by rw[z];rfl)
      refine kF (zas (show ka-1<a.size by omega) ?_)
      refine kF (zb5 hq (ea (by omega)) hb (by omega) (by omega) hκ fun k2 hk2=>?_)
      try dsimp only
      by_cases k20:kb-1-k2>0
      ·rw[if_pos k20];have hp3:=zjz hp2 k2 hk2
       by_cases d4:(k2==1)=true
       ·rw[if_pos d4];exact kD ⟨.inl ⟨_,rfl,zbs hp3⟩,_,rfl⟩
       rw[if_neg d4];have d4':k2≠1:=fun z=>d4 (by rw[z];rfl)
       by_cases d7:(k2==0)=true
       ·rw[if_pos d7];exact kD ⟨.inl ⟨_,rfl,zat hp3⟩,_,rfl⟩
       rw[if_neg d7];have d7':k2≠0:=fun z=>d7 (by rw[z];rfl)
       refine kF (zas (show ka-1<a.size by omega) ?_)
       try dsimp only
       have hp4:=ze0 hp3 (show 0<ka by omega)
       by_cases d5:(ka-1==0)=true
       ·rw[if_pos d5];exact kD ⟨.inl ⟨_,rfl,zat hp4⟩,_,rfl⟩
       rw[if_neg d5];have d5':ka-1≠0:=fun z=>d5 (by rw[z];rfl)
       by_cases d6:(decide (ka-k<7)&&decide (kb-1-k2<7))=true
       ·rw[if_pos d6];exact kD ⟨.inr ⟨⟨rfl,hp4,(by show 0<ka-1;omega),(by show 1<k2;omega)⟩,(by show ka-1+(k2)+1<=na+nb;omega)⟩,_,rfl⟩
       ·rw[if_neg d6];exact kD ⟨⟨⟨rfl,hp4,(by show 0<ka-1;omega),(by show 1<k2;omega)⟩,(by show ka-1+(k2)+1<=na+nb;omega)⟩,_,rfl⟩
      ·rw[if_neg k20];refine kF (zas (show ka-1<a.size by omega) ?_)
       try dsimp only
       have hp4:=ze0 hp2 (show 0<ka by omega)
       by_cases d5:(ka-1==0)=true
       ·rw[if_pos d5];exact kD ⟨.inl ⟨_,rfl,zat hp4⟩,_,rfl⟩
       rw[if_neg d5];have d5':ka-1≠0:=fun z=>d5 (by rw[z];rfl)
       by_cases d6:(decide (ka-k<7)&&decide (kb-1-k2<7))=true
       ·rw[if_pos d6];exact kD ⟨.inr ⟨⟨rfl,hp4,(by show 0<ka-1;omega),(by show 1<kb-1;omega)⟩,(by show ka-1+(kb-1)+1<=na+nb;omega)⟩,_,rfl⟩
       ·rw[if_neg d6];exact kD ⟨⟨⟨rfl,hp4,(by show 0<ka-1;omega),(by show 1<kb-1;omega)⟩,(by show ka-1+(kb-1)+1<=na+nb;omega)⟩,_,rfl⟩
    ·rw[if_neg mm];refine kF (uN ?_);refine kF (zas (show kb-1<b.size by omega) ?_)
     refine kF (zb5 hq (eb (by omega)) ha (by omega) (by omega) hκ fun k hk=>?_)
     try dsimp only
     by_cases k0:ka-k>0
     ·rw[if_pos k0];have hp1:=zpe hp k hk
      by_cases d1:(k==0)=true
      ·rw[if_pos d1];exact kD ⟨.inl ⟨_,rfl,zat hp1⟩,_,rfl⟩
      rw[if_neg d1];have d1':k≠0:=fun z=>d1 (by rw[z];rfl)
      refine kF (zas (show kb-1<b.size by omega) ?_)
      try dsimp only
      have hp2:=zhc hp1 (show 0<kb by omega)
      by_cases d3:(kb-1==1)=true
      ·rw[if_pos d3];exact kD ⟨.inl ⟨_,rfl,zbs hp2⟩,_,rfl⟩
      rw[if_neg d3];have d3':kb-1≠1:=fun z=>d3 (by rw[z];rfl)
      refine kF (zas (show k-1<a.size by omega) ?_)
      refine kF (zb5 hq (ea (by omega)) hb (by omega) (by omega) hκ fun k2 hk2=>?_)
      try dsimp only
      by_cases k20:kb-1-k2>0
      ·rw[if_pos k20];have hp3:=zjz hp2 k2 hk2
       by_cases d4:(k2==1)=true
       ·rw[if_pos d4];exact kD ⟨.inl ⟨_,rfl,zbs hp3⟩,_,rfl⟩
       rw[if_neg d4];have d4':k2≠1:=fun z=>d4 (by rw[z];rfl)
       by_cases d7:(k2==0)=true
       ·rw[if_pos d7];exact kD ⟨.inl ⟨_,rfl,zat hp3⟩,_,rfl⟩
       rw[if_neg d7];have d7':k2≠0:=fun z=>d7 (by rw[z];rfl)
       refine kF (zas (show k-1<a.size by omega) ?_)
       try dsimp only
       have hp4:=ze0 hp3 (show 0<k by omega)
       by_cases d5:(k-1==0)=true
       ·rw[if_pos d5];exact kD ⟨.inl ⟨_,rfl,zat hp4⟩,_,rfl⟩
       rw[if_neg d5];have d5':k-1≠0:=fun z=>d5 (by rw[z];rfl)
       by_cases d6:(decide (ka-k<7)&&decide (kb-1-k2<7))=true
       ·rw[if_pos d6];exact kD ⟨.inr ⟨⟨rfl,hp4,(by show 0<k-1;omega),(by show 1<k2;omega)⟩,(by show k-1+(k2)+1<=na+nb;omega)⟩,_,rfl⟩
       ·rw[if_neg d6];exact kD ⟨⟨⟨rfl,hp4,(by show 0<k-1;omega),(by show 1<k2;omega)⟩,(by show k-1+(k2)+1<=na+nb;omega)⟩,_,rfl⟩
      ·rw[if_neg k20];refine kF (zas (show k-1<a.size by omega) ?_)
       try dsimp only
       have hp4:=ze0 hp2 (show 0<k by omega)
       by_cases d5:(k-1==0)=true
       ·rw[if_pos d5];exact kD ⟨.inl ⟨_,rfl,zat hp4⟩,_,rfl⟩
       rw[if_neg d5];have d5':k-1≠0:=fun z=>d5 (by rw[z];rfl)
       by_cases d6:(decide (ka-k<7)&&decide (kb-1-k2<7))=true
       ·rw[if_pos d6];exact kD ⟨.inr ⟨⟨rfl,hp4,(by show 0<k-1;omega),(by show 1<kb-1;omega)⟩,(by show k-1+(kb-1)+1<=na+nb;omega)⟩,_,rfl⟩
       ·rw[if_neg d6];exact kD ⟨⟨⟨rfl,hp4,(by show 0<k-1;omega),(by show 1<kb-1;omega)⟩,(by show k-1+(kb-1)+1<=na+nb;omega)⟩,_,rfl⟩
     ·rw[if_neg k0];refine kF (zas (show kb-1<b.size by omega) ?_)
      try dsimp only
      have hp2:=zhc hp (show 0<kb by omega)
      by_cases d3:(kb-1==1)=true
      ·rw[if_pos d3];exact kD ⟨.inl ⟨_,rfl,zbs hp2⟩,_,rfl⟩
      rw[if_neg d3];have d3':kb-1≠1:=fun z=>d3 (by rw[z];rfl)
      refine kF (zas (show ka-1<a.size by omega) ?_)
      refine kF (zb5 hq (ea (by omega)) hb (by omega) (by omega) hκ fun k2 hk2=>?_)
      try dsimp only
      by_cases k20:kb-1-k2>0
      ·rw[if_pos k20];have hp3:=zjz hp2 k2 hk2
       by_cases d4:(k2==1)=true
       ·rw[if_pos d4];exact kD ⟨.inl ⟨_,rfl,zbs hp3⟩,_,rfl⟩
       rw[if_neg d4];have d4':k2≠1:=fun z=>d4 (by rw[z];rfl)
       by_cases d7:(k2==0)=true
       ·rw[if_pos d7];exact kD ⟨.inl ⟨_,rfl,zat hp3⟩,_,rfl⟩
       rw[if_neg d7];have d7':k2≠0:=fun z=>d7 (by rw[z];rfl)
       refine kF (zas (show ka-1<a.size by omega) ?_)
       try dsimp only
       have hp4:=ze0 hp3 (show 0<ka by omega)
       by_cases d5:(ka-1==0)=true
       ·rw[if_pos d5];exact kD ⟨.inl ⟨_,rfl,zat hp4⟩,_,rfl⟩
       rw[if_neg d5];have d5':ka-1≠0:=fun z=>d5 (by rw[z];rfl)
       by_cases d6:(decide (ka-k<7)&&decide (kb-1-k2<7))=true
       ·rw[if_pos d6];exact kD ⟨.inr ⟨⟨rfl,hp4,(by show 0<ka-1;omega),(by show 1<k2;omega)⟩,(by show ka-1+(k2)+1<=na+nb;omega)⟩,_,rfl⟩
       ·rw[if_neg d6];exact kD ⟨⟨⟨rfl,hp4,(by show 0<ka-1;omega),(by show 1<k2;omega)⟩,(by show ka-1+(k2)+1<=na+nb;omega)⟩,_,rfl⟩
      ·rw[if_neg k20];refine kF (zas (show ka-1<a.size by omega) ?_)
       try dsimp only
       have hp4:=ze0 hp2 (show 0<ka by omega)
       by_cases d5:(ka-1==0)=true
       ·rw[if_pos d5];exact kD ⟨.inl ⟨_,rfl,zat hp4⟩,_,rfl⟩
       rw[if_neg d5];have d5':ka-1≠0:=fun z=>d5 (by rw[z];rfl)
       by_cases d6:(decide (ka-k<7)&&decide (kb-1-k2<7))=true
       ·rw[if_pos d6];exact kD ⟨.inr ⟨⟨rfl,hp4,(by show 0<ka-1;omega),(by show 1<kb-1;omega)⟩,(by show ka-1+(kb-1)+1<=na+nb;omega)⟩,_,rfl⟩
       ·rw[if_neg d6];exact kD ⟨⟨⟨rfl,hp4,(by show 0<ka-1;omega),(by show 1<kb-1;omega)⟩,(by show ka-1+(kb-1)+1<=na+nb;omega)⟩,_,rfl⟩
   ·rintro⟨r2,ka,kb,out,mg2,ac2,bc2⟩ st' ⟨hc,g,rfl⟩;dsimp only at hc⊢;rcases hc with⟨r,rfl,hr⟩|⟨⟨rfl,hp,hka,hkb⟩,hl2⟩
    ·exact kD ⟨r,rfl,hr,_,rfl⟩
    dsimp only;refine kF (uN (kD ⟨⟨⟨rfl,hp,hka,hkb⟩,(by show ka+kb+(x+1)+1<=a.size+b.size;omega)⟩,_,rfl⟩))
 ·rintro c st' ⟨⟨⟨e0,hp,hna,hnb⟩,hlo⟩,_⟩
  exfalso
  omega
 ·rintro⟨r0,na,nb,out,mg⟩ st' ⟨r,e,hr,g,rfl⟩;dsimp only at e⊢;subst e;exact kD (h r g hr)
end
section
variable{prog:pA}{w:pR}{A:pj}{E:kB->kC->Prop}{s:kC}{a₀:Array uI}{κ:UO}
theorem zdg(hq:QL prog w A E s κ a₀){i j:Nat}{st:ud}{Q:Option Bool->ud->Prop}(hp:(arrOf st).Perm a₀)(hi:i<a₀.size)(hj:j<a₀.size)(hκ:kindOf st=κ)(h:∀b,Q (some b) st):wpS (model prog w) A E s (ltAt' i j) Q st:=by
 have sz:(arrOf st).size=a₀.size:=hp.size_eq;rw[ltAt'_eq];refine kF (vj ?_);refine kF (zas (show i<(arrOf st).size by omega) (kF (zas (show j<(arrOf st).size by omega) ?_)))
 exact hq _ _ _ _ (hp.mem_iff.mp (uz _)) (hp.mem_iff.mp (uz _)) hκ h
theorem count_at(hq:QL prog w A E s κ a₀){lo nrem:Nat}{st:ud}{Q:Option Nat->ud->Prop}(hp:(arrOf st).Perm a₀)(h1:1<=nrem)(hz:lo+nrem<=a₀.size)(hκ:kindOf st=κ)
  (h:∀m xs,1<=m->m<=nrem->xs.Perm a₀->Q (some m) (Ub st xs)):wpS (model prog w) A E s (countRun' lo nrem) Q st:=by
 refine kF (uu (uD (I:=fun x(c:Option (Option Nat)×Nat) st'=>st=st'/\c.1=none/\1<=c.2/\c.2<=x) (Q:=fun c st'=>st=st'/\c.1=none/\1<=c.2/\c.2<=nrem) ?_ ?_ ⟨rfl,rfl,kG _,kG _⟩) ?_)
 ·rintro x ⟨r,n⟩ st' hx1 hx ⟨rfl,e,hn1,hn2⟩;dsimp only at e hn1 hn2⊢;refine kF (zdg hq hp (by omega) (by omega) hκ fun b=>?_)
  cases b with
  |true=>exact kD ⟨rfl,rfl,hn1,(by show n<=nrem;omega)⟩
  |false=>exact kD ⟨rfl,rfl,(by show 1<=n+1;omega),(by show n+1<=x+1;omega)⟩
 ·rintro c st' ⟨e,e1,hn1,hn2⟩;exact⟨e,e1,hn1,by omega⟩
 rintro⟨r,n⟩ st' ⟨rfl,e,hn1,hn2⟩;dsimp only at e hn1 hn2⊢;subst e;dsimp only
 by_cases c1:(n==nrem)=true
 ·rw[if_pos c1];exact kD (h n (arrOf st) hn1 hn2 hp)
 rw[if_neg c1];have c1':n≠nrem:=fun z=>c1 (by rw[z];exact beq_self_eq_true _)
 by_cases c2:n>1
 ·rw[if_pos c2];refine kF (zdg hq hp (by omega) (by omega) hκ fun b=>?_)
  cases b with
  |true=>exact kD (h n (arrOf st) hn1 hn2 hp)
  |false=>
   refine kF (uN ?_);refine kF (gK (Qm ⟨rfl,?_⟩));refine kF (uu (uD (I:=fun x(c:Option (Option Nat)×Nat×Nat) st'=>(c.1=none/\1<=c.2.1/\c.2.1<=x)/\∃xs,xs.Perm a₀/\st'=Ub st xs) (Q:=fun c st'=>(c.1=none/\1<=c.2.1/\c.2.1<=nrem)/\∃xs,xs.Perm a₀/\st'=Ub st xs) ?_ ?_ ⟨⟨rfl,(by show 1<=n+1;omega),kG _⟩,_,((UN _ _ _ _).trans hp),rfl⟩) ?_)
   ·rintro x ⟨r,n2,q2⟩ st' hx1 hx ⟨⟨e,hn1,hn2⟩,xs,px,rfl⟩;dsimp only at e hn1 hn2⊢;refine kF (zdg hq px (by omega) (by omega) hκ fun b=>?_)
    cases b with
    |true=>
     try dsimp only
     rw[if_pos rfl]
     by_cases qq:q2>0
     ·rw[if_pos qq];exact kF (uN (kD ⟨⟨rfl,(by show 1<=n2+1;omega),(by show n2+1<=x+1;omega)⟩,_,(UN _ _ _ _).trans px,rfl⟩))
     ·rw[if_neg qq];exact kD ⟨⟨rfl,(by show 1<=n2+1;omega),(by show n2+1<=x+1;omega)⟩,_,px,rfl⟩
    |false=>
     refine kF (zdg hq px (by omega) (by omega) hκ fun b=>?_)
     cases b with
     |true=>exact kD ⟨⟨rfl,hn1,(by show n2<=nrem;omega)⟩,_,px,rfl⟩
     |false=>exact kD ⟨⟨rfl,(by show 1<=n2+1;omega),(by show n2+1<=x+1;omega)⟩,_,px,rfl⟩
   ·rintro c st' ⟨⟨e,hn1,hn2⟩,z⟩;exact⟨⟨e,hn1,by omega⟩,z⟩
   ·rintro⟨r,n2,q2⟩ st' ⟨⟨e,hn1,hn2⟩,xs2,px2,rfl⟩;dsimp only at e hn1 hn2⊢;subst e;dsimp only
    by_cases qq:q2>0
    ·rw[if_pos qq];refine kF (uN ?_);refine kF (uN ?_);refine kF (uu (uD (I:=fun x(c:Option (Option Nat)×Nat) st'=>(c.1=none/\1<=c.2/\c.2<=x)/\∃xs,xs.Perm a₀/\st'=Ub st xs) (Q:=fun c st'=>(c.1=none/\1<=c.2/\c.2<=nrem)/\∃xs,xs.Perm a₀/\st'=Ub st xs) ?_ ?_ ⟨⟨rfl,(by show 1<=n2;omega),kG _⟩,_,(UN _ _ _ _).trans ((UN _ _ _ _).trans px2),rfl⟩) ?_)
     ·rintro x ⟨r,n3⟩ st' hx1 hx ⟨⟨e,hn1,hn2'⟩,xs,px,rfl⟩;dsimp only at e hn1 hn2'⊢;refine kF (zdg hq px (by omega) (by omega) hκ fun b=>?_)
      cases b with
      |true=>exact kD ⟨⟨rfl,hn1,(by show n3<=nrem;omega)⟩,_,px,rfl⟩
      |false=>exact kD ⟨⟨rfl,(by show 1<=n3+1;omega),(by show n3+1<=x+1;omega)⟩,_,px,rfl⟩
     ·rintro c st' ⟨⟨e,hn1,hn2'⟩,z⟩;exact⟨⟨e,hn1,by omega⟩,z⟩
     ·rintro⟨r,n3⟩ st' ⟨⟨e,hn1,hn2'⟩,xs,px,rfl⟩;dsimp only at e hn1 hn2'⊢;subst e;exact kD (h n3 xs hn1 hn2' px)
    ·rw[if_neg qq];refine kF (uN ?_);refine kF (uu (uD (I:=fun x(c:Option (Option Nat)×Nat) st'=>(c.1=none/\1<=c.2/\c.2<=x)/\∃xs,xs.Perm a₀/\st'=Ub st xs) (Q:=fun c st'=>(c.1=none/\1<=c.2/\c.2<=nrem)/\∃xs,xs.Perm a₀/\st'=Ub st xs) ?_ ?_ ⟨⟨rfl,(by show 1<=n2;omega),kG _⟩,_,(UN _ _ _ _).trans px2,rfl⟩) ?_)
     ·rintro x ⟨r,n3⟩ st' hx1 hx ⟨⟨e,hn1,hn2'⟩,xs,px,rfl⟩;dsimp only at e hn1 hn2'⊢;refine kF (zdg hq px (by omega) (by omega) hκ fun b=>?_)
      cases b with
      |true=>exact kD ⟨⟨rfl,hn1,(by show n3<=nrem;omega)⟩,_,px,rfl⟩
      |false=>exact kD ⟨⟨rfl,(by show 1<=n3+1;omega),(by show n3+1<=x+1;omega)⟩,_,px,rfl⟩
     ·rintro c st' ⟨⟨e,hn1,hn2'⟩,z⟩;exact⟨⟨e,hn1,by omega⟩,z⟩
     ·rintro⟨r,n3⟩ st' ⟨⟨e,hn1,hn2'⟩,xs,px,rfl⟩;dsimp only at e hn1 hn2'⊢;subst e;exact kD (h n3 xs hn1 hn2' px)
 ·rw[if_neg c2];refine kF (gK (Qm ⟨rfl,?_⟩));refine kF (uu (uD (I:=fun x(c:Option (Option Nat)×Nat×Nat) st'=>(c.1=none/\1<=c.2.1/\c.2.1<=x)/\∃xs,xs.Perm a₀/\st'=Ub st xs) (Q:=fun c st'=>(c.1=none/\1<=c.2.1/\c.2.1<=nrem)/\∃xs,xs.Perm a₀/\st'=Ub st xs) ?_ ?_ ⟨⟨rfl,(by show 1<=n+1;omega),kG _⟩,_,hp,rfl⟩) ?_)
  ·rintro x ⟨r,n2,q2⟩ st' hx1 hx ⟨⟨e,hn1,hn2⟩,xs,px,rfl⟩;dsimp only at e hn1 hn2⊢;refine kF (zdg hq px (by omega) (by omega) hκ fun b=>?_)
   cases b with
   |true=>
    try dsimp only
    rw[if_pos rfl]
    by_cases qq:q2>0
    ·rw[if_pos qq];exact kF (uN (kD ⟨⟨rfl,(by show 1<=n2+1;omega),(by show n2+1<=x+1;omega)⟩,_,(UN _ _ _ _).trans px,rfl⟩))
    ·rw[if_neg qq];exact kD ⟨⟨rfl,(by show 1<=n2+1;omega),(by show n2+1<=x+1;omega)⟩,_,px,rfl⟩
   |false=>
    refine kF (zdg hq px (by omega) (by omega) hκ fun b=>?_)
    cases b with
    |true=>exact kD ⟨⟨rfl,hn1,(by show n2<=nrem;omega)⟩,_,px,rfl⟩
    |false=>exact kD ⟨⟨rfl,(by show 1<=n2+1;omega),(by show n2+1<=x+1;omega)⟩,_,px,rfl⟩
  ·rintro c st' ⟨⟨e,hn1,hn2⟩,z⟩;exact⟨⟨e,hn1,by omega⟩,z⟩
  ·rintro⟨r,n2,q2⟩ st' ⟨⟨e,hn1,hn2⟩,xs2,px2,rfl⟩;dsimp only at e hn1 hn2⊢;subst e;dsimp only
   by_cases qq:q2>0
   ·rw[if_pos qq];refine kF (uN ?_);refine kF (uN ?_);refine kF (uu (uD (I:=fun x(c:Option (Option Nat)×Nat) st'=>(c.1=none/\1<=c.2/\c.2<=x)/\∃xs,xs.Perm a₀/\st'=Ub st xs) (Q:=fun c st'=>(c.1=none/\1<=c.2/\c.2<=nrem)/\∃xs,xs.Perm a₀/\st'=Ub st xs) ?_ ?_ ⟨⟨rfl,(by show 1<=n2;omega),kG _⟩,_,(UN _ _ _ _).trans ((UN _ _ _ _).trans px2),rfl⟩) ?_)
    ·rintro x ⟨r,n3⟩ st' hx1 hx ⟨⟨e,hn1,hn2'⟩,xs,px,rfl⟩;dsimp only at e hn1 hn2'⊢;refine kF (zdg hq px (by omega) (by omega) hκ fun b=>?_)
     cases b with
     |true=>exact kD ⟨⟨rfl,hn1,(by show n3<=nrem;omega)⟩,_,px,rfl⟩
     |false=>exact kD ⟨⟨rfl,(by show 1<=n3+1;omega),(by show n3+1<=x+1;omega)⟩,_,px,rfl⟩
    ·rintro c st' ⟨⟨e,hn1,hn2'⟩,z⟩;exact⟨⟨e,hn1,by omega⟩,z⟩
    ·rintro⟨r,n3⟩ st' ⟨⟨e,hn1,hn2'⟩,xs,px,rfl⟩;dsimp only at e hn1 hn2'⊢;subst e;exact kD (h n3 xs hn1 hn2' px)
   ·rw[if_neg qq];refine kF (uN ?_);refine kF (uu (uD (I:=fun x(c:Option (Option Nat)×Nat) st'=>(c.1=none/\1<=c.2/\c.2<=x)/\∃xs,xs.Perm a₀/\st'=Ub st xs) (Q:=fun c st'=>(c.1=none/\1<=c.2/\c.2<=nrem)/\∃xs,xs.Perm a₀/\st'=Ub st xs) ?_ ?_ ⟨⟨rfl,(by show 1<=n2;omega),kG _⟩,_,(UN _ _ _ _).trans px2,rfl⟩) ?_)
    ·rintro x ⟨r,n3⟩ st' hx1 hx ⟨⟨e,hn1,hn2'⟩,xs,px,rfl⟩;dsimp only at e hn1 hn2'⊢;refine kF (zdg hq px (by omega) (by omega) hκ fun b=>?_)
     cases b with
     |true=>exact kD ⟨⟨rfl,hn1,(by show n3<=nrem;omega)⟩,_,px,rfl⟩
     |false=>exact kD ⟨⟨rfl,(by show 1<=n3+1;omega),(by show n3+1<=x+1;omega)⟩,_,px,rfl⟩
    ·rintro c st' ⟨⟨e,hn1,hn2'⟩,z⟩;exact⟨⟨e,hn1,by omega⟩,z⟩
    ·rintro⟨r,n3⟩ st' ⟨⟨e,hn1,hn2'⟩,xs,px,rfl⟩;dsimp only at e hn1 hn2'⊢;subst e;exact kD (h n3 xs hn1 hn2' px)
theorem bin_at(hq:QL prog w A E s κ a₀){lo n ok:Nat}{st:ud}{Q:Bool->ud->Prop}(hp:(arrOf st).Perm a₀)(hz:lo+n<=a₀.size)(hκ:kindOf st=κ)
  (h:∀xs,xs.Perm a₀->Q true (Ub st xs)):wpS (model prog w) A E s (binarySort' lo n ok) Q st:=by
 refine kF (uu (uD (I:=fun x(c:Option Bool×Unit) st'=>c.1=none/\∃xs,xs.Perm a₀/\st'=Ub st xs) (Q:=fun c st'=>c.1=none/\∃xs,xs.Perm a₀/\st'=Ub st xs) ?_ (fun _ _ z=>z) ⟨rfl,_,hp,rfl⟩) ?_)
 ·rintro x ⟨r,u⟩ st' hx1 hx ⟨e,xs,px,rfl⟩;dsimp only at e⊢;refine kF (uu (uD (I:=fun y(c:Option Bool×Nat×Nat) st'=>c.1=none/\c.2.2<=x/\st'=Ub st xs) (Q:=fun c st'=>c.1=none/\c.2.2<=x/\st'=Ub st xs) ?_ (fun _ _ z=>z) ⟨rfl,kG _,rfl⟩) ?_)
  ·rintro y ⟨r1,l,r⟩ st' _ _ ⟨e1,hr,rfl⟩;dsimp only at e1 hr⊢
   by_cases c:l≥r
   ·rw[if_pos c];exact kD ⟨rfl,hr,rfl⟩
   ·rw[if_neg c];refine kF (zdg hq px (by omega) (by omega) hκ fun b=>?_)
    cases b with
    |true=>exact kD ⟨rfl,(by show(l+r)/2<=x;omega),rfl⟩
    |false=>exact kD ⟨rfl,hr,rfl⟩
  ·rintro⟨r1,l,r⟩ st' ⟨e1,hr,rfl⟩;dsimp only at e1 hr⊢;subst e1;exact kF (uN (kD ⟨rfl,_,(Cj _ _ _).trans px,rfl⟩))
 ·rintro⟨r,u⟩ st' ⟨e,xs,px,rfl⟩;dsimp only at e⊢;subst e;exact kD (h xs px)
end
section
variable{prog:pA}{w:pR}{A:pj}{E:kB->kC->Prop}{s:kC}{a₀:Array uI}{κ:UO}
theorem zoi(sa:Nat):∀(l:List uI)(k:Nat)(a:Array uI),sa+k+l.length<=a.size->((l.zipIdx k).foldl (fun a(x:uI×Nat)=>match x with|(p,j)=>a.setIfInBounds (sa+j) p) a).toList=a.toList.take (sa+k)++l++a.toList.drop (sa+k+l.length)
 |[],k,a,_=>by simp
 |p::l,k,a,h=>by
  rw[List.zipIdx_cons,List.foldl_cons];have hk:sa+k<a.toList.length:=by simp only[pJ] at h;rw[Ud];omega
  have:=zoi sa l (k+1) (a.setIfInBounds (sa+k) p) (by rw[Array.size_setIfInBounds];simp only[pJ] at h;omega)
  rw[this,Array.toList_setIfInBounds];have e1:(a.toList.set (sa+k) p).take (sa+(k+1))=a.toList.take (sa+k)++[p]:=by
   rw[show sa+(k+1)=sa+k+1 by omega,kq,List.take_set_of_le (kG _),vw hk]
   rfl
  have e2:(a.toList.set (sa+k) p).drop (sa+(k+1)+l.length)=a.toList.drop (sa+k+(p::l).length):=by
   rw[List.drop_set_of_lt (by omega),pJ]
   congr 1
   omega
  rw[e1,e2]
  simp[pC]
theorem zh4{a m:Array uI}{sa sb nb:Nat}(h1:sa<=sb)(h2:sb+nb<=a.size)(hm:m.toList.Perm ((a.extract sa sb).toList++(a.extract sb (sb+nb)).toList)):
  (m.toList.zipIdx.foldl (fun a(x:uI×Nat)=>match x with|(p,j)=>a.setIfInBounds (sa+j) p) a).Perm a:=by
 have lm:m.toList.length=sb+nb-sa:=by
  rw[hm.length_eq,kJ,zd8,zd8,pI,pI,pT,pT,Ud];omega
 apply Array.perm_iff_toList_perm.mpr
 rw[zoi sa m.toList 0 a (by omega),CF]
 have e:a.toList=a.toList.take sa++((a.toList.drop sa).take (sb-sa)++(a.toList.drop sb).take nb)++a.toList.drop (sa+m.toList.length):=by
  rw[lm,show sa+(sb+nb-sa)=sb+nb by omega]
  have x1:(a.toList.drop sb).take nb++a.toList.drop (sb+nb)=a.toList.drop sb:=by rw[←vG,uO]
  have x2:(a.toList.drop sa).take (sb-sa)++a.toList.drop sb=a.toList.drop sa:=by
   have:a.toList.drop sb=(a.toList.drop sa).drop (sb-sa):=by rw[vG,show sa+(sb-sa)=sb by omega]
   rw[this,uO]
  rw[pC,pC,x1,x2,uO]
 rw[zd8,zo6] at hm;refine jq ((pg _ hm).append_right _) ?_;rw[←e]
theorem zig{a:Array uI}{i j:Nat}{x:uI}(h:x∈a.extract i j):x∈a:=by
 have:x∈(a.extract i j).toList:=BQ.mpr h;rw[zd8] at this;exact Array.mem_toList_iff.mp (List.mem_of_mem_drop (BR this))
theorem wpS_set{st st':ud}{Q:PUnit->ud->Prop}(h:Q ⟨⟩ st'):wpS (model prog w) A E s (set st':StateT ud Sem PUnit) Q st:=by
 unfold wpS;rw[StateT.run_set];exact kL ⟨rfl,h⟩
abbrev pSt(st:ud)(xs:Array uI)(p:Array (Nat×Nat×Nat))(g:Nat):ud:=Ak (kindOf st) xs p g (vZ st)
theorem znj(hq:QL prog w A E s κ a₀){i sa na p1 nb p2:Nat}{st:ud}{Q:Bool->ud->Prop}(hp:(arrOf st).Perm a₀)(hκ:kindOf st=κ)(hf:vZ st=none)(e1:(pz st)[i]?=some (sa,na,p1))(e2:(pz st)[i+1]?=some (sa+na,nb,p2))(n1:0<na)(n2:0<nb)(hz:sa+na+nb<=a₀.size)
  (h:∀xs g,xs.Perm a₀->Q true (pSt st xs (((pz st).setIfInBounds i (sa,na+nb,p1)).eraseIdxIfInBounds (i+1)) g)):wpS (model prog w) A E s (mergeAt' i) Q st:=by
 have sz:(arrOf st).size=a₀.size:=hp.size_eq;have mem:∀x,x∈arrOf st->x∈a₀:=fun x hx=>hp.mem_iff.mp hx;refine kF (vj ?_);show wpS _ _ _ _ (match((pz st)[i]?,(pz st)[i+1]?) with|_=>_) _ _
 rw[e1,e2];dsimp only;refine kF (wpS_set ?_);refine kF (zas (show sa+na<(arrOf st).size by omega) ?_)
 refine kF (zb5 hq (mem _ (uz _)) mem (by show sa+na<=(arrOf st).size;omega) n1 hκ fun k hk=>?_)
 dsimp only
 by_cases c1:(na-k==0)=true
 ·rw[if_pos c1];exact kD (h _ _ hp)
 rw[if_neg c1];have c1':na-k≠0:=fun z=>c1 (by rw[z];rfl)
 refine kF (zas (show sa+k+(na-k)-1<(arrOf st).size by omega) ?_)
 refine kF (zb5 hq (mem _ (uz _)) mem (by show sa+na+nb<=(arrOf st).size;omega) (by omega) hκ fun m hm=>?_)
 dsimp only
 by_cases c2:(m==0)=true
 ·rw[if_pos c2];exact kD (h _ _ hp)
 rw[if_neg c2];have c2':m≠0:=fun z=>c2 (by rw[z];rfl)
 have s1:0<((arrOf st).extract (sa+k) (sa+na)).size:=by rw[Bn];omega
 have s2:0<((arrOf st).extract (sa+na) (sa+na+m)).size:=by rw[Bn];omega
 by_cases c3:na-k<=m
 ·rw[if_pos c3];refine kF (lo_at hq (fun x hx=>mem x (zig hx)) (fun x hx=>mem x (zig hx)) s1 s2 hκ fun r g hr=>?_);refine kF (uN (kF (vj (kD ?_))));show Q (vZ st).isNone _;rw[hf];exact h _ g ((zh4 (by omega) (show sa+na+m<=(arrOf st).size by omega) hr).trans hp)
 ·rw[if_neg c3];refine kF (hi_at hq (fun x hx=>mem x (zig hx)) (fun x hx=>mem x (zig hx)) s1 s2 hκ fun r g hr=>?_);refine kF (uN (kF (vj (kD ?_))));show Q (vZ st).isNone _;rw[hf];exact h _ g ((zh4 (by omega) (show sa+na+m<=(arrOf st).size by omega) hr).trans hp)
end
def Cov:List (Nat×Nat×Nat)->Nat->Nat->Prop
 |[],b,e=>b=e
 |(a,n,_)::r,b,e=>a=b/\0<n/\Cov r (b+n) e
theorem Cov.le:∀{l:List (Nat×Nat×Nat)}{b e:Nat},Cov l b e->b<=e
 |[],b,e,h=>QZ h
 |(a,n,_)::r,b,e,h=>pL (Nat.le_add_right _ _) (Cov.le h.2.2)
theorem Cov.push:∀{l:List (Nat×Nat×Nat)}{b e n p:Nat},Cov l b e->0<n->Cov (l++[(e,n,p)]) b (e+n)
 |[],b,e,n,p,h,hn=>by
  have h:b=e:=h;subst h;exact⟨rfl,hn,rfl⟩
 |(a,m,q)::r,b,e,n,p,h,hn=>⟨h.1,h.2.1,Cov.push h.2.2 hn⟩
theorem Cov.at:∀{l:List (Nat×Nat×Nat)}{b e i a n p a' n' p':Nat},Cov l b e->l[i]?=some (a,n,p)->l[i+1]?=some (a',n',p')->a'=a+n/\0<n/\0<n'/\a+n+n'<=e/\Cov ((l.set i (a,n+n',p)).eraseIdx (i+1)) b e
 |(x,m,q)::(x',m',q')::r,b,e,0,a,n,p,a',n',p',h,e1,e2=>by
  cases e1;cases e2;obtain⟨h1,h2,h3,h4,h5⟩:=h;have:=Cov.le h5;refine⟨by omega,h2,h4,by omega,h1,by omega,?_⟩
  rw[←UZ];exact h5
 |(x,m,q)::r,b,e,i+1,a,n,p,a',n',p',h,e1,e2=>by
  obtain⟨h1,h2,h3⟩:=h;obtain⟨g1,g2,g3,g4,g5⟩:=Cov.at h3 (by simpa using e1) (by simpa using e2)
  exact⟨g1,g2,g3,g4,h1,h2,g5⟩
 |[],b,e,i,a,n,p,a',n',p',h,e1,e2=>by cases i<;>cases e1
 |[_],b,e,0,a,n,p,a',n',p',h,e1,e2=>by simp at e2
theorem Cov.power(w:Nat):∀{l:List (Nat×Nat×Nat)}{b e i:Nat},Cov l b e->Cov (l.modify i fun x=>(x.1,x.2.1,w)) b e
 |[],b,e,i,h=>by cases i<;>exact h
 |(x,m,q)::r,b,e,0,h=>h
 |(x,m,q)::r,b,e,i+1,h=>⟨h.1,h.2.1,Cov.power w h.2.2⟩
section
variable{prog:pA}{w:pR}{A:pj}{E:kB->kC->Prop}{s:kC}{a₀:Array uI}{κ:UO}
def SIv(a₀:Array uI)(κ:UO)(lo:Nat)(st:ud):Prop:=(arrOf st).Perm a₀/\kindOf st=κ/\vZ st=none/\Cov (pz st).toList 0 lo/\lo<=a₀.size
theorem zih(hq:QL prog w A E s κ a₀){i lo:Nat}{st:ud}{Q:Bool->ud->Prop}(iv:SIv a₀ κ lo st)(hi:i+1<(pz st).size)(h:∀st',SIv a₀ κ lo st'->Q true st'):wpS (model prog w) A E s (mergeAt' i) Q st:=by
 obtain⟨h1,h2,h3,h4,h5⟩:=iv;have e1:(pz st)[i]?=some (pz st)[i]:=uc (by omega)
 have e2:(pz st)[i+1]?=some (pz st)[i+1]:=uc hi;generalize (pz st)[i]=u1 at e1;generalize (pz st)[i+1]=u2 at e2;obtain⟨sa,na,p1⟩:=u1;obtain⟨sb,nb,p2⟩:=u2;obtain⟨g1,g2,g3,g4,g5⟩:=h4.at (i:=i) (by rw[UH];exact e1) (by rw[UH];exact e2)
 subst g1;refine znj hq h1 h2 h3 e1 e2 g2 g3 (by omega) fun xs g px=>h _ ⟨px,h2,h3,?_,h5⟩
 show Cov (((pz st).setIfInBounds i (sa,na+nb,p1)).eraseIdxIfInBounds (i+1)).toList 0 lo
 have:(((pz st).setIfInBounds i (sa,na+nb,p1)).eraseIdxIfInBounds (i+1)).toList=((pz st).toList.set i (sa,na+nb,p1)).eraseIdx (i+1):=by simp
 rw[this];exact g5
theorem ite_lt{c:Prop}[Decidable c]{x y z:Nat}(h1:x+1<z)(h2:y+1<z):(if c then x else y)+1<z:=by
 by_cases h:c
 ·rw[if_pos h];exact h1
 ·rw[if_neg h];exact h2
theorem zim{lo n:Nat}{st:ud}(iv:SIv a₀ κ lo st)(hn:0<n)(hz:lo+n<=a₀.size):SIv a₀ κ (lo+n) (setPending st ((pz st).push (lo,n,0))):=by
 obtain⟨h1,h2,h3,h4,h5⟩:=iv;refine⟨h1,h2,h3,?_,hz⟩;show Cov ((pz st).push (lo,n,0)).toList 0 (lo+n);rw[CD];exact h4.push hn
theorem zlm{lo j w:Nat}{st:ud}(iv:SIv a₀ κ lo st):SIv a₀ κ lo (setPending st ((pz st).modify j fun x=>(x.1,x.2.1,w))):=by
 obtain⟨h1,h2,h3,h4,h5⟩:=iv;refine⟨h1,h2,h3,?_,h5⟩;show Cov ((pz st).modify j fun x=>(x.1,x.2.1,w)).toList 0 lo;rw[Array.toList_modify];exact h4.power w
theorem runs_at(hq:QL prog w A E s κ a₀){st:ud}{Q:Unit->ud->Prop}(iv:SIv a₀ κ 0 st)(h:∀st',(arrOf st').Perm a₀->vZ st'=none->Q () st'):wpS (model prog w) A E s sortRuns' Q st:=by
 have sz:(arrOf st).size=a₀.size:=iv.1.size_eq;rw[sortRuns'_eq];refine kF (vj ?_);dsimp only;rw[sz];refine kF (uu (uD (I:=fun x(c:Option Unit×Nat) st'=>c.1=none/\SIv a₀ κ c.2 st') (Q:=fun c st'=>c.1=none/\SIv a₀ κ c.2 st') ?_ (fun _ _ z=>z) ⟨rfl,iv⟩) ?_)
 ·rintro x ⟨r,lo⟩ st' _ hx ⟨e,iv⟩;dsimp only at e iv⊢
  by_cases c1:lo≥a₀.size
  ·rw[if_pos c1];exact kD ⟨rfl,iv⟩
  rw[if_neg c1];refine kF (count_at hq iv.1 (by omega) (by omega) iv.2.1 fun m xs hm1 hm2 px=>?_)
  dsimp only;have iv1:SIv a₀ κ lo (Ub st' xs):=⟨px,iv.2.1,iv.2.2.1,iv.2.2.2.1,iv.2.2.2.2⟩
  by_cases c2:m<minRun' a₀.size a₀.size 0
  ·rw[if_pos c2];generalize minRun' a₀.size a₀.size 0=mr at*;refine kF (gK (Qm ⟨rfl,?_⟩));refine kF (bin_at hq px (by omega) iv.2.1 fun ys py=>?_)
   rw[if_neg (by simp)]
   have iv2:SIv a₀ κ lo (Ub st' ys):=⟨py,iv.2.1,iv.2.2.1,iv.2.2.2.1,iv.2.2.2.2⟩;refine kF (vj ?_)
   cases eb:(pz (Ub st' ys)).back? with
   |none=>
    dsimp only;exact kF (uN (kD ⟨rfl,zim iv2 (by omega) (by omega)⟩))
   |some q=>
    obtain⟨s1,n1,p1⟩:=q;dsimp only;refine kF (uu (uD (I:=fun _(c:Option Unit×Unit) st2=>c.1=none/\SIv a₀ κ lo st2) (Q:=fun c st2=>c.1=none/\SIv a₀ κ lo st2) ?_ (fun _ _ z=>z) ⟨rfl,iv2⟩) ?_)
    ·rintro y ⟨r2,u⟩ st2 _ _ ⟨e2,iv2⟩;dsimp only at e2 iv2⊢;refine kF (vj ?_)
     by_cases c2:(pz st2).size>1
     ·rw[if_pos c2,uc (show(pz st2).size-2<(pz st2).size by omega)]
      generalize (pz st2)[(pz st2).size-2]=q3;obtain⟨q31,q32,q33⟩:=q3;dsimp only
      split
      ·exact kD ⟨rfl,iv2⟩
      ·exact kF (zih hq iv2 (by omega) fun st3 iv3=>kD ⟨rfl,iv3⟩)
     ·rw[if_neg c2];exact kD ⟨rfl,iv2⟩
    ·rintro⟨r2,u⟩ st2 ⟨e2,iv2⟩;dsimp only at e2 iv2⊢;subst e2;exact kF (uN (kF (uN (kD ⟨rfl,zim (zlm iv2) (by omega) (by omega)⟩))))
  ·rw[if_neg c2];refine kF (vj ?_)
   cases eb:(pz (Ub st' xs)).back? with
   |none=>
    dsimp only;exact kF (uN (kD ⟨rfl,zim iv1 (by omega) (by omega)⟩))
   |some q=>
    obtain⟨s1,n1,p1⟩:=q;dsimp only;refine kF (uu (uD (I:=fun _(c:Option Unit×Unit) st2=>c.1=none/\SIv a₀ κ lo st2) (Q:=fun c st2=>c.1=none/\SIv a₀ κ lo st2) ?_ (fun _ _ z=>z) ⟨rfl,iv1⟩) ?_)
    ·rintro y ⟨r2,u⟩ st2 _ _ ⟨e2,iv2⟩;dsimp only at e2 iv2⊢;refine kF (vj ?_)
     by_cases c2:(pz st2).size>1
     ·rw[if_pos c2,uc (show(pz st2).size-2<(pz st2).size by omega)]
      generalize (pz st2)[(pz st2).size-2]=q3;obtain⟨q31,q32,q33⟩:=q3;dsimp only
      split
      ·exact kD ⟨rfl,iv2⟩
      ·exact kF (zih hq iv2 (by omega) fun st3 iv3=>kD ⟨rfl,iv3⟩)
     ·rw[if_neg c2];exact kD ⟨rfl,iv2⟩
    ·rintro⟨r2,u⟩ st2 ⟨e2,iv2⟩;dsimp only at e2 iv2⊢;subst e2;exact kF (uN (kF (uN (kD ⟨rfl,zim (zlm iv2) (by omega) (by omega)⟩))))
 ·rintro⟨r,lo⟩ st' ⟨e,iv⟩;dsimp only at e iv⊢;subst e;dsimp only;refine kF (uu (uD (I:=fun _(c:Option Unit×Unit) st2=>c.1=none/\SIv a₀ κ lo st2) (Q:=fun c st2=>c.1=none/\SIv a₀ κ lo st2) ?_ (fun _ _ z=>z) ⟨rfl,iv⟩) ?_)
  ·rintro y ⟨r2,u⟩ st2 _ _ ⟨e2,iv2⟩;dsimp only at e2 iv2⊢;refine kF (vj ?_)
   by_cases c2:(pz st2).size<=1
   ·rw[if_pos c2];exact kD ⟨rfl,iv2⟩
   ·rw[if_neg c2];exact kF (zih hq iv2 (ite_lt (by omega) (by omega)) fun st3 iv3=>kD ⟨rfl,iv3⟩)
  ·rintro⟨r2,u⟩ st2 ⟨e2,iv2⟩;dsimp only at e2 iv2⊢;subst e2;exact kD (h st2 iv2.1 iv2.2.2.1)
end
section
variable{prog:pA}{w:pR}{A:pj}{E:kB->kC->Prop}{s:kC}{vs:List kB}{κ:UO}{g:Heap}
theorem zom{x:uI}(h:x∈vs.toArray.zip vs.toArray):x.1∈vs:=by
 have h:x∈(vs.toArray.zip vs.toArray).toList:=BQ.mpr h;rw[Cb] at h;exact(jm h).1
theorem ql_of(hc:∀x y,x∈vs->y∈vs->∀C,(∀b,C b s)->wpAny (model prog w) A (DW κ x y) C (fun _ _=>False) s):QL prog w A E s κ (vs.toArray.zip vs.toArray):=by
 intro x y st Q hx hy hκ h;rw[lt'_eq];refine kF (vj ?_);rw[hκ];refine kF (gK (gz (uv (hc _ _ (zom hx) (zom hy) (fun b s'=>s'=s) fun b=>rfl) (fun b s' e=>?_) fun _ _ z=>z.elim)));subst e;exact⟨rfl,kD (h b)⟩
theorem sortP_at{a:Addr}{n:Nat}{P:vn->kC->Prop}(hg:Keeps g s.heap)(ga:g.objs.size<=a)(ho:s.heap.get? a=some (pP "list" vs.toArray n))(zl:vs.length<=sizeLine)
  (hk:2<=vs.length->∀h',Keeps g h'->∀Q',Q' κ {s with heap:=h'}->wpAny (model prog w) A (BI vs.toArray) Q' (fun _ _=>False) {s with heap:=h'})
  (hc:2<=vs.length->∀h',Keeps g h'->∀x y,x∈vs->y∈vs->∀C,(∀b,C b {s with heap:=h'})->wpAny (model prog w) A (DW κ x y) C (fun _ _=>False) {s with heap:=h'})
  (q:∀(ys:List kB) h' c,Keeps g h'->ys.Perm vs->h'.get? a=some (pP "list" ys.toArray c)->P (.done (.ret .none)) {s with heap:=h'}):
  wpAny (model prog w) A (jD.«list.sort» ⟨[.ref a],[]⟩) P E s:=by
 have z0:vs.toArray.size=vs.length:=rfl;have k1:Keeps g (s.heap.update a (pQ fun _=>(#[]:Array kB))):=hg.upd ga;obtain⟨e1,o1⟩:∃e1,(s.heap.update a (pQ fun _=>(#[]:Array kB))).get? a=some (pP "list" #[] e1):=⟨_,vf ho _⟩;have k3:=(k1.push (pP "tuple" vs.toArray 0)).push (pP "list" #[] 0);have o3:=kT (pP "list" #[] 0) (kT (pP "tuple" vs.toArray 0) o1);have snds:((vs.toArray.zip vs.toArray).map (·.2)).toList=vs:=by
  rw[AQ,Cb];exact CS (kG _)
 have fin:∀(st:ud),(arrOf st).Perm (vs.toArray.zip vs.toArray)->
   P (.done (.ret .none)) {s with heap:=(((s.heap.update a (pQ fun _=>(#[]:Array kB))).push (pP "tuple" vs.toArray 0)).push (pP "list" #[] 0)).update a (pQ fun _=>(arrOf st).map (·.2))}:=fun st hp=>by
  have e:(((arrOf st).map (·.2)).toList).toArray=(arrOf st).map (·.2):=Array.toArray_toList;obtain⟨c,hc'⟩:∃c,((((s.heap.update a (pQ fun _=>(#[]:Array kB))).push (pP "tuple" vs.toArray 0)).push (pP "list" #[] 0)).update a (pQ fun _=>(arrOf st).map (·.2))).get? a=some (pP "list" ((arrOf st).map (·.2)) c):=⟨_,vf o3 fun _=>(arrOf st).map (·.2)⟩;refine q ((arrOf st).map (·.2)).toList _ c (k3.upd ga) ?_ ?_
  ·have:=(hX.mp hp).map (·.2);rw[←AQ,←AQ,snds] at this;exact this
  ·rw[e];exact hc'
 rw[list_sort_plain];refine kA (QM ho rfl (kA (Ut ho rfl (kA (gc o1 rfl (kA (wpAny_newTuple (kA (jd (QD ?_) (pY _))) zl)))) zl (pY _))));dsimp only;have szl:∀st:ud,(arrOf st).Perm (vs.toArray.zip vs.toArray)->((arrOf st).map (·.2)).size<=sizeLine+1:=fun st hp=>by
  rw[Array.size_map,hp.size_eq,Array.size_zip];simp only[pE];omega
 by_cases h2:vs.length<2
 ·rw[z0,if_pos h2,if_pos h2,DT];rw[Ct];refine kA (kL (kA (gc o3 rfl (kA (Ut o3 rfl ?_ (pY _) (szl (Ak general' (vs.toArray.zip vs.toArray) #[] 7 none) (As _)))))));simp only[show vZ (Ak general' (vs.toArray.zip vs.toArray) #[] 7 none)=none from rfl,bne_self_eq_false,pF,if_false];exact kL (fin _ (As _))
 ·have h2':2<=vs.length:=by omega
  rw[z0,if_neg h2,if_neg h2];refine kA (hk h2' _ k3 _ ?_|>fun x=>uv x (fun _ _ y=>y) fun _ _ z=>z.elim);have run:=runs_at (E:=E) (ql_of (hc h2' _ k3)) (st:=Ak κ (vs.toArray.zip vs.toArray) #[] 7 none) (Q:=fun _ st'=>(arrOf st').Perm (vs.toArray.zip vs.toArray)/\vZ st'=none) ⟨As _,rfl,rfl,rfl,pY _⟩ fun st' x y=>⟨x,y⟩;refine kA (uv run ?_ fun _ _ e=>e);rintro⟨⟨⟩,st⟩ s' ⟨rfl,hp,hf⟩;dsimp only at hp hf⊢;refine kA (gc o3 rfl (kA (Ut o3 rfl ?_ (pY _) (szl st hp))));rw[hf];simp only[bne_self_eq_false,pF,if_false];exact kL (fin st hp)
theorem zno{l:Addr}{Q:kB->kC->Prop}(hl:s.heap.IsList l vs.toArray)(zl:vs.length<=sizeLine)
  (hk:2<=vs.length->∀h',Keeps s.heap h'->∀Q',Q' κ {s with heap:=h'}->wpAny (model prog w) A.in1.in1 (BI vs.toArray) Q' (fun _ _=>False) {s with heap:=h'})
  (hc:2<=vs.length->∀h',Keeps s.heap h'->∀x y,x∈vs->y∈vs->∀C,(∀b,C b {s with heap:=h'})->wpAny (model prog w) A.in1.in1 (DW κ x y) C (fun _ _=>False) {s with heap:=h'})
  (q:∀(ys:List kB) h' c,Keeps s.heap h'->ys.Perm vs->h'.get? (s.heap.objs.size+1)=some (pP "list" ys.toArray c)->Q (.ref (s.heap.objs.size+1)) {s with heap:=h'}):
  wpAny (model prog w) A (call (.builtin "sorted") [.ref l]) Q E s:=by
 have k0:Keeps s.heap s.heap:=fun _ _ e=>e;have k2:=((k0.push (pP "list" #[] 0)).upd (a:=s.heap.objs.size) (f:=pQ (·++vs.toArray)) (kG _)).push (pP "list" vs.toArray 0);have z2:((s.heap.push (pP "list" #[] 0)).update s.heap.objs.size (pQ (·++vs.toArray))).objs.size=s.heap.objs.size+1:=by
  rw[CT,size_push']
 have o2:(((s.heap.push (pP "list" #[] 0)).update s.heap.objs.size (pQ (·++vs.toArray))).push (pP "list" vs.toArray 0)).get? (s.heap.objs.size+1)=some (pP "list" vs.toArray 0):=
  z2▸pM _ rfl
 refine Calls.call_function_entry kind_sorted plain_sorted entry_sorted (args_sorted1 _) ?_;unfold jD.«sorted»;refine kA (m:=checkCount _ _ _ _) (kL (kA (collect_list hl (kA (jd ?_ zl)) zl)));rw[show(({s with heap:=(s.heap.push (pP "list" #[] 0)).update s.heap.objs.size (pQ (·++vs.toArray))}:kC).heap.objs.size)=s.heap.objs.size+1 from z2];refine kA (QD (Ug slot_list_sort ⟨_,o2,rfl⟩ Cv (sortP_at (s:={s with heap:=_}) (κ:=κ) k2 (jg _) o2 zl hk hc fun ys h' c b1 b2 b3=>⟨_,rfl,?_⟩) (args_list_sort _)));exact kL ⟨_,rfl,q ys h' c b1 b2 b3⟩
end
theorem zqs{ws us:List kB}(h:ws.Perm us):∀{vs:List V},Vals vs us->∃ys:List V,ys.Perm vs/\Vals ys ws:=by
 induction h with
 |nil=>exact fun{vs} t=>⟨vs,.refl _,t⟩
 |cons v _ ih=>
  intro vs t
  cases t with
  |@cons x _ xs _ r t=>
   obtain⟨ys,p,q⟩:=ih t;exact⟨x::ys,p.cons x,.cons r q⟩
 |swap u v l=>
  intro vs t
  cases t with
  |@cons x _ xs _ r t=>
   cases t with
   |@cons y _ zs _ r2 t=>exact⟨y::x::zs,.swap x y zs,.cons r2 (.cons r t)⟩
 |trans _ _ i1 i2=>
  intro vs t;obtain⟨ys,p,q⟩:=i2 t;obtain⟨zs,p',q'⟩:=i1 q;exact⟨zs,p'.trans p,q'⟩
def F22(H:Hp)(v:V):Prop:=∃(p a b:Addr)(x1 y1 x2 y2:Int),v=.ref p/\H p=some (.tup [.ref a,.ref b])/\H a=some (.tup [.int x1,.int y1])/\H b=some (.tup [.int x2,.int y2])
def rSortN:List V->Hp->VK->Prop:=fun xs H Q=>∃l vs,xs=[.ref l]/\H l=some (.lst vs)/\(∀v,v∈vs->F22 H v)/\∀D ys,H D=none->ys.Perm vs->Q (.ref D) (upd H D (.lst ys))
section
variable{X:Cx}{pins:List (Addr×Obj)}{σ:St}{H:Hp}{s:kC}
theorem tup22_of(I:Inv X pins σ H s){v:V}{u:kB}(h:F22 H v)(r:RelV v u):∃d:List Int×List Int,TupP s.heap u d.1 d.2/\d.1.length=2/\d.2.length=2:=by
 obtain⟨p,a,b,x1,y1,x2,y2,rfl,hp,ha,hb⟩:=h
 cases r;have ta:=zkn I (ns:=[x1,y1]) ha;have tb:=zkn I (ns:=[x2,y2]) hb;obtain⟨its,r,⟨⟨cls,dd,data,sl⟩,ho,hc,n,hd⟩,_⟩:=I.tuple (.of hp)
 simp only at hc hd
 subst hc hd;obtain⟨u1,u2,rfl,r1,r2⟩:=vals2 r
 cases r1
 cases r2;exact⟨([x1,y1],[x2,y2]),⟨p,_,_,n,dd,sl,rfl,ho,ta,tb⟩,rfl,rfl⟩
theorem zmw(hu:X.A.units+100<cLine):zf3 X (.builtin "sorted") rSortN:=by
 intro pins s σ H xs us Q I r h;obtain⟨l,vs,rfl,hl,hf,q⟩:=h;obtain⟨u,rfl,ru⟩:=vals1 r
 cases ru;obtain⟨its,rv,pl,hz⟩:=I.list (.of hl);have len:vs.length=its.length:=rv.length;have each:∀u,u∈its->∃d:List Int×List Int,TupP s.heap u d.1 d.2/\d.1.length=2/\d.2.length=2:=fun u hu'=>by
  obtain⟨i,hi,e⟩:=QV.mp hu';have hv:vs[i]'(by omega)∈vs:=Qn _
  obtain⟨v,hv1,hv2⟩:=vals_get? rv (List.getElem?_eq_some_iff.mpr ⟨hi,e⟩);exact tup22_of I (hf v (kz hv1)) hv2
 refine zno (κ:=tuples' false) pl.isList (by omega) (fun h2 h' k Q' q'=>?_) (fun h2 h' k x y hx hy C c=>?_) fun ws h' c k pm ho=>?_
 ·refine znn (by omega) (fun v hv=>?_) q'
  obtain⟨d,t1,t2,t3⟩:=each v hv;have ne:d.1≠[]:=fun z=>by rw[z] at t2;cases t2
  exact⟨_,_,ne,t1.keeps k⟩
 ·obtain⟨d,t1,t2,t3⟩:=each x hx;obtain⟨e,u1,u2,u3⟩:=each y hy;exact lt_tupP (t1.keeps k) (u1.keeps k) (t2.trans u2.symm) (t3.trans u3.symm) (by show X.A.units+1+1+64<_;omega) (c _)
 ·obtain⟨ys,py,vy⟩:=zqs pm rv;refine⟨.ref _,upd H (s.heap.objs.size+1) (.lst ys),I.laid (t':=s.toks) k (jg _) ⟨?_,_,c,vy,ho⟩,rfl,q _ _ (I.hok.fresh (jg _)) py⟩;rw[py.length_eq];exact hz
end
open PySem.W (kas_sort kas_ask)
open PySem.W (KasT kas_asc kas_desc kas_rev kas_tail3 kas_descPart kas_count kas_place kas_bin kas_sort)
open PySem.W (kla_fn kla_obj envX tabObj CodeHd)
open PySem.W (kla_fn kla_obj envX tabObj CodeHd KasT kas_sort kas_ask)
open PySem.W (kla_fn kla_obj envX tabObj CodeHd KasT kas_sort kas_ask kas_item)
open PySem.W (kla_fn kla_obj envX tabObj CodeHd KasT kas_sort kas_ask kas_item)
section
variable{prog:pA}{w:pR}{A:pj}{E:kB->kC->Prop}{s:kC}{vs ks:List kB}{g:Heap}{a kS:Addr}{e e1:Nat}{f:kB}
open Classical in
noncomputable def kIdx(ks:List kB)(u:kB):Nat:=if h:∃i,i<ks.length/\ks[i]?=some u then Cd h else 0
end
open PySem.W (kla_fn kla_obj envX tabObj CodeHd KasT kas_sort kas_ask kas_item)
theorem zgj(x y:Int×Int)(xs ys:List (Int×Int)):ltL (x::xs) (y::ys)=if x=y then ltL xs ys else lt2 x y:=by rw[ltL,lex2]
theorem ltL_tr:∀(a b c:List (Int×Int)),ltL a b=true->ltL b c=true->ltL a c=true
 |[],[],[],_,h2=>h2
 |[],_::_,[],_,h2=>by rw[ltL] at h2;cases h2
 |[],_,_::_,_,_=>by rw[ltL];exact decide_eq_true (CG _)
 |_::_,[],_,h1,_=>by rw[ltL] at h1;cases h1
 |_::_,_::_,[],_,h2=>by rw[ltL] at h2;cases h2
 |x::xs,y::ys,z::zs,h1,h2=>by
  rw[zgj] at*
  by_cases e1:x=y
  ·rw[if_pos e1] at h1
   by_cases e2:y=z
   ·rw[if_pos e2] at h2;rw[if_pos (e1.trans e2)];exact ltL_tr xs ys zs h1 h2
   ·rw[if_neg e2] at h2;rw[e1,if_neg e2];exact h2
  ·rw[if_neg e1] at h1
   by_cases e2:y=z
   ·rw[←e2,if_neg e1];exact h1
   ·rw[if_neg e2] at h2;have t:=sto2.tr _ _ _ h1 h2;rw[if_neg (fun e=>by rw[e,sto2.irr] at t;cases t)]
    exact t
theorem zpu:∀(a b:List (Int×Int)),a≠b->ltL a b=true∨ltL b a=true
 |[],[],n=>absurd rfl n
 |[],_::_,_=>.inl (by rw[ltL];exact decide_eq_true (CG _))
 |_::_,[],_=>.inr (by rw[ltL];exact decide_eq_true (CG _))
 |x::xs,y::ys,n=>by
  rw[zgj,zgj]
  by_cases e:x=y
  ·rw[if_pos e,if_pos e.symm];exact zpu xs ys fun z=>n (by rw[e,z])
  ·rw[if_neg e,if_neg (fun z=>e z.symm)];exact sto2.tot _ _ e
theorem zob:∀a:List (Int×Int),ltL a a=false
 |[]=>rfl
 |x::xs=>by rw[zgj,if_pos rfl];exact zob xs
open PySem.W (kas_sort kas_ask)
theorem pi_listK{X:Cx}{tg l:Expr}{tl:TE}{K':kM}(hK:X.K=K')(hl:PE X l tl):PI X tg l (zd1 K' tl):=by
 subst hK;exact zc8 hl
def tDisp1(tk tv:TE):TE:=fun σ H Q=>∀p,H p=none->tk σ (upd H p (.dT [])) fun x H1=>tv σ H1 fun y H2=>∃k b,x=.ref b/\H2 b=some (.tup (k.map kV))/\H2 p=some (.dT [])/\Q (.ref p) (upd H2 p (.dT (putK [] k y)))
theorem pe_disp1{X:Cx}{pos:Pos}{e f:Expr}{tk tv:TE}(hu:X.A.units+1<cLine)(hk:PE X e tk)(hv:PE X f tv):PE X (.Dict [some e] [f] pos) (tDisp1 tk tv):=by
 intro pins s σ H Q I q;have hn:=I.hok.fresh (kG s.heap.objs.size);have I1:=I.laid (a:=s.heap.objs.size) (o:=.dT []) (h':=s.heap.push {cls:=.type "dict",data:=.dict #[]}) (t':=s.toks) (fun _ _ q=>kT _ q) (kG _) (zmm s.heap I.big);rw[arm_eval_Dict,zip_pairTrees [some e] [f] X.env pos rfl rfl,dictDisplay_pairs (pairTrees [some e] [f] X.env pos) (by intro z;cases z) (by rw[Ce _ _ _ _ rfl rfl];show 1<17;decide)]
 refine kA (jc (kA ?_));unfold subDict;refine kA (wpAny_alloc ?_);refine kA (QD ?_);rw[if_pos (by rw[Ce _ _ _ _ rfl rfl];show 1<=15;decide)]
 refine kA (pairTrees_cons_walk (thn (hk pins _ σ _ _ I1 (q _ hn)) fun u s1⟨x,H1,I2,rx,q1⟩=>thn (hv pins s1 σ H1 _ I2 q1) fun w2 s2⟨y,H2,I3,ry,k,b,ex,hb,hp,q2⟩=>pairTrees_nil_walk ?_));subst ex
 cases(show u=pS b from rx);refine QD ?_;rw[Am];obtain⟨z,hd,xs,rel,dd⟩:=dt_of I3.hok hp;have hz:xs.length<=sizeLine:=by rw[←Us rel];exact z
 have hl:(putK ([]:List (List Key×V)) k y).length<=sizeLine:=by have:=zbn ([]:List (List Key×V)) k y;exact pL this (by decide)
 refine kA (kA (kA (m:=dictSet s.heap.objs.size (pS b) w2) (wpAny_dictSet_heap (hsz:=hz) (show X.A.units<cLine by omega) (zf5 I3.hok hb) dd fun h' dd' hs=>kL ?_)))
 show wpAny _ _ (forIn [] Dn _) _ _ _
 rw[DH];refine kL (kL (kL (kL ?_)));obtain⟨o,es,ep,ho,h2,h3,h4,_,h5⟩:=dd';refine⟨.ref s.heap.objs.size,upd H2 s.heap.objs.size (.dT (putK [] k y)),zg1 I3 (by rw[hp];exact vH) hs ⟨o,ho⟩ ⟨hl,hd,_,(rel.put k hb ry).keeps fun c ys ec=>?_,o,es,ep,ho,h2,h3,h4,h5⟩,rfl,q2⟩
 rw[za7 (zqj ec hp (fun z=>nomatch z))];exact ec
theorem zh9{α β:Type}(f:α->β):∀(l:List α)(i:Nat),(l.map f).eraseIdx i=(l.eraseIdx i).map f
 |[],_=>rfl
 |_::_,0=>rfl
 |x::l,i+1=>by
  show f x::(l.map f).eraseIdx i=f x::(l.eraseIdx i).map f
  rw[zh9 f l i]
section
variable{prog:pA}{w:pR}{K:Type}[DecidableEq K]{knd:HeapKind prog w K}{A:pj}{E:kB->kC->Prop}{s:kC}
theorem zj4{d a:Addr}{xs:List (K×Addr×kB)}{k:K}{p:Addr×kB}{j:Nat}{Q:Option AJ->kC->Prop}(hu:knd.room A)(hkey:knd.is s.heap k a)(hm:s.heap.DictOfH knd d xs)(hz:xs.length<=sizeLine)(hj:xs[j]?=some (k,p))
  (q:∀e h',e.val=p.2->h'.DictOfH knd d (xs.eraseIdx j)->UL d s.heap h'->Q (some e) {s with heap:=h',toks:=s.toks+knd.draws k}):
  wpAny (model prog w) A (BS d (.ref a)) Q E s:=by
 obtain⟨o,es,ep,ho,hc,hd,he,his,hn⟩:=hm;have hsz:es.size=xs.length:=Aq he;unfold BS;refine QD (kA (knd.pyHash hu hkey (kA (BZ (s:={s with toks:=s.toks+knd.draws k}) hu hkey ho hd he his hn (fun hno=>?_) fun i p' hi=>?_))))
 ·exact absurd hj (hno j p)
 ·have ij:i=j:=by
   have h1:=kH.mp hi;have h2:=kH.mp hj;have e:(xs.map (·.1))[i]?=(xs.map (·.1))[j]?:=by rw[pG,pG,hi,hj];rfl
   exact(List.getElem?_inj (by rw[kO];exact h1.1) hn).mp e
  subst ij;rw[hj] at hi
  cases hi;refine kA (UQ (s:={s with toks:=s.toks+knd.draws k}) ho hd ?_);rw[entry_at he i,hj];refine kA (BM (hz:=by omega) (s:={s with toks:=s.toks+knd.draws k}) ho hd (kL (q _ _ rfl ⟨_,_,ep+1,UI _ ho (Ba (vJ hd _)),hc.mapDictKeys _,vJ hd _,?_,?_,?_⟩ (Qi ..))))
  ·have hi:i<es.size:=by rw[hsz];exact(kH.mp hj).1
   rw[Array.eraseIdxIfInBounds,dif_pos hi,Array.toList_eraseIdx,he,zh9]
  ·intro x hx;exact knd.keeps (his x (List.mem_of_mem_eraseIdx hx)) ho hd (Qi ..)
  ·rw[←zh9];exact hn.sublist (List.eraseIdx_sublist _ _)
theorem znz{d a:Addr}:MeetsIn prog w (jD.«dict.pop» ⟨[.ref d,.ref a],[]⟩) (fun A R s=>knd.room A.in1/\∃k xs j p,knd.is s.heap k a/\s.heap.DictOfH knd d xs/\xs.length<=sizeLine/\xs[j]?=some (k,p)/\
  ∀h',h'.DictOfH knd d (xs.eraseIdx j)->UL d s.heap h'->R (.ok (.ret p.2)) {s with heap:=h',toks:=s.toks+knd.draws k}):=
 .of_wp fun A R s⟨hu,k,xs,j,p,hkey,hm,hz,hj,h⟩=>by
  unfold jD.«dict.pop» gC;refine kA (kA (jQ hm.typeIs ?_));show wpAny _ _ (pure (d,pS a,none)) _ _ s;refine kL ?_;obtain⟨o,es,ep,ho,hc,hd,he,his,hn⟩:=id hm;have hsz:es.size=xs.length:=Aq he;have ne:es.isEmpty=false:=by
   have:=(kH.mp hj).1;rw[Array.isEmpty];exact decide_eq_false (by omega)
  simp only[keyPart,Option.isSome_none,pF,if_false];refine kA (UQ ho hd (kA (kL ?_)));rw[ne];simp only[pF,if_false];refine kA (zj4 hu hkey hm hz hj fun e h' ev hm' hs'=>?_);simp only[Option.isNone_some,pF,if_false];exact kA (jh (kL ⟨e.val,rfl,by rw[ev];exact h h' hm' hs'⟩))
end
theorem Paired.split{α β:Type}{F:α->β->Prop}{x:α}{r:List α}:∀{l:List α}{ys:List β},vv F (l++x::r) ys->∃l' y r',ys=l'++y::r'/\l'.length=l.length/\vv F l l'/\F x y/\vv F r r'
 |[],_,.cons h t=>⟨[],_,_,rfl,rfl,.nil,h,t⟩
 |a::l,_,.cons h t=>by
  obtain⟨l',y,r',rfl,e,p1,p2,p3⟩:=Paired.split (l:=l) t;exact⟨_::l',y,r',rfl,by rw[pJ,e,pJ],.cons h p1,p2,p3⟩
theorem Paired.app{α β:Type}{F:α->β->Prop}{r:List α}{r':List β}(h:vv F r r'):∀{l:List α}{l':List β},vv F l l'->vv F (l++r) (l'++r')
 |_,_,.nil=>h
 |_,_,.cons a t=>.cons a (Paired.app h t)
theorem zqd{α:Type}(l:List α)(y:α)(r:List α):(l++y::r).eraseIdx l.length=l++r:=by
 rw[List.eraseIdx_append_of_length_le (kG _),vR];rfl
def zon(td ty:TE):TE:=fun σ H Q=>td σ H fun x H1=>∃a,x=.ref a/\IsD H1 a/\ty σ H1 fun y H2=>∃l r k v b,H2 a=some (.dT (l++(k,v)::r))/\y=.ref b/\H2 b=some (.tup (k.map kV))/\Q v (upd H2 a (.dT (l++r)))
section
variable{X:Cx}{o e:Expr}{apos cpos:Pos}{td ty:TE}
theorem pe_dpopT(hu:X.A.units+1<cLine)(ho:PE X o td)(he:PE X e ty)(m:M1 X o "pop" apos e cpos):PE X (.Call (.Attribute o "pop" apos) [e] [] cpos) (zon td ty):=by
 intro pins s σ H Q I h;refine ge m.base m.few m.line vo Az PySem.F.type_dict_pop (thn (ho pins s σ H _ I h) fun u s1⟨x,H1,I1,rx,a,ex,d,q1⟩=>?_);subst ex;obtain rfl:u=pS a:=rx;obtain⟨t1,t2,_⟩:=zoh I1 d;refine⟨t1,t2,?_⟩;rw[m.trees];refine Qz rfl (vF (UD (thn (he pins s1 σ H1 _ I1 q1) fun iv s2⟨y,H2,I2,ry,l,r,k,v,b,ea,ey,eb,q2⟩=>jA ?_)));subst ey
 cases(show iv=pS b from ry);obtain⟨z,hd,xs,rel,dd⟩:=dt_of I2.hok ea;have hz:xs.length<=sizeLine:=by rw[←Us rel];exact z
 obtain⟨l',p,r',rfl,el,p1,p2,p3⟩:=Paired.split rel;obtain⟨pk,pa,pv⟩:=p;obtain⟨e1,e2,e3⟩:=p2
 cases(show k=pk from e1);refine Ah Az dd.typeIs PySem.F.entry_dict_pop (PySem.F.args_dict_pop_2 _ _) (znz (knd:=uJ (zab X.prog X.w))) ⟨uj hu,k,_,l'.length,(pa,pv),zf5 I2.hok eb,dd,hz,by rw[pO (kG _),vR];rfl,fun h' dd' hs=>?_⟩
 rw[zqd] at dd';obtain⟨q,es,ep,hq,h2,h3,h4,_,h5⟩:=dd';refine⟨v,upd H2 a (.dT (l++r)),zg1 I2 (by rw[ea];exact vH) hs ⟨q,hq⟩ ⟨?_,hd,_,KT.keeps (Paired.app p3 p1) fun c ys ec=>?_,q,es,ep,hq,h2,h3,h4,h5⟩,e3,q2⟩
 ·rw[kJ] at z⊢;rw[pJ] at z;omega
 ·rw[za7 (zqj ec ea (fun z=>nomatch z))];exact ec
end
def TupQ(h:Heap)(v:kB)(a b c d:List Int):Prop:=∃(p:Addr)(x y z t:kB)(n:Nat)(dd:Option Addr)(sl:Array (Option kB)),v=.ref p/\h.get? p=some {cls:=.type "tuple",dict:=dd,data:=.seq #[x,y,z,t] n,slots:=sl}/\TupI h x a/\TupI h y b/\TupI h z c/\TupI h t d
open PySem.W (KatTups) in
theorem ktupsQ{h:Heap}:∀vs:List kB,(∀v,v∈vs->∃a b c d,TupQ h v a b c d)->∃fs,fs.length=vs.length/\KatTups h vs fs/\∀f,f∈fs->∃ns,TupI h f ns
 |[],_=>⟨[],rfl,.nil,fun f hf=>by cases hf⟩
 |v::vs,hv=>by
  obtain⟨fs,l,t,r⟩:=ktupsQ vs fun u hu=>hv u (kI _ hu);obtain⟨a,b,c,d,p,x,y,z,u,n,dd,sl,rfl,o,i,j⟩:=hv v (po ..);refine⟨x::fs,by simp[l],.cons o rfl rfl rfl t,fun f hf=>?_⟩
  rcases kg.mp hf with rfl|hf
  ·exact⟨_,i⟩
  ·exact r f hf
section
variable{X:Cx}{pins:List (Addr×Obj)}{σ:St}{H:Hp}{s:kC}
def rInL(K:kM):R2:=fun x y H Q=>∃d es,RdD K H d x/\RdD K H (.list es) y/\d.canLay0=true/\uF es=true/\d.depth<=60/\Q (.bl (es.any fun e=>uW e d)) H
theorem zo3{K':kM}(hK:X.K=K')(hu:X.A.units+64<cLine):OpR X (Ql .In) (rInL K'):=by
 subst hK;intro pins s σ H x y v u Q I rx ry h;obtain⟨d,es,hd,he,c1,c2,c3,q⟩:=h;obtain⟨as,ra⟩:=zd9 I d x v hd rx;obtain⟨bs,rb⟩:=zd9 I _ y u he ry;exact SeqAt.in_list_reads rb ra c2 c1 (by omega) ⟨.bl _,H,I,rfl,q⟩
end
def sumTo(ns:List Int):Nat->Int:=Cf fun i=>ns.getD i 0
def rSumI:List V->Hp->VK->Prop:=fun xs H Q=>∃p ns,xs=[.ref p]/\H p=some (.lst (ns.map V.int))/\(∀j,j<ns.length-> -(2^40)<=ns.getD j 0/\ns.getD j 0<=2^40)/\ns.length<=1000/\Q (.int (sumTo ns ns.length)) H
theorem sum_bd(ns:List Int)(h:∀j,j<ns.length-> -(2^40)<=ns.getD j 0/\ns.getD j 0<=2^40):∀j,j<=ns.length-> -(2^40)*j<=Cf (fun i=>ns.getD i 0) j/\Cf (fun i=>ns.getD i 0) j<=2^40*j
 |0,_=>by
  show-(2^40)*((0:Nat):Int)<=0/\(0:Int)<=2^40*((0:Nat):Int)
  decide
 |j+1,hj=>by
  have ih:=sum_bd ns h j (by omega)
  have:=h j (by omega)
  have e:Cf (fun i=>ns.getD i 0) (j+1)=Cf (fun i=>ns.getD i 0) j+ns.getD j 0:=rfl;rw[e];omega
theorem bt_sum:uo "sum"=some (.builtin "sum"):=by decide+kernel
section
variable{X:Cx}
theorem zpw(hc:X.calm=true):zf3 X (.builtin "sum") rSumI:=by
 intro pins s σ H xs us Q I r h;obtain⟨p,ns,rfl,hp,hb,hl,q⟩:=h;obtain⟨u,rfl,ru⟩:=vals1 r
 cases ru;obtain⟨its,rv,pl,hz⟩:=I.list (.of hp);have ia:vM its ns:=by
  have:=zg6 rv
  simpa using this
 have len:=ia.length;have ne:p≠s.heap.objs.size:=pd pl.lt;refine call_sum_walk (gX pl.isList ⟨s.heap.objs.size,_,_,_,_,_,fun i=>ns.getD i 0,rfl,Do (show X.A.in1.handled=none from I.ok.hd hc) _ p ne its.toArray,⟨⟨_,pM _ rfl,rfl,rfl⟩,pl.isList.push _⟩,?_,?_,?_,fun g tk t' kk=>?_⟩)
 ·intro b z;rw[BG];rcases kg.mp z with z|z
  ·rw[z];exact CZ _
  ·rw[kX.mp z];exact gf pl.lt
 ·exact fun i v hv=>DI ia i v (by simpa using hv)
 ·intro j hj;have hj':j<ns.length:=by simpa[len] using hj
  have a:=hb j hj';have b:=sum_bd ns hb (j+1) hj';show InLong (ns.getD j 0)/\_;unfold InLong;omega
 ·have en:its.toArray.size=ns.length:=by simp[len]
  rw[en];refine⟨.int (sumTo ns ns.length),H,I.kept (t':=tk) fun b o e=>kk b o ?_ (kT _ e),⟨t',rfl⟩,q⟩;intro z;have z:b=s.heap.objs.size:=by simpa using z
  exact absurd (pB e) (by rw[z];exact UB _)
end
section
variable{t u:TS}{te ta tb:TE}{c c':TT}{D:Ends}{σ:St}{H:Hp}{Q:VK}{g:TG}{gs:TGs}{a:TA}{v w x y:V}{xs l:List V}{p:Addr}{i j k:Int}{b:Bool}
def yB(v:V)(Q:Bool->Prop):Prop:=∃k,v=.bl k/\Q k
def yI(v:V)(Q:Int->Prop):Prop:=∃k,v=.int k/\Q k
def yTw(vs:List V)(Q:V->V->Prop):Prop:=∃v w,vs=[v,w]/\Q v w
def yX(xs:List V)(i:Int)(Q:V->Prop):Prop:=∃v,atI xs i=some v/\Q v
def yJ(o:Option Nat)(Q:Nat->Prop):Prop:=∃j,o=some j/\Q j
theorem yB_bl{Q:Bool->Prop}:yB (.bl b) Q=Q b:=propext ⟨fun⟨k,e,q⟩=>by cases e;exact q,fun q=>⟨_,rfl,q⟩⟩
theorem yI_int{Q:Int->Prop}:yI (.int i) Q=Q i:=propext ⟨fun⟨k,e,q⟩=>by cases e;exact q,fun q=>⟨_,rfl,q⟩⟩
theorem yTw_two{Q:V->V->Prop}:yTw [v,w] Q=Q v w:=propext ⟨fun⟨k,e,f,q⟩=>by cases f;exact q,fun q=>⟨_,_,rfl,q⟩⟩
theorem yX_of{Q:V->Prop}{v:V}(h:atI xs i=some v):yX xs i Q=Q v:=propext ⟨fun⟨k,e,q⟩=>by rw[h] at e;cases e;exact q,fun q=>⟨_,h,q⟩⟩
theorem yX_0{Q:V->Prop}{x0:V}:yX (x0::l) 0 Q=Q x0:=yX_of at0
theorem yX_1{Q:V->Prop}{x0 x1:V}:yX (x0::x1::l) 1 Q=Q x1:=yX_of at1
theorem yX_2{Q:V->Prop}{x0 x1 x2:V}:yX (x0::x1::x2::l) 2 Q=Q x2:=yX_of at2
theorem y_next:tNext D σ H=D.nx σ H:=rfl
theorem y_seq:tSeq t u D σ H=t {D with nx:=u D} σ H:=rfl
theorem y_break:tBreak D σ H=D.bk σ H:=rfl
theorem y_ret:tRet te D σ H=te σ H D.rt:=rfl
theorem y_ifS:tIfS c t u D σ H=c σ H fun b H1=>if b=true then t D σ H1 else u D σ H1:=rfl
theorem y_asg:tAsg te g D σ H=te σ H fun x H1=>g x σ H1 D.nx:=rfl
theorem y_drop:tDrop te D σ H=te σ H fun _ H1=>D.nx σ H1:=rfl
theorem y_par{i j:Nat}:tPar i j a D σ H=a σ H fun vs H1=>yTw vs fun v w=>gName i v σ H1 fun σ' H'=>gName j w σ' H' D.nx:=rfl
theorem y_c:tC v σ H Q=Q v H:=rfl
theorem y_op{r:R2}:tOp r ta tb σ H Q=ta σ H fun x H1=>tb σ H1 fun y H2=>r x y H2 Q:=rfl
theorem y_un{r:V->Hp->VK->Prop}:tUn r ta σ H Q=ta σ H fun x H1=>r x H1 Q:=rfl
theorem y_rI{C:Int->Int->Prop}{g:Int->Int->V}:rI C g (.int i) (.int j) H Q=(C i j/\Q (g i j) H):=propext ⟨fun⟨a,b,e,f,q⟩=>by cases e;cases f;exact q,fun q=>⟨_,_,rfl,rfl,q⟩⟩
theorem y_rI0{g:Int->Int->V}:rI0 g (.int i) (.int j) H Q=Q (g i j) H:=propext ⟨fun⟨a,b,e,f,q⟩=>by cases e;cases f;exact q,fun q=>⟨_,_,rfl,rfl,q⟩⟩
theorem y_rU{g:Int->V}:rU g (.int i) H Q=Q (g i) H:=propext ⟨fun⟨a,e,q⟩=>by cases e;exact q,fun q=>⟨_,rfl,q⟩⟩
theorem y_eq:rEq x y H Q=(scal x y=true/\Q (.bl (decide (x=y))) H):=rfl
theorem y_ne:rNe x y H Q=(scal x y=true/\Q (.bl (!decide (x=y))) H):=rfl
section
variable{Q:Bool->Hp->Prop}
theorem y_test:tTest te σ H Q=te σ H fun x H'=>yB x fun k=>Q k H':=rfl
theorem y_B:tB te σ H Q=te σ H fun x H'=>yB x fun k=>Q k H':=rfl
theorem y_not:tNot c σ H Q=c σ H fun c H1=>Q (!c) H1:=rfl
theorem y_or:tOr c c' σ H Q=c σ H fun b H1=>if b=true then Q true H1 else c' σ H1 Q:=rfl
theorem y_yes:tYes σ H Q=Q true H:=rfl
end
theorem y_andV:tAndV ta tb σ H Q=ta σ H fun x H1=>yB x fun c=>if c=true then tb σ H1 Q else Q (.bl false) H1:=rfl
theorem y_cb{r:List V->Hp->VK->Prop}:tCB r a σ H Q=a σ H fun vs H1=>r vs H1 Q:=rfl
theorem y_call{sp:Sp}{dvs:List V}{E:XK}:tCall sp dvs E a σ H Q=a σ H fun vs H1=>sp (vs++dvs) H1 Q E:=rfl
section
variable{Q:List V->Hp->Prop}
theorem y_nil:tNil σ H Q=Q [] H:=rfl
theorem y_cons:zcf te a σ H Q=te σ H fun x H1=>a σ H1 fun xs H2=>Q (x::xs) H2:=rfl
end
theorem y_tup:tTup a σ H Q=a σ H fun xs H1=>xs.length<=sizeLine/\∀p,H1 p=none->Q (.ref p) (upd H1 p (.tup xs)):=rfl
theorem y_lst:tLst a σ H Q=a σ H fun xs H1=>xs.length<=sizeLine/\∀p,H1 p=none->Q (.ref p) (upd H1 p (.lst xs)):=rfl
section
variable{Q:St->Hp->Prop}
theorem y_gnil:gNil [] σ H Q=Q σ H:=propext ⟨fun h=>h.2,fun h=>⟨rfl,h⟩⟩
theorem y_gcons:gCons g gs (v::l) σ H Q=g v σ H fun σ' H'=>gs l σ' H' Q:=propext ⟨fun⟨a,b,e,q⟩=>by cases e;exact q,fun q=>⟨_,_,rfl,q⟩⟩
theorem y_gtup{n:Nat}:gTupH n gs (.ref p) σ H Q=match H p with|some (.tup xs)=>(xs.length=n/\gs xs σ H Q)|_=>False:=by
 refine propext ⟨fun⟨a,xs,e,h,q⟩=>?_,fun q=>?_⟩
 ·cases e;rw[h];exact q
 ·split at q
  ·exact⟨_,_,rfl,‹_›,q⟩
  ·exact q.elim
end
theorem y_ixT:rIxTH (.ref p) (.int i) H Q=match H p with|some (.tup xs)=>yX xs i fun v=>Q v H|_=>False:=by
 refine propext ⟨fun⟨a,xs,k,v,e,f,h,g,q⟩=>?_,fun q=>?_⟩
 ·cases e;cases f;rw[h];exact⟨v,g,q⟩
 ·split at q
  ·obtain⟨v,g,q⟩:=q;exact⟨_,_,_,v,rfl,rfl,‹_›,g,q⟩
  ·exact q.elim
theorem y_ixL:rIxLH (.ref p) (.int i) H Q=match H p with|some (.lst xs)=>yX xs i fun v=>Q v H|_=>False:=by
 refine propext ⟨fun⟨a,xs,k,v,e,f,h,g,q⟩=>?_,fun q=>?_⟩
 ·cases e;cases f;rw[h];exact⟨v,g,q⟩
 ·split at q
  ·obtain⟨v,g,q⟩:=q;exact⟨_,_,_,v,rfl,rfl,‹_›,g,q⟩
  ·exact q.elim
theorem y_len:rLenH [.ref p] H Q=match H p with|some (.lst ys)=>Q (.int ys.length) H|some (.tup ys)=>Q (.int ys.length) H|_=>False:=by
 refine propext ⟨fun⟨a,xs,e,h,q⟩=>?_,fun q=>?_⟩
 ·cases e;rcases h with h|h<;>(rw[h];exact q)
 ·split at q
  ·exact⟨_,_,rfl,.inl ‹_›,q⟩
  ·exact⟨_,_,rfl,.inr ‹_›,q⟩
  ·exact q.elim
theorem y_list:rListH [.ref p] H Q=match H p with|some (.lst ys)=>(∀l,H l=none->Q (.ref l) (upd H l (.lst ys)))|some (.tup ys)=>(∀l,H l=none->Q (.ref l) (upd H l (.lst ys)))|_=>False:=by
 refine propext ⟨fun⟨a,xs,e,h,q⟩=>?_,fun q=>?_⟩
 ·cases e;rcases h with h|h<;>(rw[h];exact q)
 ·split at q
  ·exact⟨_,_,rfl,.inl ‹_›,q⟩
  ·exact⟨_,_,rfl,.inr ‹_›,q⟩
  ·exact q.elim
theorem y_slH{lo hi:Option Int}:rSlH (.ref p) lo hi H Q=match H p with|some (.lst xs)=>(∀q,H q=none->Q (.ref q) (upd H q (.lst (cutV xs lo hi))))|_=>False:=by
 refine propext ⟨fun⟨a,xs,e,h,q⟩=>?_,fun q=>?_⟩
 ·cases e;rw[h];exact q
 ·split at q
  ·exact⟨_,_,rfl,‹_›,q⟩
  ·exact q.elim
theorem y_isi{T:String}:rIsiF T [x,.ty T] H Q=match tyF H x with|some S=>Q (.bl (isiB S T)) H|none=>False:=by
 refine propext ⟨fun⟨a,S,e,h,q⟩=>?_,fun q=>?_⟩
 ·cases e;rw[h];exact q
 ·split at q
  ·exact⟨_,_,rfl,‹_›,q⟩
  ·exact q.elim
theorem y_append:rAppend (.ref p) [y] H Q=match H p with|some (.lst xs)=>(xs.length<sizeLine/\Q .non (upd H p (.lst (xs++[y]))))|_=>False:=by
 refine propext ⟨fun⟨a,xs,z,e,f,h,q⟩=>?_,fun q=>?_⟩
 ·cases e;cases f;rw[h];exact q
 ·split at q
  ·exact⟨_,_,_,rfl,rfl,‹_›,q⟩
  ·exact q.elim
theorem ym_tup{o:Option HO}{Q:List V->Prop}:(match o with|some (.tup xs)=>Q xs|_=>False)=∃xs,o=some (.tup xs)/\Q xs:=by
 refine propext ⟨fun q=>?_,fun⟨xs,e,q⟩=>by subst e;exact q⟩
 split at q
 ·exact⟨_,rfl,q⟩
 ·exact q.elim
theorem ym_lst{o:Option HO}{Q:List V->Prop}:(match o with|some (.lst xs)=>Q xs|_=>False)=∃xs,o=some (.lst xs)/\Q xs:=by
 refine propext ⟨fun q=>?_,fun⟨xs,e,q⟩=>by subst e;exact q⟩
 split at q
 ·exact⟨_,rfl,q⟩
 ·exact q.elim
theorem ym_two{o:Option HO}{Q:List V->Prop}:(match o with|some (.lst xs)=>Q xs|some (.tup xs)=>Q xs|_=>False)=∃xs,(o=some (.lst xs)∨o=some (.tup xs))/\Q xs:=by
 refine propext ⟨fun q=>?_,fun⟨xs,e,q⟩=>by rcases e with e|e<;>(subst e;exact q)⟩
 split at q
 ·exact⟨_,.inl rfl,q⟩
 ·exact⟨_,.inr rfl,q⟩
 ·exact q.elim
theorem ym_ty{o:Option String}{Q:String->Prop}:(match o with|some S=>Q S|none=>False)=∃S,o=some S/\Q S:=by
 refine propext ⟨fun q=>?_,fun⟨xs,e,q⟩=>by subst e;exact q⟩
 split at q
 ·exact⟨_,rfl,q⟩
 ·exact q.elim
section
variable{Q:Option Int->Hp->Prop}
theorem y_nopart:zky σ H Q=Q none H:=rfl
theorem y_part:tPart te σ H Q=te σ H fun x H1=>yI x fun i=>Q (some i) H1:=rfl
end
theorem y_sl{r:V->Option Int->Option Int->Hp->VK->Prop}{tl th:TO}:tSl r te tl th σ H Q=te σ H fun x H1=>tl σ H1 fun l H2=>th σ H2 fun u H3=>r x l u H3 Q:=rfl
theorem y_bm0{K:kM}{T:String}{r:V->List V->Hp->VK->Prop}:tBM0 K T r te σ H Q=te σ H fun x H1=>tyV K T x H1/\r x [] H1 Q:=rfl
theorem y_bm{K:kM}{T:String}{r:V->List V->Hp->VK->Prop}:tBM K T r te a σ H Q=te σ H fun x H1=>tyV K T x H1/\a σ H1 fun xs H2=>r x xs H2 Q:=rfl
theorem y_v0:tVar 0 (some v::σ) H Q=Q v H:=propext ⟨fun⟨_,e,q⟩=>by cases e;exact q,fun q=>⟨v,rfl,q⟩⟩
theorem y_n0{a0:Option V}{Q:St->Hp->Prop}:gName 0 v (a0::σ) H Q=Q (some v::σ) H:=rfl
theorem y_v1{a0:Option V}:tVar 1 (a0::some v::σ) H Q=Q v H:=propext ⟨fun⟨_,e,q⟩=>by cases e;exact q,fun q=>⟨v,rfl,q⟩⟩
theorem y_n1{a0 a1:Option V}{Q:St->Hp->Prop}:gName 1 v (a0::a1::σ) H Q=Q (a0::some v::σ) H:=rfl
theorem y_v2{a0 a1:Option V}:tVar 2 (a0::a1::some v::σ) H Q=Q v H:=propext ⟨fun⟨_,e,q⟩=>by cases e;exact q,fun q=>⟨v,rfl,q⟩⟩
theorem y_n2{a0 a1 a2:Option V}{Q:St->Hp->Prop}:gName 2 v (a0::a1::a2::σ) H Q=Q (a0::a1::some v::σ) H:=rfl
theorem y_v3{a0 a1 a2:Option V}:tVar 3 (a0::a1::a2::some v::σ) H Q=Q v H:=propext ⟨fun⟨_,e,q⟩=>by cases e;exact q,fun q=>⟨v,rfl,q⟩⟩
theorem y_n3{a0 a1 a2 a3:Option V}{Q:St->Hp->Prop}:gName 3 v (a0::a1::a2::a3::σ) H Q=Q (a0::a1::a2::some v::σ) H:=rfl
theorem y_v4{a0 a1 a2 a3:Option V}:tVar 4 (a0::a1::a2::a3::some v::σ) H Q=Q v H:=propext ⟨fun⟨_,e,q⟩=>by cases e;exact q,fun q=>⟨v,rfl,q⟩⟩
theorem y_n4{a0 a1 a2 a3 a4:Option V}{Q:St->Hp->Prop}:gName 4 v (a0::a1::a2::a3::a4::σ) H Q=Q (a0::a1::a2::a3::some v::σ) H:=rfl
theorem y_v5{a0 a1 a2 a3 a4:Option V}:tVar 5 (a0::a1::a2::a3::a4::some v::σ) H Q=Q v H:=propext ⟨fun⟨_,e,q⟩=>by cases e;exact q,fun q=>⟨v,rfl,q⟩⟩
theorem y_n5{a0 a1 a2 a3 a4 a5:Option V}{Q:St->Hp->Prop}:gName 5 v (a0::a1::a2::a3::a4::a5::σ) H Q=Q (a0::a1::a2::a3::a4::some v::σ) H:=rfl
theorem y_v6{a0 a1 a2 a3 a4 a5:Option V}:tVar 6 (a0::a1::a2::a3::a4::a5::some v::σ) H Q=Q v H:=propext ⟨fun⟨_,e,q⟩=>by cases e;exact q,fun q=>⟨v,rfl,q⟩⟩
theorem y_n6{a0 a1 a2 a3 a4 a5 a6:Option V}{Q:St->Hp->Prop}:gName 6 v (a0::a1::a2::a3::a4::a5::a6::σ) H Q=Q (a0::a1::a2::a3::a4::a5::some v::σ) H:=rfl
theorem y_v7{a0 a1 a2 a3 a4 a5 a6:Option V}:tVar 7 (a0::a1::a2::a3::a4::a5::a6::some v::σ) H Q=Q v H:=propext ⟨fun⟨_,e,q⟩=>by cases e;exact q,fun q=>⟨v,rfl,q⟩⟩
theorem y_n7{a0 a1 a2 a3 a4 a5 a6 a7:Option V}{Q:St->Hp->Prop}:gName 7 v (a0::a1::a2::a3::a4::a5::a6::a7::σ) H Q=Q (a0::a1::a2::a3::a4::a5::a6::some v::σ) H:=rfl
theorem y_v8{a0 a1 a2 a3 a4 a5 a6 a7:Option V}:tVar 8 (a0::a1::a2::a3::a4::a5::a6::a7::some v::σ) H Q=Q v H:=propext ⟨fun⟨_,e,q⟩=>by cases e;exact q,fun q=>⟨v,rfl,q⟩⟩
theorem y_n8{a0 a1 a2 a3 a4 a5 a6 a7 a8:Option V}{Q:St->Hp->Prop}:gName 8 v (a0::a1::a2::a3::a4::a5::a6::a7::a8::σ) H Q=Q (a0::a1::a2::a3::a4::a5::a6::a7::some v::σ) H:=rfl
theorem y_v9{a0 a1 a2 a3 a4 a5 a6 a7 a8:Option V}:tVar 9 (a0::a1::a2::a3::a4::a5::a6::a7::a8::some v::σ) H Q=Q v H:=propext ⟨fun⟨_,e,q⟩=>by cases e;exact q,fun q=>⟨v,rfl,q⟩⟩
theorem y_n9{a0 a1 a2 a3 a4 a5 a6 a7 a8 a9:Option V}{Q:St->Hp->Prop}:gName 9 v (a0::a1::a2::a3::a4::a5::a6::a7::a8::a9::σ) H Q=Q (a0::a1::a2::a3::a4::a5::a6::a7::a8::some v::σ) H:=rfl
theorem y_v10{a0 a1 a2 a3 a4 a5 a6 a7 a8 a9:Option V}:tVar 10 (a0::a1::a2::a3::a4::a5::a6::a7::a8::a9::some v::σ) H Q=Q v H:=propext ⟨fun⟨_,e,q⟩=>by cases e;exact q,fun q=>⟨v,rfl,q⟩⟩
theorem y_n10{a0 a1 a2 a3 a4 a5 a6 a7 a8 a9 a10:Option V}{Q:St->Hp->Prop}:gName 10 v (a0::a1::a2::a3::a4::a5::a6::a7::a8::a9::a10::σ) H Q=Q (a0::a1::a2::a3::a4::a5::a6::a7::a8::a9::some v::σ) H:=rfl
theorem y_v11{a0 a1 a2 a3 a4 a5 a6 a7 a8 a9 a10:Option V}:tVar 11 (a0::a1::a2::a3::a4::a5::a6::a7::a8::a9::a10::some v::σ) H Q=Q v H:=propext ⟨fun⟨_,e,q⟩=>by cases e;exact q,fun q=>⟨v,rfl,q⟩⟩
theorem y_n11{a0 a1 a2 a3 a4 a5 a6 a7 a8 a9 a10 a11:Option V}{Q:St->Hp->Prop}:gName 11 v (a0::a1::a2::a3::a4::a5::a6::a7::a8::a9::a10::a11::σ) H Q=Q (a0::a1::a2::a3::a4::a5::a6::a7::a8::a9::a10::some v::σ) H:=rfl
theorem y_n12{a0 a1 a2 a3 a4 a5 a6 a7 a8 a9 a10 a11 a12:Option V}{Q:St->Hp->Prop}:gName 12 v (a0::a1::a2::a3::a4::a5::a6::a7::a8::a9::a10::a11::a12::σ) H Q=Q (a0::a1::a2::a3::a4::a5::a6::a7::a8::a9::a10::a11::some v::σ) H:=rfl
theorem y_n13{a0 a1 a2 a3 a4 a5 a6 a7 a8 a9 a10 a11 a12 a13:Option V}{Q:St->Hp->Prop}:gName 13 v (a0::a1::a2::a3::a4::a5::a6::a7::a8::a9::a10::a11::a12::a13::σ) H Q=Q (a0::a1::a2::a3::a4::a5::a6::a7::a8::a9::a10::a11::a12::some v::σ) H:=rfl
end
section
variable{K:kM}{a l l1 l2:Addr}{xs ys:List V}{lo:Int}{n:Nat}{g:TG}{tb:TS}{D:Ends}{σ:St}{H:Hp}
theorem zba(Pv:Nat->St->Hp->Prop)(h0:Pv 0 σ H)(hl:∀i σ H,i<=xs.length->Pv i σ H->SqL K H a xs)(hs:∀bk ct i x σ H,xs[i]?=some x->Pv i σ H->g x σ H fun σ2 H2=>tb {D with nx:=Pv (i+1),ct:=ct,bk:=bk} σ2 H2)(hd:∀σ H,Pv xs.length σ H->D.nx σ H):ForW (Itl K a) g tb D σ H:=for_list Pv h0 hl (fun i=>hs D.nx (Pv (i+1)) i) hd
theorem zdd(Pv:Nat->St->Hp->Prop)(h0:Pv 0 σ H)(hs:∀bk ct i σ H,i<n->Pv i σ H->g (.int (lo+i)) σ H fun σ2 H2=>tb {D with nx:=Pv (i+1),ct:=ct,bk:=bk} σ2 H2)(hd:∀σ H,Pv n σ H->D.nx σ H):ForW (Itr lo n) g tb D σ H:=zj6 Pv h0 (fun i=>hs D.nx (Pv (i+1)) i) hd
end
end L2
namespace My
def G(a b:Int):Int:=(Int.gcd a b:Nat)
theorem G_nonneg(a b:Int):0<=G a b:=Int.natCast_nonneg _
end My
namespace My
theorem zcu{a b:Int}(h:b ∣ a):a.fdiv b*b=a:=by
 have e:=BA a b;have z:a.fmod b=0:=Int.fmod_eq_zero_of_dvd h;rw[z] at e;rw[uh];omega
theorem zd3{x f y:Int}(e:x*f=y)(hf:f≠0):x.natAbs<=y.natAbs:=by
 rw[←e,Qd];exact Nat.le_mul_of_pos_right _ (by omega)
theorem zn5{x f y:Int}(e:x*f=y)(h:(0<f/\0<y)∨(f<0/\y<0)):0<x:=by
 rcases(by omega:0<x∨x=0∨x<0) with hx|hx|hx
 ·exact hx
 ·rw[hx,jK] at e;omega
 ·exfalso
  rcases h with⟨h1,h2⟩|⟨h1,h2⟩
  ·have:=vV hx h1;omega
  ·have:=Int.mul_pos_of_neg_of_neg hx h1;omega
theorem zhp{a b:Int}{m n:Nat}(h1:a.natAbs<2^m)(h2:b.natAbs<2^n):(a*b).natAbs<2^(m+n):=by
 rw[Qd,Dg];exact Cg h1 h2
theorem zoa{a b:Int}{m:Nat}(h1:a.natAbs<2^m)(h2:b.natAbs<2^m):(a-b).natAbs<2^(m+1):=by
 rw[Nat.pow_succ];omega
theorem ze1{a:Int}{m n:Nat}(h:a.natAbs<2^m)(hm:m<=n):a.natAbs<2^n:=ku h (UM (by decide) hm)
end My
namespace My
end My
namespace My
end My
namespace My
def g3(a b c:Int):Nat:=Dp (Dp a.natAbs b.natAbs) c.natAbs
theorem G_nat(a b:Int):(G a b).natAbs=Dp a.natAbs b.natAbs:=by unfold G;rw[Int.natAbs_natCast];rfl
theorem G3(a b c:Int):G (G a b) c=(g3 a b c:Int):=by
 have h:(G (G a b) c).natAbs=g3 a b c:=by rw[G_nat,G_nat];rfl
 have h0:=G_nonneg (G a b) c;omega
theorem zok(a b c f:Int):g3 (a*f) (b*f) (c*f)=g3 a b c*f.natAbs:=by
 unfold g3;rw[Qd,Qd,Qd,CH,CH]
theorem g3_pos{a b c:Int}(h:c≠0):0<g3 a b c:=by
 unfold g3;exact Nat.gcd_pos_of_pos_right _ (by omega)
theorem g3_da(a b c:Int):((g3 a b c:Nat):Int) ∣ a:=gM.mpr (DO (AR _ _) (AR _ _))
theorem g3_db(a b c:Int):((g3 a b c:Nat):Int) ∣ b:=gM.mpr (DO (AR _ _) (gh _ _))
theorem g3_dc(a b c:Int):((g3 a b c:Nat):Int) ∣ c:=gM.mpr (gh _ _)
structure Pt(n:Nat)(x y w:Int):Prop where
 pos:0<w
 one:g3 x y w=1
 lx:x.natAbs<2^n
 ly:y.natAbs<2^n
 lw:w.natAbs<2^n
theorem Pt.ne{n:Nat}{x y w:Int}(h:Pt n x y w):w≠0:=by have:=h.pos;omega
theorem Pt.mono{m n:Nat}{x y w:Int}(h:Pt m x y w)(hm:m<=n):Pt n x y w:=⟨h.pos,h.one,ze1 h.lx hm,ze1 h.ly hm,ze1 h.lw hm⟩
theorem pt_of{n:Nat}{x y w f:Int}(hf:f.natAbs=g3 x y w)(hs:(0<f/\0<w)∨(f<0/\w<0))(lx:x.natAbs<2^n)(ly:y.natAbs<2^n)(lw:w.natAbs<2^n):Pt n (x.fdiv f) (y.fdiv f) (w.fdiv f):=by
 have hd:∀z:Int,((g3 x y w:Nat):Int) ∣ z->f ∣ z:=fun z h=>by
  rw[←hf] at h;exact Int.natAbs_dvd.mp h
 have ex:=zcu (hd x (g3_da x y w));have ey:=zcu (hd y (g3_db x y w));have ew:=zcu (hd w (g3_dc x y w));have hw:w≠0:=by omega
 have fn:f≠0:=by omega
 refine⟨zn5 ew hs,?_,uS (zd3 ex fn) lx,uS (zd3 ey fn) ly,uS (zd3 ew fn) lw⟩;have e:=zok (x.fdiv f) (y.fdiv f) (w.fdiv f) f;rw[ex,ey,ew,hf] at e;have hp:=g3_pos (a:=x) (b:=y) hw;have e':1*g3 x y w=g3 (x.fdiv f) (y.fdiv f) (w.fdiv f)*g3 x y w:=by omega
 exact(Nat.eq_of_mul_eq_mul_right hp e').symm
end My
namespace My
theorem g3_gt{x y w:Int}(hw:0<w):0<G (G x y) w:=by
 rw[G3];have:=g3_pos (a:=x) (b:=y) (c:=w) (by omega)
 omega
theorem g3_ne{x y w:Int}(hw:0<w):G (G x y) w≠0:=by have:=g3_gt (x:=x) (y:=y) hw;omega
theorem g3_abs(x y w:Int):(G (G x y) w).natAbs=g3 x y w:=by rw[G3];simp
theorem g3_lt{n:Nat}{x y w:Int}(hw:0<w)(lw:w.natAbs<2^n):(G (G x y) w).natAbs<2^n:=by
 rw[g3_abs];exact uS (Nat.le_of_dvd (by omega) (gh _ _)) lw
theorem g3_pt{n:Nat}{x y w:Int}(hw:0<w)(lx:x.natAbs<2^n)(ly:y.natAbs<2^n)(lw:w.natAbs<2^n):Pt n (x.fdiv (G (G x y) w)) (y.fdiv (G (G x y) w)) (w.fdiv (G (G x y) w)):=
 pt_of (g3_abs x y w) (.inl ⟨g3_gt hw,hw⟩) lx ly lw
end My
namespace My
end My
namespace My
def sgn(z:Int):Int:=if 0<z then 1 else if z<0 then-1 else 0
def bef(x1 y1 w1 x2 y2 w2:Int):Bool:=if x1*w2=x2*w1 then decide (y1*w2<y2*w1) else decide (x1*w2<x2*w1)
theorem zkj{a b c u v w:Int}(hu:0<u)(hv:0<v)(hw:0<w)(h1:a*v<=b*u)(h2:b*w<=c*v):a*w<=c*u/\((a*v<b*u∨b*w<c*v)->a*w<c*u):=by
 have e1:(a*v)*w<=(b*u)*w:=Uj h1 (UT hw);have e2:(b*w)*u<=(c*v)*u:=Uj h2 (UT hu);have i1:v*(a*w)=(a*v)*w:=by grind
 have i2:v*(c*u)=(c*v)*u:=by grind
 have i3:(b*u)*w=(b*w)*u:=by grind
 refine⟨Int.le_of_mul_le_mul_left (by omega) hv,fun h=>gQ (a:=v) ?_ (UT hv)⟩
 rcases h with h|h
 ·have:=jw h hw;omega
 ·have:=jw h hu;omega
theorem bef_irr(x y w:Int):bef x y w x y w=false:=by
 unfold bef;rw[if_pos rfl];exact decide_eq_false (by omega)
theorem zgk{x1 y1 w1 x2 y2 w2:Int}:bef x1 y1 w1 x2 y2 w2=true↔(x1*w2<x2*w1∨(x1*w2=x2*w1/\y1*w2<y2*w1)):=by
 unfold bef
 split
 ·rename_i h
  rw[decide_eq_true_iff];omega
 ·rename_i h
  rw[decide_eq_true_iff];omega
theorem zp4{x1 y1 w1 x2 y2 w2:Int}:bef x1 y1 w1 x2 y2 w2=false↔(x2*w1<x1*w2∨(x1*w2=x2*w1/\y2*w1<=y1*w2)):=by
 rw[←Bool.not_eq_true,zgk];omega
theorem zoe{x1 y1 w1 x2 y2 w2 x3 y3 w3:Int}(h1:0<w1)(h2:0<w2)(h3:0<w3)(a:bef x1 y1 w1 x2 y2 w2=true)(b:bef x2 y2 w2 x3 y3 w3=true):bef x1 y1 w1 x3 y3 w3=true:=by
 rw[zgk] at a b⊢;have X:=zkj (a:=x1) (b:=x2) (c:=x3) h1 h2 h3 (by omega) (by omega)
 rcases a with a|⟨a,a'⟩
 ·exact .inl (X.2 (.inl a))
 ·rcases b with b|⟨b,b'⟩
  ·exact .inl (X.2 (.inr b))
  ·have X':=zkj (a:=x3) (b:=x2) (c:=x1) h3 h2 h1 (by omega) (by omega)
   have Y:=zkj (a:=y1) (b:=y2) (c:=y3) h1 h2 h3 (by omega) (by omega)
   exact .inr ⟨Int.le_antisymm X.1 X'.1,Y.2 (.inl a')⟩
theorem pt_uniq{n:Nat}{x1 y1 w1 x2 y2 w2:Int}(p:Pt n x1 y1 w1)(q:Pt n x2 y2 w2)(ex:x1*w2=x2*w1)(ey:y1*w2=y2*w1):x1=x2/\y1=y2/\w1=w2:=by
 have a:=zok x1 y1 w1 w2;have b:=zok x2 y2 w2 w1;rw[p.one,Dh] at a;rw[q.one,Dh] at b;rw[ex,ey,uh w1 w2] at a;have hw:w1=w2:=by
  have:=p.pos;have:=q.pos;omega
 subst hw;exact⟨UF p.ne ex,UF p.ne ey,rfl⟩
theorem bef_tri{n:Nat}{x1 y1 w1 x2 y2 w2:Int}(p:Pt n x1 y1 w1)(q:Pt n x2 y2 w2)(h:bef x1 y1 w1 x2 y2 w2=bef x2 y2 w2 x1 y1 w1):x1=x2/\y1=y2/\w1=w2:=by
 cases e:bef x1 y1 w1 x2 y2 w2 with
 |true=>
  have e':=h.symm.trans e;rw[zgk] at e e';omega
 |false=>
  have e':=h.symm.trans e;rw[zp4] at e e';exact pt_uniq p q (by omega) (by omega)
def lnA(x1 y1 w1 x2 y2 w2:Int):Int:=y1*w2-w1*y2
def lnB(x1 y1 w1 x2 y2 w2:Int):Int:=w1*x2-x1*w2
def lnC(x1 y1 w1 x2 y2 w2:Int):Int:=x1*y2-y1*x2
def det3(x1 y1 w1 x2 y2 w2 x3 y3 w3:Int):Int:=lnA x1 y1 w1 x2 y2 w2*x3+lnB x1 y1 w1 x2 y2 w2*y3+lnC x1 y1 w1 x2 y2 w2*w3
end My
namespace My
end My
namespace My
end My
namespace My
end My
namespace My
theorem G_fmod(x y:Int):G y (x.fmod y)=G x y:=by
 unfold G;rw[Int.gcd_comm x y];have e:x.fmod y+x.fdiv y*y=x:=by rw[uh];exact BA x y
 rw[←Int.gcd_add_mul_right_right y (x.fmod y) (x.fdiv y),e]
theorem zmu{x y:Int}(h:y≠0):(x.fmod y).natAbs<y.natAbs:=by
 have h0:=At x h;have h1:=Int.emod_lt x h;rw[Int.fmod_eq_emod]
 split
 ·omega
 ·rename_i c
  have hn:x%y≠0:=fun z=>c (.inr (Int.dvd_of_emod_eq_zero z));have hy:¬0<=y:=fun z=>c (.inl z);omega
theorem G_end(x:Int):(if x<0 then-x else x)=G x 0:=by
 unfold G;rw[Int.gcd_zero_right]
 split<;>omega
end My
namespace My
structure Q3 where
 x:Int
 y:Int
 w:Int
deriving DecidableEq
def dt(a b c:Q3):Int:=det3 a.x a.y a.w b.x b.y b.w c.x c.y c.w
def dX(a b:Q3):Int:=b.x*a.w-a.x*b.w
def dY(a b:Q3):Int:=b.y*a.w-a.y*b.w
def LP(u v:Int):Prop:=0<u∨(u=0/\0<v)
def Lt(s:Int)(a b:Q3):Prop:=LP (s*dX a b) (s*dY a b)
theorem lex_nn{A B C u1 u2 v1 v2 w1 w2:Int}(e1:A*u1=B*v1+C*w1)(e2:A*u2=B*v2+C*w2)(hu:LP u1 u2)(hv:LP v1 v2)(hw:LP w1 w2)(hB:0<=B)(hC:0<=C):0<=A:=by
 have nn:∀{K a b:Int},0<=K->LP a b->0<=K*a/\(K*a=0->0<=K*b):=fun{K a b} hK h=>by
  rcases h with h|⟨h,h'⟩
  ·refine⟨vK hK (by omega),fun e=>?_⟩
   rcases Au.mp e with e|e
   ·rw[e,jK];exact uE _
   ·omega
  ·exact⟨by rw[h,UU];exact uE _,fun _=>vK hK (by omega)⟩
 have nB:=nn hB hv;have nC:=nn hC hw;rcases hu with h|⟨h,h'⟩
 ·refine Int.not_lt.mp fun z=>?_;have:=vV z h;omega
 ·rw[h,UU] at e1;have b0:B*v1=0:=by omega
  have c0:C*w1=0:=by omega
  have:=nB.2 b0;have:=nC.2 c0;refine Int.not_lt.mp fun z=>?_;have:=vV z h';omega
theorem thiX(a b p q:Q3):dt b p q*dX a b=dt a b q*dX b p+dt a b p*dX q b:=by unfold dt dX det3 lnA lnB lnC;grind
theorem thiY(a b p q:Q3):dt b p q*dY a b=dt a b q*dY b p+dt a b p*dY q b:=by unfold dt dY det3 lnA lnB lnC;grind
theorem sc{s A B C u v w:Int}(e:A*u=B*v+C*w):A*(s*u)=B*(s*v)+C*(s*w):=by
 have:A*(s*u)=s*(A*u):=by grind
 rw[this,e]
 grind
theorem mid{s:Int}{a b p q:Q3}(ha:Lt s a b)(hp:Lt s b p)(hq:Lt s q b)(h1:0<=dt a b q)(h2:0<=dt a b p):0<=dt b p q:=
 lex_nn (sc (s:=s) (thiX a b p q)) (sc (s:=s) (thiY a b p q)) ha hp hq h1 h2
end My
namespace My
structure Chn(s:Int)(os L:List Q3)(f l:Q3):Prop where
 sub:L.Sublist os
 fst:L[0]?=some f
 lst:L[L.length-1]?=some l
 edge:∀i a b,L[i]?=some a->L[i+1]?=some b->Lt s a b/\∀q,q∈os->0<=dt a b q
 tri:∀i a b c,L[i]?=some a->L[i+1]?=some b->L[i+2]?=some c->0<dt a b c
theorem fl_lt{a b c d G:Int}(hb:0<b)(hd:0<d)(h:a*d<c*b)(hG:b*d<=G):a*G/b<c*G/d:=by
 have g0:0<=G:=DZ (UT (vp hb hd)) hG;have h0:a*G/b*b<=a*G:=Int.ediv_mul_le _ (by omega)
 have h1:=Uj h0 (UT hd);have h2:G*(a*d+1)<=G*(c*b):=ji (by omega) g0
 refine Int.lt_of_lt_of_le (Int.lt_succ _) (Int.le_ediv_of_mul_le hd (Int.le_of_mul_le_mul_right ?_ hb));generalize a*G/b=A at*
 calc (A+1)*d*b=A*b*d+b*d:=by grind
  _<=a*G*d+G:=Int.add_le_add h1 hG
  _=G*(a*d+1):=by grind
  _<=G*(c*b):=h2
  _=c*G*b:=by grind
theorem fl_eq{a b c d G:Int}(hb:0<b)(hd:0<d)(h:a*d=c*b):a*G/b=c*G/d:=by
 have e1:a*G/b=(a*G*d)/(b*d):=(jr (a*G) b hd).symm;have e2:c*G/d=(c*G*b)/(d*b):=(jr (c*G) d hb).symm;rw[e1,e2,uh d b]
 congr 1
 have:a*G*d=G*(a*d):=by grind
 rw[this,h]
 grind
def bq(a b:Q3):Bool:=bef a.x a.y a.w b.x b.y b.w
def PQ(n:Nat)(a:Q3):Prop:=Pt n a.x a.y a.w
theorem pq_tri{n:Nat}{a b:Q3}(ha:PQ n a)(hb:PQ n b)(h1:bq a b=false)(h2:bq b a=false):a=b:=by
 obtain⟨e1,e2,e3⟩:=bef_tri ha hb (h1.trans h2.symm);obtain⟨x,y,w⟩:=a;obtain⟨x',y',w'⟩:=b
 simp only at e1 e2 e3
 rw[e1,e2,e3]
def kyQ(g:Int)(r:Q3):Int×Int:=(r.x*(g*g)/r.w,r.y*(g*g)/r.w)
theorem ky_lt{a b:Q3}{g:Int}(ha:0<a.w)(hb:0<b.w)(ga:a.w<=g)(gb:b.w<=g)(h:bq a b=true):L2.lt2 (kyQ g a) (kyQ g b)=true:=by
 have hG:a.w*b.w<=g*g:=gN ga gb (UT hb) (DZ (UT ha) ga);unfold bq at h;rw[zgk] at h;unfold L2.lt2 L2.lexB kyQ;rcases h with h|⟨h,h'⟩
 ·have:=fl_lt ha hb h hG;rw[if_neg (by omega)]
  exact decide_eq_true this
 ·rw[if_pos (fl_eq ha hb h)];exact decide_eq_true (fl_lt ha hb h' hG)
end My
namespace Mine
open PySem L2 My
local macro_rules
  | `(tactic| simp! [$xs,*]) => do let f := fun (s : String) => (s.splitOn " ").toArray.map fun x => Lean.mkIdent x.toName; let p := f "y_next y_seq y_break y_ret y_ifS y_asg y_drop y_par y_c y_op y_un y_rI y_rI0 y_rU y_eq y_ne y_test y_B y_not y_or y_yes y_andV y_cb y_call y_nil y_cons y_tup y_lst y_gnil y_gcons y_gtup y_ixT y_ixL y_len y_list y_slH y_isi y_append y_nopart y_part y_sl y_bm0 y_bm yB_bl yI_int yTw_two yX_0 yX_1 yX_2 y_v0 y_v1 y_v2 y_v3 y_v4 y_v5 y_v6 y_v7 y_v8 y_v9 y_v10 y_v11 y_n0 y_n1 y_n2 y_n3 y_n4 y_n5 y_n6 y_n7 y_n8 y_n9 y_n10 y_n11 y_n12 y_n13"; let q := f "yB yI yTw yX yJ ym_tup ym_lst ym_two ym_ty gName tVar rI rI0 rU rEq rNe gTup gCons gNil L2.start rIsi rIxT rIxL cx_K tyN_non tyN_bl tyN_int tyN_str isi_ll scal_ii scal_bb sz0 sz1 sz2 sz3 sz4 List.map_cons List.map_nil List.length_cons List.length_nil List.replicate List.cons_append List.nil_append List.append_nil List.getElem?_cons_zero List.getElem?_cons_succ List.set_cons_zero List.set_cons_succ Option.some.injEq V.int.injEq V.bl.injEq V.ref.injEq V.ty.injEq List.cons.injEq and_true true_and exists_eq_left exists_eq_left' exists_and_left exists_and_right exists_eq exists_eq' and_assoc Nat.reduceAdd Nat.reduceSub Bool.not_true Bool.not_false Bool.false_eq_true if_true if_false reduceIte Nat.zero_add decide_true decide_false selC comp_K Option.join_some rIxTH rIxLH rLenH rIsiF at0 at1 at2 at3 at4 HO.tup.injEq HO.lst.injEq reduceCtorEq false_or or_false tyF_non tyF_bl tyF_int tyF_str exists_const Int.reduceAdd Int.reduceMul Int.reduceSub rSlH upd_same upd_upd rListH rAppend gTupH"; `(tactic| simp only [$[↓$p:term],*, $[$q:term],*, $xs,*])
local macro_rules
  | `(tactic| dsimp! [$xs,*]) => `(tactic| simp only [List.map_cons, List.map_nil, List.length_cons, List.length_nil, List.replicate, List.cons_append, List.nil_append, Nat.reduceAdd, Nat.reduceSub, Nat.zero_add, $xs,*])
def top(i:Nat):Stmt:=PySem.Challenge.pw_acre_k43_rings_counted.main.body.getD i (.Pass ⟨0,0,0,0⟩)
abbrev zcd:Stmt:=top 1
theorem zh1:zae ["P","Q","left","right"] ["P","Q"] (za0 zcd):=⟨rfl,rfl,rfl,by decide+kernel,rfl,by decide+kernel,by decide+kernel⟩
abbrev zcn:Stmt:=top 2
theorem zms:zae ["number"] ["number"] (za0 zcn):=⟨rfl,rfl,rfl,by decide+kernel,rfl,by decide+kernel,by decide+kernel⟩
abbrev zco:Stmt:=top 3
theorem zne:zae ["P","Q"] ["P","Q"] (za0 zco):=⟨rfl,rfl,rfl,by decide+kernel,rfl,by decide+kernel,by decide+kernel⟩
abbrev zch:Stmt:=top 4
theorem zna:zae ["line","P"] ["line","P"] (za0 zch):=⟨rfl,rfl,rfl,by decide+kernel,rfl,by decide+kernel,by decide+kernel⟩
abbrev zfh:Stmt:=top 5
theorem sc_turn:zae ["P","Q","R"] ["P","Q","R"] (za0 zfh):=⟨rfl,rfl,rfl,by decide+kernel,rfl,by decide+kernel,by decide+kernel⟩
abbrev zay:Stmt:=top 6
theorem zcg:zae ["points","greatest","scale","keys","P"] ["points"] (za0 zay):=⟨rfl,rfl,rfl,by decide+kernel,rfl,by decide+kernel,by decide+kernel⟩
abbrev zak:Stmt:=top 7
theorem zdw:zae ["things","points","thing","keys"] ["things"] (za0 zak):=⟨rfl,rfl,rfl,by decide+kernel,rfl,by decide+kernel,by decide+kernel⟩
abbrev zbt:Stmt:=top 9
theorem zdo:zae ["land","leaving","gone","rings","fence"] ["land"] (za0 zbt):=⟨rfl,rfl,rfl,by decide+kernel,rfl,by decide+kernel,by decide+kernel⟩
abbrev zb6:Stmt:=top 10
theorem zd7:zae ["land","leaving","P","Q"] ["land"] (za0 zb6):=⟨rfl,rfl,rfl,by decide+kernel,rfl,by decide+kernel,by decide+kernel⟩
abbrev zbk:Stmt:=top 11
theorem zaw:zae ["start","leaving","gone","rings","way","places","fence","P","ring","Q"] ["start","leaving","gone"] (za0 zbk):=⟨rfl,rfl,rfl,by decide+kernel,rfl,by decide+kernel,by decide+kernel⟩
abbrev zau:Stmt:=top 12
theorem zcv:zae ["P","Q","tips","best","tip"] ["P","Q","tips"] (za0 zau):=⟨rfl,rfl,rfl,by decide+kernel,rfl,by decide+kernel,by decide+kernel⟩
abbrev zal:Stmt:=top 13
theorem zd4:zae ["P","Q","one","other","side","other_side"] ["P","Q","one","other"] (za0 zal):=⟨rfl,rfl,rfl,by decide+kernel,rfl,by decide+kernel,by decide+kernel⟩
abbrev zb4:Stmt:=top 14
theorem zdb:zae ["ring","least","k"] ["ring"] (za0 zb4):=⟨rfl,rfl,rfl,by decide+kernel,rfl,by decide+kernel,by decide+kernel⟩
abbrev zc0:Stmt:=top 16
theorem zf9:zae ["_law_script","_law_k","_law_number"] ["_law_script","_law_k"] (za0 zc0):=⟨rfl,rfl,rfl,by decide+kernel,rfl,by decide+kernel,by decide+kernel⟩
abbrev zav:Stmt:=top 17
theorem zf7:zae ["_law_one","_law_other"] ["_law_one","_law_other"] (za0 zav):=⟨rfl,rfl,rfl,by decide+kernel,rfl,by decide+kernel,by decide+kernel⟩
abbrev zbj:Stmt:=top 18
theorem zgd:zae ["_law_east","_law_north","_law_share","_law_many"] ["_law_east","_law_north","_law_share"] (za0 zbj):=⟨rfl,rfl,rfl,by decide+kernel,rfl,by decide+kernel,by decide+kernel⟩
abbrev zbo:Stmt:=top 19
theorem zer:zae ["_law_script","_law_wide","_law_high","_law_cells_here","_law_k"] ["_law_script","_law_wide","_law_high"] (za0 zbo):=⟨rfl,rfl,rfl,by decide+kernel,rfl,by decide+kernel,by decide+kernel⟩
abbrev zc1:Stmt:=top 20
theorem zed:zae ["_law_cell_here","_law_x","_law_y","_law_rim"] ["_law_cell_here"] (za0 zc1):=⟨rfl,rfl,rfl,by decide+kernel,rfl,by decide+kernel,by decide+kernel⟩
abbrev zb8:Stmt:=top 21
theorem zcw:zae ["_law_cells_here","_law_sides","_law_cell_here","_law_ends_here","_law_k"] ["_law_cells_here"] (za0 zb8):=⟨rfl,rfl,rfl,by decide+kernel,rfl,by decide+kernel,by decide+kernel⟩
abbrev zap:Stmt:=top 22
theorem zeu:zae ["_law_starts","_law_begin","_law_end","_law_behind"] ["_law_starts","_law_begin","_law_end"] (za0 zap):=⟨rfl,rfl,rfl,by decide+kernel,rfl,by decide+kernel,by decide+kernel⟩
abbrev zbb:Stmt:=top 23
theorem zb0:zae ["_law_edges_here","_law_starts","_law_first","_law_last","_law_ways","_law_back_here","_law_begin","_law_end"] ["_law_edges_here"] (za0 zbb):=⟨rfl,rfl,rfl,by decide+kernel,rfl,by decide+kernel,by decide+kernel⟩
abbrev zbl:Stmt:=top 24
theorem zbg:zae ["_law_script","_law_cell_here","_law_p","_law_q","_law_r","_law_far","_law_share"] ["_law_script"] (za0 zbl):=⟨rfl,rfl,rfl,by decide+kernel,rfl,by decide+kernel,by decide+kernel⟩
abbrev zbi:Stmt:=top 25
theorem zgg:zae ["_law_place","_law_frame_here","_law_east"] ["_law_place","_law_frame_here"] (za0 zbi):=⟨rfl,rfl,rfl,by decide+kernel,rfl,by decide+kernel,by decide+kernel⟩
abbrev zbu:Stmt:=top 26
theorem zh3:zae ["_law_cells_here","_law_frame_here","_law_ways"] ["_law_cells_here","_law_frame_here"] (za0 zbu):=⟨rfl,rfl,rfl,by decide+kernel,rfl,by decide+kernel,by decide+kernel⟩
abbrev zbv:Stmt:=top 27
theorem zkg:zae ["_law_ways","_law_share"] ["_law_ways","_law_share"] (za0 zbv):=⟨rfl,rfl,rfl,by decide+kernel,rfl,by decide+kernel,by decide+kernel⟩
abbrev zc3:Stmt:=top 28
theorem zef:zae ["_law_ways","_law_share","_law_back_here","_law_first","_law_last"] ["_law_ways","_law_share"] (za0 zc3):=⟨rfl,rfl,rfl,by decide+kernel,rfl,by decide+kernel,by decide+kernel⟩
abbrev zb7:Stmt:=top 29
theorem zdt:zae ["_law_found","_law_back_here","_law_turned","_law_ring","_law_one"] ["_law_found","_law_back_here"] (za0 zb7):=⟨rfl,rfl,rfl,by decide+kernel,rfl,by decide+kernel,by decide+kernel⟩
abbrev zbp:Stmt:=top 30
theorem zcx:zae ["_law_ring","_law_total","_law_k","_law_other"] ["_law_ring"] (za0 zbp):=⟨rfl,rfl,rfl,by decide+kernel,rfl,by decide+kernel,by decide+kernel⟩
abbrev zb2:Stmt:=top 31
theorem zbf:zae ["_law_cells_here","_law_left","_law_parts_here","_law_part","_law_k","_law_near_here"] ["_law_cells_here"] (za0 zb2):=⟨rfl,rfl,rfl,by decide+kernel,rfl,by decide+kernel,by decide+kernel⟩
abbrev zc5:Stmt:=top 32
theorem zde:zae ["_law_cell_here","_law_part","_law_x","_law_y","_law_side","_law_over"] ["_law_cell_here","_law_part"] (za0 zc5):=⟨rfl,rfl,rfl,by decide+kernel,rfl,by decide+kernel,by decide+kernel⟩
abbrev zaq:Stmt:=top 33
theorem zca:zae ["_law_part","_law_wide","_law_high","_law_free","_law_x","_law_y"] ["_law_part","_law_wide","_law_high"] (za0 zaq):=⟨rfl,rfl,rfl,by decide+kernel,rfl,by decide+kernel,by decide+kernel⟩
abbrev zfb:Stmt:=top 34
theorem ze5:zae ["_law_script","_law_wide","_law_high","_law_cells_here","_law_frame_here","_law_ways","_law_found","_law_laces","_law_parts_here","_law_pockets_here","_law_part","_law_measure"] ["_law_script"] (za0 zfb):=⟨rfl,rfl,rfl,by decide+kernel,rfl,by decide+kernel,by decide+kernel⟩
structure FnAt(K:kM)(mg:Str->Option kB)(x:Str)(st:Stmt)(ps:List Str)(f:Addr)(fd:Qy):Prop where
 fn:Fun K x x st f fd
 bn:Binds K fd ps []
 mg:mg x=some (.ref f)
structure Txt(K:kM)(mg:Str->Option kB)(ad:Nat->Addr)(fd:Nat->Qy):Prop where
 before:FnAt K mg "before" zcd ["P","Q"] (ad 0) (fd 0)
 sign_of:FnAt K mg "sign_of" zcn ["number"] (ad 1) (fd 1)
 line_of:FnAt K mg "line_of" zco ["P","Q"] (ad 2) (fd 2)
 side_of:FnAt K mg "side_of" zch ["line","P"] (ad 3) (fd 3)
 turn:FnAt K mg "turn" zfh ["P","Q","R"] (ad 4) (fd 4)
 order_keys:FnAt K mg "order_keys" zay ["points"] (ad 5) (fd 5)
 by_points:FnAt K mg "by_points" zak ["things"] (ad 6) (fd 6)
 by_points_c:FunC K "by_points" "by_points" zak (ad 6) (fd 6) (ad 32) (ad 33)
 rings_of:FnAt K mg "rings_of" zbt ["land"] (ad 7) (fd 7)
 leaving_of:FnAt K mg "leaving_of" zb6 ["land"] (ad 8) (fd 8)
 way_round:FnAt K mg "way_round" zbk ["start","leaving","gone"] (ad 9) (fd 9)
 first_right:FnAt K mg "first_right" zau ["P","Q","tips"] (ad 10) (fd 10)
 is_met_sooner:FnAt K mg "is_met_sooner" zal ["P","Q","one","other"] (ad 11) (fd 11)
 from_least:FnAt K mg "from_least" zb4 ["ring"] (ad 12) (fd 12)
 law_cell:FnAt K mg "_law_cell" zc0 ["_law_script","_law_k"] (ad 13) (fd 13)
 law_divisor:FnAt K mg "_law_divisor" zav ["_law_one","_law_other"] (ad 14) (fd 14)
 law_point:FnAt K mg "_law_point" zbj ["_law_east","_law_north","_law_share"] (ad 15) (fd 15)
 law_cells:FnAt K mg "_law_cells" zbo ["_law_script","_law_wide","_law_high"] (ad 16) (fd 16)
 law_ends:FnAt K mg "_law_ends" zc1 ["_law_cell_here"] (ad 17) (fd 17)
 law_edges:FnAt K mg "_law_edges" zb8 ["_law_cells_here"] (ad 18) (fd 18)
 law_straight:FnAt K mg "_law_straight" zap ["_law_starts","_law_begin","_law_end"] (ad 19) (fd 19)
 law_long:FnAt K mg "_law_long" zbb ["_law_edges_here"] (ad 20) (fd 20)
 law_frame:FnAt K mg "_law_frame" zbl ["_law_script"] (ad 21) (fd 21)
 law_moved:FnAt K mg "_law_moved" zbi ["_law_place","_law_frame_here"] (ad 22) (fd 22)
 law_land:FnAt K mg "_law_land" zbu ["_law_cells_here","_law_frame_here"] (ad 23) (fd 23)
 law_told:FnAt K mg "_law_told" zbv ["_law_ways","_law_share"] (ad 24) (fd 24)
 law_back:FnAt K mg "_law_back" zc3 ["_law_ways","_law_share"] (ad 25) (fd 25)
 law_rings:FnAt K mg "_law_rings" zb7 ["_law_found","_law_back_here"] (ad 26) (fd 26)
 law_twice:FnAt K mg "_law_twice" zbp ["_law_ring"] (ad 27) (fd 27)
 law_parts:FnAt K mg "_law_parts" zb2 ["_law_cells_here"] (ad 28) (fd 28)
 law_near:FnAt K mg "_law_near" zc5 ["_law_cell_here","_law_part"] (ad 29) (fd 29)
 law_pockets:FnAt K mg "_law_pockets" zaq ["_law_part","_law_wide","_law_high"] (ad 30) (fd 30)
 law:FnAt K mg "law" zfb ["_law_script"] (ad 31) (fd 31)
 b_abs:mg "abs"=none
 b_isinstance:mg "isinstance"=none
 b_len:mg "len"=none
 b_list:mg "list"=none
 b_max:mg "max"=none
 b_min:mg "min"=none
 b_range:mg "range"=none
 b_sorted:mg "sorted"=none
 b_sum:mg "sum"=none
def zhr:Sp:=fun vs H Q _=>∃a b:Int,vs=[.int a,.int b]/\Q (.int (G a b)) H
def Bd3(n:Nat)(a b c:Int):Prop:=a.natAbs<2^n/\b.natAbs<2^n/\c.natAbs<2^n
def TB(n:Nat)(H:Hp)(p:Addr)(x y w:Int):Prop:=H p=some (.tup [.int x,.int y,.int w])/\Bd3 n x y w
theorem TB.same{n:Nat}{H H':Hp}{p:Addr}{x y w:Int}(h:TB n H p x y w)(g:Same H H'):TB n H' p x y w:=⟨g _ _ h.1,h.2⟩
theorem Pt.bd{m n:Nat}{x y w:Int}(h:Pt m x y w)(hm:m<=n:=by decide):Bd3 n x y w:=⟨ze1 h.lx hm,ze1 h.ly hm,ze1 h.lw hm⟩
def zq5:Sp:=fun vs H Q _=>∃(p q:Addr)(x1 y1 w1 x2 y2 w2:Int),vs=[.ref p,.ref q]/\TB 1000 H p x1 y1 w1/\TB 1000 H q x2 y2 w2/\Q (.bl (bef x1 y1 w1 x2 y2 w2)) H
def zpt:Sp:=fun vs H Q _=>∃z:Int,vs=[.int z]/\Q (.int (sgn z)) H
def zqp:Sp:=fun vs H Q _=>∃(p q:Addr)(x1 y1 w1 x2 y2 w2:Int),vs=[.ref p,.ref q]/\TB 1000 H p x1 y1 w1/\TB 1000 H q x2 y2 w2/\∀(r:Addr)(H':Hp),Same H H'->
 H' r=some (.tup [.int (lnA x1 y1 w1 x2 y2 w2),.int (lnB x1 y1 w1 x2 y2 w2),.int (lnC x1 y1 w1 x2 y2 w2)])->Q (.ref r) H'
theorem ln_bd{x1 y1 w1 x2 y2 w2:Int}(p:Bd3 1000 x1 y1 w1)(q:Bd3 1000 x2 y2 w2):Bd3 2001 (lnA x1 y1 w1 x2 y2 w2) (lnB x1 y1 w1 x2 y2 w2) (lnC x1 y1 w1 x2 y2 w2):=
 ⟨zoa (zhp p.2.1 q.2.2) (zhp p.2.2 q.2.1),zoa (zhp p.2.2 q.1) (zhp p.1 q.2.2),zoa (zhp p.1 q.2.1) (zhp p.2.1 q.1)⟩
def zpx:Sp:=fun vs H Q _=>∃(l p:Addr)(a b c x y w:Int),vs=[.ref l,.ref p]/\H l=some (.tup [.int a,.int b,.int c])/\Bd3 2001 a b c/\H p=some (.tup [.int x,.int y,.int w])/\Bd3 5000 x y w/\Q (.int (sgn (a*x+b*y+c*w))) H
def sp_turn:Sp:=fun vs H Q _=>∃(p q r:Addr)(x1 y1 w1 x2 y2 w2 x3 y3 w3:Int),vs=[.ref p,.ref q,.ref r]/\TB 1000 H p x1 y1 w1/\TB 1000 H q x2 y2 w2/\TB 5000 H r x3 y3 w3/\∀H',Same H H'->Q (.int (sgn (det3 x1 y1 w1 x2 y2 w2 x3 y3 w3))) H'
def zad(H H':Hp):Prop:=∀b xs,H b=some (.tup xs)->H' b=some (.tup xs)
theorem za6{H H':Hp}(g:Same H H'):zad H H':=fun b xs h=>g b _ h
theorem zc6{H:Hp}{D:Addr}{ys:List V}{o:HO}(h:H D=some (.lst ys)):zad H (upd H D o):=fun b xs q=>by
 rw[za7 (zqj q h (by intro z;cases z))]
 exact q
def iv_ldiv(a b:Int)(H₀:Hp):St->Hp->Prop:=fun σ H'=>H'=H₀/\∃x y:Int,σ=[some (.int x),some (.int y)]/\G x y=G a b
structure P3 where
 x:Int
 y:Int
 w:Int
theorem zj9(xs:List V):cutV xs (some 1) none=xs.drop 1:=by
 unfold cutV;rw[show(1:Int)=((1:Nat):Int) from rfl,HT.sIx_nat,HT.sIx_none];rcases xs with _|⟨x,xs⟩
 ·rfl
 ·rw[Qx (by rw[pJ];omega),kU (by rw[pT];omega)]
structure I2 where
 x:Int
 y:Int
def lw(s:Int)(a:I2):P3:=⟨a.x.fdiv (G (G a.x a.y) s),a.y.fdiv (G (G a.x a.y) s),s.fdiv (G (G a.x a.y) s)⟩
theorem zod{s:Int}(hs:0<s)(a:I2):∃g:Int,0<g/\(lw s a).x*g=a.x/\(lw s a).y*g=a.y/\(lw s a).w*g=s:=by
 refine⟨G (G a.x a.y) s,g3_gt hs,?_,?_,?_⟩
 ·exact zcu (by rw[G3];exact g3_da _ _ _)
 ·exact zcu (by rw[G3];exact g3_db _ _ _)
 ·exact zcu (by rw[G3];exact g3_dc _ _ _)
theorem zdc{k a b:Int}(hk:0<k):k*a<k*b↔a<b:=⟨fun h=>gQ h (UT hk),fun h=>Int.mul_lt_mul_of_pos_left h hk⟩
theorem zmt(g1 g2 g3 x1 y1 w1 x2 y2 w2 x3 y3 w3:Int):det3 (x1*g1) (y1*g1) (w1*g1) (x2*g2) (y2*g2) (w2*g2) (x3*g3) (y3*g3) (w3*g3)=g1*g2*g3*det3 x1 y1 w1 x2 y2 w2 x3 y3 w3:=by
 unfold det3 lnA lnB lnC;grind
theorem lw_inj{s:Int}(hs:0<s){a b:I2}(e1:(lw s a).x=(lw s b).x)(e2:(lw s a).y=(lw s b).y)(e3:(lw s a).w=(lw s b).w):a.x=b.x/\a.y=b.y:=by
 obtain⟨g1,hg1,a1,a2,a3⟩:=zod hs a;obtain⟨g2,hg2,b1,b2,b3⟩:=zod hs b;rw[e1] at a1;rw[e2] at a2;rw[e3] at a3;have wn:(lw s b).w≠0:=fun z=>by rw[z,jK] at b3;omega
 have g:g1=g2:=Int.eq_of_mul_eq_mul_left wn (a3.trans b3.symm);subst g;exact⟨a1.symm.trans b1,a2.symm.trans b2⟩
def LR{α:Type}(R:Hp->Addr->α->Prop)(H:Hp)(ys:List V)(as:List α):Prop:=ys.length=as.length/\∀(j:Nat)(v:V),ys[j]?=some v->∃(p:Addr)(a:α),v=.ref p/\as[j]?=some a/\R H p a
section
variable{α:Type}{R:Hp->Addr->α->Prop}
theorem LR.ts(hR:∀H H' p a,zad H H'->R H p a->R H' p a){H H':Hp}{ys:List V}{as:List α}(h:LR R H ys as)(g:zad H H'):LR R H' ys as:=⟨h.1,fun j v z=>by
 obtain⟨p,d,e,f,s⟩:=h.2 j v z;exact⟨p,d,e,f,hR _ _ _ _ g s⟩⟩
theorem LR.nil{H:Hp}:LR R H [] []:=⟨rfl,fun j v z=>by cases z⟩
theorem LR.app{H:Hp}{ys zs:List V}{as bs:List α}(h:LR R H ys as)(h':LR R H zs bs):LR R H (ys++zs) (as++bs):=by
 refine⟨by rw[kJ,kJ,h.1,h'.1],fun j v z=>?_⟩
 by_cases hj:j<ys.length
 ·rw[uH hj] at z;obtain⟨q,e,f,g,t⟩:=h.2 j v z;exact⟨q,e,f,by rw[uH (by rw[←h.1];exact hj)];exact g,t⟩
 ·rw[pO (by omega)] at z
  obtain⟨q,e,f,g,t⟩:=h'.2 _ v z;exact⟨q,e,f,by rw[pO (by rw[←h.1];omega),←h.1];exact g,t⟩
theorem LR.one{H:Hp}{p:Addr}{a:α}(s:R H p a):LR R H [.ref p] [a]:=⟨rfl,fun j v z=>by
 cases j with
 |zero=>cases z;exact⟨p,a,rfl,rfl,s⟩
 |succ n=>cases z⟩
theorem LR.snoc{H:Hp}{ys:List V}{as:List α}{p:Addr}{a:α}(h:LR R H ys as)(s:R H p a):LR R H (ys++[.ref p]) (as++[a]):=h.app (.one s)
theorem LR.drop{H:Hp}{ys:List V}{as:List α}(h:LR R H ys as)(n:Nat):LR R H (ys.drop n) (as.drop n):=by
 refine⟨by rw[pT,pT,h.1],fun j v z=>?_⟩
 rw[Uo] at z;obtain⟨q,e,f,g,t⟩:=h.2 _ v z;exact⟨q,e,f,by rw[Uo];exact g,t⟩
theorem LR.at{H:Hp}{ys:List V}{as:List α}(h:LR R H ys as){j:Nat}(hj:j<ys.length):∃(p:Addr)(a:α),ys[j]?=some (.ref p)/\as[j]?=some a/\R H p a:=by
 obtain⟨p,a,e,f,r⟩:=h.2 j ys[j] (kR hj);exact⟨p,a,by rw[kR hj,e],f,r⟩
theorem LR.map{β:Type}{f:β->α}{H:Hp}{ys:List V}{bs:List β}(h:LR (fun H p b=>R H p (f b)) H ys bs):LR R H ys (bs.map f):=by
 refine⟨by rw[kO,h.1],fun j v z=>?_⟩
 obtain⟨q,e,g,k,t⟩:=h.2 _ v z;exact⟨q,f e,g,by rw[pG,k];rfl,t⟩
theorem LR.cons_inv{H:Hp}{v:V}{vs:List V}{as:List α}(h:LR R H (v::vs) as):∃a as',as=a::as'/\(∃p,v=.ref p/\R H p a)/\LR R H vs as':=by
 cases as with
 |nil=>cases h.1
 |cons a as'=>
  refine⟨a,as',rfl,?_,Da h.1,fun j u z=>h.2 (j+1) u z⟩;obtain⟨p,b,e,f,r⟩:=h.2 0 v rfl
  cases f;exact⟨p,e,r⟩
theorem LR.cons{H:Hp}{v:V}{vs:List V}{a:α}{as:List α}(h:∃p,v=.ref p/\R H p a)(t:LR R H vs as):LR R H (v::vs) (a::as):=by
 obtain⟨p,rfl,r⟩:=h;exact(LR.one r).app t
theorem LR.perm{H:Hp}{vs ys:List V}(h:vs.Perm ys):∀{as:List α},LR R H vs as->∃as',as.Perm as'/\LR R H ys as':=by
 induction h with
 |nil=>exact fun{as} t=>⟨as,.refl _,t⟩
 |cons v _ ih=>
  intro as t;obtain⟨a,as',rfl,hp,t'⟩:=t.cons_inv;obtain⟨bs,pb,tb⟩:=ih t';exact⟨a::bs,pb.cons a,.cons hp tb⟩
 |swap u v l=>
  intro as t;obtain⟨a,as',rfl,hp,t'⟩:=t.cons_inv;obtain⟨b,as2,rfl,hq,t2⟩:=t'.cons_inv;exact⟨b::a::as2,.swap b a as2,.cons hq (.cons hp t2)⟩
 |trans _ _ i1 i2=>
  intro as t;obtain⟨bs,p1,t1⟩:=i1 t;obtain⟨cs,p2,t2⟩:=i2 t1;exact⟨cs,p1.trans p2,t2⟩
def zlh(R:Hp->Addr->α->Prop)(as:List α)(H2:Hp)(D:Addr):Nat->List V->Hp->Prop:=fun i ys H'=>Same H2 H'/\H' D=some (.lst ys)/\ys.length=i/\LR R H' ys (as.take i)
theorem zfp{as:List α}{H2:Hp}{D:Addr}(hD:H2 D=none):zlh R as H2 D 0 [] (upd H2 D (.lst [])):=⟨za2 hD _,upd_same,rfl,by rw[Qe];exact .nil⟩
theorem zfk(hR:∀H H' p a,zad H H'->R H p a->R H' p a){m:Nat}{H2 H3 H4:Hp}{D:Addr}{i:Nat}{ys:List V}{p:Addr}{as:List α}{a:α}(hD:H2 D=none)(hm:m<100000)(iv:zlh R as H2 D i ys H3)(hi:i<m)(ha:as[i]?=some a)(g4:Same H3 H4)(hp:R H4 p a):CPut m (zlh R as H2 D) D i (.ref p) H4:=by
 obtain⟨g3',hD3,hy,hall⟩:=iv;have hD4:=g4 _ _ hD3;refine cw_put hi hD4 (by rw[hy];exact CC hi (CC hm (by decide))) ⟨zaj (g3'.trans g4) hD,upd_same,by rw[kJ,hy];rfl,?_⟩
 rw[kq,ha];exact((hall.ts hR (za6 g4)).snoc hp).ts hR (zc6 hD4)
end
theorem zfv{X:Cx}{K':kM}(hK:X.K=K')(hu:X.A.units+64<cLine):OpR X (Ql .NotIn) (zgu K'):=by subst hK;exact zp9 hu
theorem zi1{H H' H'':Hp}(a:zad H H')(b:zad H' H''):zad H H'':=fun p xs h=>b _ _ (a _ _ h)
def QH(H:Hp)(p:Addr)(r:Q3):Prop:=H p=some (.tup [.int r.x,.int r.y,.int r.w])/\PQ 700 r
theorem zcr:∀(H H':Hp)(p:Addr)(r:Q3),zad H H'->QH H p r->QH H' p r:=fun _ _ _ _ g h=>⟨g _ _ h.1,h.2⟩
theorem QH.same{H H':Hp}{p:Addr}{r:Q3}(h:QH H p r)(g:Same H H'):QH H' p r:=⟨g _ _ h.1,h.2⟩
theorem QH.tb{H:Hp}{p:Addr}{r:Q3}(h:QH H p r){n:Nat}(hn:700<=n:=by decide):TB n H p r.x r.y r.w:=⟨h.1,Pt.bd h.2 hn⟩
theorem LR.same{H H':Hp}{ys:List V}{ps:List Q3}(h:LR QH H ys ps)(g:Same H H'):LR QH H' ys ps:=h.ts zcr (za6 g)
theorem LR.take{α:Type}{R:Hp->Addr->α->Prop}{H:Hp}{ys:List V}{as:List α}(h:LR R H ys as)(n:Nat):LR R H (ys.take n) (as.take n):=by
 refine⟨by rw[pI,pI,h.1],fun j v z=>?_⟩
 rw[Bo] at z
 by_cases c:j<n
 ·rw[if_pos c] at z;obtain⟨q,e,f,g,t⟩:=h.2 _ v z;exact⟨q,e,f,by rw[Bo,if_pos c];exact g,t⟩
 ·rw[if_neg c] at z
  cases z
section
variable{P:pA}{w:pR}{K:kM}{mg:Str->Option kB}{base:Heap}{ad:Nat->Addr}{fd:Nat->Qy}
theorem small10k{n:Nat}(h:n<=20000):n<sizeLine:=uS h (by decide)
def kQ(r:Q3):List Key:=[.inl r.x,.inl r.y,.inl r.w]
theorem zf8{p q:Q3}(h:kQ p=kQ q):p=q:=by
 obtain⟨x,y,w⟩:=p;obtain⟨x',y',w'⟩:=q;unfold kQ at h
 cases h;rfl
def KyOk(H:Hp)(kvs:List (List Key×V))(g:Int)(ps:List Q3):Prop:=∀p,p∈ps->∃b,valV kvs (kQ p)=some (.ref b)/\H b=some (.tup [.int (kyQ g p).1,.int (kyQ g p).2])
theorem KyOk.ts{H H':Hp}{kvs:List (List Key×V)}{g:Int}{ps:List Q3}(h:KyOk H kvs g ps)(t:zad H H'):KyOk H' kvs g ps:=fun p hp=>by
 obtain⟨b,e,hb⟩:=h p hp;exact⟨b,e,t _ _ hb⟩
def sp_okeys:Sp:=fun vs H Q _=>∃(l:Addr)(ys:List V)(ps:List Q3),vs=[.ref l]/\H l=some (.lst ys)/\ys.length<=20000/\LR QH H ys ps/\
 ∀d kvs g(qs:List Q3) H',Same H H'->H' d=some (.dT kvs)->0<g->(∀p,p∈ps->p.w<=g)->KyOk H' kvs g ps->kvs.map jL=qs.map kQ->qs.Nodup->(∀p,p∈qs↔p∈ps)->qs.length<=ps.length->Q (.ref d) H'
theorem zl6{H:Hp}{D:Addr}{kvs:List (List Key×V)}{o:HO}(h:H D=some (.dT kvs)):zad H (upd H D o):=fun b xs q=>by
 rw[za7 (fun z=>by rw[z,h] at q;cases q)]
 exact q
theorem zix(T:Txt K mg ad fd):FnOk P w K mg base CX0 1 (ad 5) (fd 5) ["points"] sp_okeys:=by
 refine T.order_keys.fn.ok zcg (fun vs H Q E h=>?_) (fun cdv A outer s H vs Q E hr h=>?_)
 ·obtain⟨l,ys,ps,rfl,_⟩:=h;rfl
 obtain⟨l,ys,ps,rfl,hl,hn,hp,k⟩:=h;have hs:∀p,p∈ps->0<p.w/\p.x.natAbs<2^720/\p.y.natAbs<2^720/\p.w.natAbs<2^720:=fun p hp'=>by
  obtain⟨j,hj⟩:=uG.mp hp';have hj':j<ys.length:=by rw[hp.1];exact(kH.mp hj).1
  obtain⟨b,r,_,e2,hr⟩:=hp.at hj';rw[hj] at e2
  cases e2;exact⟨hr.2.pos,ze1 hr.2.lx (by decide),ze1 hr.2.ly (by decide),ze1 hr.2.lw (by decide)⟩
 have zY:=@pss5;have zc:=@zbe;have yq:=@zp7;have zg:=@pa1;have zy:=@zee;unfold L2.CompBody at zy;have zq:=@zc8;have qpv:=@pv;have zj:=@zbd;have zF:=@zfd;have zd:=@zel;have za:=@zbr;have yr:=@pk_cons;have yt:=@pk_nil;have zb:=@zdx;have zO:=@zgl;have zm:=@zd0;have zf:=@zah;have zn:=@zf4;have zL:=@zjx;have yd:=@zje;have zZ:=@zl4;have zo:=@zdp;have zk:=@pa2;have zp:=@zc7;have ze:=@zaz;generalize @L2.PE=QE,@L2.PT=QT,@L2.PW=QW,@L2.PA=QA,@L2.PS=QS,@L2.PSs=QSs,@L2.PG=QG,@L2.PGs=QGs,@L2.PI=QI,@L2.PO=QO,@L2.PIf=QIf,@L2.PC=QC,@L2.PK=QK at zY zc yq zg zy zq qpv zj zF zd za yr yt zb zO zm zf zn zL yd zZ zo zk zp ze⊢;refine⟨_,
  (zY
   (zc (i:=1) zcg.nd rfl (kj rfl) (yq (zq6 rfl) rfl T.b_max bt_max (zg (zy (dsc:=za0 zay) (N:=["points","greatest","scale","keys","P"]) (own:=["P"]) (ix:=[]) rfl rfl rfl ⟨rfl,by decide+kernel,by decide+kernel,by decide+kernel,by decide+kernel⟩ (zq (qpv 0)) (fun cl C fp s2 H2 xe=>⟨(zj (i:=0) (show Qf (["P"]:List Str) from by decide+kernel) rfl (kj rfl)),zF,(zd za5 (qpv 0) za (fun _ _=>rfl))⟩)) zdl) (yr za yt)))
   (zc (i:=2) zcg.nd rfl (kj rfl) (zb zan (qpv 1) (qpv 1)))
   (zc (i:=3) zcg.nd rfl (kj rfl) zO)
   (zm pK rfl (zq (qpv 0)) (zj (i:=4) zcg.nd rfl (kj rfl)) (zf (zn (zL (yd (zem hr) (qpv 4) (qpv 3))) (zf (zZ (zem hr) (qpv 3) (qpv 4) (zo (zk (zb zea (zb zan (zd za5 (qpv 4) za (fun _ _=>rfl)) (qpv 2)) (zd za5 (qpv 4) za (fun _ _=>rfl))) za8 (zb zea (zb zan (zd za5 (qpv 4) za (fun _ _=>rfl)) (qpv 2)) (zd za5 (qpv 4) za (fun _ _=>rfl))) za8)) rfl)) zp)))
   (ze (qpv 3)))
  ,?_⟩
 clear zY zc yq zg zy zq qpv zj zF zd za yr yt zb zO zm zf zn zL yd zZ zo zk zp ze QE QT QW QA QS QSs QG QGs QI QO QIf QC QK
 dsimp! [L2.start]
 simp! [tCBK];refine zc2 ?_;simp! [zd1];refine⟨⟨_,.of hl⟩,fun D hD=>?_⟩;refine zbx (xs:=ys) (fun i zs H'=>Same H H'/\H' D=some (.lst zs)/\zs=((ps.take i).map fun p=>V.int p.w)) ⟨za2 hD _,upd_same,by rw[Qe];rfl⟩ (fun i zs H' p=>.of (p.1 _ _ hl)) ?_ ?_
 ·rintro i zs H1 v hi hv ⟨g1,hD1,ez⟩;obtain⟨p,r,rfl,hr',hq⟩:=hp.2 i v hv;have hq1:H1 p=some (.tup [.int r.x,.int r.y,.int r.w]):=g1 _ _ hq.1;simp! [hq1];refine cw_put hi hD1 ?_ ⟨zaj g1 hD,upd_same,?_⟩
  ·rw[ez,kO,pI];exact small10k (by have:=Cq i ps.length;omega)
  ·rw[kq,hr',ez,pV];rfl
 ·rintro zs H1 ⟨g1,hD1,ez⟩;rw[kU (by rw[hp.1];exact kG _)] at ez
  refine⟨D,ps.map fun p=>p.w,1,rfl,rfl,by rw[hD1,ez,Ur];rfl,fun g gm gi=>?_⟩
  have g0:0<g:=by
   rcases gi with gi|gi
   ·obtain⟨p,hp',e⟩:=kW.mp gi;have:=(hs p hp').1;omega
   ·omega
  have gs:g.natAbs<2^720:=by
   rcases gi with gi|gi
   ·obtain⟨p,hp',e⟩:=kW.mp gi;rw[←e];exact(hs p hp').2.2.2
   ·rw[gi.2];decide
  refine⟨g,rfl,g,rfl,cbig gs gs,fun d hd=>?_⟩;have gg:(g*g).natAbs<2^1440:=by
   rw[Qd];exact ku (Cg gs gs) (by rw[←Dg];exact UM (by decide) (by decide))
  refine zbc ?_;simp! [zd1];have g2:=za2 hd (HO.dT []);refine⟨⟨_,.of (g2 _ _ (g1 _ _ hl))⟩,?_⟩;refine zba (K:=K) (a:=l) (xs:=ys) (fun i σ H'=>Same H1 H'/\∃(kvs:List (List Key×V))(o:Option V),σ=[some (.ref l),some (.int g),some (.int (g*g)),some (.ref d),o]/\H' d=some (.dT kvs)/\kvs.length<=i/\KyOk H' kvs g (ps.take i)/\(∀p,(valV kvs (kQ p)).isSome=true->p∈ps.take i)/\∃qs:List Q3,kvs.map jL=qs.map kQ/\qs.Nodup/\(∀p,p∈qs↔p∈ps.take i)/\qs.length<=i)
   ⟨g2,[],none,rfl,upd_same,kG _,fun p hp'=>(by rw[Qe] at hp';cases hp'),fun p z=>(by cases z),[],rfl,.nil,fun p=>(by rw[Qe]),kG _⟩ (fun i σ H' _ iv=>.of (iv.1 _ _ (g1 _ _ hl))) ?_ ?_
  ·intro _ _;rintro i v σ H2 hi ⟨g3,kvs,o,rfl,hd2,hk,ky,kb,qs,q1,q2,q3,q4⟩;obtain⟨p,r,rfl,hr',hq⟩:=hp.2 i v hi;have hq2:H2 p=some (.tup [.int r.x,.int r.y,.int r.w]):=g3 _ _ (g1 _ _ hq.1);simp! [zkp,sDPut,hq2];obtain⟨r0,rx,ry,rw'⟩:=hs r (kz hr');have wn:r.w≠0:=by omega
   rw[kq,hr'];refine⟨_,.t (k:=kQ r) hd2 hq2,ite2 (fun c=>⟨cbig rx gg,cdivb wn rw',cbig ry gg,cdivb wn rw',fun t ht=>?_⟩) fun c=>?_⟩
   ·rw[ui _ (by omega),ui _ (by omega)]
    have nv:valV kvs (kQ r)=none:=by
     cases e:valV kvs (kQ r) with
     |none=>rfl
     |some u=>rw[e] at c;cases c
    have g4:=za2 ht (HO.tup [V.int (r.x*(g*g)/r.w),V.int (r.y*(g*g)/r.w)]);have ht4:upd H2 t (HO.tup [V.int (r.x*(g*g)/r.w),V.int (r.y*(g*g)/r.w)]) t=some (HO.tup [V.int (r.x*(g*g)/r.w),V.int (r.y*(g*g)/r.w)]):=upd_same;generalize upd H2 t (HO.tup [V.int (r.x*(g*g)/r.w),V.int (r.y*(g*g)/r.w)])=H4 at*;have hd4:=g4 _ _ hd2;refine⟨_,.t (k:=kQ r) hd4 (g4 _ _ hq2) (small10k (by have:=(kH.mp hi).1;omega)),zaj (g3.trans g4) hd,_,upd_same,pL (zbn _ _ _) (by omega),fun p' hp'=>?_,fun p' z=>?_,qs++[r],?_,?_,fun p'=>?_,by rw[kJ];exact vS q4⟩
    ·rw[zda]
     by_cases e:kQ p'=kQ r
     ·rw[if_pos e];have e':=zf8 e;subst e';exact⟨t,rfl,zl6 hd4 _ _ ht4⟩
     ·rw[if_neg e];rcases ke.mp hp' with hp'|hp'
      ·obtain⟨b,e1,e2⟩:=ky p' hp';exact⟨b,e1,zl6 hd4 _ _ (g4 _ _ e2)⟩
      ·have e':p'=r:=by simpa using hp'
       exact absurd (by rw[e']) e
    ·rw[zda] at z
     by_cases e:kQ p'=kQ r
     ·rw[zf8 e];exact ki _ (by simp)
     ·rw[if_neg e] at z;exact QU _ (kb p' z)
    ·rw[zm2 _ nv,pV,pV,q1];rfl
    ·exact Qb.mpr ⟨q2,Qv _ _,fun a ha b hb e=>by
      rw[kX.mp hb] at e;subst e;obtain⟨b',e1,_⟩:=ky a ((q3 a).mp ha);rw[nv] at e1
      cases e1⟩
    ·rw[ke,ke,q3]
     simp
   ·have z:(valV kvs (kQ r)).isSome=true:=by
     cases e:(valV kvs (kQ r)).isSome with
     |true=>rfl
     |false=>exact absurd (by rw[e];rfl) c
    refine⟨g3,kvs,hd2,by omega,fun p' hp'=>?_,fun p' z'=>QU _ (kb p' z'),qs,q1,q2,fun p'=>?_,by omega⟩
    rcases ke.mp hp' with hp'|hp'
    ·exact ky p' hp'
    ·have e':p'=r:=by simpa using hp'
     rw[e'];exact ky r (kb r z)
    ·rw[ke,q3];refine⟨.inl,fun h=>h.elim id fun h=>?_⟩;have e':p'=r:=by simpa using h
     rw[e'];exact kb r z
  ·rintro σ H2 ⟨g3,kvs,o,rfl,hd2,hk,ky,kb,qs,q1,q2,q3,q4⟩;rw[kU (by rw[hp.1];exact kG _)] at ky q3
   simp! [];exact k d kvs g qs H2 (g1.trans g3) hd2 g0 (fun p hp'=>gm _ (kW.mpr ⟨p,hp',rfl⟩)) ky q1 q2 q3 (by rw[←hp.1];exact q4)
theorem zof(T:Txt K mg ad fd):FnOk P w K mg base CX0 1 (ad 0) (fd 0) ["P","Q"] zq5:=by
 refine T.before.fn.ok zh1 (fun vs H Q E h=>?_) (fun cdv A outer s H vs Q E hr h=>?_)
 ·obtain⟨p,q,x1,y1,w1,x2,y2,w2,rfl,_⟩:=h;rfl
 obtain⟨p,q,x1,y1,w1,x2,y2,w2,rfl,⟨hp,pp⟩,⟨hq,pq⟩,k⟩:=h;have zA:=@pss4;have zc:=@zbe;have zb:=@zdx;have zd:=@zel;have qpv:=@pv;have za:=@zbr;have zn:=@zf4;have zr:=@zcl;have zf:=@zah;have ze:=@zaz;have zJ:=@zgq;have zp:=@zc7;generalize @L2.PE=QE,@L2.PT=QT,@L2.PW=QW,@L2.PA=QA,@L2.PS=QS,@L2.PSs=QSs,@L2.PG=QG,@L2.PGs=QGs,@L2.PI=QI,@L2.PO=QO,@L2.PIf=QIf at zA zc zb zd qpv za zn zr zf ze zJ zp⊢;refine⟨_,
  (zA
   (zc (i:=2) zh1.nd rfl (kj rfl) (zb zan (zd za5 (qpv 0) za (fun _ _=>rfl)) (zd za5 (qpv 1) za (fun _ _=>rfl))))
   (zc (i:=3) zh1.nd rfl (kj rfl) (zb zan (zd za5 (qpv 1) za (fun _ _=>rfl)) (zd za5 (qpv 0) za (fun _ _=>rfl))))
   (zn (zr zpo (qpv 2) (qpv 3) (nomark _)) (zf (ze (zJ zj7 (qpv 2) (qpv 3) (nomark _)))) zp)
   (ze (zJ zj7 (zb zan (zd za5 (qpv 0) za (fun _ _=>rfl)) (zd za5 (qpv 1) za (fun _ _=>rfl))) (zb zan (zd za5 (qpv 1) za (fun _ _=>rfl)) (zd za5 (qpv 0) za (fun _ _=>rfl))) (nomark _))))
  ,?_⟩
 clear zA zc zb zd qpv za zn zr zf ze zJ zp QE QT QW QA QS QSs QG QGs QI QO QIf
 dsimp! [L2.start]
 simp! [hp,hq];refine⟨cbig pp.1 pq.2.2,cbig pq.1 pp.2.2,?_⟩;unfold bef at k;refine ite2 (fun c=>?_) (fun c=>⟨cbig pp.2.1 pq.2.2,cbig pq.2.1 pp.2.2,?_⟩)
 ·have c':¬x1*w2=x2*w1:=by simpa using c
  rw[if_neg c'] at k;exact k
 ·have c':x1*w2=x2*w1:=by simpa using c
  rw[if_pos c'] at k;exact k
theorem zmx(T:Txt K mg ad fd):FnOk P w K mg base CX0 1 (ad 1) (fd 1) ["number"] zpt:=by
 refine T.sign_of.fn.ok zms (fun vs H Q E h=>?_) (fun cdv A outer s H vs Q E hr h=>?_)
 ·obtain⟨z,rfl,_⟩:=h;rfl
 obtain⟨z,rfl,k⟩:=h;have zw:=@pss3;have zn:=@zf4;have zr:=@zcl;have qpv:=@pv;have za:=@zbr;have zf:=@zah;have ze:=@zaz;have zp:=@zc7;have yb:=@pe_un;generalize @L2.PE=QE,@L2.PT=QT,@L2.PW=QW,@L2.PA=QA,@L2.PS=QS,@L2.PSs=QSs,@L2.PG=QG,@L2.PGs=QGs,@L2.PI=QI,@L2.PO=QO,@L2.PIf=QIf at zw zn zr qpv za zf ze zp yb⊢;refine⟨_,
  (zw
   (zn (zr op_gt (qpv 0) za (nomark _)) (zf (ze za)) zp)
   (zn (zr zj7 (qpv 0) za (nomark _)) (zf (ze (yb zns za))) zp)
   (ze za))
  ,?_⟩
 clear zw zn zr qpv za zf ze zp yb QE QT QW QA QS QSs QG QGs QI QO QIf
 dsimp! [L2.start]
 simp! [];unfold sgn at k;refine ite2 (fun c=>?_) (fun c=>ite2 (fun c2=>?_) (fun c2=>?_))
 ·rw[if_pos (of_decide_eq_true c)] at k;exact k
 ·rw[if_neg (fun z=>c (decide_eq_true z)),if_pos (of_decide_eq_true c2)] at k;exact k
 ·rw[if_neg (fun z=>c (decide_eq_true z)),if_neg (fun z=>c2 (decide_eq_true z))] at k;exact k
theorem znl(T:Txt K mg ad fd):FnOk P w K mg base CX0 1 (ad 2) (fd 2) ["P","Q"] zqp:=by
 refine T.line_of.fn.ok zne (fun vs H Q E h=>?_) (fun cdv A outer s H vs Q E hr h=>?_)
 ·obtain⟨p,q,x1,y1,w1,x2,y2,w2,rfl,_⟩:=h;rfl
 obtain⟨p,q,x1,y1,w1,x2,y2,w2,rfl,⟨hp,pp⟩,⟨hq,pq⟩,k⟩:=h;have zf:=@zah;have ze:=@zaz;have zo:=@zdp;have zt:=@pa3;have zb:=@zdx;have zd:=@zel;have qpv:=@pv;have za:=@zbr;generalize @L2.PE=QE,@L2.PT=QT,@L2.PW=QW,@L2.PA=QA,@L2.PS=QS,@L2.PSs=QSs,@L2.PG=QG,@L2.PGs=QGs,@L2.PI=QI,@L2.PO=QO,@L2.PIf=QIf at zf ze zo zt zb zd qpv za⊢;refine⟨_,
  (zf (ze (zo (zt (zb zcp (zb zan (zd za5 (qpv 0) za (fun _ _=>rfl)) (zd za5 (qpv 1) za (fun _ _=>rfl))) (zb zan (zd za5 (qpv 0) za (fun _ _=>rfl)) (zd za5 (qpv 1) za (fun _ _=>rfl)))) za8 (zb zcp (zb zan (zd za5 (qpv 0) za (fun _ _=>rfl)) (zd za5 (qpv 1) za (fun _ _=>rfl))) (zb zan (zd za5 (qpv 0) za (fun _ _=>rfl)) (zd za5 (qpv 1) za (fun _ _=>rfl)))) za8 (zb zcp (zb zan (zd za5 (qpv 0) za (fun _ _=>rfl)) (zd za5 (qpv 1) za (fun _ _=>rfl))) (zb zan (zd za5 (qpv 0) za (fun _ _=>rfl)) (zd za5 (qpv 1) za (fun _ _=>rfl)))) za8))))
  ,?_⟩
 clear zf ze zo zt zb zd qpv za QE QT QW QA QS QSs QG QGs QI QO QIf
 dsimp! [L2.start]
 simp! [hp,hq];exact⟨cbig pp.2.1 pq.2.2,cbig pp.2.2 pq.2.1,cbig pp.2.2 pq.1,cbig pp.1 pq.2.2,cbig pp.1 pq.2.1,cbig pp.2.1 pq.1,fun r hr=>k r _ (za2 hr _) upd_same⟩
theorem zn6(T:Txt K mg ad fd):FnOk P w K mg base CX0 2 (ad 3) (fd 3) ["line","P"] zpx:=by
 refine T.side_of.fn.ok zna (fun vs H Q E h=>?_) (fun cdv A outer s H vs Q E hr h=>?_)
 ·obtain⟨l,p,a,b,c,x,y,w,rfl,_⟩:=h;rfl
 obtain⟨l,p,a,b,c,x,y,w,rfl,hl,⟨la,lb,lc⟩,hp,⟨lx,ly,lw⟩,k⟩:=h;have zf:=@zah;have ze:=@zaz;have zh:=@zbh;have zg:=@pa1;have zb:=@zdx;have zd:=@zel;have qpv:=@pv;have za:=@zbr;generalize @L2.PE=QE,@L2.PT=QT,@L2.PW=QW,@L2.PA=QA,@L2.PS=QS,@L2.PSs=QSs,@L2.PG=QG,@L2.PGs=QGs,@L2.PI=QI,@L2.PO=QO,@L2.PIf=QIf at zf ze zh zg zb zd qpv za⊢;refine⟨_,
  (zf (ze (zh (zmx T) (hr.mono (by decide)) rfl T.sign_of.mg T.sign_of.fn.kp T.sign_of.bn .nil pass0 (zg (zb zar (zb zar (zb zan (zd za5 (qpv 0) za (fun _ _=>rfl)) (zd za5 (qpv 1) za (fun _ _=>rfl))) (zb zan (zd za5 (qpv 0) za (fun _ _=>rfl)) (zd za5 (qpv 1) za (fun _ _=>rfl)))) (zb zan (zd za5 (qpv 0) za (fun _ _=>rfl)) (zd za5 (qpv 1) za (fun _ _=>rfl)))) za8))))
  ,?_⟩
 clear zf ze zh zg zb zd qpv za QE QT QW QA QS QSs QG QGs QI QO QIf
 dsimp! [L2.start]
 simp! [zpt,hl,hp];exact⟨cbig la lx,cbig lb ly,cbig lc lw,k⟩
theorem zld(T:Txt K mg ad fd):FnOk P w K mg base CX0 3 (ad 4) (fd 4) ["P","Q","R"] sp_turn:=by
 refine T.turn.fn.ok sc_turn (fun vs H Q E h=>?_) (fun cdv A outer s H vs Q E hr h=>?_)
 ·obtain⟨p,q,r,x1,y1,w1,x2,y2,w2,x3,y3,w3,rfl,_⟩:=h;rfl
 obtain⟨p,q,r,x1,y1,w1,x2,y2,w2,x3,y3,w3,rfl,hp,hq,hr',k⟩:=h;have zf:=@zah;have ze:=@zaz;have zh:=@zbh;have zk:=@pa2;have qpv:=@pv;generalize @L2.PE=QE,@L2.PT=QT,@L2.PW=QW,@L2.PA=QA,@L2.PS=QS,@L2.PSs=QSs,@L2.PG=QG,@L2.PGs=QGs,@L2.PI=QI,@L2.PO=QO,@L2.PIf=QIf at zf ze zh zk qpv⊢;refine⟨_,
  (zf (ze (zh (zn6 T) (hr.mono (by decide)) rfl T.side_of.mg T.side_of.fn.kp T.side_of.bn .nil pass0 (zk (zh (znl T) (hr.mono (by decide)) rfl T.line_of.mg T.line_of.fn.kp T.line_of.bn .nil pass0 (zk (qpv 0) za1 (qpv 1) za1)) zby (qpv 2) za1))))
  ,?_⟩
 clear zf ze zh zk qpv QE QT QW QA QS QSs QG QGs QI QO QIf
 dsimp! [L2.start]
 simp! [zqp,zpx];exact⟨x1,y1,w1,hp,x2,y2,w2,hq,fun l H2 g2 hl=>⟨_,_,_,hl,ln_bd hp.2 hq.2,_,_,_,(hr'.same g2).1,hr'.2,k H2 g2⟩⟩
def sgD(a b c:Q3):Int:=sgn (det3 a.x a.y a.w b.x b.y b.w c.x c.y c.w)
def soon(a b c d:Q3):Bool:=if sgD a b c=sgD a b d then decide (sgD a c d<0) else decide (sgD a b c<sgD a b d)
def sp_soon:Sp:=fun vs H Q _=>∃(p q r t:Addr)(a b c d:Q3),vs=[.ref p,.ref q,.ref r,.ref t]/\QH H p a/\QH H q b/\QH H r c/\QH H t d/\∀H',Same H H'->Q (.bl (soon a b c d)) H'
theorem zgi(T:Txt K mg ad fd):FnOk P w K mg base CX0 4 (ad 11) (fd 11) ["P","Q","one","other"] sp_soon:=by
 refine T.is_met_sooner.fn.ok zd4 (fun vs H Q E h=>?_) (fun cdv A outer s H vs Q E hr h=>?_)
 ·obtain⟨p,q,r,t,a,b,c,d,rfl,_⟩:=h;rfl
 obtain⟨p,q,r,t,a,b,c,d,rfl,hp,hq,hc,hd,k⟩:=h;have zA:=@pss4;have zc:=@zbe;have zh:=@zbh;have zt:=@pa3;have qpv:=@pv;have zn:=@zf4;have zr:=@zcl;have zf:=@zah;have ze:=@zaz;have zJ:=@zgq;have zp:=@zc7;have za:=@zbr;generalize @L2.PE=QE,@L2.PT=QT,@L2.PW=QW,@L2.PA=QA,@L2.PS=QS,@L2.PSs=QSs,@L2.PG=QG,@L2.PGs=QGs,@L2.PI=QI,@L2.PO=QO,@L2.PIf=QIf at zA zc zh zt qpv zn zr zf ze zJ zp za⊢;refine⟨_,
  (zA
   (zc (i:=4) zd4.nd rfl (kj rfl) (zh (zld T) (hr.mono (by decide)) rfl T.turn.mg T.turn.fn.kp T.turn.bn .nil pass0 (zt (qpv 0) za1 (qpv 1) za1 (qpv 2) za1)))
   (zc (i:=5) zd4.nd rfl (kj rfl) (zh (zld T) (hr.mono (by decide)) rfl T.turn.mg T.turn.fn.kp T.turn.bn .nil pass0 (zt (qpv 0) za1 (qpv 1) za1 (qpv 3) za1)))
   (zn (zr zpo (qpv 4) (qpv 5) (nomark _)) (zf (ze (zJ zj7 (qpv 4) (qpv 5) (nomark _)))) zp)
   (ze (zJ zj7 (zh (zld T) (hr.mono (by decide)) rfl T.turn.mg T.turn.fn.kp T.turn.bn .nil pass0 (zt (qpv 0) za1 (qpv 2) za1 (qpv 3) za1)) za (nomark _))))
  ,?_⟩
 clear zA zc zh zt qpv zn zr zf ze zJ zp za QE QT QW QA QS QSs QG QGs QI QO QIf
 dsimp! [L2.start]
 simp! [];refine⟨p,q,r,_,_,_,_,_,_,_,_,_,rfl,hp.tb,hq.tb,hc.tb,fun H1 g1=>?_⟩;refine⟨p,q,t,_,_,_,_,_,_,_,_,_,rfl,(hp.same g1).tb,(hq.same g1).tb,(hd.same g1).tb,fun H2 g2=>?_⟩;unfold soon sgD at k;refine⟨rfl,ite2 (fun c1=>?_) (fun c1=>?_)⟩
 ·have z:=k H2 (g1.trans g2)
  split at z
  ·next e=>exact absurd e (by simpa using c1)
  ·exact⟨_,rfl,_,rfl,z⟩
 ·have g12:=g1.trans g2;refine⟨p,r,t,_,_,_,_,_,_,_,_,_,rfl,(hp.same g12).tb,(hc.same g12).tb,(hd.same g12).tb,fun H3 g3=>?_⟩;have z:=k H3 (g12.trans g3)
  split at z
  ·exact⟨_,rfl,z⟩
  ·next e=>exact absurd (by simpa using c1) e
def zhd(a b:Q3)(c:Q3)(ts:List Q3):Q3:=ts.foldl (fun m t=>if soon a b t m=true then t else m) c
def zht(a b:Q3):List Q3->Q3
 |[]=>a
 |c::ts=>zhd a b c ts
theorem zhw(a b c t:Q3)(ts:List Q3):zhd a b c (ts++[t])=if soon a b t (zhd a b c ts)=true then t else zhd a b c ts:=by
 unfold zhd;rw[List.foldl_append];rfl
def sp_first:Sp:=fun vs H Q _=>∃(p q l:Addr)(ys:List V)(a b:Q3)(ts:List Q3),vs=[.ref p,.ref q,.ref l]/\QH H p a/\QH H q b/\H l=some (.lst ys)/\ys.length<=200/\LR QH H ys ts/\ts≠[]/\∀r H',Same H H'->QH H' r (zht a b ts)->Q (.ref r) H'
theorem zhe(T:Txt K mg ad fd):FnOk P w K mg base CX0 5 (ad 10) (fd 10) ["P","Q","tips"] sp_first:=by
 refine T.first_right.fn.ok zcv (fun vs H Q E h=>?_) (fun cdv A outer s H vs Q E hr h=>?_)
 ·obtain⟨p,q,l,ys,a,b,ts,rfl,_⟩:=h;rfl
 obtain⟨p,q,l,ys,a,b,ts,rfl,hp,hq,hl,hn,ht,ne,k⟩:=h;have zw:=@pss3;have zc:=@zbe;have zd:=@zel;have qpv:=@pv;have za:=@zbr;have zm:=@zd0;have zq:=@zc8;have zT:=@ziq;have zU:=@zll;have zV:=@zkr;have zj:=@zbd;have zf:=@zah;have zn:=@zf4;have zI:=@zhv;have zh:=@zbh;have ye:=@pa4;have zp:=@zc7;have ze:=@zaz;generalize @L2.PE=QE,@L2.PT=QT,@L2.PW=QW,@L2.PA=QA,@L2.PS=QS,@L2.PSs=QSs,@L2.PG=QG,@L2.PGs=QGs,@L2.PI=QI,@L2.PO=QO,@L2.PIf=QIf at zw zc zd qpv za zm zq zT zU zV zj zf zn zI zh ye zp ze⊢;refine⟨_,
  (zw
   (zc (i:=3) zcv.nd rfl (kj rfl) (zd zai (qpv 2) za (fun _ _=>rfl)))
   (zm pK rfl (zq (zT zew (qpv 2) (zU za) zV)) (zj (i:=4) zcv.nd rfl (kj rfl)) (zf (zn (zI (zh (zgi T) (hr.mono (by decide)) rfl T.is_met_sooner.mg T.is_met_sooner.fn.kp T.is_met_sooner.bn .nil pass0 (ye (qpv 0) za1 (qpv 1) za1 (qpv 4) za1 (qpv 3) za1))) (zf (zc (i:=3) zcv.nd rfl (kj rfl) (qpv 4))) zp)))
   (ze (qpv 3)))
  ,?_⟩
 clear zw zc zd qpv za zm zq zT zU zV zj zf zn zI zh ye zp ze QE QT QW QA QS QSs QG QGs QI QO QIf
 dsimp! [L2.start]
 obtain⟨c,cs,rfl⟩:∃c cs,ts=c::cs:=by
  cases ts with
  |nil=>exact absurd rfl ne
  |cons c cs=>exact⟨c,cs,rfl⟩
 obtain⟨y,ys,rfl⟩:∃y y',ys=y::y':=by
  cases ys with
  |nil=>cases ht.1
  |cons y y'=>exact⟨y,y',rfl⟩
 obtain⟨_,_,e,⟨pc,rfl,hc⟩,hys⟩:=ht.cons_inv
 cases e;simp! [hl];refine zbc ?_;simp! [zd1,hl,zj9,List.drop_succ_cons,gB];intro D hD;have g1:=za2 hD (HO.lst ys);have hD1:upd H D (HO.lst ys) D=some (.lst ys):=upd_same;show _;generalize upd H D (HO.lst ys)=H1 at*;refine⟨⟨_,.of hD1⟩,?_⟩;refine zba (K:=K) (a:=D) (xs:=ys) (fun i σ H'=>Same H1 H'/\∃(r:Addr)(o:Option V),σ=[some (V.ref p),some (V.ref q),some (V.ref l),some (V.ref r),o]/\QH H' r (zhd a b c (cs.take i))) ⟨.refl _,pc,none,rfl,hc.same g1⟩ (fun i σ H' _ iv=>.of (iv.1 _ _ hD1)) ?_ ?_
 ·intro _ _;rintro i v σ H2 hi ⟨g2,r,o,rfl,hr2⟩;obtain⟨t,d,rfl,hd',hd⟩:=hys.2 i v hi;have g02:=g1.trans g2;simp! [];refine⟨p,q,t,r,a,b,d,_,rfl,hp.same g02,hq.same g02,hd.same g02,hr2,fun H3 g3=>⟨_,rfl,?_⟩⟩;rw[kq,hd'];show _;refine ite2 (fun c1=>?_) (fun c1=>?_)
  ·refine⟨g2.trans g3,?_⟩;rw[show(some d).toList=[d] from rfl,zhw,if_pos c1];exact hd.same (g02.trans g3)
  ·refine⟨g2.trans g3,?_⟩;rw[show(some d).toList=[d] from rfl,zhw,if_neg c1];exact hr2.same g3
 ·rintro σ H2 ⟨g2,r,o,rfl,hr2⟩;simp! [];rw[kU (by rw[←hys.1];exact kG _)] at hr2
  exact k r H2 (g1.trans g2) hr2
def z3:Q3:=⟨0,0,1⟩
def rot{α:Type}(r:List α)(i:Nat):List α:=r.drop i++r.take i
def nx(r:List Q3)(i:Nat):Q3:=r.getD (i%r.length) z3
theorem zg5{α:Type}(r:List α)(i:Nat):(rot r i).length=r.length:=by
 unfold rot;rw[kJ,pT,pI];omega
theorem rot_at{α:Type}{r:List α}{i j:Nat}(hi:i<r.length)(hj:j<r.length):(rot r i)[j]?=r[(i+j)%r.length]?:=by
 unfold rot
 by_cases c:i+j<r.length
 ·rw[uH (by rw[pT];omega),Uo,jX c]
 ·rw[pO (by rw[pT];omega),pT,Nat.mod_eq_sub_mod (by omega),jX (by omega),gt (by omega)]
  congr 1
  omega
theorem rot_mem{α:Type}{r:List α}{i:Nat}{x:α}:x∈rot r i↔x∈r:=by
 unfold rot;rw[ke,or_comm,←ke,uO]
theorem zgs{r:List Q3}{i:Nat}(hi:i<r.length)(j:Nat):nx (rot r i) j=nx r (i+j):=by
 unfold nx;rw[zg5,kZ,rot_at hi (jY _ (by omega)),kZ,Nat.add_mod_mod]
theorem zen{r:List Q3}{i:Nat}(hi:i<r.length):nx r i=r[i]:=by
 unfold nx;rw[jX hi,kZ,kR hi];rfl
theorem nx_at{r:List Q3}{i:Nat}(hi:i<r.length):r[i]?=some (nx r i):=by rw[zen hi,kR hi]
theorem zh5(r:List Q3)(i:Nat):nx r (i%r.length)=nx r i:=by
 unfold nx;rw[Nat.mod_mod]
theorem zk7(r:List Q3)(i:Nat):nx r (r.length+i)=nx r i:=by
 unfold nx;rw[Nat.add_mod_left]
theorem zmc{r:List Q3}(h:0<r.length)(i:Nat):nx r i∈r:=by
 rw[←zh5,zen (jY _ h)];exact Qn _
theorem nx_inj{r:List Q3}(nd:r.Nodup){i j:Nat}(hi:i<r.length)(hj:j<r.length)(h:nx r i=nx r j):i=j:=by
 rw[zen hi,zen hj] at h;exact(AF nd).mp h
def sds(r:List Q3):List (Q3×Q3):=(kc r.length).map fun i=>(nx r i,nx r (i+1))
theorem zku{r:List Q3}{e:Q3×Q3}:e∈sds r↔∃i,i<r.length/\e=(nx r i,nx r (i+1)):=by
 unfold sds;rw[kW];exact⟨fun⟨i,h,e⟩=>⟨i,kx.mp h,e.symm⟩,fun⟨i,h,e⟩=>⟨i,kx.mpr h,e.symm⟩⟩
theorem zg3{r:List Q3}(h:0<r.length)(i:Nat):(nx r i,nx r (i+1))∈sds r:=by
 refine zku.mpr ⟨i%r.length,jY _ h,?_⟩;rw[zh5,←zh5 r (i+1),←zh5 r (i%r.length+1),Cw]
theorem sds_rot{r:List Q3}{i:Nat}(hi:i<r.length){e:Q3×Q3}:e∈sds (rot r i)↔e∈sds r:=by
 constructor
 ·intro h;obtain⟨j,hj,rfl⟩:=zku.mp h;rw[zgs hi,zgs hi,←UZ];exact zg3 (by omega) _
 ·intro h;obtain⟨j,hj,rfl⟩:=zku.mp h;have z:=zg3 (r:=rot r i) (by rw[zg5];omega) (r.length-i+j)
  rw[zgs hi,zgs hi,show i+(r.length-i+j)=r.length+j by omega,show i+(r.length-i+j+1)=r.length+(j+1) by omega,zk7,zk7] at z
  exact z
def leav(ss:List (Q3×Q3))(p:Q3):List Q3:=(ss.filter fun e=>decide (e.1=p)).map Di
theorem ze3(ss:List (Q3×Q3))(e:Q3×Q3)(p:Q3):leav (ss++[e]) p=leav ss p++if e.1=p then[e.2] else[]:=by
 unfold leav;rw[pW,pV]
 congr 1
 by_cases c:e.1=p
 ·rw[if_pos c,uA,if_pos (decide_eq_true c)];rfl
 ·rw[if_neg c,uA,if_neg (fun z=>c (of_decide_eq_true z))];rfl
theorem zid{ss:List (Q3×Q3)}{p q:Q3}:q∈leav ss p↔(p,q)∈ss:=by
 unfold leav;rw[kW]
 constructor
 ·rintro⟨e,he,rfl⟩;obtain⟨h1,h2⟩:=pf.mp he;rw[←of_decide_eq_true h2];exact h1
 ·intro h;exact⟨(p,q),pf.mpr ⟨h,decide_eq_true rfl⟩,rfl⟩
theorem zm1(ss:List (Q3×Q3))(p:Q3):(leav ss p).length<=ss.length:=by
 unfold leav;rw[kO];exact Uy _ _
def zeq(q r:List Q3):Prop:=∃i,i<r.length/\q=rot r i/\∀x,x∈r->bq x (nx q 0)=false
theorem zlr{a b:Q3}:∀(ts:List Q3)(c:Q3),zhd a b c ts∈c::ts
 |[],c=>kX.mpr rfl
 |t::ts,c=>by
  show zhd a b (if soon a b t c=true then t else c) ts∈c::t::ts
  have:=zlr (a:=a) (b:=b) ts (if soon a b t c=true then t else c);rcases kg.mp this with z|z
  ·rw[z]
   split
   ·exact kI _ (po ..)
   ·exact po ..
  ·exact kI _ (kI _ z)
theorem zpv{a b:Q3}{ts:List Q3}(h:ts≠[]):zht a b ts∈ts:=by
 cases ts with
 |nil=>exact absurd rfl h
 |cons t ts=>exact zlr ts t
def suc(ss:List (Q3×Q3))(e:Q3×Q3):Q3×Q3:=(e.2,zht e.2 e.1 (leav ss e.2))
structure Fen(ss:List (Q3×Q3)):Prop where
 nd:ss.Nodup
 ne:∀e,e∈ss->e.1≠e.2
 rv:∀e,e∈ss->¬(e.2,e.1)∈ss
 out:∀e,e∈ss->leav ss e.2≠[]
 inj:∀e e',e∈ss->e'∈ss->suc ss e=suc ss e'->e=e'
def itr(ss:List (Q3×Q3))(e:Q3×Q3):Nat->Q3×Q3
 |0=>e
 |n+1=>suc ss (itr ss e n)
section
variable{ss:List (Q3×Q3)}{e:Q3×Q3}
theorem Fen.suc(F:Fen ss)(he:e∈ss):Mine.suc ss e∈ss:=zid.mp (zpv (F.out e he))
theorem Fen.itr(F:Fen ss)(he:e∈ss):∀n,Mine.itr ss e n∈ss
 |0=>he
 |n+1=>F.suc (F.itr he n)
theorem Fen.back(F:Fen ss)(he:e∈ss)(d:Nat):∀i,Mine.itr ss e i=Mine.itr ss e (i+d)->e=Mine.itr ss e d
 |0,h=>by rw[Al] at h;exact h
 |i+1,h=>by
  rw[Nat.add_right_comm] at h;exact F.back he d i (F.inj _ _ (F.itr he _) (F.itr he _) h)
theorem zfr{α:Type}[DecidableEq α]:∀(F os:List α),F.Nodup->(∀q,q∈F->q∈os)->F.length<=os.length
 |[],os,_,_=>pY _
 |a::F,os,nd,h=>by
  obtain⟨h1,h2⟩:=Qj.mp nd;have ha:=h a (by simp)
  have:=zfr F (os.erase a) h2 fun q hq=>(BT (fun z=>h1 (by rw[←z];exact hq))).mpr (h q (kI _ hq))
  rw[AB ha] at this;have:=jM ha;rw[pJ];omega
theorem Fen.orb(F:Fen ss)(he:e∈ss){t:Nat}(no:∀j,0<j->j<=t->Mine.itr ss e j≠e):((kc (t+1)).map (Mine.itr ss e)).Nodup:=by
 rw[kK,uR];refine List.pairwise_lt_range.imp_of_mem fun{i j} hi hj h z=>?_;have hj':=kx.mp hj;refine no (j-i) (by omega) (by omega) (F.back he (j-i) i ?_).symm
 rw[show i+(j-i)=j by omega]
 exact z
theorem Fen.few(F:Fen ss)(he:e∈ss){t:Nat}(no:∀j,0<j->j<=t->Mine.itr ss e j≠e):t<ss.length:=by
 have:=zfr _ ss (F.orb he no) fun q hq=>by
  obtain⟨i,_,rfl⟩:=kW.mp hq;exact F.itr he i
 rw[kO,ua] at this;omega
end
def psd(w:List Q3):List (Q3×Q3):=(kc (w.length-1)).map fun i=>(nx w i,nx w (i+1))
theorem zo1{w:List Q3}(h:0<w.length):sds w=psd w++[(nx w (w.length-1),nx w 0)]:=by
 unfold sds psd;have e:w.length=(w.length-1)+1:=by omega
 have e2:nx w (w.length-1+1)=nx w 0:=by rw[←e];exact zk7 w 0
 conv=>lhs;rw[e]
 rw[um,pV,kh,uU,e2]
theorem zjt{w:List Q3}{p:Q3}{i:Nat}(h:i<w.length):nx (w++[p]) i=nx w i:=by
 rw[zen (by rw[kJ];omega),zen h,List.getElem_append_left h]
theorem zkq{w:List Q3}{p:Q3}:nx (w++[p]) w.length=p:=by
 rw[zen (by rw[kJ,pH];omega),List.getElem_append_right (kG _)]
 simp
theorem zgr{w:List Q3}{i j:Nat}(hi:i<w.length)(hj:j<=i):nx (w.take (i+1)) j=nx w j:=by
 rw[zen (by rw[pI];omega),zen (by omega),List.getElem_take]
theorem zie{w:List Q3}{i j:Nat}(h:i+j<w.length):nx (w.drop i) j=nx w (i+j):=by
 rw[zen (by rw[pT];omega),zen h,List.getElem_drop]
theorem psd_snoc{w:List Q3}{p:Q3}(h:0<w.length):psd (w++[p])=psd w++[(nx w (w.length-1),p)]:=by
 unfold psd;rw[kJ,pH,Qo];have e:w.length=(w.length-1)+1:=by omega
 conv=>lhs;rw[e]
 rw[um,pV,kh,uU,zjt (by omega),show w.length-1+1=w.length by omega,zkq]
 congr 1
 refine ux fun i hi=>?_;have:=kx.mp hi;rw[zjt (by omega),zjt (by omega)]
theorem psd_cut{w:List Q3}{i:Nat}(h:i<w.length):psd w=psd (w.take (i+1))++psd (w.drop i):=by
 unfold psd;rw[pI,pT,Qx (by omega),Qo,show w.length-1=i+(w.length-i-1) by omega,List.range_add,pV,Ur]
 congr 1
 ·refine ux fun j hj=>?_;have:=kx.mp hj;rw[zgr h (by omega),zgr h (by omega)]
 ·refine ux fun j hj=>?_;have:=kx.mp hj;show(nx w (i+j),nx w (i+j+1))=_;rw[zie (by omega),zie (by omega),UZ]
def wyF(ss:List (Q3×Q3))(e:Q3×Q3):Nat->List Q3×List (List Q3)
 |0=>([e.1],[])
 |t+1=>if(itr ss e t).2∈(wyF ss e t).1 then((wyF ss e t).1.take ((wyF ss e t).1.idxOf (itr ss e t).2+1),(wyF ss e t).2++[(wyF ss e t).1.drop ((wyF ss e t).1.idxOf (itr ss e t).2)]) else((wyF ss e t).1++[(itr ss e t).2],(wyF ss e t).2)
structure Way(ss:List (Q3×Q3))(e:Q3×Q3)(t:Nat)(w:List Q3)(rs:List (List Q3)):Prop where
 pos:0<w.length
 nd:w.Nodup
 hd:nx w 0=e.1
 lst:nx w (w.length-1)=(itr ss e t).1
 rg:∀q,q∈rs->q.Nodup/\2<=q.length
 pm:(rs.flatMap sds++psd w).Perm ((kc t).map (itr ss e))
 no:∀j,0<j->j<=t->itr ss e j≠e
 fn:wyF ss e t=(w,rs)
section
variable{ss:List (Q3×Q3)}{e:Q3×Q3}{t:Nat}{w:List Q3}{rs:List (List Q3)}
theorem Way.start:Way ss e 0 [e.1] []:=⟨Nat.zero_lt_one,Qv _ _,rfl,rfl,(fun q hq=>by cases hq),.refl _,(fun j h1 h2=>by omega),rfl⟩
theorem zpc(no:∀j,0<j->j<=t->itr ss e j≠e)(hn:suc ss (itr ss e t)≠e):∀j,0<j->j<=t+1->itr ss e j≠e:=fun j h1 h2=>by
 by_cases c:j<=t
 ·exact no j h1 c
 ·rw[show j=t+1 by omega]
  exact hn
theorem Way.push(h:Way ss e t w rs)(hn:suc ss (itr ss e t)≠e)(hp:¬(itr ss e t).2∈w):Way ss e (t+1) (w++[(itr ss e t).2]) rs:=by
 have pos:=h.pos;refine⟨by rw[kJ];omega,Qb.mpr ⟨h.nd,Qv _ _,fun a ha b hb z=>hp (by rw[kX.mp hb] at z;rw[←z];exact ha)⟩,by rw[zjt pos];exact h.hd,?_,h.rg,?_,zpc h.no hn,by show(if _ then _ else _)=_;rw[h.fn,if_neg hp]⟩
 ·rw[kJ,pH,Qo,zkq];rfl
 ·rw[psd_snoc pos,←pC,h.lst,um,pV];exact h.pm.append_right _
theorem Way.cut(F:Fen ss)(he:e∈ss)(h:Way ss e t w rs){i:Nat}(hi:i<w.length)(hp:nx w i=(itr ss e t).2)(hn:suc ss (itr ss e t)≠e):Way ss e (t+1) (w.take (i+1)) (rs++[w.drop i]):=by
 have pos:=h.pos;have ne:=F.ne _ (F.itr he t);have l2:i+1<w.length:=by
  rcases UR (i+1) w.length with z|z
  ·exact z
  ·exfalso
   rw[←h.lst,←hp,show i=w.length-1 by omega] at ne
   exact ne rfl
 have ld:(w.drop i).length=w.length-i:=pT ..;refine⟨by rw[pI];omega,h.nd.sublist (Bw _ _),by rw[zgr hi (by omega)];exact h.hd,?_,fun q hq=>?_,?_,zpc h.no hn,?_⟩
 ·rw[pI,Qx (by omega),Qo,zgr hi (kG _),hp]
  rfl
 ·rcases ke.mp hq with hq|hq
  ·exact h.rg q hq
  ·rw[kX.mp hq];exact⟨h.nd.sublist (List.drop_sublist _ _),by omega⟩
 ·rw[vX,QB,Ch,pU,zo1 (w:=w.drop i) (by omega),ld,zie (by omega),zie (by omega),show i+(w.length-i-1)=w.length-1 by omega,CF,h.lst,hp,um,pV,kh,uU]
  have pm:=h.pm;rw[psd_cut hi] at pm;show(rs.flatMap sds++(psd (w.drop i)++[itr ss e t])++psd (w.take (i+1))).Perm _;refine jq ?_ (pm.append_right [itr ss e t]);rw[pC,pC (rs.flatMap sds)];refine pg _ ?_;rw[pC (psd (w.take (i+1)))];exact uT
 ·have ix:w.idxOf (itr ss e t).2=i:=by
   rw[←hp,zen hi];exact h.nd.idxOf_getElem i hi
  show(if _ then _ else _)=_
  rw[h.fn,if_pos (by rw[←hp,zen hi];exact Qn _),ix]
theorem Way.done(F:Fen ss)(he:e∈ss)(h:Way ss e t w rs)(hn:suc ss (itr ss e t)=e):(∀q,q∈rs++[w]->q.Nodup/\2<=q.length)/\((rs++[w]).flatMap sds).Perm ((kc (t+1)).map (itr ss e)):=by
 have pos:=h.pos;have ne:=F.ne _ (F.itr he t);have e1:(itr ss e t).2=e.1:=congrArg jL hn;refine⟨fun q hq=>?_,?_⟩
 ·rcases ke.mp hq with hq|hq
  ·exact h.rg q hq
  ·rw[kX.mp hq];refine⟨h.nd,?_⟩;rcases UR 1 w.length with z|z
   ·exact z
   ·exfalso
    have l:=h.lst;rw[show w.length-1=0 by omega,h.hd,←e1] at l
    exact ne l.symm
 ·rw[vX,QB,Ch,pU,zo1 pos,h.lst,h.hd,←e1,←pC,um,pV];exact h.pm.append_right _
end
theorem zlt{xs:List V}{m:Nat}(h:m<=xs.length):cutV xs (some (m:Int)) none=xs.drop m:=by
 unfold cutV;rw[HT.sIx_nat,HT.sIx_none,Qx h,kU (by rw[pT];omega)]
theorem cut_to{xs:List V}{m:Nat}(h:m<=xs.length):cutV xs none (some (m:Int))=xs.take m:=by
 unfold cutV;rw[HT.sIx_nat,HT.sIx_none,gB,DY,Qx h]
def sp_least:Sp:=fun vs H Q _=>∃(l:Addr)(ys:List V)(r:List Q3),vs=[.ref l]/\H l=some (.lst ys)/\LR QH H ys r/\0<r.length/\r.length<=200/\∀D zs q H',H D=none->Same H H'->H' D=some (.lst zs)->LR QH H' zs q->zeq q r->Q (.ref D) H'
theorem lr_pq{H:Hp}{ys:List V}{ps:List Q3}(h:LR QH H ys ps){p:Q3}(hp:p∈ps):PQ 700 p:=by
 obtain⟨j,hj⟩:=uG.mp hp;have hj':j<ys.length:=by rw[h.1];exact(kH.mp hj).1
 obtain⟨b,r,_,e2,hr⟩:=h.at hj';rw[hj] at e2
 cases e2;exact hr.2
theorem zi4(T:Txt K mg ad fd):FnOk P w K mg base CX0 2 (ad 12) (fd 12) ["ring"] sp_least:=by
 refine T.from_least.fn.ok zdb (fun vs H Q E h=>?_) (fun cdv A outer s H vs Q E hr h=>?_)
 ·obtain⟨l,ys,r,rfl,_⟩:=h;rfl
 obtain⟨l,ys,r,rfl,hl,hy,n0,n10,k⟩:=h;have zw:=@pss3;have zc:=@zbe;have za:=@zbr;have zm:=@zd0;have zK:=@ze8;have zg:=@pa1;have zv:=@zcj;have qpv:=@pv;have zj:=@zbd;have zf:=@zah;have zn:=@zf4;have zI:=@zhv;have zh:=@zbh;have zk:=@pa2;have zd:=@zel;have zp:=@zc7;have ze:=@zaz;have zb:=@zdx;have zT:=@ziq;have zU:=@zll;have zV:=@zkr;generalize @L2.PE=QE,@L2.PT=QT,@L2.PW=QW,@L2.PA=QA,@L2.PS=QS,@L2.PSs=QSs,@L2.PG=QG,@L2.PGs=QGs,@L2.PI=QI,@L2.PO=QO,@L2.PIf=QIf at zw zc za zm zK zg zv qpv zj zf zn zI zh zk zd zp ze zb zT zU zV⊢;refine⟨_,
  (zw
   (zc (i:=1) zdb.nd rfl (kj rfl) za)
   (zm pK rfl (zK rfl T.b_range (zg (zv zbq rfl T.b_len zdn (zg (qpv 0) za1)) zby)) (zj (i:=2) zdb.nd rfl (kj rfl)) (zf (zn (zI (zh (zof T) (hr.mono (by decide)) rfl T.before.mg T.before.fn.kp T.before.bn .nil pass0 (zk (zd zai (qpv 0) (qpv 2) (fun _ _=>rfl)) za9 (zd zai (qpv 0) (qpv 1) (fun _ _=>rfl)) za9))) (zf (zc (i:=1) zdb.nd rfl (kj rfl) (qpv 2))) zp)))
   (ze (zb zpb (zT zew (qpv 0) (zU (qpv 1)) zV) (zT zew (qpv 0) zV (zU (qpv 1))))))
  ,?_⟩
 clear zw zc za zm zK zg zv qpv zj zf zn zI zh zk zd zp ze zb zT zU zV QE QT QW QA QS QSs QG QGs QI QO QIf
 dsimp! [L2.start]
 have pq:∀x,x∈r->PQ 700 x:=fun x hx=>lr_pq hy hx;simp! [];refine zbc ?_;simp! [zlj,hl];refine⟨by omega,by have:=hy.1;omega,?_⟩
 rw[show((ys.length:Int)).toNat=ys.length by omega]
 refine zdd (n:=ys.length) (fun i σ H'=>H'=H/\∃(m:Nat)(o:Option V),σ=[some (V.ref l),some (V.int m),o]/\m<r.length/\∀j,j<i->bq (nx r j) (nx r m)=false) ⟨rfl,0,none,rfl,n0,fun j hj=>by omega⟩ ?_ ?_
 ·intro _ _;rintro i σ H2 hi ⟨rfl,m,o,rfl,hm,hj⟩;have hir:i<r.length:=by rw[←hy.1];exact hi
  have hmy:m<ys.length:=by rw[hy.1];exact hm
  obtain⟨pi,qi,ei,fi,hqi⟩:=hy.at hi;obtain⟨pm,qm,em,fm,hqm⟩:=hy.at hmy;rw[nx_at hir] at fi;rw[nx_at hm] at fm
  cases fi
  cases fm;have ai:atI ys (i:Int)=some (V.ref pi):=zce ei;have am:atI ys (m:Int)=some (V.ref pm):=zce em;simp! [ur,hl,ai,am];refine⟨pi,pm,_,_,_,_,_,_,rfl,hqi.tb,hqm.tb,_,rfl,ite2 (fun c=>?_) (fun c=>?_)⟩
  ·refine⟨rfl,i,rfl,hir,fun j hji=>?_⟩;rcases UR j i with z|z
   ·cases e:bq (nx r j) (nx r i) with
    |false=>rfl
    |true=>
     have:=zoe (pq _ (zmc n0 j)).pos (pq _ (zmc n0 i)).pos (pq _ (zmc n0 m)).pos e c;have h0:=hj j z;unfold bq at h0;rw[this] at h0
     cases h0
   ·rw[show j=i by omega]
    exact bef_irr _ _ _
  ·refine⟨rfl,m,rfl,hm,fun j hji=>?_⟩;rcases UR j i with z|z
   ·exact hj j z
   ·rw[show j=i by omega]
    exact gj.mpr c
 ·rintro σ H2 ⟨rfl,m,o,rfl,hm,hj⟩;have hmy:m<=ys.length:=by rw[hy.1];omega
  simp! [hl,zlt hmy];intro p1 hp1;have g3:=za2 hp1 (HO.lst (ys.drop m));have h31:upd H2 p1 (HO.lst (ys.drop m)) p1=some (HO.lst (ys.drop m)):=upd_same;have hr3:=g3 _ _ hl;generalize upd H2 p1 (HO.lst (ys.drop m))=H3 at*;simp! [hr3,cut_to hmy];intro p2 hq2;have g4:=za2 hq2 (HO.lst (ys.take m));have h42:upd H3 p2 (HO.lst (ys.take m)) p2=some (HO.lst (ys.take m)):=upd_same;have h41:=g4 _ _ h31;generalize upd H3 p2 (HO.lst (ys.take m))=H4 at*;have ly:=hy.1;refine⟨p1,p2,_,_,rfl,rfl,h41,h42,uq (small1000 ?_),fun p3 hp3=>?_⟩
  ·rw[pT,pI];omega
  have g5:=za2 hp3 (HO.lst (ys.drop m++ys.take m));have g25:=g3.trans (g4.trans g5);refine k p3 _ (rot r m) _ ((g3.trans g4).free hp3) g25 upd_same (((hy.drop m).app (hy.take m)).same g25) ⟨m,hm,rfl,fun x hx=>?_⟩;have e0:nx (rot r m) 0=nx r m:=zgs hm 0;rw[e0];obtain⟨j,hj',rfl⟩:=QV.mp hx;rw[←zen hj'];exact hj j (by omega)
def S2H(H:Hp)(p:Addr)(e:Q3×Q3):Prop:=∃c d,H p=some (.tup [.ref c,.ref d])/\QH H c e.1/\QH H d e.2
theorem zhf:∀(H H':Hp)(p:Addr)(e:Q3×Q3),zad H H'->S2H H p e->S2H H' p e:=fun _ _ _ _ g⟨c,d,h1,h2,h3⟩=>⟨c,d,g _ _ h1,zcr _ _ _ _ g h2,zcr _ _ _ _ g h3⟩
theorem zp3{H:Hp}{d:Addr}{kvs:List (List Key×V)}(h:H d=some (.dT kvs)):IsD H d:=.inr ⟨kvs,.inl h⟩
structure Lv(H0 H:Hp)(d:Addr)(kvs:List (List Key×V))(ss:List (Q3×Q3)):Prop where
 same:Same H0 H
 new:H0 d=none
 at_:H d=some (.dT kvs)
 len:kvs.length<=ss.length
 ent:∀p v,valV kvs (kQ p)=some v->∃a zs,v=.ref a/\H0 a=none/\H a=some (.lst zs)/\LR QH H zs (leav ss p)
 non:∀p,valV kvs (kQ p)=none->leav ss p=[]
 dis:∀p p' v,valV kvs (kQ p)=some v->valV kvs (kQ p')=some v->p=p'
theorem Lv.mono{H0 H H':Hp}{d:Addr}{kvs:List (List Key×V)}{ss:List (Q3×Q3)}(h:Lv H0 H d kvs ss)(g:Same H H'):Lv H0 H' d kvs ss:=
 ⟨h.same.trans g,h.new,g _ _ h.at_,h.len,fun k v e=>by
  obtain⟨a,ys,e1,e2,e3,e4⟩:=h.ent k v e;exact⟨a,ys,e1,e2,g _ _ e3,e4.same g⟩,h.non,h.dis⟩
theorem Lv.app{H0 H:Hp}{d a t b:Addr}{kvs:List (List Key×V)}{ss:List (Q3×Q3)}{p q:Q3}{Qc:VK}(h:Lv H0 H d kvs ss)(hm:ss.length<500)(ha:QH H a p)(hb:QH H b q)(ht:H t=none)
  (k:∀(l:Addr)(H1:Hp)(zs:List V) kvs',H1 l=some (.lst zs)->zs.length<sizeLine->Lv H0 (upd H1 l (.lst (zs++[.ref b]))) d kvs' (ss++[(p,q)])->Qc (.ref l) H1):rSD d (.ref a) (.ref t) (upd H t (.lst [])) Qc:=by
 have g:=za2 ht (HO.lst []);have hg:=h.mono g;refine⟨kvs,kQ p,a,hg.at_,rfl,g _ _ ha.1,small1000 (by have:=h.len;omega),fun v hv=>?_,fun hv=>?_⟩
 ·obtain⟨l,ys,rfl,e2,e3,e4⟩:=hg.ent _ _ hv;have ly:ys.length<=ss.length:=by rw[e4.1];exact zm1 _ _
  refine k l _ ys kvs e3 (small1000 (by omega)) ⟨zaj hg.same e2,h.new,?_,by have:=h.len;rw[kJ];omega,fun p' v' hv'=>?_,fun p' hv'=>?_,h.dis⟩
  ·rw[za7 (fun z=>by rw[←z,hg.at_] at e3;cases e3)]
   exact hg.at_
  ·obtain⟨l',ys',rfl,f2,f3,f4⟩:=hg.ent _ _ hv'
   by_cases el:l'=l
   ·subst el;rw[e3] at f3
    cases f3;have pp:=h.dis _ _ _ hv' hv;subst pp;refine⟨l',_,rfl,f2,upd_same,?_⟩;rw[ze3,if_pos rfl];exact(e4.snoc (hb.same g)).ts zcr (zc6 e3)
   ·refine⟨l',ys',rfl,f2,by rw[za7 el];exact f3,?_⟩
    rw[ze3,if_neg (fun z=>el (by
     have z':p=p':=z;rw[←z'] at hv';rw[hv] at hv'
     cases hv';rfl)),pU]
    exact f4.ts zcr (zc6 e3)
  ·rw[ze3,h.non _ hv',if_neg (fun z=>by
    have z':p=p':=z;rw[z',hv'] at hv
    cases hv)]
   rfl
 ·have td:t≠d:=fun z=>by rw[z,h.at_] at ht;cases ht
  have h0t:=h.same.free ht;have up:∀b' o,b'≠d->H b'=some o->upd (upd (upd H t (.lst [])) d (.dT (putK kvs (kQ p) (.ref t)))) t (.lst [.ref b]) b'=some o:=fun b' o nb hb'=>by
   have nt:b'≠t:=fun z=>by rw[z,ht] at hb';cases hb'
   rw[za7 nt,za7 nb,za7 nt];exact hb'
  have ts:zad H (upd (upd (upd H t (.lst [])) d (.dT (putK kvs (kQ p) (.ref t)))) t (.lst [.ref b])):=fun b' xs hb'=>up b' _ (fun z=>by rw[z,h.at_] at hb';cases hb') hb'
  have nt:∀p',valV kvs (kQ p')≠some (.ref t):=fun p' z=>by
   obtain⟨l',ys',e,f2,f3,f4⟩:=h.ent _ _ z
   cases e;rw[ht] at f3
   cases f3
  refine k t _ [] (putK kvs (kQ p) (.ref t)) (by rw[za7 td];exact upd_same) (small1000 (by simp)) ⟨fun b' o hb'=>up b' o (fun z=>by rw[z,h.new] at hb';cases hb') (h.same _ _ hb'),h.new,by rw[za7 td.symm];exact upd_same,pL (zbn _ _ _) (by have:=h.len;rw[kJ];exact vS this),fun p' v' hv'=>?_,fun p' hv'=>?_,fun p' p2 v' h1 h2=>?_⟩
  ·rw[zda] at hv'
   by_cases ek:kQ p'=kQ p
   ·rw[if_pos ek] at hv'
    cases hv';have e':=zf8 ek;subst e';refine⟨t,[.ref b],rfl,h0t,upd_same,?_⟩;rw[ze3,if_pos rfl,h.non _ hv];exact LR.one (R:=QH) (zcr _ _ _ _ ts hb)
   ·rw[if_neg ek] at hv';obtain⟨l',ys',rfl,f2,f3,f4⟩:=h.ent _ _ hv';refine⟨l',ys',rfl,f2,up _ _ (fun z=>by rw[z,h.at_] at f3;cases f3) f3,?_⟩
    rw[ze3,if_neg (fun z=>ek (by have z':p=p':=z;rw[z'])),pU]
    exact f4.ts zcr ts
  ·rw[zda] at hv'
   by_cases ek:kQ p'=kQ p
   ·rw[if_pos ek] at hv'
    cases hv'
   ·rw[if_neg ek] at hv';rw[ze3,h.non _ hv',if_neg (fun z=>ek (by have z':p=p':=z;rw[z']))]
    rfl
  ·rw[zda] at h1 h2
   by_cases e1:kQ p'=kQ p
   ·by_cases e2:kQ p2=kQ p
    ·rw[zf8 e1,zf8 e2]
    ·rw[if_pos e1] at h1;rw[if_neg e2] at h2
     cases h1;exact absurd h2 (nt _)
   ·by_cases e2:kQ p2=kQ p
    ·rw[if_neg e1] at h1;rw[if_pos e2] at h2
     cases h2;exact absurd h1 (nt _)
    ·rw[if_neg e1] at h1;rw[if_neg e2] at h2;exact h.dis _ _ _ h1 h2
def sp_leav:Sp:=fun vs H Q _=>∃(l:Addr)(ys:List V)(ss:List (Q3×Q3)),vs=[.ref l]/\H l=some (.lst ys)/\ys.length<=200/\LR S2H H ys ss/\∀d kvs H',H d=none->Lv H H' d kvs ss->Q (.ref d) H'
theorem ziu(T:Txt K mg ad fd):FnOk P w K mg base CX0 1 (ad 8) (fd 8) ["land"] sp_leav:=by
 refine T.leaving_of.fn.ok zd7 (fun vs H Q E h=>?_) (fun cdv A outer s H vs Q E hr h=>?_)
 ·obtain⟨l,ys,ss,rfl,_⟩:=h;rfl
 obtain⟨l,ys,ss,rfl,hl,hn,hs,k⟩:=h;have zw:=@pss3;have zc:=@zbe;have zO:=@zgl;have zm:=@zd0;have zq:=@zc8;have qpv:=@pv;have zG:=@zff;have zE:=@zec;have zj:=@zbd;have zH:=@zfa;have zf:=@zah;have zC:=@zeb;have zD:=@zir;have yf:=@pe_dsd;have zu:=@zdr;have zx:=@zcz;have zg:=@pa1;have ze:=@zaz;generalize @L2.PE=QE,@L2.PT=QT,@L2.PW=QW,@L2.PA=QA,@L2.PS=QS,@L2.PSs=QSs,@L2.PG=QG,@L2.PGs=QGs,@L2.PI=QI,@L2.PO=QO,@L2.PIf=QIf at zw zc zO zm zq qpv zG zE zj zH zf zC zD yf zu zx zg ze⊢;refine⟨_,
  (zw
   (zc (i:=1) zd7.nd rfl (kj rfl) zO)
   (zm pK rfl (zq (qpv 0)) (zG (n:=2) rfl (zE (zj (i:=2) zd7.nd rfl (kj rfl)) (zE (zj (i:=3) zd7.nd rfl (kj rfl)) zH))) (zf (zC (zD pZ uL uM zc9 (yf (zem hr) (qpv 1) (qpv 2) (zu zx) ⟨rfl,rfl,rfl,rfl⟩) (zg (qpv 3) za1)))))
   (ze (qpv 1)))
  ,?_⟩
 clear zw zc zO zm zq qpv zG zE zj zH zf zC zD yf zu zx zg ze QE QT QW QA QS QSs QG QGs QI QO QIf
 dsimp! [L2.start]
 simp! [zmq];intro d hd;have gd:=za2 hd (HO.dT []);refine zbc ?_;simp! [zd1];refine⟨⟨_,.of (gd _ _ hl)⟩,?_⟩;refine zba (K:=K) (a:=l) (xs:=ys) (fun i σ H'=>∃(kvs:List (List Key×V))(o1 o2:Option V),σ=[some (V.ref l),some (V.ref d),o1,o2]/\Lv H H' d kvs (ss.take i)) ⟨[],none,none,rfl,gd,hd,upd_same,pY _,fun p v z=>(by cases z),fun p z=>rfl,fun p p' v z=>(by cases z)⟩ (fun i σ H' _ iv=>.of (by obtain⟨_,_,_,_,lv⟩:=iv;exact lv.same _ _ hl)) ?_ ?_
 ·intro _ _;rintro i v σ H2 hi ⟨kvs,o1,o2,rfl,lv⟩;obtain⟨p,e,rfl,he',c,c',h1,h2,h3⟩:=hs.2 i v hi;have hi':=(kH.mp hi).1;have h1':=lv.same _ _ h1;simp! [tDSd,h1'];refine⟨zp3 lv.at_,fun t ht=>?_⟩;refine lv.app (p:=e.1) (q:=e.2) (by rw[pI];omega) (h2.same lv.same) (h3.same lv.same) ht fun l' H3 zs kvs' e1 e2 lv'=>?_
  rw[kq,he'];exact⟨ze7 e1,l',rfl,zs,e1,e2,kvs',lv'⟩
 ·rintro σ H2 ⟨kvs,o1,o2,rfl,lv⟩;simp! [];rw[kU (QZ hs.1.symm)] at lv;exact k d kvs H2 hd lv
def RgQ(H:Hp)(p:Addr)(r:List Q3):Prop:=∃zs,H p=some (.lst zs)/\LR QH H zs r
theorem RgQ.same{H H':Hp}{p:Addr}{r:List Q3}(h:RgQ H p r)(g:Same H H'):RgQ H' p r:=by
 obtain⟨zs,h1,h2⟩:=h;exact⟨zs,g _ _ h1,h2.same g⟩
theorem RgQ.put{H:Hp}{p R:Addr}{r:List Q3}{ys:List V}{o:HO}(h:RgQ H p r)(ne:p≠R)(hR:H R=some (.lst ys)):RgQ (upd H R o) p r:=by
 obtain⟨zs,h1,h2⟩:=h;exact⟨zs,by rw[za7 ne];exact h1,h2.ts zcr (zc6 hR)⟩
theorem LR.imp{α:Type}{R R':Hp->Addr->α->Prop}{H H':Hp}{ys:List V}{as:List α}(h:LR R H ys as)(k:∀p a,R H p a->R' H' p a):LR R' H' ys as:=⟨h.1,fun j v z=>by
 obtain⟨p,a,e,f,r⟩:=h.2 j v z;exact⟨p,a,e,f,k _ _ r⟩⟩
theorem zmd{H H':Hp}{ys:List V}{rs:List (List Q3)}(h:LR RgQ H ys rs)(g:Same H H'):LR RgQ H' ys rs:=h.imp fun _ _ t=>t.same g
theorem lr_ord{α:Type}{R:Hp->Addr->α->Prop}{H:Hp}{ys:List V}{fs:List α}{p:List Nat}(z0:α)(h:LR R H ys fs)(or:p.Perm (kc fs.length)):LR R H (p.map fun i=>ys.getD i .non) (p.map fun i=>fs.getD i z0):=by
 refine⟨by rw[kO,kO],fun j v hv=>?_⟩
 rw[pG] at hv
 cases e:p[j]? with
 |none=>rw[e] at hv;cases hv
 |some i=>
  rw[e] at hv;have ev:ys.getD i .non=v:=by simpa using hv
  have hi:i<fs.length:=kx.mp (or.mem_iff.mp (kz e));obtain⟨q1,f,e1,e2,e3⟩:=h.at (j:=i) (by rw[h.1];exact hi)
  rw[kZ,e1] at ev;refine⟨q1,f,ev.symm,?_,e3⟩;rw[pG,e,QJ,kZ,e2];rfl
theorem ky_apart{g:Int}{a b:Q3}(ha:PQ 700 a)(hb:PQ 700 b)(ga:a.w<=g)(gb:b.w<=g)(e:kyQ g a=kyQ g b):a=b:=by
 cases h1:bq a b with
 |true=>
  have:=ky_lt ha.pos hb.pos ga gb h1;rw[e,sto2.irr] at this
  cases this
 |false=>
  cases h2:bq b a with
  |true=>
   have:=ky_lt hb.pos ha.pos gb ga h2;rw[e,sto2.irr] at this
   cases this
  |false=>exact pq_tri ha hb h1 h2
theorem zk3{g:Int}:∀{a b:List Q3},(∀p,p∈a->PQ 700 p/\p.w<=g)->(∀p,p∈b->PQ 700 p/\p.w<=g)->a.map (kyQ g)=b.map (kyQ g)->a=b
 |[],[],_,_,_=>rfl
 |[],_::_,_,_,e=>by cases e
 |_::_,[],_,_,e=>by cases e
 |x::xs,y::ys,ha,hb,e=>by
  rw[kh,kh] at e
  injection e with e1 e2
  have h1:=ha x (by simp)
  have h2:=hb y (by simp)
  rw[ky_apart h1.1 h2.1 h1.2 h2.2 e1,zk3 (fun p hp=>ha p (kI _ hp)) (fun p hp=>hb p (kI _ hp)) e2]
def P2H(H:Hp)(p:Addr)(a:Int×Int):Prop:=H p=some (.tup [.int a.1,.int a.2])
theorem zek:∀(H H':Hp)(p:Addr)(a:Int×Int),zad H H'->P2H H p a->P2H H' p a:=fun _ _ _ _ g h=>g _ _ h
theorem lsI_lr{H:Hp}{p:Addr}{qs:List V}{ks:List (Int×Int)}(h:H p=some (.lst qs))(r:LR P2H H qs ks):LsI H (.ref p) ks:=by
 refine⟨p,qs,rfl,h,r.1,fun j k hk=>?_⟩;obtain⟨b,k',e1,e2,e3⟩:=r.at (j:=j) (by rw[r.1];exact(kH.mp hk).1)
 rw[hk] at e2
 cases e2;exact⟨b,e1,e3⟩
theorem LsI.same'{H H':Hp}{v:V}{ks:List (Int×Int)}(h:LsI H v ks)(g:Same H H'):LsI H' v ks:=by
 obtain⟨q0,qs0,e0,hq0,l0,k0⟩:=h;refine⟨q0,qs0,e0,g _ _ hq0,l0,fun j k hk=>?_⟩;obtain⟨b,hb1,hb2⟩:=k0 j k hk;exact⟨b,hb1,g _ _ hb2⟩
theorem stoL:STO ltL:=⟨zob,ltL_tr,zpu⟩
def lposP:Pos:=(lamAt zak).2
def qlP:Str:=(PyProof.Rows.envOfC "by_points" (za0 zak) 0 0 .none).qual++"<lambda>"
theorem zlq{fs:List (List Q3)}(h:∀r,r∈fs->r.length<=150):fs.flatten.length<=150*fs.length:=by
 induction fs with
 |nil=>exact kG _
 |cons r fs ih=>
  rw[UV,kJ,pJ];have:=h r (by simp)
  have:=ih fun r hr=>h r (kI _ hr);omega
def OrdR(g:Int)(os:List (List Q3)):Prop:=os.Pairwise fun a b=>ltL (a.map (kyQ g)) (b.map (kyQ g))=true
def sp_byp(tb:Addr)(lp:Pos)(ql:Str):Sp:=fun vs H Q _=>∃(l:Addr)(ys:List V)(fs:List (List Q3))(A:Addr->Prop),vs=[.ref l]/\H l=some (.lst ys)/\ys.length<64/\LR (fun H1 p r=>A p/\RgQ H1 p r) H ys fs/\(∀r,r∈fs->r.length<=150)/\fs.Nodup/\zd2 H tb lp ql/\
 ∀D zs os g H',H D=none->zb9 tb H H'->zd2 H' tb lp ql->H' D=some (.lst zs)->LR (fun H1 p r=>A p/\RgQ H1 p r) H' zs os->os.Perm fs->(∀r,r∈fs->∀p,p∈r->PQ 700 p/\p.w<=g)->OrdR g os->Q (.ref D) H'
theorem ziy(T:Txt K mg ad fd)(hK:K.In base)(hB:base.BuiltinsAt mg (ad 33)):FnOk P w K mg base CX0 3 (ad 6) (fd 6) ["things"] (sp_byp (ad 33) lposP qlP):=by
 refine T.by_points_c.ok zdw (fun vs H Q E h=>?_) (fun A outer s H vs Q E hr h=>?_)
 ·obtain⟨l,ys,fs,A,rfl,_⟩:=h;rfl
 obtain⟨l,ys,fs,A,rfl,hl,h64,hpA,h10,nd,lt,k⟩:=h;have hp:LR RgQ H ys fs:=hpA.imp (R':=RgQ) fun _ _ t=>t.2;have zA:=@pss4;have zc:=@zbe;have zu:=@zdr;have zx:=@zcz;have zm:=@zd0;have zq:=@zc8;have qpv:=@pv;have zj:=@zbd;have zf:=@zah;have zC:=@zeb;have zD:=@zir;have zg:=@pa1;have zh:=@zbh;have ze:=@zaz;have yu:=@pe_sortK;have zy:=@zee;unfold L2.CompBody at zy;have yv:=@pi_listK;have zF:=@zfd;have zX:=@zkf;generalize @L2.PE=QE,@L2.PT=QT,@L2.PW=QW,@L2.PA=QA,@L2.PS=QS,@L2.PSs=QSs,@L2.PG=QG,@L2.PGs=QGs,@L2.PI=QI,@L2.PO=QO,@L2.PIf=QIf at zA zc zu zx zm zq qpv zj zf zC zD zg zh ze yu zy yv zF zX⊢;refine⟨_,
  (zA
   (zc (i:=1) zdw.nd rfl (kj rfl) (zu zx))
   (zm pK rfl (zq (qpv 0)) (zj (i:=2) zdw.nd rfl (kj rfl)) (zf (zC (zD pZ AC AD zk1 (qpv 1) (zg (qpv 2) za1)))))
   (zc (i:=3) zdw.nd rfl (jU rfl) (zh (zix T) (hr.mono (by omega)) rfl T.order_keys.mg T.order_keys.fn.kp T.order_keys.bn .nil pass0 (zg (qpv 1) za1)))
   (ze (yu (P:=ad 33) (c0:=ad 32) (x:="thing") (y:="keys") (c:=s.heap.objs.size+1) (i0:=3) (zn7 (hu80 hr)) hr rfl T.b_sorted (zg (qpv 0) za1) ⟨rfl,rfl,rfl,rfl,rfl,by decide+kernel,by decide+kernel⟩ rfl rfl rfl rfl rfl rfl (PySem.W.codeHd_of_K hK T.by_points_c.hd) hB (fun _ _ _ _=>rfl) (by intro fa2 c2 A2 s3 H3 hu2;exact(zy (dsc:=(lamAt zak).1) (N:=["thing","keys"]) (own:=["P"]) (ix:=[1]) rfl rfl rfl ⟨rfl,by decide+kernel,by decide+kernel,by decide+kernel,by decide+kernel⟩ (yv (K':=K) rfl (qpv 0)) (fun cl C fp s2 H2 xe=>⟨(zj (i:=0) (show Qf (["P","keys"]:List Str) from by decide+kernel) rfl (kj rfl)),zF,(zX (by show A2.units+3+1<cLine;omega) (qpv 1) (qpv 0) (fun _ _=>rfl))⟩))))))
  ,?_⟩
 clear zA zc zu zx zm zq qpv zj zf zC zD zg zh ze yu zy yv zF zX QE QT QW QA QS QSs QG QGs QI QO QIf
 dsimp! [L2.start]
 simp! [];intro D0 hD0;have g0:=za2 hD0 (HO.lst []);refine zbc ?_;simp! [zd1];refine⟨⟨_,.of (g0 _ _ hl)⟩,?_⟩;have lenF:fs.length=ys.length:=hp.1.symm;refine zba (K:=K) (a:=l) (xs:=ys) (fun i σ H'=>Same H H'/\∃(zs:List V)(o:Option V),σ=[some (.ref l),some (.ref D0),o,none]/\H' D0=some (.lst zs)/\LR QH H' zs (fs.take i).flatten) ⟨g0,[],none,rfl,upd_same,by rw[Qe];exact .nil⟩ (fun i σ H' _ iv=>.of (iv.1 _ _ hl)) ?_ ?_
 ·intro _ _;rintro i v σ H1 hi ⟨g1,zs,o,rfl,hD1,hz⟩;obtain⟨p,f,rfl,hf,us,hq,hu⟩:=hp.2 i v hi;have hq1:=g1 _ _ hq;have hi':=(kH.mp hi).1;have lf:=h10 f (kz hf);have lz:zs.length<=9700:=by
   rw[hz.1];have:=zlq (fs:=fs.take i) fun r hr=>h10 r (BR hr);rw[pI] at this;omega
  simp! [zke,hq1];refine⟨ze7 hD1,zs,hD1,uq (small10k (by have:=hu.1;omega)),zaj g1 hD0,?_⟩
  rw[kq,hf];show LR QH _ _ (fs.take i++[f]).flatten;rw[Bb,UV,List.flatten_nil,pU];exact(hz.app (hu.same g1)).ts zcr (zc6 hD1)
 ·rintro σ H1 ⟨g1,zs,o,rfl,hD1,hz⟩;rw[kU (by rw[lenF];exact kG _)] at hz
  simp! [];refine⟨D0,zs,fs.flatten,rfl,hD1,by rw[hz.1];have:=zlq h10;omega,hz,fun d kvs g qs H2 g2 hd2 gp gm ky _ _ _ _=>?_⟩
  have g12:=g1.trans g2;simp! [tSortK];refine⟨ys,g12 _ _ hl,h64,lt.same g12,fun c' H3 st3 lt3 hc3=>?_⟩;have lt2:=lt.same g12;have hl3:=st3.lst lt2 (g12 _ _ hl);have hd3:H3 d=some (.dT kvs):=st3 _ _ (lt2.ne hd2 fun _ z=>nomatch z) hd2;have ts3:zad H2 H3:=fun b xs q=>st3.tup lt2 q;have ky3:=ky.ts ts3;have hp3:LR RgQ H3 ys fs:=(zmd hp g12).imp fun p r⟨us,h1,h2⟩=>⟨us,st3.lst lt2 h1,h2.ts zcr ts3⟩;have hpA3:LR (fun H1 p r=>A p/\RgQ H1 p r) H3 ys fs:=hpA.imp fun p r⟨x,t⟩=>⟨x,(by obtain⟨us,h1,h2⟩:=t.same g12;exact⟨us,st3.lst lt2 h1,h2.ts zcr ts3⟩)⟩
  refine⟨fun i ks H'=>Same H3 H'/\ks.length=i/\∀j,j<i->LsI H' (ks.getD j .non) ((fs.getD j []).map (kyQ g)),⟨⟨.refl _,rfl,fun j hj=>by omega⟩,fun i ks H' q=>q.1 _ _ hc3,fun i ks H' q=>q.2.1,fun i ks H4 v hv q=>?_,fun ks H4 q=>?_⟩⟩
  ·obtain⟨g4,lk,q⟩:=q;obtain⟨p,f,rfl,hf,hpf⟩:=hp3.2 i v hv;obtain⟨us,hq,hu⟩:=hpf.same g4;have hd4:=g4 _ _ hd3;have lf:=h10 f (kz hf);refine zc2 ?_;simp! [zd1];refine⟨⟨_,.of hq⟩,fun D hD=>?_⟩;refine zbx (xs:=us) (zlh P2H (f.map (kyQ g)) H4 D) (zfp hD) (fun n qs H' z=>.of (z.1 _ _ hq)) ?_ ?_
   ·rintro n qs H5 x hn hx iv;obtain⟨g5,hD5,lq,hqs⟩:=id iv;obtain⟨a,c,rfl,hc',hc⟩:=hu.2 n x hx;obtain⟨b,e1,h1⟩:=ky3 c (uX.mpr ⟨f,kz hf,kz hc'⟩);simp! [tDGet];refine⟨_,by rw[←e1];exact .t (k:=kQ c) (g5 _ _ hd4) (g5 _ _ hc.1),?_⟩
    exact zfk zek hD (by have:=hu.1;omega) iv hn (by rw[pG,hc'];rfl) (.refl _) (g5 _ _ (g4 _ _ h1))
   ·rintro qs H5 ⟨g5,hD5,lq,hqs⟩;rw[kU (by rw[kO,hu.1];exact kG _)] at hqs
    refine⟨g4.trans g5,by rw[kJ,lk];rfl,fun j hj=>?_⟩
    by_cases e:j<i
    ·have ej:(ks++[V.ref D]).getD j .non=ks.getD j .non:=by
      rw[kZ,uH (by omega),←kZ]
     rw[ej];exact LsI.same' (q j e) g5
    ·have ej:j=i:=by omega
     subst ej;have e3:(ks++[V.ref D]).getD j .non=.ref D:=by
      rw[kZ,pO (by omega),lk,vR]
      rfl
     have e4:fs.getD j []=f:=by rw[kZ,hf];rfl
     rw[e3,e4];exact lsI_lr hD5 hqs
  ·obtain⟨g4,lk,q⟩:=q;refine⟨_,⟨fun i=>(fs.getD i []).map (kyQ g),fun i hi=>q i (by omega),rfl⟩,fun D pp hD or ep=>?_⟩
   have gw:∀r,r∈fs->∀p,p∈r->PQ 700 p/\p.w<=g:=fun r hr p hp'=>⟨lr_pq hz (uX.mpr ⟨r,hr,hp'⟩),gm _ (uX.mpr ⟨r,hr,hp'⟩)⟩;rw[←lenF] at or ep;have ndk:(fs.map fun r=>r.map (kyQ g)).Nodup:=by
    rw[kK,uR];rw[kK] at nd;exact nd.imp_of_mem fun{a b} ha hb ne e=>ne (zk3 (gw a ha) (gw b hb) e)
   obtain⟨pm,pw⟩:=zov stoL (fun r:List Q3=>r.map (kyQ g)) [] ndk or ep;have g5:=za2 hD (HO.lst (pp.toList.map fun i=>ys.getD i .non));refine k D _ _ g _ (g12.free (?_:H2 D=none)) (fun b o nb e=>g5 _ _ (g4 _ _ (st3 _ _ nb (g12 _ _ e)))) ((lt3.same g4).same g5) upd_same ((lr_ord [] hpA3 or).imp fun p r t=>⟨t.1,t.2.same (g4.trans g5)⟩) pm gw pw;have h3:=g4.free hD
   cases e:H2 D with
   |none=>rfl
   |some o=>
    by_cases nb:D=(ad 33)
    ·obtain⟨tp,e3,_⟩:=lt3;rw[←nb,h3] at e3
     cases e3
    ·rw[st3 _ _ nb e] at h3
     cases h3
theorem zf6(T:Txt K mg ad fd):FnOk P w K mg base CX0 1 (ad 14) (fd 14) ["_law_one","_law_other"] zhr:=by
 refine T.law_divisor.fn.ok zf7 (fun vs H Q E h=>?_) (fun cdv A outer s H vs Q E hr h=>?_)
 ·obtain⟨a,b,rfl,_⟩:=h;rfl
 obtain⟨a,b,rfl,q⟩:=h;have zB:=@pss2;have zP:=@zgm;have zr:=@zcl;have qpv:=@pv;have za:=@zbr;have zf:=@zah;have yg:=@ps_par;have zk:=@pa2;have zb:=@zdx;have ze:=@zaz;have zv:=@zcj;have zg:=@pa1;generalize @L2.PE=QE,@L2.PT=QT,@L2.PW=QW,@L2.PA=QA,@L2.PS=QS,@L2.PSs=QSs,@L2.PG=QG,@L2.PGs=QGs,@L2.PI=QI,@L2.PO=QO,@L2.PIf=QIf at zB zP zr qpv za zf yg zk zb ze zv zg⊢;refine⟨_,
  (zB
   (zP pK (zr zpo (qpv 1) za (nomark _)) (zf (yg (i:=0) (j:=1) rfl zf7.nd rfl rfl (by decide) rfl rfl (zk (qpv 1) za1 (zb zi5 (qpv 0) (qpv 1)) za8) rfl)))
   (ze (zv call_abs rfl T.b_abs bt_abs (zg (qpv 0) za1))))
  ,?_⟩
 clear zB zP zr qpv za zf yg zk zb ze zv zg QE QT QW QA QS QSs QG QGs QI QO QIf
 dsimp! [L2.start]
 simp! [];refine while_by (iv_ldiv a b H) (fun σ _=>(getI σ 1).natAbs) ⟨rfl,_,_,rfl,rfl⟩ ?_
  (fun σ H Q Q' m h=>by obtain⟨v,e,s,k,e2,q⟩:=h;exact⟨v,e,s,k,e2,m _ _ q⟩)
 rintro σ H' ⟨rfl,x,y,rfl,e⟩;simp! [];refine ite2 (fun c=>?_) (fun c=>?_)
 ·have hy:y≠0:=by simpa using c
  exact⟨hy,⟨rfl,_,_,rfl,(G_fmod x y).trans e⟩,zmu hy⟩
 ·have hy:y=0:=by simpa using c
  subst hy;rw[G_end,e];exact q
theorem znw{xs:List Int}{j:Int}(h0:0<=j)(h1:j<xs.length):∃x:Int,atI (xs.map V.int) j=some (.int x):=by
 have hk:j.toNat<xs.length:=by omega
 refine⟨xs[j.toNat],?_⟩;have z:atI (xs.map V.int) ((j.toNat:Nat):Int)=some (.int xs[j.toNat]):=zce (by rw[pG,kR hk];rfl)
 rw[show((j.toNat:Nat):Int)=j by omega] at z
 exact z
def sp_cellN(K:kM):Sp:=fun vs H Q _=>∃(a:Addr)(ns:List Int)(k:Int),vs=[.ref a,.int k]/\SqL K H a (ns.map V.int)/\0<=k/\k<=1000/\∀v:Int,Q (.int v) H
theorem zbw(T:Txt K mg ad fd):FnOk P w K mg base CX0 1 (ad 13) (fd 13) ["_law_script","_law_k"] (sp_cellN K):=by
 refine T.law_cell.fn.ok zf9 (fun vs H Q E h=>?_) (fun cdv A outer s H vs Q E hr h=>?_)
 ·obtain⟨a,ns,k,rfl,_⟩:=h;rfl
 obtain⟨a,ns,k,rfl,hS,k0,k1,q⟩:=h;have zA:=@pss4;have zn:=@zf4;have zr:=@zcl;have qpv:=@pv;have zv:=@zcj;have zg:=@pa1;have zf:=@zah;have ze:=@zaz;have zd:=@zel;have zp:=@zc7;have zc:=@zbe;have zb:=@zdx;have za:=@zbr;generalize @L2.PE=QE,@L2.PT=QT,@L2.PW=QW,@L2.PA=QA,@L2.PS=QS,@L2.PSs=QSs,@L2.PG=QG,@L2.PGs=QGs,@L2.PI=QI,@L2.PO=QO,@L2.PIf=QIf at zA zn zr qpv zv zg zf ze zd zp zc zb za⊢;refine⟨_,
  (zA
   (zn (zr zj7 (qpv 1) (zv zdv rfl T.b_len zdn (zg (qpv 0) za1)) (nomark _)) (zf (ze (zd zlf (qpv 0) (qpv 1) (fun _ _=>rfl)))) zp)
   (zc (i:=2) zf9.nd rfl (kj rfl) (zb zar (zb zdq (qpv 1) za) za))
   (zn (zr op_gt (zv zdv rfl T.b_len zdn (zg (qpv 0) za1)) za (nomark _)) (zf (zc (i:=2) zf9.nd rfl (kj rfl) (zb zcq (zb zar (zb zdq (zd zlf (qpv 0) (zb zi5 (zb zdq (qpv 1) za) (zv zdv rfl T.b_len zdn (zg (qpv 0) za1))) (fun _ _=>rfl)) za) (zb zdq (qpv 1) za)) za))) zp)
   (ze (zb zcq (zb zan (qpv 2) (qpv 2)) za)))
  ,?_⟩
 clear zA zn zr qpv zv zg zf ze zd zp zc zb za QE QT QW QA QS QSs QG QGs QI QO QIf
 dsimp! [L2.start]
 simp only[tSeq,tNext,tRet,tRetN,tIfS,tAsg,gName,tDrop,tVar,tC,tOp,tUn,rI,rI0,rU,rEq,rNe,tTest,tB,tNot,tAnd,tOr,tAndV,tOrV,tNotV,tIf,tCB,tCall,tNil,zcf,tTup,tLst,gTup,gCons,gNil,L2.start,rIsi,rIxT,rIxL,cx_K,tyN_non,tyN_bl,tyN_int,tyN_str,isi_ii,isi_ib,isi_it,isi_il,isi_bi,isi_bb,isi_tt,isi_ni,isi_si,isi_ti,isi_li,isi_di,isi_ll,scal_ii,scal_bb,sz0,sz1,sz2,sz3,sz4,kh,uU,pJ,Qw,jB,jW,Av,pU,AS,AT,Bp,Bq,jC,V.int.injEq,V.bl.injEq,V.ref.injEq,V.ty.injEq,jp,and_true,true_and,exists_eq_left,exists_eq_left',exists_and_left,exists_and_right,exists_eq,exists_eq',and_assoc,Bf,Bg,Ua,BO,pF,if_true,if_false,reduceIte,Al,decide_true,decide_false];have e32:(2:Nat)^32=4294967296:=rfl;refine⟨_,.inl hS,ite2 (fun c=>?_) (fun c=>⟨.inr ⟨by decide,by decide⟩,_,.inl hS,ite2 (fun c2=>?_) (fun c2=>?_)⟩)⟩
 ·have c:=of_decide_eq_true c;rw[kO] at c;obtain⟨x,ax⟩:=znw (xs:=ns) k0 c;exact⟨_,hS,_,ax,q x⟩
 ·have c2:=of_decide_eq_true c2;have l0:0<(ns.map V.int).length:=by omega
  have f0:=Int.fmod_nonneg_of_pos (k*7) (show(0:Int)<((ns.map V.int).length:Int) by omega)
  have f1:=Int.fmod_lt_of_pos (k*7) (show(0:Int)<((ns.map V.int).length:Int) by omega)
  refine⟨.inr ⟨by decide,by decide⟩,_,.inl hS,by omega,_,hS,?_⟩
  generalize (k*7).fmod ((ns.map V.int).length:Int)=m at*;rw[kO] at f1;obtain⟨x,ax⟩:=znw (xs:=ns) f0 f1;refine⟨_,ax,x,rfl,.inr ⟨by decide,by decide⟩,.inr ⟨by decide,by decide⟩,by decide,?_,by decide,q _⟩
  have v0:=At (x*48271+k*7919) (show(2147483647:Int)≠0 by decide)
  have v1:=gO (x*48271+k*7919) (show(0:Int)<2147483647 by decide)
  generalize (x*48271+k*7919)%2147483647=v at*;exact cbig (m:=32) (n:=32) (by omega) (by omega)
 ·exact⟨cbig (m:=32) (n:=32) (by omega) (by omega),by decide,q _⟩
def ptQ(x y w:Int):Q3:=⟨x.fdiv (G (G x y) w),y.fdiv (G (G x y) w),w.fdiv (G (G x y) w)⟩
def sp_pt:Sp:=fun vs H Q _=>∃x y w:Int,vs=[.int x,.int y,.int w]/\Bd3 60 x y w/\0<w/\∀p H',Same H H'->QH H' p (ptQ x y w)->Q (.ref p) H'
theorem ptQ_pq{x y w:Int}(b:Bd3 60 x y w)(hw:0<w):PQ 60 (ptQ x y w):=g3_pt hw b.1 b.2.1 b.2.2
theorem zds(T:Txt K mg ad fd):FnOk P w K mg base CX0 2 (ad 15) (fd 15) ["_law_east","_law_north","_law_share"] sp_pt:=by
 refine T.law_point.fn.ok zgd (fun vs H Q E h=>?_) (fun cdv A outer s H vs Q E hr h=>?_)
 ·obtain⟨x,y,w,rfl,_⟩:=h;rfl
 obtain⟨x,y,w,rfl,b,hw,k⟩:=h;have zB:=@pss2;have zc:=@zbe;have zh:=@zbh;have zk:=@pa2;have qpv:=@pv;have ze:=@zaz;have zo:=@zdp;have zt:=@pa3;have zb:=@zdx;generalize @L2.PE=QE,@L2.PT=QT,@L2.PW=QW,@L2.PA=QA,@L2.PS=QS,@L2.PSs=QSs,@L2.PG=QG,@L2.PGs=QGs,@L2.PI=QI,@L2.PO=QO,@L2.PIf=QIf at zB zc zh zk qpv ze zo zt zb⊢;refine⟨_,
  (zB
   (zc (i:=3) zgd.nd rfl (kj rfl) (zh (zf6 T) (hr.mono (by decide)) rfl T.law_divisor.mg T.law_divisor.fn.kp T.law_divisor.bn .nil pass0 (zk (zh (zf6 T) (hr.mono (by decide)) rfl T.law_divisor.mg T.law_divisor.fn.kp T.law_divisor.bn .nil pass0 (zk (qpv 0) za1 (qpv 1) za1)) zby (qpv 2) za1)))
   (ze (zo (zt (zb zea (qpv 0) (qpv 3)) za8 (zb zea (qpv 1) (qpv 3)) za8 (zb zea (qpv 2) (qpv 3)) za8))))
  ,?_⟩
 clear zB zc zh zk qpv ze zo zt zb QE QT QW QA QS QSs QG QGs QI QO QIf
 dsimp! [L2.start]
 simp! [zhr];have lt:=ze1 (g3_lt (x:=x) (y:=y) hw b.2.2) (show 60<=8000 by decide)
 exact⟨cdivb (g3_ne hw) lt,cdivb (g3_ne hw) lt,cdivb (g3_ne hw) lt,fun p hp=>k p _ (za2 hp _) ⟨upd_same,Pt.mono (ptQ_pq b hw) (by decide)⟩⟩
structure Fr where
 (p q r s t u w:Int)
def sm(x:Int):Prop:= -100<=x/\x<=100
def bg(x:Int):Prop:= -2000000<=x/\x<=2000000
def FrB(f:Fr):Prop:=sm f.p/\sm f.q/\sm f.r/\sm f.s/\bg f.t/\bg f.u/\1<=f.w/\f.w<=2000000/\f.q*f.r<f.p*f.s
def FmH(H:Hp)(l:Addr)(f:Fr):Prop:=∃xs,H l=some (.lst xs)/\atI xs 0=some (.int f.p)/\atI xs 1=some (.int f.q)/\atI xs 2=some (.int f.r)/\atI xs 3=some (.int f.s)/\atI xs 4=some (.int f.t)/\atI xs 5=some (.int f.u)/\atI xs 6=some (.int f.w)/\FrB f
theorem FmH.same{H H':Hp}{l:Addr}{f:Fr}(h:FmH H l f)(g:Same H H'):FmH H' l f:=by
 obtain⟨xs,h1,h2⟩:=h;exact⟨xs,g _ _ h1,h2⟩
theorem fr_mul{q r:Int}(q0: -3<=q)(q1:q<=3)(r0: -3<=r)(r1:r<=3): -9<=q*r/\q*r<=9:=by
 rcases(by omega:q= -3∨q= -2∨q= -1∨q=0∨q=1∨q=2∨q=3) with e|e|e|e|e|e|e<;>subst e<;>omega
theorem fr_div{m p:Int}(h0: -9<=m)(h1:m<=9)(p1:1<=p)(p4:p<=4): -9<=m.fdiv p/\m.fdiv p<=9:=by
 rw[ui _ (by omega)]
 rcases(by omega:p=1∨p=2∨p=3∨p=4) with e|e|e|e<;>subst e<;>omega
theorem fr_det{m p c:Int}(p1:1<=p)(c0:0<=c):m<p*(m.fdiv p+1+c):=by
 rw[ui _ (by omega)]
 have h1:=gO m (show 0<p by omega)
 have h2:=BB m p;have h3:0<=p*c:=vK (by omega) c0
 have h4:p*(m/p+1+c)=p*(m/p)+p+p*c:=by grind
 omega
def sp_frame(K:kM):Sp:=fun vs H Q _=>∃(a:Addr)(ns:List Int),vs=[.ref a]/\SqL K H a (ns.map V.int)/\∀D f H',H D=none->Same H H'->FmH H' D f->Q (.ref D) H'
theorem zjb(T:Txt K mg ad fd):FnOk P w K mg base CX0 2 (ad 21) (fd 21) ["_law_script"] (sp_frame K):=by
 refine T.law_frame.fn.ok zbg (fun vs H Q E h=>?_) (fun cdv A outer s H vs Q E hr h=>?_)
 ·obtain⟨a,ns,rfl,_⟩:=h;rfl
 obtain⟨a,ns,rfl,hS,k⟩:=h;have yw:=@pss8;have zc:=@zbe;have zh:=@zbh;have zk:=@pa2;have qpv:=@pv;have za:=@zbr;have zb:=@zdx;have zn:=@zf4;have zr:=@zcl;have zf:=@zah;have zp:=@zc7;have ze:=@zaz;have zu:=@zdr;have yx:=@pa7;generalize @L2.PE=QE,@L2.PT=QT,@L2.PW=QW,@L2.PA=QA,@L2.PS=QS,@L2.PSs=QSs,@L2.PG=QG,@L2.PGs=QGs,@L2.PI=QI,@L2.PO=QO,@L2.PIf=QIf at yw zc zh zk qpv za zb zn zr zf zp ze zu yx⊢;refine⟨_,
  (yw
   (zc (i:=1) zbg.nd rfl (kj rfl) (zh (zbw T) (hr.mono (by decide)) rfl T.law_cell.mg T.law_cell.fn.kp T.law_cell.bn .nil pass0 (zk (qpv 0) za1 za zao)))
   (zc (i:=2) zbg.nd rfl (kj rfl) (zb zar za (zb zcq (qpv 1) za)))
   (zc (i:=3) zbg.nd rfl (kj rfl) (zb zcp (zb zcq (zb zfe (qpv 1) za) za) za))
   (zc (i:=4) zbg.nd rfl (kj rfl) (zb zcp (zb zcq (zb zfe (qpv 1) za) za) za))
   (zc (i:=5) zbg.nd rfl (kj rfl) (zh (zbw T) (hr.mono (by decide)) rfl T.law_cell.mg T.law_cell.fn.kp T.law_cell.bn .nil pass0 (zk (qpv 0) za1 za zao)))
   (zc (i:=6) zbg.nd rfl (kj rfl) (zb zar za (zb zcq (zh (zbw T) (hr.mono (by decide)) rfl T.law_cell.mg T.law_cell.fn.kp T.law_cell.bn .nil pass0 (zk (qpv 0) za1 za zao)) za)))
   (zn (zr op_eq (zb zcq (zb zfe (zh (zbw T) (hr.mono (by decide)) rfl T.law_cell.mg T.law_cell.fn.kp T.law_cell.bn .nil pass0 (zk (qpv 0) za1 za zao)) za) za) za (nomark _)) (zf (zc (i:=6) zbg.nd rfl (kj rfl) (zb zar za (zb zcq (zh (zbw T) (hr.mono (by decide)) rfl T.law_cell.mg T.law_cell.fn.kp T.law_cell.bn .nil pass0 (zk (qpv 0) za1 za zao)) za)))) zp)
   (ze (zu (yx (qpv 2) za1 (qpv 3) za1 (qpv 4) za1 (zb zar (zb zar (zb zea (zb zan (qpv 3) (qpv 4)) (qpv 2)) za) (zb zcq (zb zfe (qpv 1) za) za)) za8 (zb zcp (zb zcq (qpv 5) za) za) za8 (zb zcp (zb zcq (zb zfe (qpv 5) za) za) za) za8 (qpv 6) za1))))
  ,?_⟩
 clear yw zc zh zk qpv za zb zn zr zf zp ze zu yx QE QT QW QA QS QSs QG QGs QI QO QIf
 dsimp! [L2.start]
 simp! [];have e8:(2:Nat)^8=256:=rfl;refine⟨a,ns,2,rfl,hS,by decide,by decide,fun v=>?_⟩
 have p1:1<=1+v%4/\1+v%4<=4:=by omega
 have q1: -3<=v/4%7-3/\v/4%7-3<=3:=by omega
 have r1: -3<=v/28%7-3/\v/28%7-3<=3:=by omega
 have c1:CBig (v/4%7-3) (v/28%7-3):=cbig (m:=8) (n:=8) (by omega) (by omega)
 have c2:CDivB ((v/4%7-3)*(v/28%7-3)) (1+v%4):=cdivb (by omega) (n:=8) (by omega)
 have s1:=fr_mul q1.1 q1.2 r1.1 r1.2;have s2:=fr_div s1.1 s1.2 p1.1 p1.2;have fin:∀(v2 w:Int)(D:Addr),H D=none->1<=w->w<=2000000->Q (.ref D) (upd H D (HO.lst [V.int (1+v%4),V.int (v/4%7-3),V.int (v/28%7-3),V.int (((v/4%7-3)*(v/28%7-3)).fdiv (1+v%4)+1+v/196%3),V.int (v2%2000003-1000001),V.int (v2/7%31-15),V.int w])):=fun v2 w D hD w1 w2=>
  k D ⟨_,_,_,_,_,_,w⟩ _ hD (za2 hD _) ⟨_,upd_same,rfl,rfl,rfl,rfl,rfl,rfl,rfl,⟨by show _<=1+v%4;omega,by show 1+v%4<=_;omega⟩,⟨by show _<=v/4%7-3;omega,by show v/4%7-3<=_;omega⟩,⟨by show _<=v/28%7-3;omega,by show v/28%7-3<=_;omega⟩,⟨by show _<=((v/4%7-3)*(v/28%7-3)).fdiv (1+v%4)+1+v/196%3;omega,by show((v/4%7-3)*(v/28%7-3)).fdiv (1+v%4)+1+v/196%3<=_;omega⟩,⟨by show _<=v2%2000003-1000001;omega,by show v2%2000003-1000001<=_;omega⟩,⟨by show _<=v2/7%31-15;omega,by show v2/7%31-15<=_;omega⟩,w1,w2,fr_det p1.1 (by omega)⟩
 refine⟨v,rfl,by decide,v,rfl,⟨by decide,by decide⟩,by decide,v,rfl,⟨by decide,by decide⟩,by decide,a,ns,3,rfl,hS,by decide,by decide,fun v2=>?_⟩
 refine⟨a,ns,4,rfl,hS,by decide,by decide,fun v3=>⟨v3,rfl,by decide,a,ns,4,rfl,hS,by decide,by decide,fun v4=>⟨v4,rfl,⟨by decide,by decide⟩,by decide,ite2 (fun _=>?_) (fun _=>?_)⟩⟩⟩
 ·exact⟨a,ns,4,rfl,hS,by decide,by decide,fun v5=>⟨v5,rfl,by decide,c1,c2,v,rfl,⟨by decide,by decide⟩,by decide,v2,rfl,by decide,v2,rfl,⟨by decide,by decide⟩,by decide,by decide,fun D hD=>fin v2 _ D hD (by omega) (by omega)⟩⟩
 ·exact⟨c1,c2,v,rfl,⟨by decide,by decide⟩,by decide,v2,rfl,by decide,v2,rfl,⟨by decide,by decide⟩,by decide,by decide,fun D hD=>fin v2 _ D hD (by omega) (by omega)⟩
def mv(f:Fr)(a:Int×Int):Int×Int:=(f.p*a.1+f.q*a.2+f.t,f.r*a.1+f.s*a.2+f.u)
def Bx(a:Int×Int):Prop:=0<=a.1/\a.1<=8/\0<=a.2/\a.2<=6
theorem zlv{a b:Int}(h:sm a)(b0: -300<=b)(b1:b<=300):(a*b).natAbs<=30000:=by
 obtain⟨h0,h1⟩:=h;rw[Qd];exact gP (show a.natAbs<=100 by omega) (show b.natAbs<=300 by omega)
theorem zqb{f:Fr}{x:Int×Int}(fb:FrB f)(bx:Bx x):Bd3 60 (mv f x).1 (mv f x).2 f.w:=by
 obtain⟨f1,f2,f3,f4,⟨t1,t2⟩,⟨u1,u2⟩,w1,w2,_⟩:=fb;obtain⟨x1,x2,x3,x4⟩:=bx;have m1:=zlv f1 (show-300<=x.1 by omega) (by omega)
 have m2:=zlv f2 (show-300<=x.2 by omega) (by omega)
 have m3:=zlv f3 (show-300<=x.1 by omega) (by omega)
 have m4:=zlv f4 (show-300<=x.2 by omega) (by omega)
 have e:(2:Nat)^60=1152921504606846976:=rfl;refine⟨?_,?_,by omega⟩
 ·show(f.p*x.1+f.q*x.2+f.t).natAbs<_
  omega
 ·show(f.r*x.1+f.s*x.2+f.u).natAbs<_
  omega
def ori(a b c:Int×Int):Int:=(b.1-a.1)*(c.2-a.2)-(b.2-a.2)*(c.1-a.1)
def fd2(f:Fr):Int:=f.p*f.s-f.q*f.r
def ptP(w:Int)(k:Int×Int):Q3:=ptQ k.1 k.2 w
def PF(f:Fr)(x:Int×Int):Q3:=ptP f.w (mv f x)
theorem zp6{w:Int}(hw:0<w)(k:Int×Int):∃g:Int,0<g/\(ptP w k).x*g=k.1/\(ptP w k).y*g=k.2/\(ptP w k).w*g=w:=zod hw ⟨k.1,k.2⟩
theorem pt_inj{w:Int}(hw:0<w){a b:Int×Int}(e:ptP w a=ptP w b):a=b:=by
 obtain⟨e1,e2⟩:=lw_inj (a:=⟨a.1,a.2⟩) (b:=⟨b.1,b.2⟩) hw (congrArg Q3.x e) (congrArg Q3.y e) (congrArg Q3.w e);exact QX e1 e2
theorem mv_inj{f:Fr}(hd:0<fd2 f){a b:Int×Int}(e:mv f a=mv f b):a=b:=by
 unfold mv at e
 injection e with e1 e2
 unfold fd2 at hd;have k1:(f.p*f.s-f.q*f.r)*(a.1-b.1)=0:=by grind
 have k2:(f.p*f.s-f.q*f.r)*(a.2-b.2)=0:=by grind
 have z1:=(Au.mp k1).resolve_left (by omega)
 have z2:=(Au.mp k2).resolve_left (by omega)
 exact QX (by omega) (by omega)
theorem zfo{f:Fr}(hw:0<f.w)(hd:0<fd2 f){a b:Int×Int}(e:PF f a=PF f b):a=b:=mv_inj hd (pt_inj hw e)
theorem zlw{y z:Int}(h1:0<y↔0<z)(h2:y<0↔z<0):sgn y=sgn z:=by
 unfold sgn
 by_cases c:0<y
 ·rw[if_pos c,if_pos (h1.mp c)]
 ·rw[if_neg c,if_neg (fun z=>c (h1.mpr z))]
  by_cases d:y<0
  ·rw[if_pos d,if_pos (h2.mp d)]
  ·rw[if_neg d,if_neg (fun z=>d (h2.mpr z))]
theorem zo9{f:Fr}(hw:0<f.w)(hd:0<fd2 f)(a b c:Int×Int):sgD (PF f a) (PF f b) (PF f c)=sgn (ori a b c):=by
 obtain⟨g1,h1,a1,a2,a3⟩:=zp6 hw (mv f a);obtain⟨g2,h2,b1,b2,b3⟩:=zp6 hw (mv f b);obtain⟨g3,h3,c1,c2,c3⟩:=zp6 hw (mv f c);have d:=zmt g1 g2 g3 (PF f a).x (PF f a).y (PF f a).w (PF f b).x (PF f b).y (PF f b).w (PF f c).x (PF f c).y (PF f c).w;unfold PF at d;rw[a1,a2,a3,b1,b2,b3,c1,c2,c3] at d;have e:det3 (mv f a).1 (mv f a).2 f.w (mv f b).1 (mv f b).2 f.w (mv f c).1 (mv f c).2 f.w=f.w*fd2 f*ori a b c:=by
  unfold det3 lnA lnB lnC fd2 ori mv;dsimp only
  grind
 rw[e] at d;have k1:0<f.w*fd2 f:=vp hw hd;have k2:0<g1*g2*g3:=vp (vp h1 h2) h3;unfold sgD PF;generalize det3 (ptP f.w (mv f a)).x (ptP f.w (mv f a)).y (ptP f.w (mv f a)).w (ptP f.w (mv f b)).x (ptP f.w (mv f b)).y (ptP f.w (mv f b)).w (ptP f.w (mv f c)).x (ptP f.w (mv f c)).y (ptP f.w (mv f c)).w=y at*;generalize ori a b c=z at*;generalize f.w*fd2 f=k at*;generalize g1*g2*g3=g at*;have s1:=zdc (a:=0) (b:=y) k2;have s2:=zdc (a:=0) (b:=z) k1;have s3:=zdc (a:=y) (b:=0) k2;have s4:=zdc (a:=z) (b:=0) k1;rw[UU] at s1 s2 s3 s4;refine zlw ?_ ?_
 ·rw[←s1,←s2,d]
 ·rw[←s3,←s4,d]
theorem zhy{a b c:Q3}:∀(ts:List Q3)(m:Q3),(m=c∨(soon a b c m=true/\c∈ts))->(∀t,t∈ts->t≠c->soon a b c t=true/\soon a b t c=false)->zhd a b m ts=c
 |[],m,h,_=>by
  rcases h with h|⟨_,h⟩
  ·exact h
  ·cases h
 |t::ts,m,h,k=>by
  show zhd a b (if soon a b t m=true then t else m) ts=c
  have kt:∀u,u∈ts->u≠c->soon a b c u=true/\soon a b u c=false:=fun u hu=>k u (kI _ hu)
  by_cases e:t=c
  ·refine zhy ts _ (.inl ?_) kt;rcases h with h|⟨h,_⟩
   ·rw[e,h];split<;>rfl
   ·rw[e,if_pos h]
  ·have kk:=k t (by simp) e
   rcases h with h|⟨h,hm⟩
   ·refine zhy ts _ (.inl ?_) kt;rw[h,if_neg (by rw[kk.2];decide)]
   ·refine zhy ts _ (.inr ⟨?_,?_⟩) kt
    ·split
     ·exact kk.1
     ·exact h
    ·rcases kg.mp hm with z|z
     ·exact absurd z.symm e
     ·exact z
theorem first_is{a b c:Q3}{ts:List Q3}(hc:c∈ts)(h:∀t,t∈ts->t≠c->soon a b c t=true/\soon a b t c=false):zht a b ts=c:=by
 cases ts with
 |nil=>cases hc
 |cons t ts=>
  refine zhy ts t ?_ fun u hu=>h u (kI _ hu)
  by_cases e:t=c
  ·exact .inl e
  ·refine .inr ⟨(h t (by simp) e).1,?_⟩
   rcases kg.mp hc with z|z
   ·exact absurd z.symm e
   ·exact z
theorem zqr{f:Fr}(hw:0<f.w)(hd:0<fd2 f)(a b c d:Int×Int):soon (PF f a) (PF f b) (PF f c) (PF f d)=if sgn (ori a b c)=sgn (ori a b d) then decide (sgn (ori a c d)<0) else decide (sgn (ori a b c)<sgn (ori a b d)):=by
 unfold soon;rw[zo9 hw hd,zo9 hw hd,zo9 hw hd]
abbrev E2:=(Int×Int)×(Int×Int)
abbrev C3:=Int×Int×Int
theorem fin8{p:Fin 8->Prop}(h0:p 0)(h1:p 1)(h2:p 2)(h3:p 3)(h4:p 4)(h5:p 5)(h6:p 6)(h7:p 7):∀k,p k
 |⟨0,_⟩=>h0
 |⟨1,_⟩=>h1
 |⟨2,_⟩=>h2
 |⟨3,_⟩=>h3
 |⟨4,_⟩=>h4
 |⟨5,_⟩=>h5
 |⟨6,_⟩=>h6
 |⟨7,_⟩=>h7
theorem k8:∀k:Fin 8,k=0∨k=1∨k=2∨k=3∨k=4∨k=5∨k=6∨k=7:=by decide
theorem f44:∀k:Fin 8,k+4+4=k:=by decide
def dv(k:Fin 8):Int×Int:=[(2,0),(1,1),(0,2),(-1,1),(-2,0),(-1,-1),(0,-2),(1,-1)].getD k.val (0,0)
theorem dv_inj:∀k j,dv k=dv j->k=j:=by decide
theorem zog:∀k,dv (k+4)=(-(dv k).1,-(dv k).2):=by decide
def stp(a:Int×Int)(k:Fin 8):Int×Int:=(a.1+(dv k).1,a.2+(dv k).2)
theorem zey(a:Int×Int)(k:Fin 8):stp (stp a k) (k+4)=a:=by
 unfold stp;rw[zog];exact QX (by show a.1+_+ -_=_;omega) (by show a.2+_+ -_=_;omega)
theorem zgt{a:Int×Int}{k j:Fin 8}(h:stp a k=stp a j):k=j:=by
 unfold stp at h
 injection h with h1 h2
 exact dv_inj _ _ (QX (by omega) (by omega))
def triK(c:C3):List ((Int×Int)×Fin 8):=
 if c.2.2=0 then[((2*c.1,2*c.2.1),0),((2*c.1+2,2*c.2.1),3),((2*c.1+1,2*c.2.1+1),5)]
 else if c.2.2=1 then[((2*c.1+2,2*c.2.1),2),((2*c.1+2,2*c.2.1+2),5),((2*c.1+1,2*c.2.1+1),7)]
 else if c.2.2=2 then[((2*c.1+2,2*c.2.1+2),4),((2*c.1,2*c.2.1+2),7),((2*c.1+1,2*c.2.1+1),1)]
 else if c.2.2=3 then[((2*c.1,2*c.2.1+2),6),((2*c.1,2*c.2.1),1),((2*c.1+1,2*c.2.1+1),3)]
 else[]
def ok(a:Int×Int):Prop:=(a.1%2=0/\a.2%2=0)∨(a.1%2=1/\a.2%2=1)
def okp(a:Int×Int)(k:Fin 8):Prop:=(a.1%2=0/\a.2%2=0)∨(a.1%2=1/\a.2%2=1/\k.val%2=1)
def zaa(a:Int×Int)(k:Fin 8):C3:=
 if a.1%2=0 then[(a.1/2,a.2/2,0),(a.1/2,a.2/2,3),(a.1/2-1,a.2/2,1),(a.1/2-1,a.2/2,0),(a.1/2-1,a.2/2-1,2),(a.1/2-1,a.2/2-1,1),(a.1/2,a.2/2-1,3),(a.1/2,a.2/2-1,2)].getD k.val (0,0,0)
 else(a.1/2,a.2/2,([1,2,2,3,3,0,0,1]:List Int).getD k.val 0)
theorem zd5{a:Int×Int}(h:a.1%2=0)(k:Fin 8):zaa a k=[(a.1/2,a.2/2,0),(a.1/2,a.2/2,3),(a.1/2-1,a.2/2,1),(a.1/2-1,a.2/2,0),(a.1/2-1,a.2/2-1,2),(a.1/2-1,a.2/2-1,1),(a.1/2,a.2/2-1,3),(a.1/2,a.2/2-1,2)].getD k.val (0,0,0):=by
 unfold zaa;rw[if_pos h]
theorem zeg{a:Int×Int}(h:a.1%2=1)(k:Fin 8):zaa a k=(a.1/2,a.2/2,([1,2,2,3,3,0,0,1]:List Int).getD k.val 0):=by
 unfold zaa;rw[if_neg (by omega)]
theorem zaf{a b c a' b' c':Int}(h1:a=a')(h2:b=b')(h3:c=c'):((a,b,c):C3)=(a',b',c'):=by rw[h1,h2,h3]
theorem e_of{a:Int×Int}{k:Fin 8}{c:C3}(h1:a.1%2=0)(h2:a.2%2=0)(h:[(a.1/2,a.2/2,(0:Int)),(a.1/2,a.2/2,3),(a.1/2-1,a.2/2,1),(a.1/2-1,a.2/2,0),(a.1/2-1,a.2/2-1,2),(a.1/2-1,a.2/2-1,1),(a.1/2,a.2/2-1,3),(a.1/2,a.2/2-1,2)].getD k.val (0,0,0)=c):okp a k/\zaa a k=c:=⟨.inl ⟨h1,h2⟩,by rw[zd5 h1];exact h⟩
theorem o_of{a:Int×Int}{k:Fin 8}{c:C3}(h1:a.1%2=1)(h2:a.2%2=1)(hk:k.val%2=1)(h:(a.1/2,a.2/2,([1,2,2,3,3,0,0,1]:List Int).getD k.val 0)=c):okp a k/\zaa a k=c:=⟨.inr ⟨h1,h2,hk⟩,by rw[zeg h1];exact h⟩
theorem zi0{a:Int×Int}{k:Fin 8}{c:C3}(h:(a,k)∈triK c):okp a k/\zaa a k=c:=by
 obtain⟨x,y,q⟩:=c;unfold triK at h;dsimp only at h
 split at h
 ·subst q;simp only[kg,UC,or_false,Uu] at h;rcases h with⟨e,rfl⟩|⟨e,rfl⟩|⟨e,rfl⟩<;>subst e
  ·exact e_of (by dsimp only;omega) (by dsimp only;omega) (zaf (by dsimp only;omega) (by dsimp only;omega) rfl)
  ·exact e_of (by dsimp only;omega) (by dsimp only;omega) (zaf (by dsimp only;omega) (by dsimp only;omega) rfl)
  ·exact o_of (by dsimp only;omega) (by dsimp only;omega) rfl (zaf (by dsimp only;omega) (by dsimp only;omega) rfl)
 split at h
 ·subst q;simp only[kg,UC,or_false,Uu] at h;rcases h with⟨e,rfl⟩|⟨e,rfl⟩|⟨e,rfl⟩<;>subst e
  ·exact e_of (by dsimp only;omega) (by dsimp only;omega) (zaf (by dsimp only;omega) (by dsimp only;omega) rfl)
  ·exact e_of (by dsimp only;omega) (by dsimp only;omega) (zaf (by dsimp only;omega) (by dsimp only;omega) rfl)
  ·exact o_of (by dsimp only;omega) (by dsimp only;omega) rfl (zaf (by dsimp only;omega) (by dsimp only;omega) rfl)
 split at h
 ·subst q;simp only[kg,UC,or_false,Uu] at h;rcases h with⟨e,rfl⟩|⟨e,rfl⟩|⟨e,rfl⟩<;>subst e
  ·exact e_of (by dsimp only;omega) (by dsimp only;omega) (zaf (by dsimp only;omega) (by dsimp only;omega) rfl)
  ·exact e_of (by dsimp only;omega) (by dsimp only;omega) (zaf (by dsimp only;omega) (by dsimp only;omega) rfl)
  ·exact o_of (by dsimp only;omega) (by dsimp only;omega) rfl (zaf (by dsimp only;omega) (by dsimp only;omega) rfl)
 split at h
 ·subst q;simp only[kg,UC,or_false,Uu] at h;rcases h with⟨e,rfl⟩|⟨e,rfl⟩|⟨e,rfl⟩<;>subst e
  ·exact e_of (by dsimp only;omega) (by dsimp only;omega) (zaf (by dsimp only;omega) (by dsimp only;omega) rfl)
  ·exact e_of (by dsimp only;omega) (by dsimp only;omega) (zaf (by dsimp only;omega) (by dsimp only;omega) rfl)
  ·exact o_of (by dsimp only;omega) (by dsimp only;omega) rfl (zaf (by dsimp only;omega) (by dsimp only;omega) rfl)
 ·cases h
theorem zei{a b a' b':Int}{k:Fin 8}(h1:a=a')(h2:b=b'):(((a,b),k):(Int×Int)×Fin 8)=((a',b'),k):=by rw[h1,h2]
theorem triK_at{a:Int×Int}{k:Fin 8}(h:okp a k):(a,k)∈triK (zaa a k):=by
 obtain⟨x,y⟩:=a;rcases h with⟨h1,h2⟩|⟨h1,h2,h3⟩
 ·rw[zd5 h1];dsimp only at h1 h2;rcases k8 k with rfl|rfl|rfl|rfl|rfl|rfl|rfl|rfl
  ·show _∈triK (x/2,y/2,0)
   exact kg.mpr (.inl (zei (by dsimp only;omega) (by dsimp only;omega)))
  ·show _∈triK (x/2,y/2,3)
   exact kI _ (kg.mpr (.inl (zei (by dsimp only;omega) (by dsimp only;omega))))
  ·show _∈triK (x/2-1,y/2,1)
   exact kg.mpr (.inl (zei (by dsimp only;omega) (by dsimp only;omega)))
  ·show _∈triK (x/2-1,y/2,0)
   exact kI _ (kg.mpr (.inl (zei (by dsimp only;omega) (by dsimp only;omega))))
  ·show _∈triK (x/2-1,y/2-1,2)
   exact kg.mpr (.inl (zei (by dsimp only;omega) (by dsimp only;omega)))
  ·show _∈triK (x/2-1,y/2-1,1)
   exact kI _ (kg.mpr (.inl (zei (by dsimp only;omega) (by dsimp only;omega))))
  ·show _∈triK (x/2,y/2-1,3)
   exact kg.mpr (.inl (zei (by dsimp only;omega) (by dsimp only;omega)))
  ·show _∈triK (x/2,y/2-1,2)
   exact kI _ (kg.mpr (.inl (zei (by dsimp only;omega) (by dsimp only;omega))))
 ·rw[zeg h1];dsimp only at h1 h2;have m3:∀{α:Type}{p q r s:α},s=r->s∈[p,q,r]:=fun e=>by rw[e];simp
  rcases k8 k with rfl|rfl|rfl|rfl|rfl|rfl|rfl|rfl
  ·exact absurd h3 (by decide)
  ·exact m3 (zei (by dsimp only;omega) (by dsimp only;omega))
  ·exact absurd h3 (by decide)
  ·exact m3 (zei (by dsimp only;omega) (by dsimp only;omega))
  ·exact absurd h3 (by decide)
  ·exact m3 (zei (by dsimp only;omega) (by dsimp only;omega))
  ·exact absurd h3 (by decide)
  ·exact m3 (zei (by dsimp only;omega) (by dsimp only;omega))
theorem zgp{a:Int×Int}{k:Fin 8}:okp (stp a k) (k+4)↔okp a k:=by
 obtain⟨x,y⟩:=a;have d:dv 0=(2,0)/\dv 1=(1,1)/\dv 2=(0,2)/\dv 3=(-1,1)/\dv 4=(-2,0)/\dv 5=(-1,-1)/\dv 6=(0,-2)/\dv 7=(1,-1):=by decide
 obtain⟨d0,d1,d2,d3,d4,d5,d6,d7⟩:=d;unfold okp stp;dsimp only;rcases k8 k with rfl|rfl|rfl|rfl|rfl|rfl|rfl|rfl
 all_goals
  simp only[d0,d1,d2,d3,d4,d5,d6,d7]
  constructor
  ·rintro(⟨h1,h2⟩|⟨h1,h2,h3⟩)
   ·first|exact .inl ⟨by omega,by omega⟩|exact .inr ⟨by omega,by omega,by decide⟩
   ·first|exact absurd h3 (by decide)|exact .inl ⟨by omega,by omega⟩|exact .inr ⟨by omega,by omega,by decide⟩
  ·rintro(⟨h1,h2⟩|⟨h1,h2,h3⟩)
   ·first|exact .inl ⟨by omega,by omega⟩|exact .inr ⟨by omega,by omega,by decide⟩
   ·first|exact absurd h3 (by decide)|exact .inl ⟨by omega,by omega⟩|exact .inr ⟨by omega,by omega,by decide⟩
theorem zfu{a:Int×Int}{k:Fin 8}(h:okp a k):zaa (stp a k) (k+4)=zaa a (k+7):=by
 obtain⟨x,y⟩:=a;rcases h with⟨h1,h2⟩|⟨h1,h2,h3⟩
 ·dsimp only at h1 h2;rcases k8 k with rfl|rfl|rfl|rfl|rfl|rfl|rfl|rfl
  ·rw[zd5 (a:=(x,y)) h1,zd5 (a:=stp (x,y) 0) (by show(x+2)%2=0;omega)]
   show(((x+2)/2-1,(y+0)/2-1,2):C3)=(x/2,y/2-1,2)
   exact zaf (by omega) (by omega) rfl
  ·rw[zd5 (a:=(x,y)) h1,zeg (a:=stp (x,y) 1) (by show(x+1)%2=1;omega)]
   show(((x+1)/2,(y+1)/2,0):C3)=(x/2,y/2,0)
   exact zaf (by omega) (by omega) rfl
  ·rw[zd5 (a:=(x,y)) h1,zd5 (a:=stp (x,y) 2) (by show(x+0)%2=0;omega)]
   show(((x+0)/2,(y+2)/2-1,3):C3)=(x/2,y/2,3)
   exact zaf (by omega) (by omega) rfl
  ·rw[zd5 (a:=(x,y)) h1,zeg (a:=stp (x,y) 3) (by show(x+ -1)%2=1;omega)]
   show(((x+ -1)/2,(y+1)/2,1):C3)=(x/2-1,y/2,1)
   exact zaf (by omega) (by omega) rfl
  ·rw[zd5 (a:=(x,y)) h1,zd5 (a:=stp (x,y) 4) (by show(x+ -2)%2=0;omega)]
   show(((x+ -2)/2,(y+0)/2,0):C3)=(x/2-1,y/2,0)
   exact zaf (by omega) (by omega) rfl
  ·rw[zd5 (a:=(x,y)) h1,zeg (a:=stp (x,y) 5) (by show(x+ -1)%2=1;omega)]
   show(((x+ -1)/2,(y+ -1)/2,2):C3)=(x/2-1,y/2-1,2)
   exact zaf (by omega) (by omega) rfl
  ·rw[zd5 (a:=(x,y)) h1,zd5 (a:=stp (x,y) 6) (by show(x+0)%2=0;omega)]
   show(((x+0)/2-1,(y+ -2)/2,1):C3)=(x/2-1,y/2-1,1)
   exact zaf (by omega) (by omega) rfl
  ·rw[zd5 (a:=(x,y)) h1,zeg (a:=stp (x,y) 7) (by show(x+1)%2=1;omega)]
   show(((x+1)/2,(y+ -1)/2,3):C3)=(x/2,y/2-1,3)
   exact zaf (by omega) (by omega) rfl
 ·dsimp only at h1 h2;rcases k8 k with rfl|rfl|rfl|rfl|rfl|rfl|rfl|rfl
  ·exact absurd h3 (by decide)
  ·rw[zeg (a:=(x,y)) h1,zd5 (a:=stp (x,y) 1) (by show(x+1)%2=0;omega)]
   show(((x+1)/2-1,(y+1)/2-1,1):C3)=(x/2,y/2,1)
   exact zaf (by omega) (by omega) rfl
  ·exact absurd h3 (by decide)
  ·rw[zeg (a:=(x,y)) h1,zd5 (a:=stp (x,y) 3) (by show(x+ -1)%2=0;omega)]
   show(((x+ -1)/2,(y+1)/2-1,2):C3)=(x/2,y/2,2)
   exact zaf (by omega) (by omega) rfl
  ·exact absurd h3 (by decide)
  ·rw[zeg (a:=(x,y)) h1,zd5 (a:=stp (x,y) 5) (by show(x+ -1)%2=0;omega)]
   show(((x+ -1)/2,(y+ -1)/2,3):C3)=(x/2,y/2,3)
   exact zaf (by omega) (by omega) rfl
  ·exact absurd h3 (by decide)
  ·rw[zeg (a:=(x,y)) h1,zd5 (a:=stp (x,y) 7) (by show(x+1)%2=0;omega)]
   show(((x+1)/2-1,(y+ -1)/2,0):C3)=(x/2,y/2,0)
   exact zaf (by omega) (by omega) rfl
def Sd(cs:List C3)(e:E2):Prop:=∃c,c∈cs/\∃a k,(a,k)∈triK c/\e=(a,stp a k)
theorem zhj{cs:List C3}{a:Int×Int}{k:Fin 8}:Sd cs (a,stp a k)↔okp a k/\zaa a k∈cs:=by
 constructor
 ·rintro⟨c,hc,a',k',hm,e⟩
  injection e with e1 e2
  subst e1;have:=zgt e2;subst this;obtain⟨h1,rfl⟩:=zi0 hm;exact⟨h1,hc⟩
 ·rintro⟨h1,h2⟩;exact⟨_,h2,a,k,triK_at h1,rfl⟩
theorem zg0{cs:List C3}{a:Int×Int}{k:Fin 8}:Sd cs (stp a k,a)↔okp a k/\zaa a (k+7)∈cs:=by
 have e:(stp a k,a)=(stp a k,stp (stp a k) (k+4)):=by rw[zey]
 rw[e,zhj,zgp];exact⟨fun⟨h1,h2⟩=>⟨h1,by rw[←zfu h1];exact h2⟩,fun⟨h1,h2⟩=>⟨h1,by rw[zfu h1];exact h2⟩⟩
def Edg(cs:List C3)(es:List E2):Prop:=∀e,e∈es↔Sd cs e/\¬Sd cs (e.2,e.1)
def sec(cs:List C3)(a:Int×Int)(k:Fin 8):Bool:=decide (((a.1%2=0/\a.2%2=0)∨(a.1%2=1/\a.2%2=1))/\zaa a k∈cs)
def oB(b:Fin 8->Bool)(k:Fin 8):Bool:=b k&& !b (k+7)
def iB(b:Fin 8->Bool)(k:Fin 8):Bool:=b (k+7)&& !b k
theorem zm6:∀{a:Int×Int}{k:Fin 8},a.1%2=1->k.val%2=0->zaa a k=zaa a (k+7):=by
 intro a k h1 h2;rw[zeg h1,zeg h1];rcases k8 k with rfl|rfl|rfl|rfl|rfl|rfl|rfl|rfl
 ·rfl
 ·exact absurd h2 (by decide)
 ·rfl
 ·exact absurd h2 (by decide)
 ·rfl
 ·exact absurd h2 (by decide)
 ·rfl
 ·exact absurd h2 (by decide)
theorem zp2{cs:List C3}{a:Int×Int}{k:Fin 8}(h:sec cs a k≠sec cs a (k+7)):okp a k:=by
 unfold sec at h
 by_cases c1:a.1%2=0/\a.2%2=0
 ·exact .inl c1
 ·by_cases c2:a.1%2=1/\a.2%2=1
  ·by_cases c3:k.val%2=0
   ·rw[zm6 c2.1 c3] at h;exact absurd rfl h
   ·exact .inr ⟨c2.1,c2.2,by omega⟩
  ·rw[decide_eq_false (fun z=>z.1.elim c1 c2),decide_eq_false (fun z=>z.1.elim c1 c2)] at h;exact absurd rfl h
theorem zhn{cs:List C3}{a:Int×Int}{k j:Fin 8}(h:okp a k):sec cs a j=decide (zaa a j∈cs):=by
 have h':(a.1%2=0/\a.2%2=0)∨(a.1%2=1/\a.2%2=1):=h.imp id fun z=>⟨z.1,z.2.1⟩;unfold sec
 by_cases c:zaa a j∈cs
 ·rw[decide_eq_true ⟨h',c⟩,decide_eq_true c]
 ·rw[decide_eq_false (fun z=>c z.2),decide_eq_false c]
theorem oB_iff{b:Fin 8->Bool}{k:Fin 8}:oB b k=true↔b k=true/\b (k+7)=false:=by
 unfold oB
 cases b k<;>cases b (k+7)<;>decide
theorem iB_iff{b:Fin 8->Bool}{k:Fin 8}:iB b k=true↔b (k+7)=true/\b k=false:=by
 unfold iB
 cases b k<;>cases b (k+7)<;>decide
theorem Edg.out{cs:List C3}{es:List E2}(h:Edg cs es){a:Int×Int}{k:Fin 8}:(a,stp a k)∈es↔oB (sec cs a) k=true:=by
 rw[h,oB_iff];show Sd cs (a,stp a k)/\¬Sd cs (stp a k,a)↔_;rw[zhj,zg0]
 constructor
 ·rintro⟨⟨h1,h2⟩,h3⟩;rw[zhn h1,zhn h1];exact⟨decide_eq_true h2,decide_eq_false fun z=>h3 ⟨h1,z⟩⟩
 ·rintro⟨h1,h2⟩;have hk:=zp2 (by rw[h1,h2];decide:sec cs a k≠sec cs a (k+7))
  rw[zhn hk] at h1 h2;exact⟨⟨hk,of_decide_eq_true h1⟩,fun z=>of_decide_eq_false h2 z.2⟩
theorem Edg.inn{cs:List C3}{es:List E2}(h:Edg cs es){a:Int×Int}{k:Fin 8}:(stp a k,a)∈es↔iB (sec cs a) k=true:=by
 rw[h,iB_iff];show Sd cs (stp a k,a)/\¬Sd cs (a,stp a k)↔_;rw[zhj,zg0]
 constructor
 ·rintro⟨⟨h1,h2⟩,h3⟩;rw[zhn h1,zhn h1];exact⟨decide_eq_true h2,decide_eq_false fun z=>h3 ⟨h1,z⟩⟩
 ·rintro⟨h1,h2⟩;have hk:=zp2 (by rw[h1,h2];decide:sec cs a k≠sec cs a (k+7))
  rw[zhn hk] at h1 h2;exact⟨⟨hk,of_decide_eq_true h1⟩,fun z=>of_decide_eq_false h2 z.2⟩
theorem Edg.ray{cs:List C3}{es:List E2}(h:Edg cs es){e:E2}(he:e∈es):∃k,e.2=stp e.1 k:=by
 obtain⟨⟨c,_,a,k,_,rfl⟩,_⟩:=(h e).mp he;exact⟨k,rfl⟩
def mkb(b0 b1 b2 b3 b4 b5 b6 b7:Bool):Fin 8->Bool:=fun k=>[b0,b1,b2,b3,b4,b5,b6,b7].getD k.val false
theorem zmi(b:Fin 8->Bool):b=mkb (b 0) (b 1) (b 2) (b 3) (b 4) (b 5) (b 6) (b 7):=funext (fin8 rfl rfl rfl rfl rfl rfl rfl rfl)
def rk(k j:Fin 8):Nat:=(k-j).val
theorem v1':∀b0 b1 b2 b3 b4 b5 b6 b7:Bool,(∃k,iB (mkb b0 b1 b2 b3 b4 b5 b6 b7) k=true)->∃k,oB (mkb b0 b1 b2 b3 b4 b5 b6 b7) k=true:=by decide+kernel
theorem v2':∀b0 b1 b2 b3 b4 b5 b6 b7:Bool,∀k1 k2:Fin 8,iB (mkb b0 b1 b2 b3 b4 b5 b6 b7) k1=true->iB (mkb b0 b1 b2 b3 b4 b5 b6 b7) k2=true->k1≠k2->∃j,oB (mkb b0 b1 b2 b3 b4 b5 b6 b7) j=true/\rk k2 j<rk k2 k1:=by decide+kernel
theorem v0:∀k1 k2 j:Fin 8,rk k2 j<rk k2 k1->rk k1 j<rk k1 k2->False:=by decide
theorem v1{b:Fin 8->Bool}{k:Fin 8}(h:iB b k=true):∃j,oB b j=true:=by
 rw[zmi b] at h⊢;exact v1' _ _ _ _ _ _ _ _ ⟨k,h⟩
theorem v2{b:Fin 8->Bool}{k1 k2:Fin 8}(h1:iB b k1=true)(h2:iB b k2=true)(n:k1≠k2):∃j,oB b j=true/\rk k2 j<rk k2 k1:=by
 rw[zmi b] at h1 h2⊢;exact v2' _ _ _ _ _ _ _ _ k1 k2 h1 h2 n
theorem v_one{b:Fin 8->Bool}{k1 k2 j:Fin 8}(o:∀j',oB b j'=true->j'=j)(h1:iB b k1=true)(h2:iB b k2=true):k1=k2:=by
 by_cases n:k1=k2
 ·exact n
 ·exfalso
  obtain⟨a,a1,a2⟩:=v2 h1 h2 n;obtain⟨c,c1,c2⟩:=v2 h2 h1 (ve n);rw[o a a1] at a2;rw[o c c1] at c2;exact v0 k1 k2 j a2 c2
theorem v3{b:Fin 8->Bool}{k1 k2 j:Fin 8}(h1:iB b k1=true)(h2:iB b k2=true)(m1:∀j',oB b j'=true->rk k1 j<=rk k1 j')(m2:∀j',oB b j'=true->rk k2 j<=rk k2 j'):k1=k2:=by
 by_cases n:k1=k2
 ·exact n
 ·exfalso
  obtain⟨a,a1,a2⟩:=v2 h1 h2 n;obtain⟨c,c1,c2⟩:=v2 h2 h1 (ve n);exact v0 k1 k2 j (uS (m2 a a1) a2) (uS (m1 c c1) c2)
theorem v_min{p:Fin 8->Bool}{f:Fin 8->Nat}:∀n,(∃j,p j=true/\f j<=n)->∃j,p j=true/\∀j',p j'=true->f j<=f j'
 |0,⟨j,h1,h2⟩=>⟨j,h1,fun j' _=>by omega⟩
 |n+1,⟨j,h1,h2⟩=>by
  by_cases c:∃j',p j'=true/\f j'<=n
  ·exact v_min n c
  ·exact⟨j,h1,fun j' h=>by
    rcases UR n (f j') with z|z
    ·omega
    ·exact absurd ⟨j',h,z⟩ c⟩
theorem rk_inj:∀k j j':Fin 8,rk k j=rk k j'->j=j':=by decide
theorem oi_ne{b:Fin 8->Bool}{k j:Fin 8}(h1:iB b k=true)(h2:oB b j=true):j≠k:=fun z=>by
 subst z;have:=(iB_iff.mp h1).2;rw[(oB_iff.mp h2).1] at this
 cases this
def att(a:Int×Int)(k:Fin 8)(j:Int):Int×Int:=(a.1+j*(dv k).1,a.2+j*(dv k).2)
def onP(a b:Int×Int):Int×Int:=(2*b.1-a.1,2*b.2-a.2)
theorem zf2(a:Int×Int)(k:Fin 8):att a k 0=a:=by
 unfold att;rw[jK,jK,Qg,Qg]
theorem zcm(a:Int×Int)(k:Fin 8)(i j:Int):att (att a k i) k j=att a k (i+j):=by
 unfold att;dsimp only;rw[jj,jj,DP,DP]
theorem zgh(a:Int×Int)(k:Fin 8):att a k 1=stp a k:=by
 unfold att stp;rw[gq,gq]
theorem zlg(a:Int×Int)(k:Fin 8)(j:Int):att a (k+4) j=att a k (-j):=by
 unfold att;rw[zog];dsimp only;rw[Co,Co,Dj,Dj]
theorem zh7(a:Int×Int)(k:Fin 8):stp a (k+4)=att a k (-1):=by rw[←zgh,zlg]
theorem zdy(a:Int×Int)(k:Fin 8)(j:Int):stp (att a k j) k=att a k (j+1):=by rw[←zgh,zcm]
theorem zic(a:Int×Int)(k:Fin 8):onP a (stp a k)=stp (stp a k) k:=by
 unfold onP stp;exact QX (by dsimp only;omega) (by dsimp only;omega)
theorem onP_back(a:Int×Int)(k:Fin 8):onP (stp a k) a=stp a (k+4):=by
 unfold onP stp;rw[zog];exact QX (by dsimp only;omega) (by dsimp only;omega)
theorem zm5:dv 0=(2,0)/\dv 1=(1,1)/\dv 2=(0,2)/\dv 3=(-1,1)/\dv 4=(-2,0)/\dv 5=(-1,-1)/\dv 6=(0,-2)/\dv 7=(1,-1):=by decide
theorem dv_mul{k j:Fin 8}{m n:Int}(hm:0<m)(hn:0<n)(h1:m*(dv k).1=n*(dv j).1)(h2:m*(dv k).2=n*(dv j).2):k=j:=by
 obtain⟨d0,d1,d2,d3,d4,d5,d6,d7⟩:=zm5
 rcases k8 k with rfl|rfl|rfl|rfl|rfl|rfl|rfl|rfl<;>rcases k8 j with rfl|rfl|rfl|rfl|rfl|rfl|rfl|rfl<;>first|rfl|(exfalso;simp only[d0,d1,d2,d3,d4,d5,d6,d7] at h1 h2;omega)
theorem zq8{a:Int×Int}{k j:Fin 8}{m n:Int}(hm:0<m)(hn:0<n)(h:att a k m=att a j n):k=j:=by
 unfold att at h
 injection h with h1 h2
 exact dv_mul hm hn (by omega) (by omega)
theorem dv_ne:∀k,dv k≠(0,0):=by decide
theorem zi3{a:Int×Int}{k:Fin 8}{m n:Int}(h:att a k m=att a k n):m=n:=by
 unfold att at h
 injection h with h1 h2
 have e1:m*(dv k).1=n*(dv k).1:=by omega
 have e2:m*(dv k).2=n*(dv k).2:=by omega
 by_cases c:(dv k).1=0
 ·by_cases c2:(dv k).2=0
  ·exact absurd (QX c c2) (dv_ne k)
  ·exact UF c2 e2
 ·exact UF c e1
def lvP(es:List E2)(p:Int×Int):List (Int×Int):=(es.filter fun e=>decide (e.1=p)).map Di
theorem zkv{es:List E2}{p q:Int×Int}:q∈lvP es p↔(p,q)∈es:=by
 unfold lvP;rw[kW]
 constructor
 ·rintro⟨e,he,rfl⟩;obtain⟨h1,h2⟩:=pf.mp he;rw[←of_decide_eq_true h2];exact h1
 ·intro h;exact⟨(p,q),pf.mpr ⟨h,decide_eq_true rfl⟩,rfl⟩
def str(es:List E2)(a b:Int×Int):Bool:=decide (lvP es b=[onP a b])
theorem zkk{es:List E2}{a b:Int×Int}(h:str es a b=true):(b,onP a b)∈es:=by
 rw[←zkv,of_decide_eq_true h];exact kX.mpr rfl
theorem zkz{es:List E2}{a:Int×Int}{k j:Fin 8}(h:str es a (stp a k)=true)(hj:(stp a k,stp (stp a k) j)∈es):j=k:=by
 rw[←zkv,of_decide_eq_true h,kX,zic] at hj;exact zgt hj
inductive Goes (es:List E2):Int×Int->Int×Int->Int×Int->Prop where
 |stop {a b}:str es a b=false->Goes es a b b
 |step {a b c}:str es a b=true->Goes es b (onP a b) c->Goes es a b c
structure Wy(es:List E2)(a c:Int×Int)(k:Fin 8)(m:Nat):Prop where
 fin:c=att a k (m+1)
 mem:∀j:Nat,j<=m->(att a k j,att a k (j+1))∈es
 str:∀j:Nat,j<m->str es (att a k j) (att a k (j+1))=true
 stop:Mine.str es (att a k m) (att a k (m+1))=false
theorem Goes.wy{es:List E2}{a b c:Int×Int}(g:Goes es a b c):∀{k:Fin 8},b=stp a k->(a,b)∈es->∃m,Wy es a c k m:=by
 induction g with
 |@stop a b h=>
  intro k e he;subst e;refine⟨0,?_,fun j hj=>?_,fun j hj=>by omega,?_⟩
  ·show _=att a k (0+1)
   rw[ur,zgh]
  ·have:j=0:=by omega
   subst this;show(att a k 0,att a k (0+1))∈es;rw[ur,zgh,zf2];exact he
  ·show str es (att a k 0) (att a k (0+1))=false
   rw[ur,zgh,zf2];exact h
 |@step a b c h g ih=>
  intro k e he;subst e;have hm:=zkk h;rw[zic] at hm;obtain⟨m,w⟩:=ih (k:=k) (zic a k) (by rw[zic];exact hm)
  have sh:∀j:Int,att (stp a k) k j=att a k (j+1):=fun j=>by rw[←zgh,zcm,Int.add_comm]
  refine⟨m+1,?_,fun j hj=>?_,fun j hj=>?_,?_⟩
  ·rw[w.fin,sh];rfl
  ·cases j with
   |zero=>
    show(att a k 0,att a k (0+1))∈es
    rw[ur,zgh,zf2];exact he
   |succ j=>
    have:=w.mem j (by omega)
    rw[sh,sh] at this;exact this
  ·cases j with
   |zero=>
    show Mine.str es (att a k 0) (att a k (0+1))=true
    rw[ur,zgh,zf2];exact h
   |succ j=>
    have:=w.str j (by omega)
    rw[sh,sh] at this;exact this
  ·have:=w.stop;rw[sh,sh] at this;exact this
def Bgn(es:List E2)(a:Int×Int)(k:Fin 8):Prop:=¬((stp a (k+4),a)∈es/\str es (stp a (k+4)) a=true)
section
variable{es:List E2}{a a' c c':Int×Int}{k k':Fin 8}{m m':Nat}
theorem Wy.dir(h:Wy es a c k m)(h':Wy es a c k' m'):k=k':=zq8 (by omega:(0:Int)<(m:Int)+1) (by omega:(0:Int)<(m':Int)+1) (h.fin.symm.trans h'.fin)
theorem Wy.one(h:Wy es a c k m)(h':Wy es a c' k m'):c=c':=by
 rcases jH m m' with z|z|z
 ·have:=h'.str m z;rw[h.stop] at this
  cases this
 ·subst z;rw[h.fin,h'.fin]
 ·have:=h.str m' z;rw[h'.stop] at this
  cases this
theorem Wy.from(h:Wy es a c k m):a=att c (k+4) (m+1):=by
 rw[zlg,h.fin,zcm,show((m:Int)+1+ -((m:Int)+1))=0 by omega,zf2]
theorem Wy.last(h:Wy es a c k m):(stp c (k+4),c)∈es:=by
 have:=h.mem m (kG _);rw[←h.fin] at this;rw[zh7,h.fin,zcm,show((m:Int)+1+ -1)=m by omega,←h.fin]
 exact this
theorem Wy.lastS(h:Wy es a c k m):Mine.str es (stp c (k+4)) c=false:=by
 have:=h.stop;rw[←h.fin] at this;rw[zh7,h.fin,zcm,show((m:Int)+1+ -1)=m by omega,←h.fin]
 exact this
theorem Wy.first(h:Wy es a c k m):(a,stp a k)∈es:=by
 have:=h.mem 0 (pY _);rw[show((0:Nat):Int)=0 from rfl,ur,zgh,zf2] at this;exact this
theorem Wy.lt(h:Wy es a c k m)(h':Wy es a' c k m')(b:Bgn es a k)(z:m<m'):False:=by
 have e:a=att a' k ((m':Int)-m):=by
  have:=h.from
  rw[zlg,h'.fin,zcm,show((m':Int)+1+ -((m:Int)+1))=(m':Int)-m by omega] at this
  exact this
 have e1:((m':Int)-m)=((m'-m-1:Nat):Int)+1:=by omega
 have h1:=h'.mem (m'-m-1) (by omega)
 have h2:=h'.str (m'-m-1) (by omega)
 rw[←e1,←e] at h1 h2;refine b ?_;rw[zh7];have e2:att a k (-1)=att a' k ((m'-m-1:Nat):Int):=by
  rw[e,zcm,show((m':Int)-m+ -1)=((m'-m-1:Nat):Int) by omega]
 rw[e2];exact⟨h1,h2⟩
theorem Wy.back(h:Wy es a c k m)(h':Wy es a' c k m')(b:Bgn es a k)(b':Bgn es a' k):a=a':=by
 rcases jH m m' with z|z|z
 ·exact(h.lt h' b z).elim
 ·subst z;rw[h.from,h'.from]
 ·exact(h'.lt h b' z).elim
theorem Wy.ne(h:Wy es a c k m):a≠c:=fun z=>by
 have e:=h.fin;rw[←z] at e;have:att a k 0=att a k ((m:Int)+1):=by rw[zf2];exact e
 have:=zi3 this;omega
end
structure Wys(es:List E2)(ws:List E2):Prop where
 nd:ws.Nodup
 of:∀w,w∈ws->∃k m,Wy es w.1 w.2 k m/\Bgn es w.1 k
 all:∀a k,(a,stp a k)∈es->Bgn es a k->∃c m,(a,c)∈ws/\Wy es a c k m
section
variable{cs:List C3}{es ws:List E2}
theorem Edg.bgn(E:Edg cs es){a c:Int×Int}{k j:Fin 8}{m:Nat}(h:Wy es a c k m)(hj:(c,stp c j)∈es):Bgn es c j:=by
 rintro⟨h1,h2⟩;have e:stp (stp c (j+4)) j=c:=by
  have:=zey c (j+4)
  rwa [f44] at this
 have one:∀j',oB (sec cs c) j'=true->j'=j:=fun j' z=>by
  have z:=E.out.mpr z;have g:∀d,d=c->str es (stp c (j+4)) d=true/\(d,stp d j')∈es:=fun d q=>by rw[q];exact⟨h2,z⟩
  exact zkz (a:=stp c (j+4)) (g _ e).1 (g _ e).2
 have i1:=E.inn.mp h1;have i2:=E.inn.mp h.last;have ek:=v_one one i1 i2;rw[ek,h.lastS] at h2
 cases h2
theorem Wys.next(E:Edg cs es)(W:Wys es ws){a c:Int×Int}{k j:Fin 8}{m:Nat}(h:Wy es a c k m)(hj:oB (sec cs c) j=true):∃d n,(c,d)∈ws/\Wy es c d j n:=W.all c j (E.out.mpr hj) (E.bgn h (E.out.mpr hj))
theorem Wys.rev(E:Edg cs es)(W:Wys es ws){w:E2}(h:w∈ws):¬(w.2,w.1)∈ws:=fun z=>by
 obtain⟨k,m,h1,_⟩:=W.of w h;obtain⟨j,n,h2,_⟩:=W.of _ z;have e:j=k+4:=by
  have a:=h2.fin;have b:=h1.from
  exact zq8 (by omega:(0:Int)<(n:Int)+1) (by omega:(0:Int)<(m:Int)+1) (a.symm.trans b)
 have l:=h2.last;dsimp only at l;rw[e,f44] at l;have i1:=E.inn.mp l
 have o1:=E.out.mp h1.first
 exact oi_ne i1 o1 rfl
end
def sg8(k j:Fin 8):Int:=sgn ((dv k).1*(dv j).2-(dv k).2*(dv j).1)
theorem sg8_rk:∀k j j':Fin 8,j≠k->j'≠k->rk k j<rk k j'->((if sg8 k j=sg8 k j' then decide (sg8 j j'<0) else decide (sg8 k j<sg8 k j'))=true/\(if sg8 k j'=sg8 k j then decide (sg8 j' j<0) else decide (sg8 k j'<sg8 k j))=false):=by decide
theorem zif{a:Int×Int}{k j:Fin 8}{m n:Int}(hm:0<m)(hn:0<n):sgn (ori a (att a k m) (att a j n))=sg8 k j:=by
 have e:ori a (att a k m) (att a j n)=m*n*((dv k).1*(dv j).2-(dv k).2*(dv j).1):=by
  unfold ori att;dsimp only
  grind
 have h:0<m*n:=vp hm hn;unfold sg8;rw[e];generalize (dv k).1*(dv j).2-(dv k).2*(dv j).1=z;generalize m*n=y at*;have s2:=zdc (a:=0) (b:=z) h;have s4:=zdc (a:=z) (b:=0) h;rw[UU] at s2 s4;exact zlw s2 s4
theorem soon_att{f:Fr}(hw:0<f.w)(hd:0<fd2 f){a:Int×Int}{k j j':Fin 8}{m n n':Int}(hm:0<m)(hn:0<n)(hn':0<n')(h1:j≠k)(h2:j'≠k)(h:rk k j<rk k j'):soon (PF f a) (PF f (att a k m)) (PF f (att a j n)) (PF f (att a j' n'))=true/\soon (PF f a) (PF f (att a k m)) (PF f (att a j' n')) (PF f (att a j n))=false:=by
 rw[zqr hw hd,zqr hw hd,zif hm hn,zif hm hn',zif hn hn',zif hn' hn];exact sg8_rk k j j' h1 h2 h
def tdF(f:Fr)(e:E2):Q3×Q3:=(PF f e.1,PF f e.2)
section
variable{f:Fr}{cs:List C3}{es ws:List E2}
theorem zhu(hw:0<f.w)(hd:0<fd2 f){e e':E2}(h:tdF f e=tdF f e'):e=e':=by
 unfold tdF at h
 injection h with h1 h2
 exact QX (zfo hw hd h1) (zfo hw hd h2)
theorem leav_td(hw:0<f.w)(hd:0<fd2 f){p:Int×Int}{t:Q3}(h:t∈leav (ws.map (tdF f)) (PF f p)):∃q,(p,q)∈ws/\t=PF f q:=by
 obtain⟨⟨a,b⟩,h1,h2⟩:=kW.mp (zid.mp h);unfold tdF at h2
 injection h2 with h2 h3
 have:=zfo hw hd h2;subst this;exact⟨b,h1,h3.symm⟩
theorem zoy{p q:Int×Int}(h:(p,q)∈ws):PF f q∈leav (ws.map (tdF f)) (PF f p):=zid.mpr (kW.mpr ⟨(p,q),h,rfl⟩)
theorem zfl(hw:0<f.w)(hd:0<fd2 f)(E:Edg cs es)(W:Wys es ws){a c:Int×Int}{k:Fin 8}{m:Nat}(h:Wy es a c k m):∃d j n,(c,d)∈ws/\Wy es c d j n/\zht (PF f c) (PF f a) (leav (ws.map (tdF f)) (PF f c))=PF f d/\∀j',oB (sec cs c) j'=true->rk (k+4) j<=rk (k+4) j':=by
 have i1:=E.inn.mp h.last;obtain⟨j0,o0⟩:=v1 i1;obtain⟨j,oj,mj⟩:=v_min (p:=oB (sec cs c)) (f:=rk (k+4)) _ ⟨j0,o0,kG _⟩
 obtain⟨d,n,hd1,wd⟩:=W.next E h oj
 refine⟨d,j,n,hd1,wd,first_is (zoy hd1) fun t ht ne=>?_,mj⟩;obtain⟨q,hq,rfl⟩:=leav_td hw hd ht;obtain⟨j',n',wq,_⟩:=W.of _ hq;dsimp only at wq
 have oq:=E.out.mp wq.first
 have nj:j≠j':=fun z=>by
  subst z;exact ne (by rw[wd.one wq])
 have lt:rk (k+4) j<rk (k+4) j':=by
  have:=mj j' oq;rcases Nat.lt_or_eq_of_le this with z|z
  ·exact z
  ·exact absurd (rk_inj _ _ _ z) nj
 rw[h.from,wd.fin,wq.fin];exact soon_att hw hd (by omega) (by omega) (by omega) (oi_ne i1 oj) (oi_ne i1 oq) lt
theorem zoj(hw:0<f.w)(hd:0<fd2 f)(E:Edg cs es)(W:Wys es ws):Fen (ws.map (tdF f)):=by
 refine⟨?_,fun e he=>?_,fun e he z=>?_,fun e he=>?_,fun e e' he he' z=>?_⟩
 ·rw[kK,uR];exact(kK.mp W.nd).imp fun n z=>n (zhu hw hd z)
 ·obtain⟨x,hx,rfl⟩:=kW.mp he;obtain⟨k,m,h,_⟩:=W.of x hx;exact fun z=>h.ne (zfo hw hd z)
 ·obtain⟨x,hx,rfl⟩:=kW.mp he;obtain⟨y,hy,e2⟩:=kW.mp z;have:y=(x.2,x.1):=zhu hw hd e2;rw[this] at hy;exact W.rev E hx hy
 ·obtain⟨x,hx,rfl⟩:=kW.mp he;obtain⟨k,m,h,_⟩:=W.of x hx;obtain⟨d,j,n,hd1,_⟩:=zfl hw hd E W h;exact List.ne_nil_of_mem (zoy hd1)
 ·obtain⟨x,hx,rfl⟩:=kW.mp he;obtain⟨y,hy,rfl⟩:=kW.mp he';obtain⟨k,m,h,b⟩:=W.of x hx;obtain⟨k',m',h',b'⟩:=W.of y hy;obtain⟨x1,x2⟩:=x;obtain⟨y1,y2⟩:=y;dsimp only at h b h' b';unfold suc at z
  injection z with z1 z2
  have:=zfo hw hd z1;subst this;obtain⟨d,j,n,d1,d2,d3,d4⟩:=zfl hw hd E W h;obtain⟨d',j',n',d1',d2',d3',d4'⟩:=zfl hw hd E W h';dsimp only[tdF] at z2;rw[d3,d3'] at z2;have:=zfo hw hd z2;subst this;have:=d2.dir d2';subst this;have e4:=v3 (E.inn.mp h.last) (E.inn.mp h'.last) d4 d4';have ek:k=k':=by rw[←f44 k,e4,f44]
  subst ek;rw[h.back h' b b']
end
def kE(e:Q3×Q3):List (List Key):=[kQ e.1,kQ e.2]
theorem kE_inj{e f:Q3×Q3}(h:kE e=kE f):e=f:=by
 unfold kE at h
 injection h with h1 h2
 injection h2 with h2
 exact QX (zf8 h1) (zf8 h2)
theorem S2H.nk{H:Hp}{p:Addr}{e:Q3×Q3}(h:S2H H p e):NK H p (kE e):=by
 obtain⟨c,d,h1,h2,h3⟩:=h;exact NK.two h1 h2.1 h3.1
def GnK(H:Hp)(kvs:List N3):Prop:=∀p,p∈kvs->∃e,p.1=kE e/\S2H H p.2.1 e
theorem GnK.kn{H:Hp}{kvs:List N3}(h:GnK H kvs):KN H kvs:=fun p hp=>by
 obtain⟨e,e1,e2⟩:=h p hp;rw[e1];exact e2.nk
theorem GnK.ts{H H':Hp}{kvs:List N3}(h:GnK H kvs)(g:zad H H'):GnK H' kvs:=fun p hp=>by
 obtain⟨e,e1,e2⟩:=h p hp;exact⟨e,e1,zhf _ _ _ _ g e2⟩
theorem GnK.put{H:Hp}{kvs:List N3}{b:Addr}{e:Q3×Q3}{v:V}(h:GnK H kvs)(hb:S2H H b e):GnK H (putN kvs (kE e) b v):=by
 unfold putN
 split
 ·intro p hp;obtain⟨q,hq,z⟩:=kW.mp hp;obtain⟨f,f1,f2⟩:=h q hq;rw[←z]
  split
  ·exact⟨f,f1,f2⟩
  ·exact⟨f,f1,f2⟩
 ·intro p hp;rcases ke.mp hp with hp|hp
  ·exact h p hp
  ·rw[kX.mp hp];exact⟨e,rfl,hb⟩
theorem zi2{P:pA}{w:pR}{H:Hp}{D:Addr}{kvs:List N3}{o:HO}(h:H D=some (nD P w D kvs)):zad H (upd H D o):=fun b xs q=>by
 rw[za7 (fun z=>by rw[z,h] at q;cases q)]
 exact q
def hasG(kvs:List N3)(e:Q3×Q3):Prop:=(valN kvs (kE e)).isSome=true
theorem has_put{kvs:List N3}{e f:Q3×Q3}{b:Addr}{v:V}:hasG (putN kvs (kE e) b v) f↔hasG kvs f∨f=e:=by
 unfold hasG;rw[zd6,zgv]
 by_cases c:(valN kvs (kE e)).isSome=true
 ·rw[if_pos c,zd6];rw[zd6] at c;exact⟨.inl,fun h=>h.elim id fun z=>by rw[z];exact c⟩
 ·rw[if_neg c,zd6,ke,kX];exact⟨fun h=>h.imp id kE_inj,fun h=>h.imp id fun z=>by rw[z]⟩
def dQ(r:Q3):BH:=.tuple [.int r.x,.int r.y,.int r.w]
theorem rd_q{K:kM}{H:Hp}{p:Addr}{r:Q3}(h:QH H p r):RdD K H (dQ r) (.ref p):=by
 unfold dQ;rw[RdD];refine⟨p,_,rfl,.of h.1,?_⟩;rw[RdDs];refine⟨_,_,rfl,by rw[RdD],?_⟩
 rw[RdDs];refine⟨_,_,rfl,by rw[RdD],?_⟩
 rw[RdDs];refine⟨_,_,rfl,by rw[RdD],?_⟩
 rw[RdDs]
theorem dQ_eqv(a b:Q3):uW (dQ a) (dQ b)=decide (a=b):=by
 rw[QF];obtain⟨x,y,w⟩:=a;obtain⟨x',y',w'⟩:=b
 simp[dQ,uW,UX]
def dS(s:Q3×Q3):BH:=.tuple [dQ s.1,dQ s.2]
theorem rd_s{K:kM}{H:Hp}{p:Addr}{s:Q3×Q3}(h:S2H H p s):RdD K H (dS s) (.ref p):=by
 obtain⟨c,d,h1,h2,h3⟩:=h;unfold dS;rw[RdD];refine⟨p,_,rfl,.of h1,?_⟩;rw[RdDs];refine⟨_,_,rfl,rd_q h2,?_⟩;rw[RdDs];refine⟨_,_,rfl,rd_q h3,?_⟩;rw[RdDs]
theorem zjq(e:Q3×Q3):UA (dS e)=true:=by
 simp[dS,dQ,UA,UE,uF,vO,uV]
theorem dS_eqv(a b:Q3×Q3):uW (dS a) (dS b)=decide (a=b):=by
 unfold dS;rw[uW,UX,UX,UX,dQ_eqv,dQ_eqv,Bool.and_true,QF,Bool.and_eq_true,decide_eq_true_iff,decide_eq_true_iff,decide_eq_true_iff];exact⟨fun h=>QX h.1 h.2,fun h=>by rw[h];exact⟨rfl,rfl⟩⟩
theorem zmj{c:TT}{tb:TS}{D:Ends}{σ:St}{H:Hp}(Pv:St->Hp->Prop)(μ:St->Hp->Nat)(h0:Pv σ H)
  (hs:∀σ H,Pv σ H->c σ H fun b H1=>if b=true then ∃N:St->Hp->Prop,(∀σ' H',N σ' H'->∃m',m'<μ σ H/\m'=μ σ' H'/\Pv σ' H')/\tb {D with nx:=N,ct:=N,bk:=D.nx} σ H1 else D.nx σ H1):zm3 c tb D σ H:=by
 refine⟨fun m σ H=>m=μ σ H/\Pv σ H,⟨_,rfl,h0⟩,?_⟩;rintro m σ H ⟨rfl,p⟩;exact hs σ H p
theorem zb9.put{P D:Addr}{H H':Hp}{o:HO}(g:zb9 P H H')(h:H D=none):zb9 P H (upd H' D o):=fun b u nb e=>by
 rw[za7 (fun z=>by rw[z,h] at e;cases e)]
 exact g b u nb e
theorem zb9.own{D:Addr}{H H':Hp}{o:HO}(g:zb9 D H H'):zb9 D H (upd H' D o):=fun b u nb e=>by
 rw[za7 nb];exact g b u nb e
theorem zb9.same{P:Addr}{H H' H'':Hp}(g:zb9 P H H')(g':Same H' H''):zb9 P H H'':=fun b u nb e=>g' _ _ (g b u nb e)
theorem ts_sg{P:pA}{w:pR}{H H':Hp}{gn:Addr}{gk:List N3}(g:zb9 gn H H')(h:H gn=some (nD P w gn gk)):zad H H':=fun b xs q=>g b _ (fun z=>by rw[z,h] at q;cases q) q
theorem zep{H:Hp}{a b:Addr}{o u:HO}{x:Option HO}(ne:a≠b)(h:H a=x):upd H b o a=x:=by
 rw[za7 ne];exact h
theorem zqo{c:TT}{tb:TS}{D:L2.Ends}{σ:St}{H:Hp}(W:Nat->St->Hp->Prop)(h0:∃m,W m σ H)
  (hs:∀m σ H,W m σ H->c σ H fun b H1=>if b=true then ∃N:St->Hp->Prop,(∀σ' H',N σ' H'->∃m',m'<m/\W m' σ' H')/\tb {D with nx:=N,ct:=N,bk:=D.nx} σ H1 else D.nx σ H1):zm3 c tb D σ H:=⟨W,h0,hs⟩
def pkW(w:List Q3):List (List Key×V):=(kc w.length).map fun i=>(kQ (nx w i),V.int ((i:Nat):Int))
theorem zkh(w:List Q3):(pkW w).length=w.length:=by unfold pkW;rw[kO,ua]
theorem pkW_at{w:List Q3}{i:Nat}(h:i<w.length):(pkW w)[i]?=some (kQ (nx w i),V.int ((i:Nat):Int)):=by
 unfold pkW;rw[pG,jt h];rfl
theorem zj0{κ:Type}[DecidableEq κ]{k k':κ}{v:V}{r:List (κ×V)}:valV ((k',v)::r) k=if k'=k then some v else valV r k:=by
 unfold valV;rw[ul]
 by_cases c:k'=k
 ·rw[if_pos c]
  simp[c]
 ·rw[if_neg c]
  simp[c]
theorem zfq{κ:Type}[DecidableEq κ]{f:Nat->κ×V}{k:κ}:∀{l:List Nat}{i:Nat},i∈l->(f i).1=k->(∀j,j∈l->(f j).1=k->j=i)->valV (l.map f) k=some (f i).2
 |[],_,h,_,_=>by cases h
 |a::l,i,h,e,u=>by
  rw[kh,show f a=((f a).1,(f a).2) from rfl,zj0]
  by_cases c:(f a).1=k
  ·rw[if_pos c,u a (by simp) c]
  ·rw[if_neg c];rcases kg.mp h with z|z
   ·rw[←z] at c;exact absurd e c
   ·exact zfq z e fun j hj=>u j (kI _ hj)
theorem zp8{κ:Type}[DecidableEq κ]{k:κ}:∀{l:List (κ×V)},(∀p,p∈l->p.1≠k)->valV l k=none
 |[],_=>rfl
 |(k',v)::l,h=>by
  rw[zj0,if_neg (h (k',v) (by simp))]
  exact zp8 fun p hp=>h p (kI _ hp)
theorem pkW_val{w:List Q3}(nd:w.Nodup){i:Nat}(h:i<w.length):valV (pkW w) (kQ (nx w i))=some (V.int ((i:Nat):Int)):=
 zfq (f:=fun i=>(kQ (nx w i),V.int ((i:Nat):Int))) (kx.mpr h) rfl fun j hj e=>nx_inj nd (kx.mp hj) h (zf8 e)
theorem zlz{w:List Q3}{p:Q3}(h:¬p∈w):valV (pkW w) (kQ p)=none:=by
 refine zp8 fun q hq e=>h ?_;unfold pkW at hq;obtain⟨i,hi,rfl⟩:=kW.mp hq;rw[←zf8 e];exact zmc (by have:=kx.mp hi;omega) i
theorem pkW_snoc{w:List Q3}{p:Q3}:pkW (w++[p])=pkW w++[(kQ p,V.int ((w.length:Nat):Int))]:=by
 unfold pkW;rw[kJ,pH,um,pV,kh,uU,zkq]
 congr 1
 refine ux fun i hi=>?_;rw[zjt (kx.mp hi)]
theorem pkW_take{w:List Q3}{i:Nat}(h:i<w.length):pkW (w.take (i+1))=(pkW w).take (i+1):=by
 unfold pkW;rw[pI,Qx (by omega),←List.map_take,List.take_range,Qx (by omega)]
 refine ux fun j hj=>?_;rw[zgr h (by have:=kx.mp hj;omega)]
theorem znv{H H':Hp}{gn q:Addr}{o:HO}(g:zb9 gn H H')(hg:H' gn=some o)(hq:H' q=none):H q=none:=by
 cases z:H q with
 |none=>rfl
 |some u=>
  rw[g q u (fun y=>by rw[y,hg] at hq;cases hq) z] at hq
  cases hq
theorem ts_T{H H':Hp}{D:Addr}{kvs:List (List Key×V)}(g:zb9 D H H')(h:H D=some (.dT kvs)):zad H H':=fun b xs q=>g b _ (fun z=>by rw[z,h] at q;cases q) q
def RgX(H0:Hp)(R W:Addr)(H:Hp)(p:Addr)(r:List Q3):Prop:=H0 p=none/\p≠R/\p≠W/\RgQ H p r
def WayJ(P:pA)(w:pR)(H:Hp)(st lv gn R D:Addr)(gk:List N3)(ss:List (Q3×Q3))(e:Q3×Q3)(m:Nat)(σ:St)(H':Hp):Prop:=∃(t:Nat)(f W:Addr)(ys zs:List V)(wy:List Q3)(rs:List (List Q3))(gk':List N3)(o1 o2 o3:Option V),σ=[some (V.ref st),some (V.ref lv),some (V.ref gn),some (V.ref R),some (V.ref W),some (V.ref D),some (V.ref f),o1,o2,o3]/\m=ss.length-t/\zb9 gn H H'/\H' gn=some (nD P w gn gk')/\GnK H' gk'/\(∀g,hasG gk' g↔hasG gk g∨∃i,i<t/\g=itr ss e i)/\gk'.length<=gk.length+t/\H' R=some (.lst zs)/\LR (RgX H R W) H' zs rs/\zs.length<=t/\H W=none/\W≠R/\H' W=some (.lst ys)/\LR QH H' ys wy/\wy.length<=t+1/\H' D=some (.dT (pkW wy))/\S2H H' f (itr ss e t)/\Way ss e t wy rs
def sp_way(P:pA)(w:pR):Sp:=fun vs H Q _=>∃(H0:Hp)(st lv gn:Addr)(kvs:List (List Key×V))(gk:List N3)(ss:List (Q3×Q3))(e:Q3×Q3),vs=[.ref st,.ref lv,.ref gn]/\S2H H st e/\Lv H0 H lv kvs ss/\ss.length<=150/\H gn=some (nD P w gn gk)/\GnK H gk/\gk.length<=10000/\Fen ss/\e∈ss/\
 ∀(R:Addr)(zs:List V)(rs:List (List Q3))(t:Nat)(H':Hp)(gk':List N3),zb9 gn H H'->H' gn=some (nD P w gn gk')->GnK H' gk'->(∀g,hasG gk' g↔hasG gk g∨g∈(kc (t+1)).map (itr ss e))->gk'.length<=gk.length+(t+1)->t<ss.length->H R=none->H' R=some (.lst zs)->LR (RgX H R R) H' zs rs->zs.length<=t+1->(∀q,q∈rs->q.Nodup/\2<=q.length)->(rs.flatMap sds).Perm ((kc (t+1)).map (itr ss e))->suc ss (itr ss e t)=e->(∀j,0<j->j<=t->itr ss e j≠e)->rs=(wyF ss e t).2++[(wyF ss e t).1]->Q (.ref R) H'
theorem zjl(T:Txt K mg ad fd):FnOk P w K mg base CX0 6 (ad 9) (fd 9) ["start","leaving","gone"] (sp_way P w):=by
 refine T.way_round.fn.ok zaw (fun vs H Q E h=>?_) (fun cdv A outer s H vs Q E hr h=>?_)
 ·obtain⟨H0,st,lv,gn,kvs,gk,ss,e,rfl,_⟩:=h;rfl
 obtain⟨H0,st,lv,gn,kvs,gk,ss,e,rfl,hst,hlv,hss,hgn,hgk,lgk,Fe,hes,k⟩:=h;have zY:=@pss5;have zc:=@zbe;have zu:=@zdr;have zx:=@zcz;have zg:=@pa1;have zd:=@zel;have qpv:=@pv;have za:=@zbr;have yy:=@pe_disp1;have zP:=@zgm;have zI:=@zhv;have zM:=@pe_bl;have yh:=@zpj;have zo:=@zdp;have zk:=@pa2;have zh:=@zbh;have zt:=@pa3;have zX:=@zkf;have zn:=@zf4;have zr:=@zcl;have zB:=@pss2;have zC:=@zeb;have zD:=@zir;have ze:=@zaz;have zp:=@zc7;have zL:=@zjx;have yz:=@pc_din;have zA:=@pss4;have zT:=@ziq;have zU:=@zll;have zV:=@zkr;have zb:=@zdx;have zm:=@zd0;have zq:=@zc8;have zj:=@zbd;have zf:=@zah;have yA:=@pe_dpopT;have zZ:=@zl4;have zv:=@zcj;generalize @L2.PE=QE,@L2.PT=QT,@L2.PW=QW,@L2.PA=QA,@L2.PS=QS,@L2.PSs=QSs,@L2.PG=QG,@L2.PGs=QGs,@L2.PI=QI,@L2.PO=QO,@L2.PIf=QIf,@L2.PC=QC,@L2.PK=QK at zY zc zu zx zg zd qpv za yy zP zI zM yh zo zk zh zt zX zn zr zB zC zD ze zp zL yz zA zT zU zV zb zm zq zj zf yA zZ zv⊢;refine⟨_,
  (zY
   (zc (i:=3) zaw.nd rfl (kj rfl) (zu zx))
   (zc (i:=4) zaw.nd rfl (kj rfl) (zu (zg (zd za5 (qpv 0) za (fun _ _=>rfl)) za9)))
   (zc (i:=5) zaw.nd rfl (kj rfl) (yy (zem hr) (zd za5 (qpv 0) za (fun _ _=>rfl)) za))
   (zc (i:=6) zaw.nd rfl (kj rfl) (qpv 0))
   (zP pK (zI zM) (zY
   (yh (P:=P) (w:=w) rfl rfl (hu64 hr) (qpv 2) (qpv 6) zM rfl)
   (zc (i:=7) zaw.nd rfl (kj rfl) (zd za5 (qpv 6) za (fun _ _=>rfl)))
   (zc (i:=6) zaw.nd rfl (kj rfl) (zo (zk (qpv 7) za1 (zh (zhe T) (hr.mono (by decide)) rfl T.first_right.mg T.first_right.fn.kp T.first_right.bn .nil pass0 (zt (qpv 7) za1 (zd za5 (qpv 6) za (fun _ _=>rfl)) za9 (zX (zem hr) (qpv 1) (qpv 7) (fun _ _=>rfl)) za9)) zby)))
   (zn (zr (zox (hu64 hr)) (qpv 6) (qpv 0) (nomark _)) (zB
   (zC (zD pZ uL uM zc9 (qpv 3) (zg (qpv 4) za1)))
   (ze (qpv 3))) zp)
   (zn (zL (yz (zem hr) (qpv 7) (qpv 5))) (zA
   (zc (i:=8) zaw.nd rfl (kj rfl) (zT zew (qpv 4) (zU (zX (zem hr) (qpv 5) (qpv 7) (fun _ _=>rfl))) zV))
   (zC (zD pZ uL uM zc9 (qpv 3) (zg (qpv 8) za1)))
   (zc (i:=4) zaw.nd rfl (kj rfl) (zT zew (qpv 4) zV (zU (zb zar (zX (zem hr) (qpv 5) (qpv 7) (fun _ _=>rfl)) za))))
   (zm pK rfl (zq (zT zew (qpv 8) (zU za) zV)) (zj (i:=9) zaw.nd rfl (kj rfl)) (zf (zC (yA (zem hr) (qpv 5) (qpv 9) ⟨rfl,rfl,rfl,rfl⟩))))) (zB
   (zZ (zem hr) (qpv 5) (qpv 7) (zv zbq rfl T.b_len zdn (zg (qpv 4) za1)) rfl)
   (zC (zD pZ uL uM zc9 (qpv 4) (zg (qpv 7) za1))))))))
  ,?_⟩
 clear zY zc zu zx zg zd qpv za yy zP zI zM yh zo zk zh zt zX zn zr zB zC zD ze zp zL yz zA zT zU zV zb zm zq zj zf yA zZ zv QE QT QW QA QS QSs QG QGs QI QO QIf QC QK
 dsimp! [L2.start]
 obtain⟨s0,s1,hst',hs0,hs1⟩:=id hst;simp! [tDisp1];intro R hR;have gR:=za2 hR (HO.lst []);have hR1:upd H R (HO.lst []) R=some (.lst []):=upd_same;generalize upd H R (HO.lst [])=H1 at*;have hst1:=gR _ _ hst';simp! [hst1];intro W hW;have gW:=za2 hW (HO.lst [V.ref s0]);have hW1:upd H1 W (HO.lst [V.ref s0]) W=some (.lst [V.ref s0]):=upd_same;generalize upd H1 W (HO.lst [V.ref s0])=H2 at*;intro D hD;have gD:=za2 hD (HO.dT (putK [] (kQ e.1) (V.int 0)));have gD':=za2 hD (HO.dT []);have g2:=gR.trans gW;have hRW:R≠W:=zam hR1 hW;have hRD:R≠D:=zam (gW _ _ hR1) hD;have hWH:H W=none:=gR.free hW;have hDH:H D=none:=g2.free hD;have lvn:lv≠gn:=fun z=>by have:=hlv.at_;rw[z,hgn] at this;cases this
 refine⟨_,gD' _ _ (g2 _ _ hst'),_,at0,kQ e.1,s0,rfl,(gD' _ _ (g2 _ _ hs0.1)),?_⟩;refine zqo (WayJ P w H st lv gn R D gk ss e) ⟨_,0,st,W,[V.ref s0],[],[e.1],[],gk,none,none,none,rfl,rfl,fun b u nb z=>gD _ _ (g2 _ _ z),gD _ _ (g2 _ _ hgn),hgk.ts (za6 (g2.trans gD)),fun g=>⟨.inl,fun h=>h.elim id fun⟨i,hi,_⟩=>absurd hi (Nat.not_lt_zero _)⟩,kG _,gD _ _ (gW _ _ hR1),.nil,kG _,hWH,hRW.symm,gD _ _ hW1,LR.one (R:=QH) (hs0.same (g2.trans gD)),kG _,upd_same,zhf _ _ _ _ (za6 (g2.trans gD)) hst,Way.start⟩ ?_;clear gD gD' gR gW hW1 hR1 hRW hWH hD hW;rintro m σ H3 ⟨t,f,W,ys,zs,wy,rs,gk2,o1,o2,o3,rfl,rfl,sg,hg3,hk3,hh,lg,hR3,hz3,lz,hWH,nWR,hW3,hy3,lw3,hD3,hf,wa⟩;have tf:=Fe.few hes wa.no;have fm:=Fe.itr hes t;have pos:=wa.pos;have lyw:=hy3.1;obtain⟨f0,f1,hf',hf0,hf1⟩:=id hf;simp! [sNPut,tDGet,tDIn,sDPut,zon];refine⟨_,fun σ' H' z=>z,gk2,hg3,hk3.kn,kE (itr ss e t),hf.nk,small10k (by omega),?_⟩
 generalize hO:nD P w gn (putN gk2 (kE (itr ss e t)) f (V.bl true))=O;have tp:=zi2 (o:=O) hg3;have hg4:upd H3 gn O gn=some O:=upd_same;have hk4:=(hk3.put (v:=V.bl true) hf).ts tp;have sg4:=zb9.own sg (o:=O);have hR4:=zep (o:=O) (u:=.lst []) (a:=R) (b:=gn) (fun z=>by rw[z,hg3] at hR3;cases hR3) hR3
 have hW4:=zep (o:=O) (u:=.lst []) (a:=W) (b:=gn) (fun z=>by rw[z,hg3] at hW3;cases hW3) hW3
 have hD4:=zep (o:=O) (u:=.lst []) (a:=D) (b:=gn) (fun z=>by rw[z,hg3] at hD3;cases hD3) hD3
 have hy4:=hy3.ts zcr tp;have hz4:LR (RgX H R W) (upd H3 gn O) zs rs:=hz3.imp fun p r⟨x1,x2,x3,us,x4,x5⟩=>⟨x1,x2,x3,us,zep (u:=.lst []) (fun z=>by rw[z,hg3] at x4;cases x4) x4,x5.ts zcr tp⟩
 have hf4:=tp _ _ hf';have hf04:QH _ f0 (itr ss e t).1:=zcr _ _ _ _ tp hf0;have hf14:QH _ f1 (itr ss e t).2:=zcr _ _ _ _ tp hf1;generalize upd H3 gn O=H4 at*;have ts4:zad H H4:=ts_sg sg4 hgn;have hlv4:H4 lv=some (.dT kvs):=sg4 _ _ lvn hlv.at_;have out:=Fe.out _ fm;obtain⟨v,hv⟩:∃v,valV kvs (kQ (itr ss e t).2)=some v:=by
  cases z:valV kvs (kQ (itr ss e t).2) with
  |some v=>exact⟨v,rfl⟩
  |none=>exact absurd (hlv.non _ z) out
 obtain⟨l,us,rfl,_,hl,hu⟩:=hlv.ent _ _ hv;have hl4:H4 l=some (.lst us):=sg4 _ _ (fun z=>by rw[z,hgn] at hl;cases hl) hl
 have lu:us.length<=200:=by rw[hu.1];exact pL (zm1 _ _) (by omega)
 refine⟨_,hf4,_,at1,_,hf4,_,at0,_,by rw[←hv];exact .t (k:=kQ (itr ss e t).2) hlv4 hf14.1,f1,f0,l,us,(itr ss e t).2,(itr ss e t).1,leav ss (itr ss e t).2,rfl,hf14,hf04,hl4,lu,hu.ts zcr ts4,out,fun rr H5 g5 hr5=>?_⟩
 intro p hp;have g6:=za2 hp (HO.tup [V.ref f1,V.ref rr]);have hp6:upd H5 p (HO.tup [V.ref f1,V.ref rr]) p=some (.tup [V.ref f1,V.ref rr]):=upd_same;generalize upd H5 p (HO.tup [V.ref f1,V.ref rr])=H6 at*;have g46:=g5.trans g6;have hf16:=hf14.same g46;have hs6:S2H H6 p (suc ss (itr ss e t)):=⟨f1,rr,hp6,hf16,hr5.same g6⟩;have sg6:=zb9.same sg4 g46;have ts6:zad H H6:=ts_sg sg6 hgn;have hg6:=g46 _ _ hg4;have hR6:=g46 _ _ hR4;have hW6:=g46 _ _ hW4;have hD6:=g46 _ _ hD4;have hy6:=hy4.same g46;have hk6:=hk4.ts (za6 g46);have hz6:LR (RgX H R W) H6 zs rs:=hz4.imp fun p r⟨x1,x2,x3,x4⟩=>⟨x1,x2,x3,x4.same g46⟩;have lp:=ziw gk2 (kE (itr ss e t)) f (V.bl true);have hh6:∀g,hasG (putN gk2 (kE (itr ss e t)) f (V.bl true)) g↔hasG gk g∨∃i,i<t+1/\g=itr ss e i:=fun g=>by
  rw[has_put,hh,or_assoc];refine or_congr Cz ⟨fun h=>?_,fun⟨i,hi,z⟩=>?_⟩
  ·rcases h with⟨i,hi,z⟩|z
   ·exact⟨i,by omega,z⟩
   ·exact⟨t,by omega,z⟩
  ·rcases UR i t with y|y
   ·exact .inl ⟨i,y,z⟩
   ·exact .inr (by rw[z,show i=t by omega])
 refine⟨_,_,rd_s hs6,rd_s (zhf _ _ _ _ ts6 hst),zjq _,zjq _,_,rfl,?_⟩;rw[dS_eqv]
 by_cases c:suc ss (itr ss e t)=e
 ·rw[decide_eq_true c];refine iteT ⟨ze7 hR6,zs,hR6,small1000 (by omega),?_⟩
  subst hO;obtain⟨d1,d2⟩:=wa.done Fe hes c;refine k R (zs++[V.ref W]) (rs++[wy]) t _ _ (zb9.put sg6 hR) (zep (u:=.lst []) (fun z=>by rw[z,hR6] at hg6;cases hg6) hg6) (hk6.ts (zc6 hR6)) (fun g=>?_) (by omega) tf hR upd_same ?_ (by rw[kJ,pH];omega) d1 d2 c wa.no (by rw[wa.fn])
  ·rw[hh6,kW];exact or_congr Cz ⟨fun⟨i,hi,z⟩=>⟨i,kx.mpr hi,z.symm⟩,fun⟨i,hi,z⟩=>⟨i,kx.mp hi,z.symm⟩⟩
  ·refine(LR.snoc (R:=RgX H R R) (hz6.imp fun p r⟨x1,x2,x3,x4⟩=>⟨x1,x2,x2,x4⟩) (p:=W) (a:=wy) ⟨hWH,nWR,nWR,ys,hW6,hy6⟩).imp fun p r⟨x1,x2,x3,x4⟩=>⟨x1,x2,x3,x4.put x2 hR6⟩
 ·rw[decide_eq_false c];refine iteF ⟨_,.t (k:=kQ (itr ss e t).2) hD6 hf16.1,?_⟩
  by_cases pw:(itr ss e t).2∈wy
  ·obtain⟨i,hi,ei⟩:=QV.mp pw;rw[←zen hi] at ei;have vi:=pkW_val wa.nd hi;rw[ei] at vi;rw[vi];refine iteT ⟨_,by rw[←vi];exact .t (k:=kQ (itr ss e t).2) hD6 hf16.1,_,rfl,ys,hW6,fun q1 hq1=>?_⟩
   rw[zlt (xs:=ys) (m:=i) (by omega)]
   have g7:=za2 hq1 (HO.lst (ys.drop i));have h71:upd H6 q1 (HO.lst (ys.drop i)) q1=some (HO.lst (ys.drop i)):=upd_same;have q1H:=znv sg6 hg6 hq1;have q1R:q1≠R:=fun z=>by rw[z,hR6] at hq1;cases hq1
   have q1W:q1≠W:=fun z=>by rw[z,hW6] at hq1;cases hq1
   generalize upd H6 q1 (HO.lst (ys.drop i))=H7 at*;have hR7:=g7 _ _ hR6;refine⟨ze7 hR7,zs,hR7,small1000 (by omega),?_⟩
   have nDR:D≠R:=hRD.symm;have t8:=zc6 (o:=HO.lst (zs++[V.ref q1])) hR7;have h81:=zep (o:=HO.lst (zs++[V.ref q1])) (u:=.lst []) q1R h71;have hD8:=zep (o:=HO.lst (zs++[V.ref q1])) (u:=.lst []) nDR (g7 _ _ hD6);have hW8:=zep (o:=HO.lst (zs++[V.ref q1])) (u:=.lst []) nWR (g7 _ _ hW6);have hg8:=zep (o:=HO.lst (zs++[V.ref q1])) (u:=.lst []) (a:=gn) (b:=R) (fun z=>by rw[z,hR6,←hO] at hg6;cases hg6) (g7 _ _ hg6)
   have hR8:upd H7 R (HO.lst (zs++[V.ref q1])) R=some (HO.lst (zs++[V.ref q1])):=upd_same;have sg8:=zb9.put (zb9.same sg6 g7) (o:=HO.lst (zs++[V.ref q1])) hR;have t68:zad H6 _:=zi1 (za6 g7) t8;have hf18:=zcr _ _ _ _ t68 hf16;have hz8:LR (RgX H R W) (upd H7 R (HO.lst (zs++[V.ref q1]))) (zs++[V.ref q1]) (rs++[wy.drop i]):=(LR.snoc (R:=RgX H R W) (hz6.imp fun p r⟨x1,x2,x3,x4⟩=>⟨x1,x2,x3,x4.same g7⟩) (p:=q1) (a:=wy.drop i) ⟨q1H,q1R,q1W,_,h71,(hy6.drop i).same g7⟩).imp fun p r⟨x1,x2,x3,x4⟩=>⟨x1,x2,x3,x4.put x2 hR7⟩;have hy8:=hy6.ts zcr t68;have hk8:=hk6.ts t68;have hs8:=zhf _ _ _ _ t68 hs6;generalize upd H7 R (HO.lst (zs++[V.ref q1]))=H8 at*;refine⟨_,by rw[←vi];exact .t (k:=kQ (itr ss e t).2) hD8 hf18.1,_,rfl,ys,hW8,fun q2 hq2=>?_⟩
   rw[show((i:Int)+1)=((i+1:Nat):Int) by omega,cut_to (xs:=ys) (m:=i+1) (by omega)]
   have g9:=za2 hq2 (HO.lst (ys.take (i+1)));have h92:upd H8 q2 (HO.lst (ys.take (i+1))) q2=some (HO.lst (ys.take (i+1))):=upd_same;have q2H:=znv sg8 hg8 hq2;have q2R:q2≠R:=fun z=>by rw[z,hR8] at hq2;cases hq2
   have hz9:LR (RgX H R q2) (upd H8 q2 (HO.lst (ys.take (i+1)))) (zs++[V.ref q1]) (rs++[wy.drop i]):=hz8.imp fun p r⟨x1,x2,x3,us',x4,x5⟩=>⟨x1,x2,(fun z=>by rw[z,hq2] at x4;cases x4),us',g9 _ _ x4,x5.same g9⟩
   generalize upd H8 q2 (HO.lst (ys.take (i+1)))=H9 at*;have h91:=g9 _ _ h81;refine zbc ?_;simp! [zd1,h91,zj9];intro q3 hq3;have gA:=za2 hq3 (HO.lst ((ys.drop i).drop 1));have hA3:upd H9 q3 (HO.lst ((ys.drop i).drop 1)) q3=some (HO.lst ((ys.drop i).drop 1)):=upd_same;generalize upd H9 q3 (HO.lst ((ys.drop i).drop 1))=HA at*;have g8A:=g9.trans gA;have hDA:=g8A _ _ hD8;have hyA:=hy8.same g8A;refine⟨⟨_,.of hA3⟩,?_⟩;refine zba (K:=K) (a:=q3) (xs:=(ys.drop i).drop 1) (fun j σ H'=>zb9 D HA H'/\H' D=some (.dT ((pkW wy).take (i+1)++(pkW wy).drop (i+1+j)))/\∃o:Option V,σ=[some (V.ref st),some (V.ref lv),some (V.ref gn),some (V.ref R),some (V.ref q2),some (V.ref D),some (V.ref p),some (V.ref f1),some (V.ref q1),o]) ⟨fun _ _ _ h=>h,by rw[CF,uO];exact hDA,o3,rfl⟩ (fun j σ H' _ iv=>.of (iv.1 _ _ (fun z=>by rw[z,hDA] at hA3;cases hA3) hA3)) ?_ ?_
   ·intro _ _;rintro j v σ HB hj ⟨sB,hDB,o,rfl⟩;rw[vG,Uo] at hj;obtain⟨b,x,rfl,hx,hb⟩:=hyA.2 _ v hj;have hlt:=(kH.mp hx).1;have ex:nx wy (i+1+j)=x:=by
     rw[nx_at (by omega)] at hx
     exact uB hx
    have hbB:HB b=some (.tup ((kQ x).map kV)):=sB _ _ (fun z=>by have:=hb.1;rw[z,hDA] at this;cases this) hb.1
    have dr:(pkW wy).drop (i+1+j)=(kQ x,V.int ((i+1+j:Nat):Int))::(pkW wy).drop (i+1+(j+1)):=by
     have l1:i+1+j<(pkW wy).length:=by rw[zkh];exact hlt
     rw[Qk l1];have:=pkW_at hlt;rw[kR l1,ex] at this;rw[uB this];rfl
    rw[dr] at hDB;simp! [zon];exact⟨zp3 hDB,_,_,_,⟨_,hDB⟩,hbB,zb9.own sB,rfl⟩
   ·rintro σ HB ⟨sB,hDB,o,rfl⟩;subst hO;have le:i+1+((ys.drop i).drop 1).length=wy.length:=by rw[pT,pT];omega
    rw[le,Uq (by rw[zkh];exact kG _),pU,←pkW_take hi] at hDB
    have tB:zad HA HB:=ts_T sB hDA;have nD:∀{a:Addr}{xs:List V},HA a=some (.lst xs)->HB a=some (.lst xs):=fun h=>sB _ _ (fun z=>by rw[z,hDA] at h;cases h) h
    have ngD:gn≠D:=fun z=>by rw[z,hD8] at hg8;cases hg8
    refine⟨ss.length-(t+1),by omega,t+1,p,q2,ys.take (i+1),zs++[V.ref q1],wy.take (i+1),rs++[wy.drop i],_,_,_,_,rfl,rfl,?_,sB _ _ ngD (g8A _ _ hg8),(hk8.ts (za6 g8A)).ts tB,hh6,by omega,nD (g8A _ _ hR8),?_,by rw[kJ,pH];omega,q2H,q2R,nD (gA _ _ h92),((hyA.take (i+1)).ts zcr tB),by rw[pI];omega,hDB,zhf _ _ _ _ tB (zhf _ _ _ _ (za6 g8A) hs8),wa.cut Fe hes hi ei c⟩
    ·intro b u nb z;exact sB _ _ (fun y=>by rw[y,hDH] at z;cases z) (g8A _ _ (sg8 b u nb z))
    ·exact hz9.imp fun p r⟨x1,x2,x3,us',x4,x5⟩=>⟨x1,x2,x3,us',nD (gA _ _ x4),(x5.same gA).ts zcr tB⟩
  ·rw[zlz pw];have hD7:=DPut.t (v:=V.int ys.length) (k:=kQ (itr ss e t).2) hD6 hf16.1 (small1000 (by rw[zkh];omega))
   refine iteF ⟨ys,.inl hW6,_,hD7,?_⟩;rw[zm2 _ (zlz pw),show((ys.length:Int))=((wy.length:Nat):Int) by omega,←pkW_snoc]
   have nWD:W≠D:=fun z=>by rw[z,hD6] at hW6;cases hW6
   have t7:=zl6 (o:=.dT (pkW (wy++[(itr ss e t).2]))) hD6;have hW7:=zep (o:=.dT (pkW (wy++[(itr ss e t).2]))) (u:=.lst []) nWD hW6;have hR7:=zep (o:=.dT (pkW (wy++[(itr ss e t).2]))) (u:=.lst []) hRD hR6;have hg7:=zep (o:=.dT (pkW (wy++[(itr ss e t).2]))) (u:=.lst []) (a:=gn) (b:=D) (fun z=>by rw[z,hD6,←hO] at hg6;cases hg6) hg6
   have hD7':upd H6 D (.dT (pkW (wy++[(itr ss e t).2]))) D=some (.dT (pkW (wy++[(itr ss e t).2]))):=upd_same;have sg7:=zb9.put sg6 (o:=.dT (pkW (wy++[(itr ss e t).2]))) hDH;have hy7:=hy6.ts zcr t7;have hk7:=hk6.ts t7;have hs7:=zhf _ _ _ _ t7 hs6;have hf17:=zcr _ _ _ _ t7 hf16;have hz7:LR (RgX H R W) (upd H6 D (.dT (pkW (wy++[(itr ss e t).2])))) zs rs:=hz6.imp fun p r⟨x1,x2,x3,us',x4,x5⟩=>⟨x1,x2,x3,us',zep (u:=.lst []) (fun z=>by rw[z,hD6] at x4;cases x4) x4,x5.ts zcr t7⟩
   generalize upd H6 D (.dT (pkW (wy++[(itr ss e t).2])))=H7 at*;subst hO;have tW:=zc6 (o:=.lst (ys++[V.ref f1])) hW7;refine⟨ze7 hW7,ys,hW7,small1000 (by omega),ss.length-(t+1),by omega,t+1,p,W,ys++[V.ref f1],zs,wy++[(itr ss e t).2],rs,_,_,_,_,rfl,rfl,zb9.put sg7 hWH,zep (u:=.lst []) (fun z=>by rw[z,hW7] at hg7;cases hg7) hg7,hk7.ts tW,hh6,by omega,zep (u:=.lst []) nWR.symm hR7,hz7.imp fun p r⟨x1,x2,x3,x4⟩=>⟨x1,x2,x3,x4.put x3 hW7⟩,by omega,hWH,nWR,upd_same,(hy7.snoc hf17).ts zcr tW,by rw[kJ,pH];omega,zep (u:=.lst []) nWD.symm hD7',zhf _ _ _ _ tW hs7,wa.push c pw⟩
theorem Lv.sameT{P:pA}{w:pR}{H0 H H':Hp}{d gn:Addr}{kvs:List (List Key×V)}{ss:List (Q3×Q3)}{gk:List N3}(h:Lv H0 H d kvs ss)(g:zb9 gn H H')(hg:H gn=some (nD P w gn gk))(h0:H0 gn=none):Lv H0 H' d kvs ss:=by
 refine⟨fun b u e=>g _ _ (fun z=>by rw[z,h0] at e;cases e) (h.same _ _ e),h.new,g _ _ (fun z=>by have:=h.at_;rw[z,hg] at this;cases this) h.at_,h.len,fun p v e=>?_,h.non,h.dis⟩
 obtain⟨a,zs,e1,e2,e3,e4⟩:=h.ent p v e;exact⟨a,zs,e1,e2,g _ _ (fun z=>by rw[z,hg] at e3;cases e3) e3,e4.ts zcr (ts_sg g hg)⟩
theorem Lv.put{H0 H:Hp}{d R:Addr}{kvs:List (List Key×V)}{ss:List (Q3×Q3)}{zs us:List V}(h:Lv H0 H d kvs ss)(hR:H R=some (.lst zs))(h0:H0 R=none)(nR:∀p,valV kvs (kQ p)≠some (.ref R)):Lv H0 (upd H R (.lst us)) d kvs ss:=by
 refine⟨zaj h.same h0,h.new,?_,h.len,fun p v e=>?_,h.non,h.dis⟩
 ·rw[za7 (fun z=>by rw[←z,h.at_] at hR;cases hR)]
  exact h.at_
 ·obtain⟨a,ys,e1,e2,e3,e4⟩:=h.ent p v e;refine⟨a,ys,e1,e2,?_,e4.ts zcr (zc6 hR)⟩;rw[za7 (fun z=>nR p (by rw[e,e1,z]))]
  exact e3
def RgN(R:Addr)(H:Hp)(p:Addr)(r:List Q3):Prop:=p≠R/\RgQ H p r
theorem rgn_put{R:Addr}{H:Hp}{ys us:List V}{rs:List (List Q3)}(h:LR (RgN R) H ys rs)(hR:H R=some (.lst us))(o:HO):LR (RgN R) (upd H R o) ys rs:=h.imp fun p r t=>⟨t.1,t.2.put t.1 hR⟩
theorem RgQ.sameT{P:pA}{w:pR}{H H':Hp}{gn p:Addr}{gk:List N3}{r:List Q3}(h:RgQ H p r)(g:zb9 gn H H')(hg:H gn=some (nD P w gn gk)):RgQ H' p r:=by
 obtain⟨zs,h1,h2⟩:=h;exact⟨zs,g _ _ (fun z=>by rw[z,hg] at h1;cases h1) h1,h2.ts zcr (ts_sg g hg)⟩
theorem zeq.sds{q r:List Q3}(h:zeq q r){e:Q3×Q3}:e∈Mine.sds q↔e∈Mine.sds r:=by
 obtain⟨i,hi,rfl,_⟩:=h;exact sds_rot hi
theorem zeq.len{q r:List Q3}(h:zeq q r):q.length=r.length:=by
 obtain⟨i,hi,rfl,_⟩:=h;exact zg5 _ _
theorem zeq.mem{q r:List Q3}(h:zeq q r){x:Q3}:x∈q↔x∈r:=by
 obtain⟨i,hi,rfl,_⟩:=h;exact rot_mem
theorem zeq.nodup{q r:List Q3}(h:zeq q r)(nd:r.Nodup):q.Nodup:=by
 obtain⟨i,hi,rfl,_⟩:=h;refine(List.Perm.nodup_iff ?_).mpr nd;unfold rot;refine uT.trans ?_;rw[uO]
theorem zeq.least{q r:List Q3}(h:zeq q r){x:Q3}(hx:x∈q):bq x (nx q 0)=false:=by
 have hm:=h.mem.mp hx;obtain⟨i,hi,e,l⟩:=h;exact l x hm
theorem sds_perm{r:List Q3}{i:Nat}(hi:i<r.length):(sds (rot r i)).Perm (sds r):=by
 have e:sds (rot r i)=rot (sds r) i:=by
  refine List.ext_getElem? fun j=>?_;have l1:(sds r).length=r.length:=by unfold sds;rw[kO,ua]
  by_cases hj:j<r.length
  ·rw[rot_at (by rw[l1];exact hi) (by rw[l1];exact hj),l1]
   unfold sds;rw[zg5,pG,pG,jt hj,jt (jY _ (by omega))]
   show some (nx (rot r i) j,nx (rot r i) (j+1))=some (nx r ((i+j)%r.length),nx r ((i+j)%r.length+1))
   rw[zgs hi,zgs hi,zh5,←zh5 r ((i+j)%r.length+1),Cw,zh5,UZ]
  ·rw[Uv (by unfold sds;rw[kO,ua,zg5];omega),Uv (by rw[zg5,l1];omega)]
 rw[e];unfold rot;refine uT.trans ?_;rw[uO]
theorem zeq.pm{q r:List Q3}(h:zeq q r):(Mine.sds q).Perm (Mine.sds r):=by
 obtain⟨i,hi,rfl,_⟩:=h;exact sds_perm hi
theorem zha(r:List Q3):(sds r).length=r.length:=by unfold sds;rw[kO,ua]
structure Fnd(ss:List (Q3×Q3))(qs:List (List Q3))(gk:List N3)(gl:List (Q3×Q3)):Prop where
 rg:∀q,q∈qs->q.Nodup/\2<=q.length
 pm:(qs.flatMap sds).Perm gl
 nd:gl.Nodup
 sub:∀e,e∈gl->e∈ss
 bk:∀e,e∈ss->suc ss e∈gl->e∈gl
 gone:∀e,hasG gk e↔e∈gl
theorem Fnd.put{ss:List (Q3×Q3)}{qs rs:List (List Q3)}{gk gk':List N3}{gl:List (Q3×Q3)}{e:Q3×Q3}{t:Nat}(F:Fen ss)(he:e∈ss)(h:Fnd ss qs gk gl)(hn:¬hasG gk e)(hg:∀g,hasG gk' g↔hasG gk g∨g∈(kc (t+1)).map (itr ss e))(d1:∀q,q∈rs->q.Nodup/\2<=q.length)(d2:(rs.flatMap sds).Perm ((kc (t+1)).map (itr ss e)))(cl:suc ss (itr ss e t)=e)(no:∀j,0<j->j<=t->itr ss e j≠e):Fnd ss (qs++rs) gk' (gl++(kc (t+1)).map (itr ss e)):=by
 have down:∀i,itr ss e i∈gl->e∈gl:=fun i=>by
  induction i with
  |zero=>exact id
  |succ i ih=>exact fun z=>ih (h.bk _ (F.itr he i) z)
 have ne:¬e∈gl:=fun z=>hn ((h.gone e).mpr z);refine⟨fun q hq=>(ke.mp hq).elim (h.rg q) (d1 q),?_,?_,fun g hg'=>?_,fun g hgs hg'=>?_,fun g=>?_⟩
 ·rw[vX];exact h.pm.append d2
 ·refine Qb.mpr ⟨h.nd,F.orb he no,fun a ha b hb z=>?_⟩;obtain⟨i,_,rfl⟩:=kW.mp hb;rw[z] at ha;exact ne (down i ha)
 ·rcases ke.mp hg' with z|z
  ·exact h.sub g z
  ·obtain⟨i,_,rfl⟩:=kW.mp z;exact F.itr he i
 ·rcases ke.mp hg' with z|z
  ·exact QU _ (h.bk g hgs z)
  ·refine ki _ ?_;obtain⟨i,hi,z⟩:=kW.mp z;have hi:=kx.mp hi
   cases i with
   |zero=>
    have z:e=suc ss g:=z;rw[F.inj g (itr ss e t) hgs (F.itr he t) (by rw[←z,cl])]
    exact kW.mpr ⟨t,kx.mpr (by omega),rfl⟩
   |succ i=>
    rw[F.inj g (itr ss e i) hgs (F.itr he i) z.symm];exact kW.mpr ⟨i,kx.mpr (by omega),rfl⟩
 ·rw[hg,h.gone,ke]
inductive Run (ss:List (Q3×Q3)):Nat->List (List Q3)->List (Q3×Q3)->Prop where
 |nil:Run ss 0 [] []
 |skip {i qs gl e}:Run ss i qs gl->ss[i]?=some e->e∈gl->Run ss (i+1) qs gl
 |go {i qs gl e t}:Run ss i qs gl->ss[i]?=some e->¬e∈gl->suc ss (itr ss e t)=e->(∀j,0<j->j<=t->itr ss e j≠e)->Run ss (i+1) (qs++((wyF ss e t).2++[(wyF ss e t).1])) (gl++(kc (t+1)).map (itr ss e))
theorem zl1{α:Type}[DecidableEq α]:∀{a b:List α},a.Nodup->b.Nodup->(∀x,x∈a↔x∈b)->a.Perm b:=fun{a b} ha hb h=>(uY ha hb).mpr h
structure Told(ss:List (Q3×Q3))(g:Int)(os:List (List Q3)):Prop where
 pq:∀r,r∈os->∀p,p∈r->PQ 700 p/\p.w<=g
 ord:OrdR g os
 rg:∀q,q∈os->q.Nodup/\3<=q.length
 least:∀q,q∈os->∀x,x∈q->bq x (nx q 0)=false
 pm:(os.flatMap sds).Perm ss
 run:∃qs gl cs,Run ss ss.length qs gl/\(∀q,q∈qs->q.Nodup)/\cs.length=qs.length/\(∀(j:Nat) c q,cs[j]?=some c->qs[j]?=some q->zeq c q)/\os.Perm cs
theorem zgn{α β:Type}{f:α->List β}{l:List α}{a:α}(h:a∈l){b:β}(hb:b∈f a):b∈l.flatMap f:=Qp.mpr ⟨a,h,hb⟩
theorem zjm{os:List (List Q3)}(h:∀q,q∈os->3<=q.length):3*os.length<=(os.flatMap sds).length:=by
 induction os with
 |nil=>exact kG _
 |cons q os ih=>
  rw[QB,kJ,pJ,zha];have:=h q (by simp)
  have:=ih fun q hq=>h q (kI _ hq);omega
theorem flat_len3'{os:List (List Q3)}(h:∀q,q∈os->2<=q.length):2*os.length<=(os.flatMap sds).length:=by
 induction os with
 |nil=>exact kG _
 |cons q os ih=>
  rw[QB,kJ,pJ,zha];have:=h q (by simp)
  have:=ih fun q hq=>h q (kI _ hq);omega
theorem zi8{os:List (List Q3)}{q:List Q3}(h:q∈os):q.length<=(os.flatMap sds).length:=by
 induction os with
 |nil=>cases h
 |cons r os ih=>
  rw[QB,kJ,zha];rcases kg.mp h with z|z
  ·rw[z];omega
  ·have:=ih z;omega
theorem Fen.three{ss:List (Q3×Q3)}(F:Fen ss){q:List Q3}(h2:2<=q.length)(h:∀e,e∈sds q->e∈ss):3<=q.length:=by
 rcases UR 2 q.length with z|z
 ·exact z
 ·exfalso
  have l:q.length=2:=by omega
  have a:=h _ (zg3 (r:=q) (by omega) 0)
  have b:=h _ (zg3 (r:=q) (by omega) 1)
  have e:nx q (1+1)=nx q 0:=by
   have:=zk7 q 0;rw[l] at this;exact this
  rw[e] at b;exact F.rv _ a b
theorem znf{cs:List (List Q3)}(h:∀q,q∈cs->2<=q.length)(nd:(cs.flatMap sds).Nodup):cs.Nodup:=by
 induction cs with
 |nil=>exact Qq
 |cons q cs ih=>
  rw[QB,Qb] at nd;refine Qj.mpr ⟨fun z=>?_,ih (fun q hq=>h q (kI _ hq)) nd.2.1⟩;have s0:=zg3 (r:=q) (by have:=h q (by simp);omega) 0
  exact nd.2.2 _ s0 _ (zgn z s0) rfl
theorem zk0:∀{cs qs:List (List Q3)},cs.length=qs.length->(∀(j:Nat) c q,cs[j]?=some c->qs[j]?=some q->zeq c q)->(cs.flatMap sds).Perm (qs.flatMap sds)
 |[],[],_,_=>.refl _
 |[],_::_,l,_=>by cases l
 |_::_,[],l,_=>by cases l
 |c::cs,q::qs,l,h=>by
  rw[QB,QB];exact(h 0 c q rfl rfl).pm.append (zk0 (Da l) fun j c q h1 h2=>h (j+1) c q h1 h2)
def sp_rings(P:pA)(w:pR)(tb:Addr)(lp:Pos)(ql:Str):Sp:=fun vs H Q _=>∃(l:Addr)(ys:List V)(ss:List (Q3×Q3)),vs=[.ref l]/\H l=some (.lst ys)/\ys.length<=150/\LR S2H H ys ss/\Fen ss/\zd2 H tb lp ql/\
 ∀D zs os g H',H D=none->zb9 tb H H'->zd2 H' tb lp ql->H' D=some (.lst zs)->LR (fun H1 p r=>H p=none/\p≠D/\RgQ H1 p r) H' zs os->Told ss g os->Q (.ref D) H'
def RingI(P:pA)(w:pR)(H:Hp)(l lv gn R:Addr)(kvs:List (List Key×V))(ss:List (Q3×Q3))(i:Nat)(σ:St)(H':Hp):Prop:=∃(zs:List V)(gk:List N3)(qs:List (List Q3))(gl:List (Q3×Q3))(o:Option V),σ=[some (V.ref l),some (V.ref lv),some (V.ref gn),some (V.ref R),o]/\Lv H H' lv kvs ss/\H' gn=some (nD P w gn gk)/\GnK H' gk/\gk.length<=gl.length/\H' R=some (.lst zs)/\LR (RgN R) H' zs qs/\Fnd ss qs gk gl/\Run ss i qs gl/\∀e,e∈ss.take i->hasG gk e
theorem zlc(T:Txt K mg ad fd)(hK:K.In base)(hB:base.BuiltinsAt mg (ad 33)):FnOk P w K mg base CX0 7 (ad 7) (fd 7) ["land"] (sp_rings P w (ad 33) lposP qlP):=by
 refine T.rings_of.fn.ok zdo (fun vs H Q E h=>?_) (fun cdv A outer s H vs Q E hr h=>?_)
 ·obtain⟨l,ys,ss,rfl,_⟩:=h;rfl
 obtain⟨l,ys,ss,rfl,hl,hn,hs,Fe,lt,k⟩:=h;have zY:=@pss5;have zc:=@zbe;have zh:=@zbh;have zg:=@pa1;have qpv:=@pv;have yi:=@zoo;have zu:=@zdr;have zx:=@zcz;have zm:=@zd0;have zq:=@zc8;have zj:=@zbd;have zf:=@zah;have zn:=@zf4;have zL:=@zjx;have yj:=@zjo;have zC:=@zeb;have zD:=@zir;have zt:=@pa3;have zp:=@zc7;have ze:=@zaz;have zy:=@zee;unfold L2.CompBody at zy;have zF:=@zfd;generalize @L2.PE=QE,@L2.PT=QT,@L2.PW=QW,@L2.PA=QA,@L2.PS=QS,@L2.PSs=QSs,@L2.PG=QG,@L2.PGs=QGs,@L2.PI=QI,@L2.PO=QO,@L2.PIf=QIf,@L2.PC=QC,@L2.PK=QK at zY zc zh zg qpv yi zu zx zm zq zj zf zn zL yj zC zD zt zp ze zy zF⊢;refine⟨_,
  (zY
   (zc (i:=1) zdo.nd rfl (kj rfl) (zh (ziu T) (hr.mono (by decide)) rfl T.leaving_of.mg T.leaving_of.fn.kp T.leaving_of.bn .nil pass0 (zg (qpv 0) za1)))
   (zc (i:=2) zdo.nd rfl (kj rfl) (yi (P:=P) (w:=w) rfl rfl))
   (zc (i:=3) zdo.nd rfl (kj rfl) (zu zx))
   (zm pK rfl (zq (qpv 0)) (zj (i:=4) zdo.nd rfl (kj rfl)) (zf (zn (zL (yj (P:=P) (w:=w) rfl rfl (hu64 hr) (qpv 4) (qpv 2))) (zf (zC (zD pZ AC AD zk1 (qpv 3) (zg (zh (zjl T) (hr.mono (by decide)) rfl T.way_round.mg T.way_round.fn.kp T.way_round.bn .nil pass0 (zt (qpv 4) za1 (qpv 1) za1 (qpv 2) za1)) zby)))) zp)))
   (ze (zh (ziy T hK hB) (hr.mono (by decide)) rfl T.by_points.mg T.by_points.fn.kp T.by_points.bn .nil pass0 (zg (zy (dsc:=za0 zbt) (N:=["land","leaving","gone","rings","fence"]) (own:=["ring"]) (ix:=[]) rfl rfl rfl ⟨rfl,by decide+kernel,by decide+kernel,by decide+kernel,by decide+kernel⟩ (zq (qpv 3)) (fun cl C fp s2 H2 xe=>⟨(zj (i:=0) (show Qf (["ring"]:List Str) from by decide+kernel) rfl (kj rfl)),zF,(zh (zi4 T) (hr.mono (by decide)) rfl T.from_least.mg T.from_least.fn.kp T.from_least.bn .nil pass0 (zg (qpv 0) za1))⟩)) zdl))))
  ,?_⟩
 clear zY zc zh zg qpv yi zu zx zm zq zj zf zn zL yj zC zD zt zp ze zy zF QE QT QW QA QS QSs QG QGs QI QO QIf QC QK
 dsimp! [L2.start]
 simp! [tNNew];have lss:=hs.1;refine⟨l,ys,ss,rfl,hl,by omega,hs,fun lv kvs H1 hlv lv1=>?_⟩
 intro gn hgn;have gG:=za2 hgn (nD P w gn []);have hg2:upd H1 gn (nD P w gn []) gn=some (nD P w gn []):=upd_same;have lv2:=lv1.mono gG;generalize upd H1 gn (nD P w gn [])=H2 at*;intro R hR;have gR:=za2 hR (HO.lst []);have hR3:upd H2 R (HO.lst []) R=some (.lst []):=upd_same;have nR:∀p,valV kvs (kQ p)≠some (.ref R):=fun p z=>by
  obtain⟨a,zs,e1,_,e3,_⟩:=lv2.ent _ _ z
  cases e1;rw[hR] at e3
  cases e3
 have lv3:=lv2.mono gR;have hgnH:H gn=none:=lv1.same.free hgn;have hRH:H R=none:=lv2.same.free hR;have hg3:=gR _ _ hg2;generalize upd H2 R (HO.lst [])=H3 at*;refine zbc ?_;simp! [zd1];refine⟨⟨_,.of (lv3.same _ _ hl)⟩,?_⟩;refine zba (K:=K) (a:=l) (xs:=ys) (RingI P w H l lv gn R kvs ss)
  ⟨[],[],[],[],none,rfl,lv3,hg3,fun p hp=>(by cases hp),kG _,hR3,.nil,⟨fun q hq=>(by cases hq),.refl _,Qq,fun e he=>(by cases he),fun e _ he=>(by cases he),fun e=>⟨fun z=>(by cases z),fun z=>(by cases z)⟩⟩,.nil,fun e he=>(by rw[Qe] at he;cases he)⟩ (fun i σ H' _ iv=>.of (by obtain⟨_,_,_,_,_,_,lv',_⟩:=iv;exact lv'.same _ _ hl)) ?_ ?_
 ·intro _ _;rintro i v σ H4 hi ⟨zs,gk,qs,gl,o,rfl,lv4,hg4,hk4,lg,hR4,hq4,fd4,rn4,al⟩;obtain⟨p,e,rfl,he',hp⟩:=hs.2 i v hi;have hi':=(kH.mp hi).1;have hp4:=zhf _ _ _ _ (za6 lv4.same) hp;have gkm:gn≠R:=fun z=>by rw[z,hR4] at hg4;cases hg4
  have hes:=kz he';simp! [zko];refine⟨gk,.inl hg4,hk4.kn,kE e,hp4.nk,ite2 (fun c=>?_) (fun c=>?_)⟩
  ·have hn':¬hasG gk e:=fun z=>by unfold hasG at z;rw[z] at c;cases c
   have gll:gl.length<=ss.length:=zfr _ _ fd4.nd fd4.sub;have gkl:gk.length<=10000:=by omega
   refine⟨ze7 hR4,H,p,lv,gn,kvs,gk,ss,e,rfl,hp4,lv4,by omega,hg4,hk4,gkl,Fe,hes,fun R' us rs t H5 gk' sg5 hg5 hk5 hh lg5 tl hR' hR5 hu5 lu d1 d2 cl no fn=>?_⟩
   have lv5:=lv4.sameT sg5 hg4 hgnH;have hRR:H5 R=some (.lst zs):=sg5 _ _ gkm.symm hR4;have hq5:LR (RgN R) H5 zs qs:=hq4.imp fun p r t=>⟨t.1,t.2.sameT sg5 hg4⟩;have u5:LR (RgN R) H5 us rs:=hu5.imp fun p r⟨x1,_,_,x4⟩=>⟨(fun z=>by rw[z,hR4] at x1;cases x1),x4⟩
   have fd5:=fd4.put Fe hes hn' hh d1 d2 cl no;have lzs:zs.length<=150:=by
    rw[hq4.1];have a:=flat_len3' (os:=qs) fun q hq=>(fd4.rg q hq).2;rw[fd4.pm.length_eq] at a;omega
   simp! [zke,hR5];refine⟨zs,hRR,uq (small1000 (by omega)),?_⟩
   have hg5:H5 gn=some (nD P w gn gk'):=hg5;refine⟨zs++us,gk',qs++rs,_,_,rfl,lv5.put hRR hRH nR,zep (u:=.lst []) gkm hg5,hk5.ts (zc6 hRR),?_,upd_same,?_,fd5,by rw[fn];exact .go rn4 he' (fun z=>hn' ((fd4.gone e).mpr z)) cl no,fun f hf=>?_⟩
   ·rw[kJ,kO,ua];omega
   ·exact rgn_put (hq5.app u5) hRR _
   ·rw[kq,he'] at hf;rw[hh];rcases ke.mp hf with hf|hf
    ·exact .inl (al f hf)
    ·have:f=e:=by simpa using hf
     rw[this];exact .inr (kW.mpr ⟨0,kx.mpr (by omega),rfl⟩)
  ·have hy:hasG gk e:=by
    unfold hasG
    cases z:(valN gk (kE e)).isSome with
    |true=>rfl
    |false=>exact absurd (by rw[z];rfl) c
   refine⟨zs,gk,qs,gl,_,rfl,lv4,hg4,hk4,lg,hR4,hq4,fd4,.skip rn4 he' ((fd4.gone e).mp hy),fun f hf=>?_⟩;rw[kq,he'] at hf;rcases ke.mp hf with hf|hf
   ·exact al f hf
   ·have:f=e:=by simpa using hf
    rw[this];exact hy
 ·rintro σ H4 ⟨zs,gk,qs,gl,o,rfl,lv4,hg4,hk4,lg,hR4,hq4,fd4,rn4,al⟩;rw[kU (QZ hs.1.symm)] at al;have gp:gl.Perm ss:=zl1 fd4.nd Fe.nd fun x=>⟨fd4.sub x,fun hx=>(fd4.gone x).mp (al x hx)⟩;have pms:=fd4.pm.trans gp;have three:∀q,q∈qs->3<=q.length:=fun q hq=>Fe.three (fd4.rg q hq).2 fun e he=>pms.mem_iff.mp (zgn hq he);have lq3:=zjm three;rw[pms.length_eq] at lq3;simp! [];refine zc2 ?_;simp! [zd1];refine⟨⟨_,.of hR4⟩,fun D hD=>?_⟩;refine zbx (xs:=zs) (fun i us H'=>Same H4 H'/\H' D=some (.lst us)/\us.length=i/\∃cs,LR (fun H1 p r=>H p=none/\RgN D H1 p r) H' us cs/\∀(j:Nat) c q,cs[j]?=some c->qs[j]?=some q->zeq c q) ⟨za2 hD _,upd_same,rfl,[],.nil,fun j c q z=>(by cases z)⟩ (fun i us H' iv=>.of (iv.1 _ _ hR4)) ?_ ?_
  ·rintro i us H5 v hi hv ⟨g5,hD5,lu,cs,hcs,can⟩;obtain⟨p,q,rfl,hq',_,ws,hw,hws⟩:=hq4.2 i v hv;have hqm:=kz hq';have r3:=three q hqm;have r10:=zi8 hqm;rw[pms.length_eq] at r10;simp! [];refine⟨p,ws,q,rfl,g5 _ _ hw,hws.same g5,by omega,by omega,fun E1 es c H6 hE g6 hE6 he6 ic=>?_⟩
   have hD6:=g6 _ _ hD5;have nE:E1≠D:=fun z=>by rw[z,hD5] at hE;cases hE
   refine cw_put hi hD6 (small1000 (by have:=hq4.1;omega)) ⟨zaj (g5.trans g6) hD,upd_same,by rw[kJ,lu];rfl,cs++[c],?_,fun j c' q' h1 h2=>?_⟩
   ·exact((hcs.imp (R':=fun H1 p r=>H p=none/\RgN D H1 p r) fun p r t=>⟨t.1,t.2.1,t.2.2.same g6⟩).snoc (R:=fun H1 p r=>H p=none/\RgN D H1 p r) ⟨(lv4.same.trans g5).free hE,nE,es,hE6,he6⟩).imp fun p r t=>⟨t.1,t.2.1,t.2.2.put t.2.1 hD6⟩
   ·have lc:cs.length=i:=by rw[←hcs.1,lu]
    by_cases e:j<cs.length
    ·rw[uH e] at h1;exact can j c' q' h1 h2
    ·rw[pO (by omega)] at h1
     have ej:j=i:=by
      have:=(kH.mp h1).1;simp only[pJ,Qw] at this;omega
     subst ej;rw[lc,vR] at h1
     cases h1;rw[hq'] at h2
     cases h2;exact ic
  ·rintro us H5 ⟨g5,hD5,lu,cs,hcs,can⟩;have lcs:cs.length=qs.length:=by rw[←hcs.1,lu,hq4.1]
   have at_:∀c,c∈cs->∃q,q∈qs/\zeq c q:=fun c hc=>by
    obtain⟨j,hj⟩:=uG.mp hc;have hj':j<qs.length:=by rw[←lcs];exact(kH.mp hj).1
    exact⟨qs[j],Qn _,can j c _ hj (kR hj')⟩
   have cpm:=(zk0 lcs can).trans pms;have c3:∀c,c∈cs->3<=c.length:=fun c hc=>by
    obtain⟨q,hq,ic⟩:=at_ c hc;rw[ic.len];exact three q hq
   have nd:cs.Nodup:=znf (fun c hc=>Nat.le_of_succ_le (c3 c hc)) (cpm.nodup_iff.mpr Fe.nd);have g05:=lv4.same.trans g5;refine⟨D,us,cs,fun p=>H p=none/\H5 p≠none,rfl,hD5,by have:=hcs.1;omega,hcs.imp (fun p r t=>⟨⟨t.1,fun z=>by obtain⟨u,h1,_⟩:=t.2.2;rw[z] at h1;cases h1⟩,t.2.2⟩),fun c hc=>by have:=zi8 hc;rw[cpm.length_eq] at this;omega,nd,lt.same g05,fun F zs6 os g H6 hF st6 lt6 hF6 ho pm gw od=>?_⟩
   refine k F zs6 os g H6 (g05.free hF) (zb9.trans (zb9.of g05) st6) lt6 hF6 (ho.imp fun p r t=>⟨t.1.1,fun z=>t.1.2 (by rw[z];exact hF),t.2⟩) ⟨fun r hr=>gw r (pm.mem_iff.mp hr),od,fun q hq=>?_,fun q hq x hx=>?_,?_,qs,gl,cs,by rw[hs.1] at rn4;exact rn4,fun q hq=>(fd4.rg q hq).1,lcs,can,pm⟩
   ·have hq:=pm.mem_iff.mp hq;obtain⟨r,hr,ic⟩:=at_ q hq;exact⟨ic.nodup (fd4.rg r hr).1,c3 q hq⟩
   ·have hq:=pm.mem_iff.mp hq;obtain⟨r,hr,ic⟩:=at_ q hq;exact ic.least hx
   ·exact(pm.flatMap_right sds).trans cpm
def C3H(H:Hp)(p:Addr)(c:Int×Int×Int):Prop:=H p=some (.tup [.int c.1,.int c.2.1,.int c.2.2])/\0<=c.1/\c.1<=3/\0<=c.2.1/\c.2.1<=2/\0<=c.2.2/\c.2.2<=3
theorem zj1:∀(H H':Hp)(p:Addr)(c:Int×Int×Int),zad H H'->C3H H p c->C3H H' p c:=fun _ _ _ _ g h=>⟨g _ _ h.1,h.2⟩
def CelI(w h:Int)(i:Nat)(cs:List (Int×Int×Int)):Prop:=cs.Nodup/\∀c,c∈cs->c.1<w/\c.2.1<h/\4*(c.2.1*w+c.1)+c.2.2<i
def zph(K:kM):Sp:=fun vs H Q _=>∃(a:Addr)(ns:List Int)(w h:Int),vs=[.ref a,.int w,.int h]/\SqL K H a (ns.map V.int)/\1<=w/\w<=4/\1<=h/\h<=3/\∀D zs cs H',H D=none->Same H H'->H' D=some (.lst zs)->zs.length<=48->LR C3H H' zs cs->CelI w h 48 cs->Q (.ref D) H'
theorem zjw(T:Txt K mg ad fd):FnOk P w K mg base CX0 2 (ad 16) (fd 16) ["_law_script","_law_wide","_law_high"] (zph K):=by
 refine T.law_cells.fn.ok zer (fun vs H Q E h=>?_) (fun cdv A outer s H vs Q E hr h=>?_)
 ·obtain⟨a,ns,w,h,rfl,_⟩:=h;rfl
 obtain⟨a,ns,wd,hg,rfl,hS,w1,w4,h1,h3,k⟩:=h;have zw:=@pss3;have zc:=@zbe;have zu:=@zdr;have zx:=@zcz;have zm:=@zd0;have zK:=@ze8;have zg:=@pa1;have zb:=@zdx;have za:=@zbr;have qpv:=@pv;have zj:=@zbd;have zf:=@zah;have zn:=@zf4;have zr:=@zcl;have zh:=@zbh;have zk:=@pa2;have zC:=@zeb;have zD:=@zir;have zo:=@zdp;have zt:=@pa3;have zp:=@zc7;have ze:=@zaz;generalize @L2.PE=QE,@L2.PT=QT,@L2.PW=QW,@L2.PA=QA,@L2.PS=QS,@L2.PSs=QSs,@L2.PG=QG,@L2.PGs=QGs,@L2.PI=QI,@L2.PO=QO,@L2.PIf=QIf at zw zc zu zx zm zK zg zb za qpv zj zf zn zr zh zk zC zD zo zt zp ze⊢;refine⟨_,
  (zw
   (zc (i:=3) zer.nd rfl (kj rfl) (zu zx))
   (zm pK rfl (zK rfl T.b_range (zg (zb zan (zb zdq za (qpv 1)) (qpv 2)) za8)) (zj (i:=4) zer.nd rfl (kj rfl)) (zf (zn (zr op_gt (zb zcq (zh (zbw T) (hr.mono (by decide)) rfl T.law_cell.mg T.law_cell.fn.kp T.law_cell.bn .nil pass0 (zk (qpv 0) za1 (zb zar za (qpv 4)) za8)) za) za (nomark _)) (zf (zC (zD pZ uL uM zc9 (qpv 3) (zg (zo (zt (zb zi5 (zb zfe (qpv 4) za) (qpv 1)) za8 (zb zea (zb zfe (qpv 4) za) (qpv 1)) za8 (zb zcq (qpv 4) za) za8)) zbz)))) zp)))
   (ze (qpv 3)))
  ,?_⟩
 clear zw zc zu zx zm zK zg zb za qpv zj zf zn zr zh zk zC zD zo zt zp ze QE QT QW QA QS QSs QG QGs QI QO QIf
 dsimp! [L2.start]
 simp! [];intro D hD;have gD:=za2 hD (HO.lst []);refine zbc ?_;simp! [zlj];have e8:(2:Nat)^8=256:=rfl;have ub:4*wd*hg<=48:=by
  have:4*wd*hg<=16*3:=gN (by omega) h3 (by omega) (by omega)
  omega
 have lb:0<=4*wd*hg:=vK (by omega) (by omega)
 refine⟨.inl ⟨by decide,by decide⟩,cbig (m:=8) (n:=8) (by omega) (by omega),by omega,by omega,zdd (fun i σ H'=>Same H H'/\∃(zs:List V)(cs:List (Int×Int×Int))(o:Option V),σ=[some (V.ref a),some (V.int wd),some (V.int hg),some (V.ref D),o]/\H' D=some (.lst zs)/\zs.length<=i/\LR C3H H' zs cs/\CelI wd hg i cs) ⟨gD,[],[],none,rfl,upd_same,kG _,.nil,Qq,fun c hc=>(by cases hc)⟩ ?_ ?_⟩
 ·intro _ _;rintro i σ H2 hi ⟨g2,zs,cs,o,rfl,hD2,hn,hz,ci⟩;have hi48:(i:Int)<4*wd*hg:=by omega
  simp! [ur];refine⟨a,ns,_,rfl,g2.seq hS,by omega,by omega,fun v=>⟨_,rfl,by decide,ite2 (fun _=>?_) (fun _=>?_)⟩⟩
  ·have wn:wd≠0:=by omega
   refine⟨ze7 hD2,⟨by decide,by decide⟩,wn,⟨by decide,by decide⟩,cdivb wn (n:=8) (by omega),by decide,fun p hp=>?_⟩
   rw[vD _ (by omega),ui _ (by omega)]
   have j0:0<=(i:Int)/4:=by omega
   have j1:(i:Int)/4<wd*hg:=by
    have:4*wd*hg=4*(wd*hg):=by rw[AE]
    omega
   have q0:0<=(i:Int)%4/\(i:Int)%4<=3:=by omega
   have hnum:4*((i:Int)/4/wd*wd+(i:Int)/4%wd)+(i:Int)%4=i:=by
    have e1:=BB ((i:Int)/4) wd;rw[uh] at e1;omega
   generalize (i:Int)/4=j at*;generalize (i:Int)%4=qq at*;have m0:=At j wn;have m1:=gO j (show 0<wd by omega)
   have d0:0<=j/wd:=Int.ediv_nonneg j0 (by omega)
   have d1:j/wd<hg:=Int.ediv_lt_of_lt_mul (by omega) (by rw[uh];exact j1)
   generalize j%wd=cx at*;generalize j/wd=cy at*;have g3:=za2 hp (HO.tup [V.int cx,V.int cy,V.int qq]);have h3':upd H2 p (HO.tup [V.int cx,V.int cy,V.int qq]) p=some (HO.tup [V.int cx,V.int cy,V.int qq]):=upd_same;generalize upd H2 p (HO.tup [V.int cx,V.int cy,V.int qq])=H3 at*;have hD3:=g3 _ _ hD2;refine⟨zs,hD3,small1000 (by omega),zaj (g2.trans g3) hD,by rw[kJ,pH];omega,_,((hz.ts zj1 (za6 g3)).snoc (a:=(cx,cy,qq)) ⟨h3',by show 0<=cx;omega,by show cx<=3;omega,by show 0<=cy;omega,by show cy<=2;omega,by show 0<=qq;omega,by show qq<=3;omega⟩).ts zj1 (zc6 hD3),Qb.mpr ⟨ci.1,Qj.mpr ⟨fun z=>(by cases z),Qq⟩,fun x hx y hy z=>(by rw[z,kX.mp hy] at hx;have:=(ci.2 _ hx).2.2;dsimp only at this;omega)⟩,fun c hc=>?_⟩
   rcases ke.mp hc with z|z
   ·obtain⟨c1,c2,c3⟩:=ci.2 c z;exact⟨c1,c2,by omega⟩
   ·rw[kX.mp z];exact⟨m1,d1,by dsimp only;omega⟩
  ·exact⟨g2,zs,hD2,by omega,cs,hz,ci.1,fun c hc=>by obtain⟨c1,c2,c3⟩:=ci.2 c hc;exact⟨c1,c2,by omega⟩⟩
 ·rintro σ H2 ⟨g2,zs,cs,o,rfl,hD2,hn,hz,ci⟩;simp! [];exact k D zs cs H2 hD g2 hD2 (by omega) hz ⟨ci.1,fun c hc=>by obtain⟨c1,c2,c3⟩:=ci.2 c hc;exact⟨c1,c2,by omega⟩⟩
def sp_ends3:Sp:=fun vs H Q _=>∃(p:Addr)(c:Int×Int×Int),vs=[.ref p]/\C3H H p c/\∀D e0 e1 e2 a0 a1 a2 k0 k1 k2 H',H D=none->Same H H'->H' D=some (.lst [.ref e0,.ref e1,.ref e2])->P2H H' e0 a0->P2H H' e1 a1->P2H H' e2 a2->Bx a0->Bx a1->Bx a2->triK c=[(a0,k0),(a1,k1),(a2,k2)]->stp a0 k0=a1->stp a1 k1=a2->stp a2 k2=a0->Q (.ref D) H'
theorem zla(T:Txt K mg ad fd):FnOk P w K mg base CX0 1 (ad 17) (fd 17) ["_law_cell_here"] sp_ends3:=by
 refine T.law_ends.fn.ok zed (fun vs H Q E h=>?_) (fun cdv A outer s H vs Q E hr h=>?_)
 ·obtain⟨p,c,rfl,_⟩:=h;rfl
 obtain⟨p,⟨cx,cy,qq⟩,rfl,⟨hp,x0,x1,y0,y1,q0,q1⟩,k⟩:=h;dsimp only at hp x0 x1 y0 y1 q0 q1;have zA:=@pss4;have zc:=@zbe;have zb:=@zdx;have za:=@zbr;have zd:=@zel;have qpv:=@pv;have zu:=@zdr;have yC:=@pa5;have zo:=@zdp;have zk:=@pa2;have ze:=@zaz;have zt:=@pa3;generalize @L2.PE=QE,@L2.PT=QT,@L2.PW=QW,@L2.PA=QA,@L2.PS=QS,@L2.PSs=QSs,@L2.PG=QG,@L2.PGs=QGs,@L2.PI=QI,@L2.PO=QO,@L2.PIf=QIf at zA zc zb za zd qpv zu yC zo zk ze zt⊢;refine⟨_,
  (zA
   (zc (i:=1) zed.nd rfl (kj rfl) (zb zdq za (zd za5 (qpv 0) za (fun _ _=>rfl))))
   (zc (i:=2) zed.nd rfl (kj rfl) (zb zdq za (zd za5 (qpv 0) za (fun _ _=>rfl))))
   (zc (i:=3) zed.nd rfl (kj rfl) (zu (yC (zo (zk (qpv 1) za1 (qpv 2) za1)) zbz (zo (zk (zb zar (qpv 1) za) za8 (qpv 2) za1)) zbz (zo (zk (zb zar (qpv 1) za) za8 (zb zar (qpv 2) za) za8)) zbz (zo (zk (qpv 1) za1 (zb zar (qpv 2) za) za8)) zbz (zo (zk (qpv 1) za1 (qpv 2) za1)) zbz)))
   (ze (zu (zt (zd zai (qpv 3) (zd za5 (qpv 0) za (fun _ _=>rfl)) (fun _ _=>rfl)) za9 (zd zai (qpv 3) (zb zar (zd za5 (qpv 0) za (fun _ _=>rfl)) za) (fun _ _=>rfl)) za9 (zo (zk (zb zar (qpv 1) za) za8 (zb zar (qpv 2) za) za8)) zbz))))
  ,?_⟩
 clear zA zc zb za zd qpv zu yC zo zk ze zt QE QT QW QA QS QSs QG QGs QI QO QIf
 dsimp! [L2.start]
 simp! [hp];refine⟨.inl ⟨by decide,by decide⟩,.inl ⟨by decide,by decide⟩,?_⟩
 intro p1 n1;have g1:=za2 n1 (HO.tup [V.int (2*cx),V.int (2*cy)]);have h1:upd H p1 (HO.tup [V.int (2*cx),V.int (2*cy)]) p1=some (HO.tup [V.int (2*cx),V.int (2*cy)]):=upd_same;generalize upd H p1 (HO.tup [V.int (2*cx),V.int (2*cy)])=K1 at*;intro p2 n2;have g2:=za2 n2 (HO.tup [V.int (2*cx+2),V.int (2*cy)]);have h2:upd K1 p2 (HO.tup [V.int (2*cx+2),V.int (2*cy)]) p2=some (HO.tup [V.int (2*cx+2),V.int (2*cy)]):=upd_same;generalize upd K1 p2 (HO.tup [V.int (2*cx+2),V.int (2*cy)])=K2 at*;intro p3 n3;have g3:=za2 n3 (HO.tup [V.int (2*cx+2),V.int (2*cy+2)]);have h3:upd K2 p3 (HO.tup [V.int (2*cx+2),V.int (2*cy+2)]) p3=some (HO.tup [V.int (2*cx+2),V.int (2*cy+2)]):=upd_same;generalize upd K2 p3 (HO.tup [V.int (2*cx+2),V.int (2*cy+2)])=K3 at*;intro p4 n4;have g4:=za2 n4 (HO.tup [V.int (2*cx),V.int (2*cy+2)]);have h4:upd K3 p4 (HO.tup [V.int (2*cx),V.int (2*cy+2)]) p4=some (HO.tup [V.int (2*cx),V.int (2*cy+2)]):=upd_same;generalize upd K3 p4 (HO.tup [V.int (2*cx),V.int (2*cy+2)])=K4 at*;intro p5 n5;have g5:=za2 n5 (HO.tup [V.int (2*cx),V.int (2*cy)]);have h5:upd K4 p5 (HO.tup [V.int (2*cx),V.int (2*cy)]) p5=some (HO.tup [V.int (2*cx),V.int (2*cy)]):=upd_same;generalize upd K4 p5 (HO.tup [V.int (2*cx),V.int (2*cy)])=K5 at*;refine⟨by decide,fun L nL=>?_⟩
 have g6:=za2 nL (HO.lst [V.ref p1,V.ref p2,V.ref p3,V.ref p4,V.ref p5]);have h6:upd K5 L (HO.lst [V.ref p1,V.ref p2,V.ref p3,V.ref p4,V.ref p5]) L=some (HO.lst [V.ref p1,V.ref p2,V.ref p3,V.ref p4,V.ref p5]):=upd_same;generalize upd K5 L (HO.lst [V.ref p1,V.ref p2,V.ref p3,V.ref p4,V.ref p5])=K6 at*;have g46:=g5.trans g6;have g36:=g4.trans g46;have g26:=g3.trans g36;have g16:=g2.trans g26;have g06:=g1.trans g16;have hp6:=g06 _ _ hp;obtain⟨A0,A1,a0,a1,k0,k1,k2,e0,e1,hA0,hA1,b0,b1,tk,s0,s1,s2⟩:∃(A0 A1:Addr)(a0 a1:Int×Int)(k0 k1 k2:Fin 8),atI [V.ref p1,V.ref p2,V.ref p3,V.ref p4,V.ref p5] qq=some (.ref A0)/\atI [V.ref p1,V.ref p2,V.ref p3,V.ref p4,V.ref p5] (qq+1)=some (.ref A1)/\P2H K6 A0 a0/\P2H K6 A1 a1/\Bx a0/\Bx a1/\triK (cx,cy,qq)=[(a0,k0),(a1,k1),((2*cx+1,2*cy+1),k2)]/\stp a0 k0=a1/\stp a1 k1=(2*cx+1,2*cy+1)/\stp (2*cx+1,2*cy+1) k2=a0:=by
  have t1:P2H K6 p1 (2*cx,2*cy):=g16 _ _ h1;have t2:P2H K6 p2 (2*cx+2,2*cy):=g26 _ _ h2;have t3:P2H K6 p3 (2*cx+2,2*cy+2):=g36 _ _ h3;have t4:P2H K6 p4 (2*cx,2*cy+2):=g46 _ _ h4;have t5:P2H K6 p5 (2*cx,2*cy):=g6 _ _ h5;have se:∀{x y x' y':Int},x=x'->y=y'->((x,y):Int×Int)=(x',y'):=fun h1 h2=>by rw[h1,h2]
  have bx:∀{x y:Int},0<=x->x<=8->0<=y->y<=6->Bx (x,y):=fun a b c d=>⟨a,b,c,d⟩;rcases(by omega:qq=0∨qq=1∨qq=2∨qq=3) with e|e|e|e<;>subst e
  ·exact⟨p1,p2,_,_,0,3,5,at0,at1,t1,t2,bx (by omega) (by omega) (by omega) (by omega),bx (by omega) (by omega) (by omega) (by omega),rfl,se (by show 2*cx+(2)=2*cx+2;omega) (by show 2*cy+(0)=2*cy;omega),se (by show 2*cx+2+(-1)=2*cx+1;omega) (by show 2*cy+(1)=2*cy+1;omega),se (by show 2*cx+1+(-1)=2*cx;omega) (by show 2*cy+1+(-1)=2*cy;omega)⟩
  ·exact⟨p2,p3,_,_,2,5,7,at1,at2,t2,t3,bx (by omega) (by omega) (by omega) (by omega),bx (by omega) (by omega) (by omega) (by omega),rfl,se (by show 2*cx+2+(0)=2*cx+2;omega) (by show 2*cy+(2)=2*cy+2;omega),se (by show 2*cx+2+(-1)=2*cx+1;omega) (by show 2*cy+2+(-1)=2*cy+1;omega),se (by show 2*cx+1+(1)=2*cx+2;omega) (by show 2*cy+1+(-1)=2*cy;omega)⟩
  ·exact⟨p3,p4,_,_,4,7,1,at2,at3,t3,t4,bx (by omega) (by omega) (by omega) (by omega),bx (by omega) (by omega) (by omega) (by omega),rfl,se (by show 2*cx+2+(-2)=2*cx;omega) (by show 2*cy+2+(0)=2*cy+2;omega),se (by show 2*cx+(1)=2*cx+1;omega) (by show 2*cy+2+(-1)=2*cy+1;omega),se (by show 2*cx+1+(1)=2*cx+2;omega) (by show 2*cy+1+(1)=2*cy+2;omega)⟩
  ·exact⟨p4,p5,_,_,6,1,3,at3,at4,t4,t5,bx (by omega) (by omega) (by omega) (by omega),bx (by omega) (by omega) (by omega) (by omega),rfl,se (by show 2*cx+(0)=2*cx;omega) (by show 2*cy+2+(-2)=2*cy;omega),se (by show 2*cx+(1)=2*cx+1;omega) (by show 2*cy+(1)=2*cy+1;omega),se (by show 2*cx+1+(-1)=2*cx;omega) (by show 2*cy+1+(1)=2*cy+2;omega)⟩
 refine⟨_,hp6,_,at2,_,_,rfl,rfl,_,e0,_,hp6,_,at2,_,rfl,_,e1,fun c nc=>?_⟩;have g7:=za2 nc (HO.tup [V.int (2*cx+1),V.int (2*cy+1)]);have h7:upd K6 c (HO.tup [V.int (2*cx+1),V.int (2*cy+1)]) c=some (HO.tup [V.int (2*cx+1),V.int (2*cy+1)]):=upd_same;generalize upd K6 c (HO.tup [V.int (2*cx+1),V.int (2*cy+1)])=K7 at*;intro D hD;have g8:=za2 hD (HO.lst [V.ref A0,V.ref A1,V.ref c]);have g08:=g06.trans (g7.trans g8);exact k D A0 A1 c a0 a1 (2*cx+1,2*cy+1) k0 k1 k2 _ ((g06.trans g7).free hD) g08 upd_same (zek _ _ _ _ (za6 (g7.trans g8)) hA0) (zek _ _ _ _ (za6 (g7.trans g8)) hA1) (g8 _ _ h7) b0 b1 ⟨by show 0<=2*cx+1;omega,by show 2*cx+1<=8;omega,by show 0<=2*cy+1;omega,by show 2*cy+1<=6;omega⟩ tk s0 s1 s2
def kP(a:Int×Int):List Key:=[.inl a.1,.inl a.2]
theorem zjy{a b:Int×Int}(h:kP a=kP b):a=b:=by
 obtain⟨x,y⟩:=a;obtain⟨x',y'⟩:=b;unfold kP at h
 cases h;rfl
def EdH(H:Hp)(p:Addr)(e:E2):Prop:=(∃c d,H p=some (.tup [.ref c,.ref d])/\P2H H c e.1/\P2H H d e.2)/\Bx e.1/\Bx e.2/\e.1≠e.2
theorem zn8:∀(H H':Hp)(p:Addr)(e:E2),zad H H'->EdH H p e->EdH H' p e:=fun _ _ _ _ g⟨⟨c,d,h1,h2,h3⟩,b⟩=>⟨⟨c,d,g _ _ h1,g _ _ h2,g _ _ h3⟩,b⟩
theorem EdH.nk{H:Hp}{p:Addr}{e:E2}(h:EdH H p e):NK H p [kP e.1,kP e.2]:=by
 obtain⟨⟨c,d,h1,h2,h3⟩,_⟩:=h;exact NK.two h1 h2 h3
def EdK(H:Hp)(kvs:List N3):Prop:=∀p,p∈kvs->∃e,p.1=[kP e.1,kP e.2]/\EdH H p.2.1 e
theorem EdK.kn{H:Hp}{kvs:List N3}(h:EdK H kvs):KN H kvs:=fun p hp=>by
 obtain⟨e,e1,e2⟩:=h p hp;rw[e1];exact e2.nk
theorem EdK.ts{H H':Hp}{kvs:List N3}(h:EdK H kvs)(g:zad H H'):EdK H' kvs:=fun p hp=>by
 obtain⟨e,e1,e2⟩:=h p hp;exact⟨e,e1,zn8 _ _ _ _ g e2⟩
theorem EdK.put{H:Hp}{kvs:List N3}{b:Addr}{e:E2}{v:V}(h:EdK H kvs)(hb:EdH H b e):EdK H (putN kvs [kP e.1,kP e.2] b v):=by
 unfold putN
 split
 ·intro p hp;obtain⟨q,hq,z⟩:=kW.mp hp;obtain⟨f,f1,f2⟩:=h q hq;rw[←z]
  split
  ·exact⟨f,f1,f2⟩
  ·exact⟨f,f1,f2⟩
 ·intro p hp;rcases ke.mp hp with hp|hp
  ·exact h p hp
  ·rw[kX.mp hp];exact⟨e,rfl,hb⟩
def kk(e:E2):K2:=[kP e.1,kP e.2]
theorem kk_inj{e f:E2}(h:kk e=kk f):e=f:=by
 unfold kk at h
 injection h with h1 h2
 injection h2 with h2 _
 exact QX (zjy h1) (zjy h2)
def hasE(kvs:List N3)(e:E2):Prop:=(valN kvs (kk e)).isSome=true
theorem hasE_put{kvs:List N3}{e f:E2}{b:Addr}{v:V}:hasE (putN kvs (kk e) b v) f↔hasE kvs f∨f=e:=by
 unfold hasE;rw[zd6,zd6,zgv]
 split
 ·rename_i c
  refine⟨.inl,fun z=>z.elim id fun z=>?_⟩;rw[z,←zd6];exact c
 ·rw[ke,kX];exact or_congr Cz ⟨kk_inj,fun z=>by rw[z]⟩
def ofK:K2->E2
 |[[.inl x,.inl y],[.inl z,.inl t]]=>((x,y),(z,t))
 |_=>((0,0),(0,0))
def esK(kvs:List N3):List E2:=kvs.map fun p=>ofK p.1
theorem EdK.at{H:Hp}{kvs:List N3}(h:EdK H kvs){p:N3}(hp:p∈kvs):p.1=kk (ofK p.1):=by
 obtain⟨e,e1,_⟩:=h p hp;rw[e1];rfl
theorem EdK.mem{H:Hp}{kvs:List N3}(h:EdK H kvs){e:E2}:e∈esK kvs↔hasE kvs e:=by
 unfold hasE;rw[zd6];unfold esK;rw[kW,kW];exact⟨fun⟨p,hp,z⟩=>⟨p,hp,by rw[h.at hp,z]⟩,fun⟨p,hp,z⟩=>⟨p,hp,by rw[z];rfl⟩⟩
theorem EdK.nodup{H:Hp}{kvs:List N3}(h:EdK H kvs)(nd:(kvs.map (·.1)).Nodup):(esK kvs).Nodup:=by
 unfold esK;rw[kK,uR] at nd⊢;exact nd.imp_of_mem fun{a b} ha hb n z=>n (by rw[h.at ha,h.at hb,z])
def zii(kvs:List N3)(n:Nat):List E2:=((esK kvs).take n).filter fun e=> !(valN kvs (kk (e.2,e.1))).isSome
theorem stp_ne(a:Int×Int)(k:Fin 8):a≠stp a k:=fun z=>by
 unfold stp at z;have h1:=congrArg jL z;have h2:=congrArg Di z;dsimp only at h1 h2;exact dv_ne k (QX (by show(dv k).1=0;omega) (by show(dv k).2=0;omega))
theorem sd_snoc{cs:List C3}{c:C3}{e:E2}:Sd (cs++[c]) e↔Sd cs e∨∃x,x∈triK c/\e=(x.1,stp x.1 x.2):=by
 unfold Sd
 constructor
 ·rintro⟨d,hd,a,k,h1,h2⟩;rcases ke.mp hd with z|z
  ·exact .inl ⟨d,z,a,k,h1,h2⟩
  ·rw[kX.mp z] at h1;exact .inr ⟨(a,k),h1,h2⟩
 ·rintro(⟨d,hd,a,k,h1,h2⟩|⟨⟨a,k⟩,h1,h2⟩)
  ·exact⟨d,QU _ hd,a,k,h1,h2⟩
  ·exact⟨c,ki _ (kX.mpr rfl),a,k,h1,h2⟩
def sp_edges:Sp:=fun vs H Q _=>∃(l:Addr)(zs:List V)(cs:List (Int×Int×Int)),vs=[.ref l]/\H l=some (.lst zs)/\zs.length<=48/\LR C3H H zs cs/\∀D ys es H',H D=none->Same H H'->H' D=some (.lst ys)->ys.length<=144->LR EdH H' ys es->es.Nodup->Edg cs es->Q (.ref D) H'
theorem zk9(T:Txt K mg ad fd):FnOk P w K mg base CX0 2 (ad 18) (fd 18) ["_law_cells_here"] sp_edges:=by
 refine T.law_edges.fn.ok zcw (fun vs H Q E h=>?_) (fun cdv A outer s H vs Q E hr h=>?_)
 ·obtain⟨l,zs,cs,rfl,_⟩:=h;rfl
 obtain⟨l,zs,cs,rfl,hl,hn,hz,k⟩:=h;have zw:=@pss3;have zc:=@zbe;have yi:=@zoo;have zm:=@zd0;have zq:=@zc8;have qpv:=@pv;have zj:=@zbd;have zB:=@pss2;have zh:=@zbh;have zg:=@pa1;have zK:=@ze8;have za:=@zbr;have zf:=@zah;have yh:=@zpj;have zo:=@zdp;have zk:=@pa2;have zd:=@zel;have zb:=@zdx;have zM:=@pe_bl;have ze:=@zaz;have zy:=@zee;unfold L2.CompBody at zy;have yD:=@pi_dictN;have zN:=@zin;have zL:=@zjx;have yj:=@zjo;generalize @L2.PE=QE,@L2.PT=QT,@L2.PW=QW,@L2.PA=QA,@L2.PS=QS,@L2.PSs=QSs,@L2.PG=QG,@L2.PGs=QGs,@L2.PI=QI,@L2.PO=QO,@L2.PIf=QIf,@L2.PC=QC,@L2.PK=QK at zw zc yi zm zq qpv zj zB zh zg zK za zf yh zo zk zd zb zM ze zy yD zN zL yj⊢;refine⟨_,
  (zw
   (zc (i:=1) zcw.nd rfl (jU rfl) (yi (P:=P) (w:=w) rfl rfl))
   (zm pK rfl (zq (qpv 0)) (zj (i:=2) zcw.nd rfl (kj rfl)) (zB
   (zc (i:=3) zcw.nd rfl (kj rfl) (zh (zla T) (hr.mono (by decide)) rfl T.law_ends.mg T.law_ends.fn.kp T.law_ends.bn .nil pass0 (zg (qpv 2) za1)))
   (zm pK rfl (zK rfl T.b_range (zg za zao)) (zj (i:=4) zcw.nd rfl (kj rfl)) (zf (yh (P:=P) (w:=w) rfl rfl (hu64 hr) (qpv 1) (zo (zk (zd zai (qpv 3) (qpv 4) (fun _ _=>rfl)) za9 (zd zai (qpv 3) (zb zcq (zb zar (qpv 4) za) za) (fun _ _=>rfl)) za9)) zM rfl)))))
   (ze (zy (dsc:=za0 zb8) (N:=["_law_cells_here","_law_sides","_law_cell_here","_law_ends_here","_law_k"]) (own:=["_law_side"]) (ix:=[1]) rfl rfl rfl ⟨rfl,by decide+kernel,by decide+kernel,by decide+kernel,by decide+kernel⟩ (yD (P:=P) (w:=w) rfl rfl (qpv 1)) (fun cl C fp s2 H2 xe=>⟨(zj (i:=0) (show Qf (["_law_side","_law_sides"]:List Str) from by decide+kernel) rfl (kj rfl)),(zN (zL (yj (P:=P) (w:=w) rfl rfl (hu64 hr) (zo (zk (zd za5 (qpv 0) za (fun _ _=>rfl)) za9 (zd za5 (qpv 0) za (fun _ _=>rfl)) za9)) (qpv 1)))),(qpv 0)⟩))))
  ,?_⟩
 clear zw zc yi zm zq qpv zj zB zh zg zK za zf yh zo zk zd zb zM ze zy yD zN zL yj QE QT QW QA QS QSs QG QGs QI QO QIf QC QK
 dsimp! [L2.start]
 simp! [tNNew];intro S hS;have gS:=za2 hS (nD P w S []);refine zbc ?_;simp! [zd1];refine⟨⟨_,.of (gS _ _ hl)⟩,?_⟩;refine zba (K:=K) (a:=l) (xs:=zs) (fun i σ H'=>Same H H'/\∃(kvs:List N3)(o1 o2 o3:Option V),σ=[some (V.ref l),some (V.ref S),o1,o2,o3]/\H' S=some (nD P w S kvs)/\kvs.length<=3*i/\EdK H' kvs/\(kvs.map (·.1)).Nodup/\∀e,hasE kvs e↔Sd (cs.take i) e) ⟨gS,[],none,none,none,rfl,upd_same,kG _,(fun p hp=>by cases hp),Qq,fun e=>⟨fun z=>(by cases z),fun⟨c,hc,_⟩=>(by rw[Qe] at hc;cases hc)⟩⟩ (fun i σ H' _ iv=>.of (iv.1 _ _ hl)) ?_ ?_
 ·intro _ _;rintro i v σ H2 hi ⟨g2,kvs,o1,o2,o3,rfl,hS2,hk,ek,nd,has⟩;obtain⟨p,c,rfl,hc',hc⟩:=hz.2 i v hi;have hi':=(kH.mp hi).1;simp! [];refine⟨p,c,rfl,zj1 _ _ _ _ (za6 g2) hc,fun L e0 e1 e2 a0 a1 a2 k0 k1 k2 H3 hL g3 hL3 p0 p1 p2 b0 b1 b2 tk s0 s1 s2=>?_⟩;have g03:=g2.trans g3;refine zbc ?_;simp! [zlj];have nLS:L≠S:=(zam hS2 hL).symm;refine⟨by decide,by decide,zdd (fun j σ H'=>Same H H'/\zad H3 H'/\H' L=some (.lst [.ref e0,.ref e1,.ref e2])/\∃(kvs:List N3)(o:Option V),σ=[some (V.ref l),some (V.ref S),some (V.ref p),some (V.ref L),o]/\H' S=some (nD P w S kvs)/\kvs.length<=3*i+j/\EdK H' kvs/\(kvs.map (·.1)).Nodup/\∀e,hasE kvs e↔Sd (cs.take i) e∨∃x,x∈(triK c).take j/\e=(x.1,stp x.1 x.2)) ⟨g03,fun _ _ h=>h,hL3,kvs,o3,rfl,g3 _ _ hS2,hk,ek.ts (za6 g3),nd,fun e=>⟨fun z=>.inl ((has e).mp z),fun z=>z.elim (has e).mpr fun⟨x,hx,_⟩=>(by rw[Qe] at hx;cases hx)⟩⟩ ?_ ?_⟩
  ·intro _ _;rintro j σ H4 hj ⟨g4,t4,hL4,kvs,o,rfl,hS4,hk4,ek4,nd4,has4⟩;obtain⟨A0,A1,f0,f1,kf,e0',e1',q0,q1,c0,c1,sf,tf⟩:∃(A0 A1:Addr)(f0 f1:Int×Int)(kf:Fin 8),atI [V.ref e0,V.ref e1,V.ref e2] (j:Int)=some (.ref A0)/\atI [V.ref e0,V.ref e1,V.ref e2] (((j:Int)+1)%3)=some (.ref A1)/\P2H H3 A0 f0/\P2H H3 A1 f1/\Bx f0/\Bx f1/\stp f0 kf=f1/\(triK c)[j]?=some (f0,kf):=by
    have hj3:j<3:=hj;rcases(by omega:j=0∨j=1∨j=2) with e|e|e<;>subst e
    ·exact⟨e0,e1,_,_,k0,at0,at1,p0,p1,b0,b1,s0,by rw[tk];rfl⟩
    ·exact⟨e1,e2,_,_,k1,at1,at2,p1,p2,b1,b2,s1,by rw[tk];rfl⟩
    ·exact⟨e2,e0,_,_,k2,at2,at0,p2,p0,b2,b0,s2,by rw[tk];rfl⟩
   simp! [sNPut,ur,hL4,e0',e1'];refine⟨by decide,fun t ht=>?_⟩
   have g5:=za2 ht (HO.tup [V.ref A0,V.ref A1]);have h5:upd H4 t (HO.tup [V.ref A0,V.ref A1]) t=some (HO.tup [V.ref A0,V.ref A1]):=upd_same;generalize upd H4 t (HO.tup [V.ref A0,V.ref A1])=H5 at*;have hS5:=g5 _ _ hS4;have t35:=zi1 t4 (za6 g5);have ed:EdH H5 t (f0,f1):=⟨⟨A0,A1,h5,t35 _ _ q0,t35 _ _ q1⟩,c0,c1,by show f0≠f1;rw[←sf];exact stp_ne _ _⟩
   have ek5:=ek4.ts (za6 g5);refine⟨kvs,hS5,ek5.kn,[kP f0,kP f1],ed.nk,small1000 (by omega),zaj (g4.trans g5) hS,zi1 t35 (zi2 hS5),?_,_,rfl,pL (ziw _ _ _ _) (by omega),(ek5.put ed).ts (zi2 hS5),zhq nd4,fun e=>?_⟩
   ·rw[za7 nLS];exact g5 _ _ hL4
   ·show hasE (putN kvs (kk (f0,f1)) t _) e↔_
    rw[hasE_put,has4,kq,tf,←sf]
    constructor
    ·rintro((z|⟨x,hx,z⟩)|z)
     ·exact .inl z
     ·exact .inr ⟨x,QU _ hx,z⟩
     ·exact .inr ⟨(f0,kf),ki _ (kX.mpr rfl),z⟩
    ·rintro(z|⟨x,hx,z⟩)
     ·exact .inl (.inl z)
     ·rcases ke.mp hx with hx|hx
      ·exact .inl (.inr ⟨x,hx,z⟩)
      ·rw[kX.mp hx] at z;exact .inr z
  ·rintro σ H4 ⟨g4,t4,hL4,kvs,o,rfl,hS4,hk4,ek4,nd4,has4⟩;refine⟨g4,⟨_,_,_,rfl⟩,kvs,hS4,by have:(Int.toNat 3)=3:=rfl;omega,ek4,nd4,fun e=>?_⟩
   rw[has4,kq,hc'];show _↔Sd (cs.take i++[c]) e;rw[sd_snoc,kU (l:=triK c) (by rw[tk];exact kG _)]
 ·rintro σ H2 ⟨g2,kvs,o1,o2,o3,rfl,hS2,hk,ek,nd,has⟩;simp! [];refine zc2 ?_;simp! [iDictN];refine⟨kvs,hS2,fun o D hD=>?_⟩;have gF:Same H (upd H2 S (HO.frz o (nD P w S kvs))):=zaj g2 hS;have hSF:upd H2 S (HO.frz o (nD P w S kvs)) S=some (HO.frz o (nD P w S kvs)):=upd_same;have ekF:=ek.ts (zi2 (o:=HO.frz o (nD P w S kvs)) hS2);generalize upd H2 S (HO.frz o (nD P w S kvs))=H3 at*;have lk:(kvs.map fun p=>p.2.1).length=kvs.length:=kO _;rw[kU (QZ hz.1.symm)] at has;refine zn3 (fun i ys H'=>Same H3 H'/\H' D=some (.lst ys)/\ys.length<=i/\LR EdH H' ys (zii kvs i)) ⟨za2 hD _,upd_same,kG _,.nil⟩ (fun i ys H' z=>z.1 _ _ hSF) ?_ ?_
  ·rintro i ys H4 b hb ⟨g4,hD4,hy,he⟩;have hi:=(kH.mp hb).1;rw[pG] at hb;obtain⟨q,hq,eb⟩:=jE.mp hb;obtain⟨e,e1,e2⟩:=ekF q (kz hq);have eq:(esK kvs)[i]?=some e:=by
    unfold esK;rw[pG,hq,QJ,e1];rfl
   rw[eb] at e2;have e4:=zn8 _ _ _ _ (za6 g4) e2;obtain⟨⟨c,d,h1,h2,h3⟩,b1,b2,ne⟩:=id e4;simp! [zko,h1];intro t ht;have g5:=za2 ht (HO.tup [V.ref d,V.ref c]);have h5:upd H4 t (HO.tup [V.ref d,V.ref c]) t=some (HO.tup [V.ref d,V.ref c]):=upd_same;generalize upd H4 t (HO.tup [V.ref d,V.ref c])=H5 at*;have g35:=g4.trans g5;have ek5:=ekF.ts (za6 g35);have e5:=zn8 _ _ _ _ (za6 g5) e4;have hD5:=g5 _ _ hD4;refine⟨kvs,.inr ⟨o,g35 _ _ hSF⟩,ek5.kn,[kP e.2,kP e.1],NK.two h5 (g5 _ _ h3) (g5 _ _ h2),ite2 (fun cc=>?_) (fun cc=>?_)⟩
   ·refine cw_put hi hD5 (small1000 (by rw[lk] at hi;omega)) ⟨zaj g35 hD,upd_same,by rw[kJ,pH];omega,?_⟩
    have en:zii kvs (i+1)=zii kvs i++[e]:=by
     unfold zii;rw[kq,eq,pW]
     congr 1
     exact vt cc
    rw[en];exact((he.ts zn8 (za6 g5)).snoc e5).ts zn8 (zc6 hD5)
   ·refine cw_skip hi (ys:=ys) ⟨g35,hD5,by omega,?_⟩
    have en:zii kvs (i+1)=zii kvs i:=by
     unfold zii;rw[kq,eq,pW];rw[show(some e).toList=[e] from rfl,AU (a:=e) (l:=[]) cc,Cy,pU]
    rw[en];exact he.ts zn8 (za6 g5)
  ·rintro ys H4 ⟨g4,hD4,hy,he⟩;rw[lk] at hy;have ae:zii kvs (kvs.map fun p=>p.2.1).length=(esK kvs).filter fun e=> !(valN kvs (kk (e.2,e.1))).isSome:=by
    unfold zii;rw[kU (by unfold esK;rw[kO,kO];exact kG _)]
   rw[ae] at he;refine k D ys _ H4 (gF.free hD) (gF.trans g4) hD4 (by omega) he ((ekF.nodup nd).filter _) fun e=>?_
   rw[pf,ekF.mem,has];refine and_congr Cz ?_;rw[←has (e.2,e.1)];unfold hasE
   cases(valN kvs (kk (e.2,e.1))).isSome<;>simp
theorem zf1(ss:List (E2))(e:E2)(p:Int×Int):lvP (ss++[e]) p=lvP ss p++if e.1=p then[e.2] else[]:=by
 unfold lvP;rw[pW,pV]
 congr 1
 by_cases c:e.1=p
 ·rw[if_pos c,uA,if_pos (decide_eq_true c)];rfl
 ·rw[if_neg c,uA,if_neg (fun z=>c (of_decide_eq_true z))];rfl
theorem lvP_len(ss:List (E2))(p:Int×Int):(lvP ss p).length<=ss.length:=by
 unfold lvP;rw[kO];exact Uy _ _
structure LvP(H0 H:Hp)(d:Addr)(kvs:List (List Key×V))(ss:List (E2)):Prop where
 same:Same H0 H
 new:H0 d=none
 at_:H d=some (.dT kvs)
 len:kvs.length<=ss.length
 ent:∀p v,valV kvs (kP p)=some v->∃a zs,v=.ref a/\H0 a=none/\H a=some (.lst zs)/\LR P2H H zs (lvP ss p)
 non:∀p,valV kvs (kP p)=none->lvP ss p=[]
 dis:∀p p' v,valV kvs (kP p)=some v->valV kvs (kP p')=some v->p=p'
theorem LvP.mono{H0 H H':Hp}{d:Addr}{kvs:List (List Key×V)}{ss:List (E2)}(h:LvP H0 H d kvs ss)(g:Same H H'):LvP H0 H' d kvs ss:=
 ⟨h.same.trans g,h.new,g _ _ h.at_,h.len,fun k v e=>by
  obtain⟨a,ys,e1,e2,e3,e4⟩:=h.ent k v e;exact⟨a,ys,e1,e2,g _ _ e3,e4.ts zek (za6 g)⟩,h.non,h.dis⟩
theorem LvP.app{H0 H:Hp}{d a t b:Addr}{kvs:List (List Key×V)}{ss:List (E2)}{p q:Int×Int}{Qc:VK}(h:LvP H0 H d kvs ss)(hm:ss.length<500)(ha:P2H H a p)(hb:P2H H b q)(ht:H t=none)
  (k:∀(l:Addr)(H1:Hp)(zs:List V) kvs',H1 l=some (.lst zs)->zs.length<sizeLine->LvP H0 (upd H1 l (.lst (zs++[.ref b]))) d kvs' (ss++[(p,q)])->Qc (.ref l) H1):rSD d (.ref a) (.ref t) (upd H t (.lst [])) Qc:=by
 have g:=za2 ht (HO.lst []);have hg:=h.mono g;refine⟨kvs,kP p,a,hg.at_,rfl,g _ _ ha,small1000 (by have:=h.len;omega),fun v hv=>?_,fun hv=>?_⟩
 ·obtain⟨l,ys,rfl,e2,e3,e4⟩:=hg.ent _ _ hv;have ly:ys.length<=ss.length:=by rw[e4.1];exact lvP_len _ _
  refine k l _ ys kvs e3 (small1000 (by omega)) ⟨zaj hg.same e2,h.new,?_,by have:=h.len;rw[kJ];omega,fun p' v' hv'=>?_,fun p' hv'=>?_,h.dis⟩
  ·rw[za7 (fun z=>by rw[←z,hg.at_] at e3;cases e3)]
   exact hg.at_
  ·obtain⟨l',ys',rfl,f2,f3,f4⟩:=hg.ent _ _ hv'
   by_cases el:l'=l
   ·subst el;rw[e3] at f3
    cases f3;have pp:=h.dis _ _ _ hv' hv;subst pp;refine⟨l',_,rfl,f2,upd_same,?_⟩;rw[zf1,if_pos rfl];exact(e4.snoc (zek _ _ _ _ (za6 g) hb)).ts zek (zc6 e3)
   ·refine⟨l',ys',rfl,f2,by rw[za7 el];exact f3,?_⟩
    rw[zf1,if_neg (fun z=>el (by
     have z':p=p':=z;rw[←z'] at hv';rw[hv] at hv'
     cases hv';rfl)),pU]
    exact f4.ts zek (zc6 e3)
  ·rw[zf1,h.non _ hv',if_neg (fun z=>by
    have z':p=p':=z;rw[z',hv'] at hv
    cases hv)]
   rfl
 ·have td:t≠d:=fun z=>by rw[z,h.at_] at ht;cases ht
  have h0t:=h.same.free ht;have up:∀b' o,b'≠d->H b'=some o->upd (upd (upd H t (.lst [])) d (.dT (putK kvs (kP p) (.ref t)))) t (.lst [.ref b]) b'=some o:=fun b' o nb hb'=>by
   have nt:b'≠t:=fun z=>by rw[z,ht] at hb';cases hb'
   rw[za7 nt,za7 nb,za7 nt];exact hb'
  have ts:zad H (upd (upd (upd H t (.lst [])) d (.dT (putK kvs (kP p) (.ref t)))) t (.lst [.ref b])):=fun b' xs hb'=>up b' _ (fun z=>by rw[z,h.at_] at hb';cases hb') hb'
  have nt:∀p',valV kvs (kP p')≠some (.ref t):=fun p' z=>by
   obtain⟨l',ys',e,f2,f3,f4⟩:=h.ent _ _ z
   cases e;rw[ht] at f3
   cases f3
  refine k t _ [] (putK kvs (kP p) (.ref t)) (by rw[za7 td];exact upd_same) (small1000 (by simp)) ⟨fun b' o hb'=>up b' o (fun z=>by rw[z,h.new] at hb';cases hb') (h.same _ _ hb'),h.new,by rw[za7 td.symm];exact upd_same,pL (zbn _ _ _) (by have:=h.len;rw[kJ];exact vS this),fun p' v' hv'=>?_,fun p' hv'=>?_,fun p' p2 v' h1 h2=>?_⟩
  ·rw[zda] at hv'
   by_cases ek:kP p'=kP p
   ·rw[if_pos ek] at hv'
    cases hv';have e':=zjy ek;subst e';refine⟨t,[.ref b],rfl,h0t,upd_same,?_⟩;rw[zf1,if_pos rfl,h.non _ hv];exact LR.one (R:=P2H) (zek _ _ _ _ ts hb)
   ·rw[if_neg ek] at hv';obtain⟨l',ys',rfl,f2,f3,f4⟩:=h.ent _ _ hv';refine⟨l',ys',rfl,f2,up _ _ (fun z=>by rw[z,h.at_] at f3;cases f3) f3,?_⟩
    rw[zf1,if_neg (fun z=>ek (by have z':p=p':=z;rw[z'])),pU]
    exact f4.ts zek ts
  ·rw[zda] at hv'
   by_cases ek:kP p'=kP p
   ·rw[if_pos ek] at hv'
    cases hv'
   ·rw[if_neg ek] at hv';rw[zf1,h.non _ hv',if_neg (fun z=>ek (by have z':p=p':=z;rw[z']))]
    rfl
  ·rw[zda] at h1 h2
   by_cases e1:kP p'=kP p
   ·by_cases e2:kP p2=kP p
    ·rw[zjy e1,zjy e2]
    ·rw[if_pos e1] at h1;rw[if_neg e2] at h2
     cases h1;exact absurd h2 (nt _)
   ·by_cases e2:kP p2=kP p
    ·rw[if_neg e1] at h1;rw[if_pos e2] at h2
     cases h2;exact absurd h1 (nt _)
    ·rw[if_neg e1] at h1;rw[if_neg e2] at h2;exact h.dis _ _ _ h1 h2
def d2(a:Int×Int):BH:=.tuple [.int a.1,.int a.2]
theorem rd_2{K:kM}{H:Hp}{p:Addr}{a:Int×Int}(h:P2H H p a):RdD K H (d2 a) (.ref p):=by
 unfold d2;rw[RdD];refine⟨p,_,rfl,.of h,?_⟩;rw[RdDs];refine⟨_,_,rfl,by rw[RdD],?_⟩
 rw[RdDs];refine⟨_,_,rfl,by rw[RdD],?_⟩
 rw[RdDs]
theorem zjn(a:Int×Int):UA (d2 a)=true:=by
 simp[d2,UA,UE,uF,vO,uV]
theorem d2_eqv(a b:Int×Int):uW (d2 a) (d2 b)=decide (a=b):=by
 rw[QF];obtain⟨x,y⟩:=a;obtain⟨x',y'⟩:=b
 simp[d2,uW,UX]
theorem zor(a:Int×Int):(d2 a).canLay0=true/\(d2 a).depth<=3:=by
 simp[d2,UE,uF,vO,uV]
theorem d2s_lay(F:List (Int×Int)):uF (F.map d2)=true/\uV (F.map d2)<=3:=by
 induction F with
 |nil=>exact⟨rfl,by simp[uV]⟩
 |cons r F ih=>
  have h:=zor r;rw[kh]
  constructor
  ·rw[uF,h.1,ih.1];rfl
  ·rw[uV];have:=h.2;have:=ih.2;omega
theorem rd_p2{K:kM}{H:Hp}:∀{us:List V}{cs:List (Int×Int)},LR P2H H us cs->RdDs K H (cs.map d2) us
 |[],[],_=>by rw[uU,RdDs]
 |[],_::_,h=>by cases h.1
 |_::_,[],h=>by cases h.1
 |u::us,c::cs,h=>by
  obtain⟨a,as',e,⟨p,rfl,hp⟩,ht⟩:=h.cons_inv
  cases e;rw[kh,RdDs];exact⟨_,_,rfl,rd_2 hp,rd_p2 ht⟩
theorem LvP.keep{H0 H:Hp}{d D:Addr}{kvs:List (List Key×V)}{fs:List E2}{zs us:List V}(h:LvP H0 H d kvs fs)(hD:H D=some (.lst zs))(h0:H0 D=none)(nD:∀p,valV kvs (kP p)≠some (.ref D)):LvP H0 (upd H D (.lst us)) d kvs fs:=by
 refine⟨zaj h.same h0,h.new,?_,h.len,fun p v e=>?_,h.non,h.dis⟩
 ·rw[za7 (fun z=>by rw[←z,h.at_] at hD;cases hD)]
  exact h.at_
 ·obtain⟨a,ys,e1,e2,e3,e4⟩:=h.ent p v e;refine⟨a,ys,e1,e2,?_,e4.ts zek (zc6 hD)⟩;rw[za7 (fun z=>nD p (by rw[e,e1,z]))]
  exact e3
def zki:Sp:=fun vs H Q _=>∃(H0:Hp)(d p q:Addr)(kvs:List (List Key×V))(es:List E2)(a b:Int×Int),vs=[.ref d,.ref p,.ref q]/\LvP H0 H d kvs es/\es.length<=500/\P2H H p a/\P2H H q b/\∀H',Same H H'->Q (.bl (str es a b)) H'
theorem zeo(T:Txt K mg ad fd):FnOk P w K mg base CX0 1 (ad 19) (fd 19) ["_law_starts","_law_begin","_law_end"] zki:=by
 refine T.law_straight.fn.ok zeu (fun vs H Q E h=>?_) (fun cdv A outer s H vs Q E hr h=>?_)
 ·obtain⟨H0,d,p,q,kvs,es,a,b,rfl,_⟩:=h;rfl
 obtain⟨H0,d,p,q,kvs,es,a,b,rfl,st,hm,hp,hq,k⟩:=h;have zB:=@pss2;have zc:=@zbe;have yk:=@zm0;have qpv:=@pv;have zu:=@zdr;have zx:=@zcz;have ze:=@zaz;have yl:=@pe_and;have zJ:=@zgq;have zv:=@zcj;have zg:=@pa1;have za:=@zbr;have ym:=@pe_one;have zd:=@zel;have zo:=@zdp;have zk:=@pa2;have zb:=@zdx;generalize @L2.PE=QE,@L2.PT=QT,@L2.PW=QW,@L2.PA=QA,@L2.PS=QS,@L2.PSs=QSs,@L2.PG=QG,@L2.PGs=QGs,@L2.PI=QI,@L2.PO=QO,@L2.PIf=QIf at zB zc yk qpv zu zx ze yl zJ zv zg za ym zd zo zk zb⊢;refine⟨_,
  (zB
   (zc (i:=3) zeu.nd rfl (kj rfl) (yk (zem hr) (qpv 0) (qpv 2) (zu zx) ⟨rfl,rfl,rfl,rfl⟩))
   (ze (yl (zJ op_eq (zv zbq rfl T.b_len zdn (zg (qpv 3) za1)) za (nomark _)) (ym (zJ (zox (hu64 hr)) (zd zai (qpv 3) za (fun _ _=>rfl)) (zo (zk (zb zcp (zb zdq za (zd za5 (qpv 2) za (fun _ _=>rfl))) (zd za5 (qpv 1) za (fun _ _=>rfl))) za8 (zb zcp (zb zdq za (zd za5 (qpv 2) za (fun _ _=>rfl))) (zd za5 (qpv 1) za (fun _ _=>rfl))) za8)) (nomark _))))))
  ,?_⟩
 clear zB zc yk qpv zu zx ze yl zJ zv zg za ym zd zo zk zb QE QT QW QA QS QSs QG QGs QI QO QIf
 dsimp! [L2.start]
 have hp':H p=some (.tup [.int a.1,.int a.2]):=hp;have hq':H q=some (.tup [.int b.1,.int b.2]):=hq;simp! [zqg];refine⟨zp3 st.at_,fun t ht=>?_⟩;have g:=za2 ht (HO.lst []);have ht1:upd H t (HO.lst []) t=some (HO.lst []):=upd_same;generalize upd H t (HO.lst [])=H1 at*;have st1:=st.mono g;have hp1:H1 p=some (.tup [.int a.1,.int a.2]):=g _ _ hp;have hq1:H1 q=some (.tup [.int b.1,.int b.2]):=g _ _ hq;refine⟨valV kvs (kP b),.t (k:=kP b) st1.at_ hq1,?_⟩
 cases e:valV kvs (kP b) with
 |none=>
  have e0:=st1.non _ e;have sf:str es a b=false:=decide_eq_false (by rw[e0];exact fun z=>by cases z)
  rw[sf] at k;refine⟨t,rfl,[],.inl ht1,?_⟩;rw[decide_eq_false (by decide)]
  exact iteF (k H1 g)
 |some v=>
  obtain⟨l,ys,rfl,_,e3,e4⟩:=st1.ent _ _ e;refine⟨l,rfl,ys,.inl e3,ite2 (fun c=>?_) (fun c=>?_)⟩
  ·have c:=of_decide_eq_true c;have c1:ys.length=1:=by omega
   have c2:(lvP es b).length=1:=by rw[←e4.1];exact c1
   obtain⟨cu,ecu⟩:=List.length_eq_one_iff.mp c2;rw[ecu] at e4;obtain⟨pu,cu',e5,e6,hu⟩:=e4.at (j:=0) (by omega)
   cases e6;refine⟨l,rfl,_,e3,_,zce (j:=0) e5,?_⟩;simp! [hp1,hq1];refine⟨.inl ⟨by decide,by decide⟩,.inl ⟨by decide,by decide⟩,fun r hr'=>?_⟩
   have g2:=za2 hr' (HO.tup [V.int (2*b.1-a.1),V.int (2*b.2-a.2)]);have h2:P2H (upd H1 r (HO.tup [V.int (2*b.1-a.1),V.int (2*b.2-a.2)])) r (onP a b):=upd_same;generalize upd H1 r (HO.tup [V.int (2*b.1-a.1),V.int (2*b.2-a.2)])=H2 at*;refine⟨_,_,rd_2 (zek _ _ _ _ (za6 g2) hu),rd_2 h2,zjn _,zjn _,?_⟩;rw[d2_eqv];have sf:str es a b=decide (cu=onP a b):=by
    unfold str;rw[ecu];refine decide_eq_decide.mpr ⟨fun z=>(List.cons.inj z).1,fun z=>by rw[z]⟩
   rw[sf] at k;exact k H2 (g.trans g2)
  ·have sf:str es a b=false:=decide_eq_false fun z=>c (decide_eq_true (by
    have:=e4.1;rw[z] at this;show((ys.length:Nat):Int)=1;rw[this];rfl))
   rw[sf] at k;exact k H1 g
def isB(es:List E2)(e:E2):Bool:= !(decide (e.1∈lvP es (onP e.2 e.1))&&str es (onP e.2 e.1) e.1)
def FcR(es fs ws:List E2):Prop:=fs.length=ws.length/\∀(j:Nat) e w,fs[j]?=some e->ws[j]?=some w->w.1=e.1/\Goes es e.1 e.2 w.2
theorem FcR.snoc{es fs ws:List E2}{e w:E2}(h:FcR es fs ws)(h1:w.1=e.1)(h2:Goes es e.1 e.2 w.2):FcR es (fs++[e]) (ws++[w]):=by
 refine⟨by rw[kJ,kJ,h.1];rfl,fun j f v hf hv=>?_⟩
 by_cases c:j<fs.length
 ·rw[uH c] at hf;rw[uH (by rw[←h.1];exact c)] at hv
  exact h.2 j f v hf hv
 ·have ej:j=fs.length:=by
   have:=(kH.mp hf).1;rw[kJ,pH] at this;omega
  rw[ej,pO (kG _),vR] at hf;rw[ej,h.1,pO (kG _),vR] at hv
  cases hf
  cases hv;exact⟨h1,h2⟩
theorem zow{es:List E2}{a:Int×Int}{k:Fin 8}:isB es (a,stp a k)=true↔Bgn es a k:=by
 unfold isB Bgn;dsimp only;rw[onP_back,←zkv]
 by_cases c:a∈lvP es (stp a (k+4))<;>cases str es (stp a (k+4)) a<;>simp[c]
theorem wys_of{cs:List C3}{es ws:List E2}(E:Edg cs es)(nd:es.Nodup)(F:FcR es (es.filter (isB es)) ws):Wys es ws:=by
 have key:∀(j:Nat) w,ws[j]?=some w->∃k m,(es.filter (isB es))[j]?=some (w.1,stp w.1 k)/\Wy es w.1 w.2 k m/\Bgn es w.1 k:=fun j w hw=>by
  have hj:j<(es.filter (isB es)).length:=by rw[F.1];exact(kH.mp hw).1
  have he:=kR hj;generalize (es.filter (isB es))[j]=e at he;obtain⟨h1,h2⟩:=F.2 j e w he hw;obtain⟨m1,m2⟩:=pf.mp (kz he);obtain⟨k,hk⟩:=E.ray m1;obtain⟨m,wy⟩:=h2.wy hk m1;have ee:e=(w.1,stp w.1 k):=QX h1.symm (by rw[h1];exact hk)
  rw[ee] at m2 he;rw[←h1] at wy;exact⟨k,m,he,wy,zow.mp m2⟩
 refine⟨?_,fun w hw=>?_,fun a k h1 h2=>?_⟩
 ·rw[kK,List.pairwise_iff_getElem];intro i j hi hj hij z;obtain⟨k,m,e1,w1,_⟩:=key i _ (kR hi);obtain⟨k',m',e2,w2,_⟩:=key j _ (kR hj);rw[z] at e1 w1;have:=w1.dir w2;subst this;have n1:=(kH.mp e1);have n2:=(kH.mp e2);have:=(AF (nd.filter (isB es))).mp (n1.2.trans n2.2.symm);omega
 ·obtain⟨j,hj⟩:=uG.mp hw;obtain⟨k,m,_,w1,b⟩:=key j w hj;exact⟨k,m,w1,b⟩
 ·obtain⟨j,hj⟩:=uG.mp (pf.mpr ⟨h1,zow.mpr h2⟩);have hj':j<ws.length:=by rw[←F.1];exact(kH.mp hj).1
  obtain⟨e1,e2⟩:=F.2 j _ _ hj (kR hj');obtain⟨m,wy⟩:=e2.wy rfl h1;refine⟨_,m,?_,wy⟩;have:(a,(ws[j]).2)=ws[j]:=QX e1.symm rfl;rw[this];exact Qn _
def WyH(H:Hp)(p:Addr)(e:E2):Prop:=(∃c d,H p=some (.tup [.ref c,.ref d])/\P2H H c e.1/\P2H H d e.2)/\Bx e.1/\Bx e.2
theorem zlk:∀(H H':Hp)(p:Addr)(e:E2),zad H H'->WyH H p e->WyH H' p e:=fun _ _ _ _ g⟨⟨c,d,h1,h2,h3⟩,b⟩=>⟨⟨c,d,g _ _ h1,g _ _ h2,g _ _ h3⟩,b⟩
def sp_long:Sp:=fun vs H Q _=>∃(l:Addr)(ys:List V)(es:List E2),vs=[.ref l]/\H l=some (.lst ys)/\ys.length<=144/\LR EdH H ys es/\es.Nodup/\(∃cs,Edg cs es)/\∀D zs ws H',H D=none->Same H H'->H' D=some (.lst zs)->zs.length<=144->LR WyH H' zs ws->Wys es ws->Q (.ref D) H'
def mu(dx dy:Int)(H:Hp)(σ:St):Nat:=match(σ:List (Option V))[7]? with
 |some (some (V.ref p))=>(match H p with
  |some (.tup [.int x,.int y])=>(if 0<dx then 8-x else if dx<0 then x else if 0<dy then 6-y else y).toNat
  |_=>0)
 |_=>0
theorem mu_of{dx dy:Int}{H:Hp}{v0 v1 v2 v3 v4 v5 v6:Option V}{p:Addr}{a:Int×Int}(h:P2H H p a):mu dx dy H [v0,v1,v2,v3,v4,v5,v6,some (.ref p)]=(if 0<dx then 8-a.1 else if dx<0 then a.1 else if 0<dy then 6-a.2 else a.2).toNat:=by
 unfold P2H at h;show(match H p with
  |some (.tup [.int x,.int y])=>(if 0<dx then 8-x else if dx<0 then x else if 0<dy then 6-y else y).toNat
  |_=>0)=_
 rw[h]
theorem zpy{dx dy:Int}{a b:Int×Int}(ha:Bx a)(hb:Bx b)(e1:b.1-a.1=dx)(e2:b.2-a.2=dy)(n:¬(dx=0/\dy=0)):(if 0<dx then 8-b.1 else if dx<0 then b.1 else if 0<dy then 6-b.2 else b.2).toNat<(if 0<dx then 8-a.1 else if dx<0 then a.1 else if 0<dy then 6-a.2 else a.2).toNat:=by
 obtain⟨a1,a2,a3,a4⟩:=ha;obtain⟨b1,b2,b3,b4⟩:=hb
 by_cases c1:0<dx
 ·rw[if_pos c1,if_pos c1];omega
 ·rw[if_neg c1,if_neg c1]
  by_cases c2:dx<0
  ·rw[if_pos c2,if_pos c2];omega
  ·rw[if_neg c2,if_neg c2]
   by_cases c3:0<dy
   ·rw[if_pos c3,if_pos c3];omega
   ·rw[if_neg c3,if_neg c3];omega
theorem zpg(a:Int×Int):∀ls:List (Int×Int),((ls.map d2).any fun x=>x.eqv (d2 a))=decide (a∈ls)
 |[]=>rfl
 |x::ls=>by
  rw[kh,AA,zpg a ls,d2_eqv]
  by_cases c:x=a
  ·rw[decide_eq_true c,DX,decide_eq_true (by rw[c];exact po ..)]
  ·rw[decide_eq_false c,DM];exact decide_eq_decide.mpr ⟨kI _,fun z=>(kg.mp z).resolve_left (fun q=>c q.symm)⟩
theorem isB_1{es:List E2}{e:E2}(h:(!((lvP es (onP e.2 e.1)).map d2).any fun x=>x.eqv (d2 e.1))=true):isB es e=true:=by
 rw[zpg] at h;unfold isB
 cases z:decide (e.1∈lvP es (onP e.2 e.1)) with
 |true=>rw[z] at h;cases h
 |false=>rfl
theorem isB_2{es:List E2}{e:E2}(h:(!str es (onP e.2 e.1) e.1)=true):isB es e=true:=by
 unfold isB
 cases z:str es (onP e.2 e.1) e.1 with
 |true=>rw[z] at h;cases h
 |false=>rw[DE];rfl
theorem isB_3{es:List E2}{e:E2}(h1:¬(!((lvP es (onP e.2 e.1)).map d2).any fun x=>x.eqv (d2 e.1))=true)(h2:¬(!str es (onP e.2 e.1) e.1)=true):¬isB es e=true:=by
 rw[zpg] at h1;unfold isB
 cases z:decide (e.1∈lvP es (onP e.2 e.1)) with
 |false=>rw[z] at h1;exact absurd rfl h1
 |true=>
  cases z':str es (onP e.2 e.1) e.1 with
  |false=>rw[z'] at h2;exact absurd rfl h2
  |true=>decide
theorem zkw(T:Txt K mg ad fd):FnOk P w K mg base CX0 2 (ad 20) (fd 20) ["_law_edges_here"] sp_long:=by
 refine T.law_long.fn.ok zb0 (fun vs H Q E h=>?_) (fun cdv A outer s H vs Q E hr h=>?_)
 ·obtain⟨l,ys,es,rfl,_⟩:=h;rfl
 obtain⟨l,ys,es,rfl,hl,hn,he,nd,⟨cs0,Eg⟩,k⟩:=h;have lse:=he.1;have hbx:∀e,e∈es->Bx e.1/\Bx e.2:=fun e hm=>by
  obtain⟨j,hj⟩:=uG.mp hm;obtain⟨p,f,_,e2,e3⟩:=he.at (j:=j) (by rw[lse];exact(kH.mp hj).1)
  rw[hj] at e2
  cases e2;exact⟨e3.2.1,e3.2.2.1⟩
 obtain⟨tl,htl,hk⟩:∃tl,PSs (cxOf CX0 P w K mg base ["_law_edges_here","_law_starts","_law_first","_law_last","_law_ways","_law_back_here","_law_begin","_law_end"] "_law_long" (za0 zbb) (ad 20) cdv A outer s H E).nox ((za3 zbb).drop 2) tl/\∀(d:Addr)(kvs:List (List Key×V))(H1:Hp)(o1 o2:Option V),LvP H H1 d kvs es->
   tl {nx:=fun _ H'=>Q .non H',rt:=Q} [some (.ref l),some (.ref d),o1,o2,none,none,none,none] H1:=by
  have zw:=@pss3;have zc:=@zbe;have zu:=@zdr;have zx:=@zcz;have zm:=@zd0;have zq:=@zc8;have qpv:=@pv;have zG:=@zff;have zE:=@zec;have zj:=@zbd;have zH:=@zfa;have zB:=@pss2;have zo:=@zdp;have zk:=@pa2;have zb:=@zdx;have za:=@zbr;have zd:=@zel;have zn:=@zf4;have zQ:=@PW.pt;have zR:=@pw_or;have zr:=@zcl;have yk:=@zm0;have zS:=@zmn;have yc:=@pt_not;have zI:=@zhv;have zh:=@zbh;have zt:=@pa3;have zA:=@pss4;have zP:=@zgm;have zf:=@zah;have yg:=@ps_par;have zC:=@zeb;have zD:=@zir;have zg:=@pa1;have zp:=@zc7;have ze:=@zaz;generalize @L2.PE=QE,@L2.PT=QT,@L2.PW=QW,@L2.PA=QA,@L2.PS=QS,@L2.PSs=QSs,@L2.PG=QG,@L2.PGs=QGs,@L2.PI=QI,@L2.PO=QO,@L2.PIf=QIf at zw zc zu zx zm zq qpv zG zE zj zH zB zo zk zb za zd zn zQ zR zr yk zS yc zI zh zt zA zP zf yg zC zD zg zp ze⊢;refine⟨_,
  (zw
   (zc (i:=4) zb0.nd rfl (kj rfl) (zu zx))
   (zm pK rfl (zq (qpv 0)) (zG (n:=2) rfl (zE (zj (i:=2) zb0.nd rfl (kj rfl)) (zE (zj (i:=3) zb0.nd rfl (kj rfl)) zH))) (zB
   (zc (i:=5) zb0.nd rfl (kj rfl) (zo (zk (zb zcp (zb zdq za (zd za5 (qpv 2) za (fun _ _=>rfl))) (zd za5 (qpv 3) za (fun _ _=>rfl))) za8 (zb zcp (zb zdq za (zd za5 (qpv 2) za (fun _ _=>rfl))) (zd za5 (qpv 3) za (fun _ _=>rfl))) za8)))
   (zn (zQ (zR (zr (zfv (K':=K) rfl (hu64 hr)) (qpv 2) (yk (zem hr) (qpv 1) (qpv 5) (zu zx) ⟨rfl,rfl,rfl,rfl⟩) rfl) (zS (yc (zI (zh (zeo T) (hr.mono (by decide)) rfl T.law_straight.mg T.law_straight.fn.kp T.law_straight.bn .nil pass0 (zt (qpv 1) za1 (qpv 5) za1 (qpv 2) za1))))))) (zA
   (zc (i:=6) zb0.nd rfl (kj rfl) (qpv 2))
   (zc (i:=7) zb0.nd rfl (kj rfl) (qpv 3))
   (zP pK (zI (zh (zeo T) (hr.mono (by decide)) rfl T.law_straight.mg T.law_straight.fn.kp T.law_straight.bn .nil pass0 (zt (qpv 1) za1 (qpv 6) za1 (qpv 7) za1))) (zf (yg (i:=6) (j:=7) rfl zb0.nd rfl rfl (by decide) rfl rfl (zk (qpv 7) za1 (zo (zk (zb zcp (zb zdq za (zd za5 (qpv 7) za (fun _ _=>rfl))) (zd za5 (qpv 6) za (fun _ _=>rfl))) za8 (zb zcp (zb zdq za (zd za5 (qpv 7) za (fun _ _=>rfl))) (zd za5 (qpv 6) za (fun _ _=>rfl))) za8)) zbz) rfl)))
   (zC (zD pZ uL uM zc9 (qpv 4) (zg (zo (zk (qpv 2) za1 (qpv 7) za1)) zbz)))) zp)))
   (ze (qpv 4)))
   ,fun d kvs H1 o1 o2 st=>?_⟩
  clear zw zc zu zx zm zq qpv zG zE zj zH zB zo zk zb za zd zn zQ zR zr yk zS yc zI zh zt zA zP zf yg zC zD zg zp ze QE QT QW QA QS QSs QG QGs QI QO QIf;simp! [];intro W hW;have nW:∀k,valV kvs (kP k)≠some (.ref W):=fun k z=>by
   obtain⟨a,zs,e1,_,e3,_⟩:=st.ent k _ z
   cases e1;rw[hW] at e3
   cases e3
  have hW0:=st.same.free hW;have gW:=za2 hW (HO.lst []);refine zbc ?_;simp! [zd1];refine⟨⟨_,.of (gW _ _ (st.same _ _ hl))⟩,?_⟩;refine zba (K:=K) (a:=l) (xs:=ys) (fun i σ H'=>LvP H H' d kvs es/\∃(zs:List V)(ws:List E2)(o1 o2 o3 o4 o5:Option V),σ=[some (.ref l),some (.ref d),o1,o2,some (.ref W),o3,o4,o5]/\H' W=some (.lst zs)/\zs.length<=i/\LR WyH H' zs ws/\FcR es ((es.take i).filter (isB es)) ws) ⟨st.mono gW,[],[],o1,o2,none,none,none,rfl,upd_same,kG _,.nil,rfl,fun j e w h=>(by rw[Qe] at h;cases h)⟩ (fun i σ H' _ iv=>.of (iv.1.same _ _ hl)) ?_ ?_
  ·intro _ _;rintro i v σ H2 hi ⟨st2,zs,ws,o1,o2,o3,o4,o5,rfl,hW2,hz,hws,fc⟩;obtain⟨p,e,rfl,he',⟨c,c2,h1,h2,h3⟩,b1,b2,ne⟩:=he.2 i v hi;have hi':=(kH.mp hi).1;have h1':=st2.same _ _ h1;have h2':H2 c=some (.tup [.int e.1.1,.int e.1.2]):=st2.same _ _ h2;have h3':H2 c2=some (.tup [.int e.2.1,.int e.2.2]):=st2.same _ _ h3;simp! [h1',h2',h3'];refine⟨.inl ⟨by decide,by decide⟩,.inl ⟨by decide,by decide⟩,fun t ht=>?_⟩
   have g3:=za2 ht (HO.tup [V.int (2*e.1.1-e.2.1),V.int (2*e.1.2-e.2.2)]);have ht3:P2H (upd H2 t (HO.tup [V.int (2*e.1.1-e.2.1),V.int (2*e.1.2-e.2.2)])) t (onP e.2 e.1):=upd_same;generalize upd H2 t (HO.tup [V.int (2*e.1.1-e.2.1),V.int (2*e.1.2-e.2.2)])=H3 at*;have st3:=st2.mono g3;have f3:P2H H3 c e.1:=g3 _ _ h2';have l3:P2H H3 c2 e.2:=g3 _ _ h3';simp! [zqg,zgu];refine⟨zp3 st3.at_,fun u hu=>?_⟩;have g4:=za2 hu (HO.lst []);have hu4:upd H3 u (HO.lst []) u=some (HO.lst []):=upd_same;generalize upd H3 u (HO.lst [])=H4 at*;have st4:=st3.mono g4;refine⟨valV kvs (kP (onP e.2 e.1)),.t (k:=kP (onP e.2 e.1)) st4.at_ (g4 _ _ ht3),?_⟩;obtain⟨L,us,hLv,hL4,hus⟩:∃L us,(valV kvs (kP (onP e.2 e.1))).getD (V.ref u)=.ref L/\H4 L=some (.lst us)/\LR P2H H4 us (lvP es (onP e.2 e.1)):=by
    cases ev:valV kvs (kP (onP e.2 e.1)) with
    |none=>exact⟨u,[],rfl,hu4,by rw[st4.non _ ev];exact .nil⟩
    |some v=>
     obtain⟨L,us,rfl,_,q3,q4⟩:=st4.ent _ _ ev;exact⟨L,us,rfl,q3,q4⟩
   have hcs:=rd_p2 (K:=K) hus;have hem:=kz he';have tk:es.take (i+1)=es.take i++[e]:=by rw[kq,he'];rfl
   have hWW4:∀{H7:Hp},Same H4 H7->H7 W=some (.lst zs):=fun g=>g _ _ (g4 _ _ (g3 _ _ hW2));refine⟨d2 e.1,rd_2 (zek _ _ _ _ (za6 g4) f3),(lvP es (onP e.2 e.1)).map d2,?_,(zor e.1).1,(d2s_lay _).1,pL (zor e.1).2 (by decide),ite2 (fun x1=>?_) (fun x1=>?_)⟩
   ·rw[hLv,RdD];exact⟨L,us,rfl,.of hL4,hcs⟩
   ·refine zmj (fun σ H'=>Same H4 H'/\∃(pb pe:Addr)(b e':Int×Int),σ=[some (V.ref l),some (V.ref d),some (V.ref c),some (V.ref c2),some (V.ref W),some (V.ref t),some (V.ref pb),some (V.ref pe)]/\P2H H' pb b/\P2H H' pe e'/\Bx e'/\e'.1-b.1=e.2.1-e.1.1/\e'.2-b.2=e.2.2-e.1.2/\∀x,Goes es b e' x->Goes es e.1 e.2 x) (fun σ H'=>mu (e.2.1-e.1.1) (e.2.2-e.1.2) H' σ) ⟨.refl _,c,c2,e.1,e.2,rfl,(zek _ _ _ _ (za6 g4) f3),(zek _ _ _ _ (za6 g4) l3),b2,rfl,rfl,fun _ q=>q⟩ ?_;rintro σ H6 ⟨g6,pb,pe,b,e',rfl,hpb,hpe,bx,hdx,hdy,hgo⟩;have st6:=st4.mono g6;simp! [];refine⟨H,d,pb,pe,kvs,es,b,e',rfl,st6,by omega,hpb,hpe,fun H7 g7=>⟨_,rfl,ite2 (fun cc=>?_) (fun cc=>?_)⟩⟩
    ·have hpb7:H7 pb=some (.tup [.int b.1,.int b.2]):=g7 _ _ hpb;have hpe7:H7 pe=some (.tup [.int e'.1,.int e'.2]):=g7 _ _ hpe;have bn:=(hbx _ (zkk cc)).2;refine⟨fun σ' H'=>(Same H4 H'/\∃(pb pe:Addr)(b e':Int×Int),σ'=[some (V.ref l),some (V.ref d),some (V.ref c),some (V.ref c2),some (V.ref W),some (V.ref t),some (V.ref pb),some (V.ref pe)]/\P2H H' pb b/\P2H H' pe e'/\Bx e'/\e'.1-b.1=e.2.1-e.1.1/\e'.2-b.2=e.2.2-e.1.2/\∀x,Goes es b e' x->Goes es e.1 e.2 x)/\mu (e.2.1-e.1.1) (e.2.2-e.1.2) H' σ'<mu (e.2.1-e.1.1) (e.2.2-e.1.2) H6 [some (V.ref l),some (V.ref d),some (V.ref c),some (V.ref c2),some (V.ref W),some (V.ref t),some (V.ref pb),some (V.ref pe)],fun σ' H'⟨⟨a1,pb,pe,b,e',a2,a3,a4,a5⟩,p2⟩=>⟨_,p2,rfl,a1,pb,pe,a2,b,a3,e',a4,a5⟩,?_⟩;simp! [hpb7,hpe7];refine⟨.inl ⟨by decide,by decide⟩,.inl ⟨by decide,by decide⟩,fun p hp=>?_⟩
     have n0:¬(e.2.1-e.1.1=0/\e.2.2-e.1.2=0):=fun z=>ne (QX (by omega) (by omega))
     have g8:=za2 hp (HO.tup [V.int (2*e'.1-b.1),V.int (2*e'.2-b.2)]);have hn8:P2H (upd H7 p (HO.tup [V.int (2*e'.1-b.1),V.int (2*e'.2-b.2)])) p (onP b e'):=upd_same;have hpe8:P2H (upd H7 p (HO.tup [V.int (2*e'.1-b.1),V.int (2*e'.2-b.2)])) pe e':=g8 _ _ hpe7;refine⟨(g6.trans g7).trans g8,⟨e',hpe8,onP b e',hn8,bn,?_,?_,fun x q=>hgo x (.step cc q)⟩,?_⟩
     ·show 2*e'.1-b.1-e'.1=_
      omega
     ·show 2*e'.2-b.2-e'.2=_
      omega
     ·rw[mu_of hn8,mu_of hpe];exact zpy bx bn (by show 2*e'.1-b.1-e'.1=_;omega) (by show 2*e'.2-b.2-e'.2=_;omega) n0
    ·have g67:=g6.trans g7;have hW7:=hWW4 g67;have c7:P2H H7 c e.1:=g67 _ _ (zek _ _ _ _ (za6 g4) f3);have pe7:P2H H7 pe e':=g7 _ _ hpe;have st7:=st6.mono g7;have ws7:=hws.ts zlk (za6 ((g3.trans g4).trans g67));refine⟨ze7 hW7,fun p hp=>?_⟩;have g8:=za2 hp (HO.tup [V.ref c,V.ref pe]);have hW8:=g8 _ _ hW7;have st8:=st7.mono g8;have hp8:upd H7 p (HO.tup [V.ref c,V.ref pe]) p=some (HO.tup [V.ref c,V.ref pe]):=upd_same;have c8:P2H (upd H7 p (HO.tup [V.ref c,V.ref pe])) c e.1:=g8 _ _ c7;have pe8:P2H (upd H7 p (HO.tup [V.ref c,V.ref pe])) pe e':=g8 _ _ pe7;have ws8:=ws7.ts zlk (za6 g8);generalize upd H7 p (HO.tup [V.ref c,V.ref pe])=H8 at*;have gw:zad H8 (upd H8 W (HO.lst (zs++[V.ref p]))):=fun b xs q=>by
      rw[za7 (fun z=>by rw[z,hW8] at q;cases q)]
      exact q
     refine⟨zs,hW8,uS (pL hz (pL (uq hi') hn)) (by decide),st8.keep hW8 hW0 nW,?_,_,(ws8.ts zlk gw).snoc (a:=(e.1,e')) ⟨⟨c,pe,gw _ _ hp8,gw _ _ c8,gw _ _ pe8⟩,b1,bx⟩,?_⟩
     ·rw[kJ];exact vS hz
     ·rw[tk,pW,show[e].filter (isB es)=[e] from vt (isB_1 x1)];exact fc.snoc rfl (hgo _ (.stop (gj.mpr cc)))
   ·refine⟨H,d,t,c,kvs,es,onP e.2 e.1,e.1,rfl,st4,by omega,g4 _ _ ht3,g4 _ _ f3,fun H5 g5=>⟨_,rfl,ite2 (fun x2=>?_) (fun x2=>?_)⟩⟩
    ·have st5:=st4.mono g5;have f5:P2H H5 c e.1:=g5 _ _ (g4 _ _ f3);have l5:P2H H5 c2 e.2:=g5 _ _ (g4 _ _ l3);have hWW5:∀{H7:Hp},Same H5 H7->H7 W=some (.lst zs):=fun g=>g _ _ (g5 _ _ (g4 _ _ (g3 _ _ hW2)));refine zmj (fun σ H'=>Same H5 H'/\∃(pb pe:Addr)(b e':Int×Int),σ=[some (V.ref l),some (V.ref d),some (V.ref c),some (V.ref c2),some (V.ref W),some (V.ref t),some (V.ref pb),some (V.ref pe)]/\P2H H' pb b/\P2H H' pe e'/\Bx e'/\e'.1-b.1=e.2.1-e.1.1/\e'.2-b.2=e.2.2-e.1.2/\∀x,Goes es b e' x->Goes es e.1 e.2 x) (fun σ H'=>mu (e.2.1-e.1.1) (e.2.2-e.1.2) H' σ) ⟨.refl _,c,c2,e.1,e.2,rfl,f5,l5,b2,rfl,rfl,fun _ q=>q⟩ ?_;rintro σ H6 ⟨g6,pb,pe,b,e',rfl,hpb,hpe,bx,hdx,hdy,hgo⟩;have st6:=st5.mono g6;simp! [];refine⟨H,d,pb,pe,kvs,es,b,e',rfl,st6,by omega,hpb,hpe,fun H7 g7=>⟨_,rfl,ite2 (fun cc=>?_) (fun cc=>?_)⟩⟩
     ·have hpb7:H7 pb=some (.tup [.int b.1,.int b.2]):=g7 _ _ hpb;have hpe7:H7 pe=some (.tup [.int e'.1,.int e'.2]):=g7 _ _ hpe;have bn:=(hbx _ (zkk cc)).2;refine⟨fun σ' H'=>(Same H5 H'/\∃(pb pe:Addr)(b e':Int×Int),σ'=[some (V.ref l),some (V.ref d),some (V.ref c),some (V.ref c2),some (V.ref W),some (V.ref t),some (V.ref pb),some (V.ref pe)]/\P2H H' pb b/\P2H H' pe e'/\Bx e'/\e'.1-b.1=e.2.1-e.1.1/\e'.2-b.2=e.2.2-e.1.2/\∀x,Goes es b e' x->Goes es e.1 e.2 x)/\mu (e.2.1-e.1.1) (e.2.2-e.1.2) H' σ'<mu (e.2.1-e.1.1) (e.2.2-e.1.2) H6 [some (V.ref l),some (V.ref d),some (V.ref c),some (V.ref c2),some (V.ref W),some (V.ref t),some (V.ref pb),some (V.ref pe)],fun σ' H'⟨⟨a1,pb,pe,b,e',a2,a3,a4,a5⟩,p2⟩=>⟨_,p2,rfl,a1,pb,pe,a2,b,a3,e',a4,a5⟩,?_⟩;simp! [hpb7,hpe7];refine⟨.inl ⟨by decide,by decide⟩,.inl ⟨by decide,by decide⟩,fun p hp=>?_⟩
      have n0:¬(e.2.1-e.1.1=0/\e.2.2-e.1.2=0):=fun z=>ne (QX (by omega) (by omega))
      have g8:=za2 hp (HO.tup [V.int (2*e'.1-b.1),V.int (2*e'.2-b.2)]);have hn8:P2H (upd H7 p (HO.tup [V.int (2*e'.1-b.1),V.int (2*e'.2-b.2)])) p (onP b e'):=upd_same;have hpe8:P2H (upd H7 p (HO.tup [V.int (2*e'.1-b.1),V.int (2*e'.2-b.2)])) pe e':=g8 _ _ hpe7;refine⟨(g6.trans g7).trans g8,⟨e',hpe8,onP b e',hn8,bn,?_,?_,fun x q=>hgo x (.step cc q)⟩,?_⟩
      ·show 2*e'.1-b.1-e'.1=_
       omega
      ·show 2*e'.2-b.2-e'.2=_
       omega
      ·rw[mu_of hn8,mu_of hpe];exact zpy bx bn (by show 2*e'.1-b.1-e'.1=_;omega) (by show 2*e'.2-b.2-e'.2=_;omega) n0
     ·have g67:=g6.trans g7;have hW7:=hWW5 g67;have c7:P2H H7 c e.1:=g67 _ _ f5;have pe7:P2H H7 pe e':=g7 _ _ hpe;have st7:=st6.mono g7;have ws7:=hws.ts zlk (za6 (((g3.trans g4).trans g5).trans g67));refine⟨ze7 hW7,fun p hp=>?_⟩;have g8:=za2 hp (HO.tup [V.ref c,V.ref pe]);have hW8:=g8 _ _ hW7;have st8:=st7.mono g8;have hp8:upd H7 p (HO.tup [V.ref c,V.ref pe]) p=some (HO.tup [V.ref c,V.ref pe]):=upd_same;have c8:P2H (upd H7 p (HO.tup [V.ref c,V.ref pe])) c e.1:=g8 _ _ c7;have pe8:P2H (upd H7 p (HO.tup [V.ref c,V.ref pe])) pe e':=g8 _ _ pe7;have ws8:=ws7.ts zlk (za6 g8);generalize upd H7 p (HO.tup [V.ref c,V.ref pe])=H8 at*;have gw:zad H8 (upd H8 W (HO.lst (zs++[V.ref p]))):=fun b xs q=>by
       rw[za7 (fun z=>by rw[z,hW8] at q;cases q)]
       exact q
      refine⟨zs,hW8,uS (pL hz (pL (uq hi') hn)) (by decide),st8.keep hW8 hW0 nW,?_,_,(ws8.ts zlk gw).snoc (a:=(e.1,e')) ⟨⟨c,pe,gw _ _ hp8,gw _ _ c8,gw _ _ pe8⟩,b1,bx⟩,?_⟩
      ·rw[kJ];exact vS hz
      ·rw[tk,pW,show[e].filter (isB es)=[e] from vt (isB_2 x2)];exact fc.snoc rfl (hgo _ (.stop (gj.mpr cc)))
    ·refine⟨st4.mono g5,zs,hWW4 g5,by omega,ws,hws.ts zlk (za6 ((g3.trans g4).trans g5)),?_⟩
     rw[tk,pW,show[e].filter (isB es)=[] from AU (isB_3 x1 x2),pU];exact fc
  ·rintro σ H2 ⟨st2,zs,ws,o1,o2,o3,o4,o5,rfl,hW2,hz,hws,fc⟩;simp! [];rw[kU (QZ lse.symm)] at fc;exact k W zs ws H2 hW0 st2.same hW2 (by omega) hws (wys_of Eg nd fc)
 have yn:=@zac;have zc:=@zbe;have zO:=@zgl;have zm:=@zd0;have zq:=@zc8;have qpv:=@pv;have zG:=@zff;have zE:=@zec;have zj:=@zbd;have zH:=@zfa;have zf:=@zah;have zC:=@zeb;have zD:=@zir;have yf:=@pe_dsd;have zu:=@zdr;have zx:=@zcz;have zg:=@pa1;generalize @L2.PE=QE,@L2.PT=QT,@L2.PW=QW,@L2.PA=QA,@L2.PS=QS,@L2.PSs=QSs,@L2.PG=QG,@L2.PGs=QGs,@L2.PI=QI,@L2.PO=QO,@L2.PIf=QIf at yn zc zO zm zq qpv zG zE zj zH zf zC zD yf zu zx zg htl⊢;refine⟨_,
  (yn (zc (i:=1) zb0.nd rfl (kj rfl) zO)
   (yn (zm pK rfl (zq (qpv 0)) (zG (n:=2) rfl (zE (zj (i:=2) zb0.nd rfl (kj rfl)) (zE (zj (i:=3) zb0.nd rfl (kj rfl)) zH))) (zf (zC (zD pZ uL uM zc9 (yf (zem hr) (qpv 1) (qpv 2) (zu zx) ⟨rfl,rfl,rfl,rfl⟩) (zg (qpv 3) za1)))))
   htl))
  ,?_⟩
 clear htl yn zc zO zm zq qpv zG zE zj zH zf zC zD yf zu zx zg QE QT QW QA QS QSs QG QGs QI QO QIf;simp! [zmq];intro d hd;have g1:=za2 hd (HO.dT []);have st0:LvP H (upd H d (HO.dT [])) d [] (es.take 0):=⟨g1,hd,upd_same,pY _,(fun k v e=>by cases e),fun p z=>rfl,fun p p' v z=>by cases z⟩
 refine zbc ?_;simp! [zd1];refine⟨⟨_,.of (g1 _ _ hl)⟩,?_⟩;refine zba (K:=K) (a:=l) (xs:=ys) (fun i σ H'=>∃(kvs:List (List Key×V))(o1 o2:Option V),σ=[some (.ref l),some (.ref d),o1,o2,none,none,none,none]/\LvP H H' d kvs (es.take i)) ⟨[],none,none,rfl,st0⟩ (fun i σ H' _ iv=>by
  obtain⟨kvs,o1,o2,_,h⟩:=iv;exact .of (h.same _ _ hl)) ?_ ?_
 ·intro _ _;rintro i v σ H2 hi ⟨kvs,o1,o2,rfl,st⟩;obtain⟨p,e,rfl,he',⟨c,d2',h1,h2,h3⟩,b1,b2,ne⟩:=he.2 i v hi;have hi':=(kH.mp hi).1;have h1':=st.same _ _ h1;have h2':P2H H2 c e.1:=st.same _ _ h2;have h3':P2H H2 d2' e.2:=st.same _ _ h3;simp! [tDSd,h1'];refine⟨zp3 st.at_,fun t ht=>?_⟩;refine st.app (p:=e.1) (q:=e.2) (by rw[pI];omega) h2' h3' ht fun l1 H4 zs kvs' h4 z4 st4=>?_
  rw[kq,he'];exact⟨ze7 h4,l1,rfl,zs,h4,z4,kvs',st4⟩
 ·rintro σ H2 ⟨kvs,o1,o2,rfl,st⟩;rw[kU (QZ lse.symm)] at st;exact hk d kvs H2 o1 o2 st
def sp_moved:Sp:=fun vs H Q _=>∃(a l:Addr)(x:Int×Int)(f:Fr),vs=[.ref a,.ref l]/\P2H H a x/\FmH H l f/\Bx x/\∀p H',Same H H'->P2H H' p (mv f x)->Q (.ref p) H'
theorem zg9(T:Txt K mg ad fd):FnOk P w K mg base CX0 1 (ad 22) (fd 22) ["_law_place","_law_frame_here"] sp_moved:=by
 refine T.law_moved.fn.ok zgg (fun vs H Q E h=>?_) (fun cdv A outer s H vs Q E hr h=>?_)
 ·obtain⟨a,l,x,f,rfl,_⟩:=h;rfl
 obtain⟨a,l,x,f,rfl,hx,⟨xs,hl,a0,a1,a2,a3,a4,a5,a6,fb⟩,bx,k⟩:=h;unfold P2H at hx;have zB:=@pss2;have zc:=@zbe;have zb:=@zdx;have zd:=@zel;have qpv:=@pv;have za:=@zbr;have ze:=@zaz;have zo:=@zdp;have zk:=@pa2;generalize @L2.PE=QE,@L2.PT=QT,@L2.PW=QW,@L2.PA=QA,@L2.PS=QS,@L2.PSs=QSs,@L2.PG=QG,@L2.PGs=QGs,@L2.PI=QI,@L2.PO=QO,@L2.PIf=QIf at zB zc zb zd qpv za ze zo zk⊢;refine⟨_,
  (zB
   (zc (i:=2) zgg.nd rfl (kj rfl) (zb zar (zb zar (zb zan (zd zai (qpv 1) za (fun _ _=>rfl)) (zd za5 (qpv 0) za (fun _ _=>rfl))) (zb zan (zd zai (qpv 1) za (fun _ _=>rfl)) (zd za5 (qpv 0) za (fun _ _=>rfl)))) (zd zai (qpv 1) za (fun _ _=>rfl))))
   (ze (zo (zk (qpv 2) za1 (zb zar (zb zar (zb zan (zd zai (qpv 1) za (fun _ _=>rfl)) (zd za5 (qpv 0) za (fun _ _=>rfl))) (zb zan (zd zai (qpv 1) za (fun _ _=>rfl)) (zd za5 (qpv 0) za (fun _ _=>rfl)))) (zd zai (qpv 1) za (fun _ _=>rfl))) za8))))
  ,?_⟩
 clear zB zc zb zd qpv za ze zo zk QE QT QW QA QS QSs QG QGs QI QO QIf
 dsimp! [L2.start]
 simp! [hx,hl,a0,a1,a2,a3,a4,a5];obtain⟨⟨f1,f2⟩,⟨f3,f4⟩,⟨f5,f6⟩,⟨f7,f8⟩,_⟩:=fb;obtain⟨x1,x2,x3,x4⟩:=bx;have e8:(2:Nat)^10=1024:=rfl;exact⟨cbig (m:=10) (n:=10) (by omega) (by omega),cbig (m:=10) (n:=10) (by omega) (by omega),cbig (m:=10) (n:=10) (by omega) (by omega),cbig (m:=10) (n:=10) (by omega) (by omega),fun p hp=>k p _ (za2 hp _) upd_same⟩
def MwH(f:Fr)(H:Hp)(p:Addr)(e:E2):Prop:=(∃c d,H p=some (.tup [.ref c,.ref d])/\P2H H c (mv f e.1)/\P2H H d (mv f e.2))/\Bx e.1/\Bx e.2
theorem mw_ts{f:Fr}:∀(H H':Hp)(p:Addr)(e:E2),zad H H'->MwH f H p e->MwH f H' p e:=fun _ _ _ _ g⟨⟨c,d,h1,h2,h3⟩,b⟩=>⟨⟨c,d,g _ _ h1,g _ _ h2,g _ _ h3⟩,b⟩
def sp_land:Sp:=fun vs H Q _=>∃(l m:Addr)(zs:List V)(cs:List (Int×Int×Int))(f:Fr),vs=[.ref l,.ref m]/\H l=some (.lst zs)/\zs.length<=48/\LR C3H H zs cs/\FmH H m f/\∀D ys ws es H',H D=none->Same H H'->H' D=some (.lst ys)->ys.length<=144->LR (MwH f) H' ys ws->es.Nodup->Edg cs es->Wys es ws->Q (.ref D) H'
theorem zkt(T:Txt K mg ad fd):FnOk P w K mg base CX0 3 (ad 23) (fd 23) ["_law_cells_here","_law_frame_here"] sp_land:=by
 refine T.law_land.fn.ok zh3 (fun vs H Q E h=>?_) (fun cdv A outer s H vs Q E hr h=>?_)
 ·obtain⟨l,m,zs,cs,f,rfl,_⟩:=h;rfl
 obtain⟨l,m,zs,cs,f,rfl,hl,hn,hz,hf,k⟩:=h;have zB:=@pss2;have zW:=@zkx;unfold L2.CompBody at zW;have zq:=@zc8;have zh:=@zbh;have zg:=@pa1;have qpv:=@pv;have zG:=@zff;have zE:=@zec;have zj:=@zbd;have zH:=@zfa;have zF:=@zfd;have zo:=@zdp;have zk:=@pa2;have ze:=@zaz;have zv:=@zcj;generalize @L2.PE=QE,@L2.PT=QT,@L2.PW=QW,@L2.PA=QA,@L2.PS=QS,@L2.PSs=QSs,@L2.PG=QG,@L2.PGs=QGs,@L2.PI=QI,@L2.PO=QO,@L2.PIf=QIf at zB zW zq zh zg qpv zG zE zj zH zF zo zk ze zv⊢;refine⟨_,
  (zB
   (zW (i:=2) zh3.nd rfl (kj rfl) (dsc:=za0 zbu) (N:=["_law_cells_here","_law_frame_here","_law_ways"]) (own:=["_law_first","_law_last"]) (ix:=[1]) rfl rfl rfl ⟨rfl,by decide+kernel,by decide+kernel,by decide+kernel,by decide+kernel⟩ (zq (zh (zkw T) (hr.mono (by decide)) rfl T.law_long.mg T.law_long.fn.kp T.law_long.bn .nil pass0 (zg (zh (zk9 T) (hr.mono (by decide)) rfl T.law_edges.mg T.law_edges.fn.kp T.law_edges.bn .nil pass0 (zg (qpv 0) za1)) zby))) (fun cl C fp s2 H2 xe=>⟨(zG (n:=2) rfl (zE (zj (i:=0) (show Qf (["_law_first","_law_last","_law_frame_here"]:List Str) from by decide+kernel) rfl (kj rfl) (jU rfl)) (zE (zj (i:=1) (show Qf (["_law_first","_law_last","_law_frame_here"]:List Str) from by decide+kernel) rfl (kj rfl) (jU rfl)) zH))),zF,(zo (zk (zh (zg9 T) (hr.mono (by decide)) rfl T.law_moved.mg T.law_moved.fn.kp T.law_moved.bn .nil pass0 (zk (qpv 0) za1 (qpv 2) za1)) zby (zh (zg9 T) (hr.mono (by decide)) rfl T.law_moved.mg T.law_moved.fn.kp T.law_moved.bn .nil pass0 (zk (qpv 1) za1 (qpv 2) za1)) zby))⟩))
   (ze (zv (zmw (hu100 hr)) rfl T.b_sorted zjh (zg (qpv 2) za1))))
  ,?_⟩
 clear zB zW zq zh zg qpv zG zE zj zH zF zo zk ze zv QE QT QW QA QS QSs QG QGs QI QO QIf
 dsimp! [L2.start]
 simp! [];refine zc2 ?_;simp! [zd1];refine⟨l,zs,cs,rfl,hl,hn,hz,fun D1 ys es H1 hD1 g1 h1 n1 he nd Eg=>?_⟩;refine⟨D1,ys,es,rfl,h1,n1,he,nd,⟨cs,Eg⟩,fun D2 zs2 ws H2 hD2 g2 h2 n2 hw W=>?_⟩;have g02:=g1.trans g2;refine⟨D2,rfl,⟨_,.of h2⟩,fun D3 hD3=>?_⟩;refine zbx (xs:=zs2) (zlh (MwH f) ws H2 D3) (zfp hD3) (fun i qs H' q=>.of (q.1 _ _ h2)) ?_ ?_
 ·rintro i qs H3 v hi hv iv;obtain⟨g3,hD33,lq,hq⟩:=id iv;obtain⟨p,e,rfl,he',⟨c,d,e1,e2,e3⟩,b1,b2⟩:=hw.2 i v hv;have e1':=g3 _ _ e1;simp! [e1'];refine⟨c,m,e.1,f,rfl,g3 _ _ e2,hf.same (g02.trans g3),b1,fun pa H4 g4 ha=>?_⟩;refine⟨d,m,e.2,f,rfl,g4 _ _ (g3 _ _ e3),hf.same ((g02.trans g3).trans g4),b2,fun pb H5 g5 hb=>?_⟩;intro t ht;have g6:=za2 ht (HO.tup [V.ref pa,V.ref pb]);have h6:upd H5 t (HO.tup [V.ref pa,V.ref pb]) t=some (HO.tup [V.ref pa,V.ref pb]):=upd_same;generalize upd H5 t (HO.tup [V.ref pa,V.ref pb])=H6 at*;have a6:P2H H6 pa (mv f e.1):=g6 _ _ (g5 _ _ ha);have b6:P2H H6 pb (mv f e.2):=g6 _ _ hb;exact zfk mw_ts hD3 (by omega) iv hi he' ((g4.trans g5).trans g6) ⟨⟨pa,pb,h6,a6,b6⟩,b1,b2⟩
 ·rintro qs H3 ⟨g3,hD33,lq,hq⟩;rw[kU (QZ hw.1.symm)] at hq;have g03:=g02.trans g3;refine⟨D3,qs,rfl,hD33,?_,fun D4 qs4 hD4 pm=>?_⟩
  ·intro v hv;obtain⟨j,hj⟩:=List.getElem?_of_mem hv;obtain⟨p,e,rfl,_,⟨c,d,e1,e2,e3⟩,_⟩:=hq.2 j v hj;exact⟨p,c,d,_,_,_,_,rfl,e1,e2,e3⟩
  ·obtain⟨ws',pw,hw'⟩:=LR.perm pm.symm hq;have g4:=za2 hD4 (HO.lst qs4);exact k D4 qs4 ws' es _ (g03.free hD4) (g03.trans g4) upd_same (by rw[pm.length_eq];omega) (hw'.ts mw_ts (za6 g4)) nd Eg ⟨pw.nodup_iff.mp W.nd,fun w hw=>W.of w (pw.mem_iff.mpr hw),fun a k h1 h2=>by
    obtain⟨c,m,z1,z2⟩:=W.all a k h1 h2;exact⟨c,m,pw.mem_iff.mp z1,z2⟩⟩
def sp_told:Sp:=fun vs H Q _=>∃(l:Addr)(ys:List V)(ws:List E2)(f:Fr),vs=[.ref l,.int f.w]/\H l=some (.lst ys)/\ys.length<=144/\LR (MwH f) H ys ws/\FrB f/\∀D zs H',H D=none->Same H H'->H' D=some (.lst zs)->LR S2H H' zs (ws.map (tdF f))->Q (.ref D) H'
theorem zl3(T:Txt K mg ad fd):FnOk P w K mg base CX0 3 (ad 24) (fd 24) ["_law_ways","_law_share"] sp_told:=by
 refine T.law_told.fn.ok zkg (fun vs H Q E h=>?_) (fun cdv A outer s H vs Q E hr h=>?_)
 ·obtain⟨l,ys,ws,f,rfl,_⟩:=h;rfl
 obtain⟨l,ys,ws,f,rfl,hl,hn,hw,fb,k⟩:=h;have zf:=@zah;have ze:=@zaz;have zy:=@zee;unfold L2.CompBody at zy;have zq:=@zc8;have qpv:=@pv;have zG:=@zff;have zE:=@zec;have zj:=@zbd;have zH:=@zfa;have zF:=@zfd;have zo:=@zdp;have zk:=@pa2;have zh:=@zbh;have zt:=@pa3;have zd:=@zel;have za:=@zbr;generalize @L2.PE=QE,@L2.PT=QT,@L2.PW=QW,@L2.PA=QA,@L2.PS=QS,@L2.PSs=QSs,@L2.PG=QG,@L2.PGs=QGs,@L2.PI=QI,@L2.PO=QO,@L2.PIf=QIf at zf ze zy zq qpv zG zE zj zH zF zo zk zh zt zd za⊢;refine⟨_,
  (zf (ze (zy (dsc:=za0 zbv) (N:=["_law_ways","_law_share"]) (own:=["_law_a","_law_b"]) (ix:=[1]) rfl rfl rfl ⟨rfl,by decide+kernel,by decide+kernel,by decide+kernel,by decide+kernel⟩ (zq (qpv 0)) (fun cl C fp s2 H2 xe=>⟨(zG (n:=2) rfl (zE (zj (i:=0) (show Qf (["_law_a","_law_b","_law_share"]:List Str) from by decide+kernel) rfl (kj rfl) (jU rfl)) (zE (zj (i:=1) (show Qf (["_law_a","_law_b","_law_share"]:List Str) from by decide+kernel) rfl (kj rfl) (jU rfl)) zH))),zF,(zo (zk (zh (zds T) (hr.mono (by decide)) rfl T.law_point.mg T.law_point.fn.kp T.law_point.bn .nil pass0 (zt (zd za5 (qpv 0) za (fun _ _=>rfl)) za9 (zd za5 (qpv 0) za (fun _ _=>rfl)) za9 (qpv 2) za1)) zby (zh (zds T) (hr.mono (by decide)) rfl T.law_point.mg T.law_point.fn.kp T.law_point.bn .nil pass0 (zt (zd za5 (qpv 1) za (fun _ _=>rfl)) za9 (zd za5 (qpv 1) za (fun _ _=>rfl)) za9 (qpv 2) za1)) zby))⟩))))
  ,?_⟩
 clear zf ze zy zq qpv zG zE zj zH zF zo zk zh zt zd za QE QT QW QA QS QSs QG QGs QI QO QIf
 dsimp! [L2.start]
 simp! [];refine zc2 ?_;simp! [zd1];refine⟨⟨_,.of hl⟩,fun D hD=>?_⟩;refine zbx (xs:=ys) (zlh (fun H p w=>S2H H p (tdF f w)) ws H D) (zfp hD) (fun i qs H' q=>.of (q.1 _ _ hl)) ?_ ?_
 ·rintro i qs H3 v hi hv iv;obtain⟨g3,hD33,lq,hq⟩:=id iv;obtain⟨p,e,rfl,he',⟨c,d,e1,e2,e3⟩,b1,b2⟩:=hw.2 i v hv;have e1':=g3 _ _ e1;have e2':H3 c=some (.tup [.int (mv f e.1).1,.int (mv f e.1).2]):=g3 _ _ e2;have e3':H3 d=some (.tup [.int (mv f e.2).1,.int (mv f e.2).2]):=g3 _ _ e3;have w1:=fb.2.2.2.2.2.2.1;simp! [e1',e2'];refine⟨_,_,_,rfl,zqb fb b1,by omega,fun pa H4 g4 ha=>?_⟩
  have e4':=g4 _ _ e3';simp! [e4'];refine⟨_,_,_,rfl,zqb fb b2,by omega,fun pb H5 g5 hb=>?_⟩
  intro t ht;have g6:=za2 ht (HO.tup [V.ref pa,V.ref pb]);have h6:upd H5 t (HO.tup [V.ref pa,V.ref pb]) t=some (HO.tup [V.ref pa,V.ref pb]):=upd_same;generalize upd H5 t (HO.tup [V.ref pa,V.ref pb])=H6 at*;have fin:S2H H6 t (tdF f e):=⟨pa,pb,h6,(ha.same g5).same g6,hb.same g6⟩;exact zfk (R:=fun H p w=>S2H H p (tdF f w)) (a:=e) (fun _ _ _ _=>zhf _ _ _ _) hD (by omega) iv hi he' ((g4.trans g5).trans g6) fin
 ·rintro qs H3 ⟨g3,hD33,lq,hq⟩;rw[kU (QZ hw.1.symm)] at hq;exact k D qs H3 hD g3 hD33 hq.map
theorem zpk{ss:List (Q3×Q3)}(F:Fen ss){e:Q3×Q3}(he:e∈ss):∀t,(∀j,0<j->j<=t->itr ss e j≠e)->Way ss e t (wyF ss e t).1 (wyF ss e t).2
 |0,_=>Way.start
 |t+1,no=>by
  have ih:=zpk F he t fun j h1 h2=>no j h1 (by omega)
  have hn:suc ss (itr ss e t)≠e:=no (t+1) (by omega) (kG _)
  by_cases c:(itr ss e t).2∈(wyF ss e t).1
  ·obtain⟨i,hi,ei⟩:=QV.mp c;have z:=ih.cut F he hi (by rw[zen hi];exact ei) hn
   have fn:=z.fn;rw[fn];exact z
  ·have z:=ih.push hn c;have fn:=z.fn;rw[fn];exact z
theorem zps{α β:Type}{g:α->β}{l:List α}(h:(l.map g).Nodup):l.Nodup:=by
 rw[kK] at h⊢;rw[uR] at h;exact h.imp fun n e=>n (by rw[e])
def su{α:Type}(f:α->Int):List α->Int
 |[]=>0
 |a::l=>f a+su f l
theorem zgb{α:Type}(f:α->Int)(a b:List α):su f (a++b)=su f a+su f b:=by
 induction a with
 |nil=>exact(ur _).symm
 |cons x a ih=>show f x+su f (a++b)=f x+su f a+su f b;omega
theorem zg4{α:Type}(f:α->Int){a b:List α}(h:a.Perm b):su f a=su f b:=by
 induction h with
 |nil=>rfl
 |cons x _ ih=>show f x+_=f x+_;omega
 |swap x y l=>show f y+(f x+_)=f x+(f y+_);omega
 |trans _ _ i1 i2=>omega
theorem zag{α:Type}{f g:α->Int}:∀{l:List α},(∀x,x∈l->f x=g x)->su f l=su g l
 |[],_=>rfl
 |x::l,h=>by
  show f x+su f l=g x+su g l
  rw[h x (by simp),zag fun y hy=>h y (kI _ hy)]
theorem zdu{α:Type}(f g:α->Int):∀l:List α,su (fun x=>f x-g x) l=su f l-su g l
 |[]=>rfl
 |x::l=>by
  show f x-g x+su _ l=f x+su f l-(g x+su g l)
  have:=zdu f g l;omega
theorem zm4{α:Type}(f g:α->Int):∀l:List α,su (fun x=>f x+g x) l=su f l+su g l
 |[]=>rfl
 |x::l=>by
  show f x+g x+su _ l=f x+su f l+(g x+su g l)
  have:=zm4 f g l;omega
theorem zhx{α:Type}(c:Int)(f:α->Int):∀l:List α,su (fun x=>c*f x) l=c*su f l
 |[]=>(UU c).symm
 |x::l=>by
  show c*f x+su _ l=c*(f x+su f l)
  rw[zhx c f l,vL]
theorem zfz{α:Type}:∀l:List α,su (fun _=>0) l=0
 |[]=>rfl
 |x::l=>by show 0+su _ l=0;rw[zfz l];rfl
theorem zh0{α:Type}(f:α->Int):∀l:List (List α),su f l.flatten=su (su f) l
 |[]=>rfl
 |x::l=>by rw[UV,zgb,zh0 f l];rfl
theorem zes{α β:Type}(f:β->Int)(g:α->β):∀l:List α,su f (l.map g)=su (fun x=>f (g x)) l
 |[]=>rfl
 |x::l=>by rw[kh];show f (g x)+_=f (g x)+_;rw[zes f g l]
theorem ite_d(c:Prop)[Decidable c]:(c/\(if c then(1:Int) else 0)=1)∨(¬c/\(if c then(1:Int) else 0)=0):=by
 by_cases h:c
 ·exact .inl ⟨h,if_pos h⟩
 ·exact .inr ⟨h,if_neg h⟩
def up(e:E2)(r:Int):Prop:=e.1.2<=r/\r<e.2.2
instance:Decidable (up e r):=inferInstanceAs (Decidable (_/\_))
def rv(e:E2):E2:=(e.2,e.1)
def mid(e:E2):Int:=2*(e.1.1+e.2.1)
def Uc(e:E2)(r t:Int):Int:=if up e r/\mid e<t then 1 else 0
def wst(e:E2)(r t:Int):Int:=Uc e r t-Uc (rv e) r t
def ct(s:E2)(l:List E2):Int:=su (fun e=>if e=s then 1 else 0) l
def okE(e:E2):Prop:=∃u j,okp u j/\e=(u,stp u j)
theorem okE.rv{e:E2}(h:okE e):okE (rv e):=by
 obtain⟨u,j,h,rfl⟩:=h;refine⟨stp u j,j+4,zgp.mpr h,?_⟩;rw[zey];rfl
theorem okE.ar{e:E2}(h:okE e):(e.1.1%2=0/\e.1.2%2=0/\((e.2.1=e.1.1+2/\e.2.2=e.1.2)∨(e.2.1=e.1.1/\e.2.2=e.1.2+2)∨(e.2.1=e.1.1-2/\e.2.2=e.1.2)∨(e.2.1=e.1.1/\e.2.2=e.1.2-2)))∨(((e.1.1%2=0/\e.1.2%2=0)∨(e.1.1%2=1/\e.1.2%2=1))/\((e.2.1=e.1.1+1/\e.2.2=e.1.2+1)∨(e.2.1=e.1.1-1/\e.2.2=e.1.2+1)∨(e.2.1=e.1.1-1/\e.2.2=e.1.2-1)∨(e.2.1=e.1.1+1/\e.2.2=e.1.2-1))):=by
 obtain⟨⟨x,y⟩,j,h,rfl⟩:=h;obtain⟨d0,d1,d2,d3,d4,d5,d6,d7⟩:=zm5;unfold okp at h;dsimp only at h;unfold stp;dsimp only;have ev:∀j:Fin 8,j.val%2=0->((x%2=0/\y%2=0)∨(x%2=1/\y%2=1/\j.val%2=1))->x%2=0/\y%2=0:=fun j z h=>h.elim id fun q=>by omega
 have od:((x%2=0/\y%2=0)∨(x%2=1/\y%2=1/\j.val%2=1))->(x%2=0/\y%2=0)∨(x%2=1/\y%2=1):=fun h=>h.imp id fun z=>⟨z.1,z.2.1⟩;have o:=od h;rcases k8 j with rfl|rfl|rfl|rfl|rfl|rfl|rfl|rfl<;>simp only[d0,d1,d2,d3,d4,d5,d6,d7]
 ·obtain⟨a,b⟩:=ev 0 rfl h
  exact .inl ⟨a,b,.inl ⟨by first|trivial|omega,by first|trivial|omega⟩⟩
 ·exact .inr ⟨o,.inl ⟨by first|trivial|omega,by first|trivial|omega⟩⟩
 ·obtain⟨a,b⟩:=ev 2 rfl h
  exact .inl ⟨a,b,.inr (.inl ⟨by first|trivial|omega,by first|trivial|omega⟩)⟩
 ·exact .inr ⟨o,.inr (.inl ⟨by first|trivial|omega,by first|trivial|omega⟩)⟩
 ·obtain⟨a,b⟩:=ev 4 rfl h
  exact .inl ⟨a,b,.inr (.inr (.inl ⟨by first|trivial|omega,by first|trivial|omega⟩))⟩
 ·exact .inr ⟨o,.inr (.inr (.inl ⟨by first|trivial|omega,by first|trivial|omega⟩))⟩
 ·obtain⟨a,b⟩:=ev 6 rfl h
  exact .inl ⟨a,b,.inr (.inr (.inr ⟨by first|trivial|omega,by first|trivial|omega⟩))⟩
 ·exact .inr ⟨o,.inr (.inr (.inr ⟨by first|trivial|omega,by first|trivial|omega⟩))⟩
def Wp(l:List E2)(r t:Int):Int:= -su (fun e=>wst e r t) l
def rowC(c:C3):Int:=if c.2.2=2 then 2*c.2.1+1 else 2*c.2.1
def posC(c:C3):Int:=8*c.1+(if c.2.2=1 then 7 else if c.2.2=3 then 1 else 4)
def Wd(l:List E2)(c:C3):Int:=Wp l (rowC c) (posC c)
def Clo(l:List E2):Prop:=∀φ:Int×Int->Int,su (fun e=>φ e.2-φ e.1) l=0
theorem e_eq{a b c d:Int}{e:E2}:e=((a,b),(c,d))↔e.1.1=a/\e.1.2=b/\e.2.1=c/\e.2.2=d:=by
 obtain⟨⟨x,y⟩,⟨z,w⟩⟩:=e;simp only[Uu,and_assoc]
theorem uc_row{e:E2}{r t t':Int}{s:E2}(ht:t<=t')(k:(up e r/\t<=mid e/\mid e<t')↔e=s):Uc e r t'-Uc e r t=if e=s then 1 else 0:=by
 unfold Uc
 by_cases u:up e r
 ·by_cases c:mid e<t
  ·rw[if_pos ⟨u,by omega⟩,if_pos ⟨u,c⟩,if_neg (fun z=>by have:=(k.mpr z).2.1;omega)]
   rfl
  ·rw[if_neg (show ¬(up e r/\mid e<t) from fun z=>c z.2)]
   by_cases d:mid e<t'
   ·rw[if_pos ⟨u,d⟩,if_pos (k.mp ⟨u,by omega,d⟩)]
    rfl
   ·rw[if_neg (fun z=>d z.2),if_neg (fun z=>d (k.mpr z).2.2)];rfl
 ·rw[if_neg (fun z=>u z.1),if_neg (fun z=>u z.1),if_neg (fun z=>u (k.mpr z).1)];rfl
theorem zjr{l:List E2}{r t t':Int}{s:E2}(ok:∀e,e∈l->okE e)(ht:t<=t')(k:∀e,okE e->((up e r/\t<=mid e/\mid e<t')↔e=s)):Wp l r t-Wp l r t'=ct s l-ct (rv s) l:=by
 have z:∀e,e∈l->wst e r t'-wst e r t=(if e=s then 1 else 0)-(if e=rv s then 1 else 0):=fun e he=>by
  have a:=uc_row ht (k e (ok e he));have b:=uc_row (e:=rv e) (t:=t) (t':=t') (r:=r) (s:=s) ht (k (rv e) (ok e he).rv);have c:(if rv e=s then(1:Int) else 0)=if e=rv s then 1 else 0:=by
   by_cases q:rv e=s
   ·rw[if_pos q,if_pos (by rw[←q];rfl)]
   ·rw[if_neg q,if_neg (fun z=>q (by rw[z];rfl))]
  rw[c] at b;unfold wst;omega
 unfold Wp ct;have:=zag z;rw[zdu,zdu] at this;omega
theorem r1(x y:Int)(e:E2)(h:okE e):(up e (2*y)/\8*x+1<=mid e/\mid e<8*x+4)↔e=((2*x,2*y),(2*x+1,2*y+1)):=by
 rw[e_eq];unfold up mid;refine⟨fun z=>?_,fun⟨a,b,c,d⟩=>by omega⟩
 rcases h.ar with⟨a,b,c|c|c|c⟩|⟨a,c|c|c|c⟩<;>omega
theorem r2(x y:Int)(e:E2)(h:okE e):(up e (2*y)/\8*x+4<=mid e/\mid e<8*x+7)↔e=((2*x+2,2*y),(2*x+1,2*y+1)):=by
 rw[e_eq];unfold up mid;refine⟨fun z=>?_,fun⟨a,b,c,d⟩=>by omega⟩
 rcases h.ar with⟨a,b,c|c|c|c⟩|⟨a,c|c|c|c⟩<;>omega
theorem r3(x y:Int)(e:E2)(h:okE e):(up e (2*y)/\8*x+7<=mid e/\mid e<8*(x+1)+1)↔e=((2*x+2,2*y),(2*x+2,2*y+2)):=by
 rw[e_eq];unfold up mid;refine⟨fun z=>?_,fun⟨a,b,c,d⟩=>by omega⟩
 rcases h.ar with⟨a,b,c|c|c|c⟩|⟨a,c|c|c|c⟩<;>omega
theorem r4(x y:Int)(e:E2)(h:okE e):(up e (2*y+1)/\8*x+1<=mid e/\mid e<8*x+4)↔e=((2*x+1,2*y+1),(2*x,2*y+2)):=by
 rw[e_eq];unfold up mid;refine⟨fun z=>?_,fun⟨a,b,c,d⟩=>by omega⟩
 rcases h.ar with⟨a,b,c|c|c|c⟩|⟨a,c|c|c|c⟩<;>omega
theorem r5(x y:Int)(e:E2)(h:okE e):(up e (2*y+1)/\8*x+4<=mid e/\mid e<8*x+7)↔e=((2*x+1,2*y+1),(2*x+2,2*y+2)):=by
 rw[e_eq];unfold up mid;refine⟨fun z=>?_,fun⟨a,b,c,d⟩=>by omega⟩
 rcases h.ar with⟨a,b,c|c|c|c⟩|⟨a,c|c|c|c⟩<;>omega
def phi(r t:Int)(v:Int×Int):Int:=if v.2=r+1/\4*v.1<t then 1 else 0
theorem uc_col{e:E2}{r t:Int}(h:e.1.2<e.2.2)(h2:e.2.2<=e.1.2+2)(c1:e.1.2=r+1->(mid e<t↔4*e.1.1<t))(c2:e.2.2=r+1->(mid e<t↔4*e.2.1<t)):Uc e r t-Uc e (r+1) t=phi r t e.2-phi r t e.1:=by
 unfold Uc phi up
 by_cases a:e.2.2=r+1
 ·rw[if_neg (show ¬((e.1.2<=r+1/\r+1<e.2.2)/\mid e<t) by omega),if_neg (show ¬(e.1.2=r+1/\4*e.1.1<t) by omega)]
  by_cases m:mid e<t
  ·rw[if_pos ⟨⟨by omega,by omega⟩,m⟩,if_pos ⟨a,(c2 a).mp m⟩]
  ·rw[if_neg (fun z=>m z.2),if_neg (fun z=>m ((c2 a).mpr z.2))]
 ·rw[if_neg (show ¬(e.2.2=r+1/\4*e.2.1<t) by omega)]
  by_cases b:e.1.2=r+1
  ·rw[if_neg (show ¬((e.1.2<=r/\r<e.2.2)/\mid e<t) by omega)]
   by_cases m:mid e<t
   ·rw[if_pos ⟨⟨by omega,by omega⟩,m⟩,if_pos ⟨b,(c1 b).mp m⟩]
   ·rw[if_neg (fun z=>m z.2),if_neg (fun z=>m ((c1 b).mpr z.2))]
  ·rw[if_neg (show ¬(e.1.2=r+1/\4*e.1.1<t) by omega)]
   by_cases m:mid e<t
   ·by_cases s:e.1.2<=r/\r<e.2.2
    ·rw[if_pos ⟨s,m⟩,if_pos ⟨⟨by omega,by omega⟩,m⟩]
     rfl
    ·rw[if_neg (fun z=>s z.1),if_neg (fun z=>s (by omega))]
   ·rw[if_neg (fun z=>m z.2),if_neg (fun z=>m z.2)]
theorem zju{e:E2}{r t:Int}(h:e.2.2<=e.1.2):Uc e r t=0:=by
 unfold Uc up;exact if_neg (by omega)
theorem zqe{e:E2}{r t:Int}(h1:e.2.2<=e.1.2+2)(h2:e.1.2<=e.2.2+2)(c1:e.1.2=r+1->e.2.2≠r+1->(mid e<t↔4*e.1.1<t))(c2:e.2.2=r+1->e.1.2≠r+1->(mid e<t↔4*e.2.1<t)):wst e r t-wst e (r+1) t=if e.1.2=e.2.2 then 0 else phi r t e.2-phi r t e.1:=by
 unfold wst
 by_cases c:e.1.2=e.2.2
 ·rw[if_pos c,zju (e:=e) (by omega),zju (e:=rv e) (by show e.1.2<=e.2.2;omega),zju (e:=e) (by omega),zju (e:=rv e) (by show e.1.2<=e.2.2;omega)]
  rfl
 ·rw[if_neg c];have mm:mid (rv e)=mid e:=by unfold mid rv;dsimp only;omega
  by_cases d:e.1.2<e.2.2
  ·rw[zju (e:=rv e) (by show e.1.2<=e.2.2;omega),zju (e:=rv e) (by show e.1.2<=e.2.2;omega)]
   have:=uc_col (r:=r) (t:=t) d h1 (fun z=>c1 z (by omega)) (fun z=>c2 z (by omega))
   omega
  ·rw[zju (e:=e) (by omega),zju (e:=e) (by omega)]
   have:=uc_col (e:=rv e) (r:=r) (t:=t) (by show e.2.2<e.1.2;omega) h2 (fun z=>by rw[mm];exact c2 z (by show e.1.2≠r+1;have:e.2.2=r+1:=z;omega)) (fun z=>by rw[mm];exact c1 z (by have:e.1.2=r+1:=z;omega))
   have e1:(rv e).2=e.1:=rfl;have e2:(rv e).1=e.2:=rfl;rw[e1,e2] at this;omega
theorem wp_v1{l:List E2}(ok:∀e,e∈l->okE e)(cl:Clo l){x y t:Int}(ht:t=8*x+1∨t=8*x+7):Wp l (2*y) t=Wp l (2*y+1) t:=by
 have z:∀e,e∈l->wst e (2*y) t-wst e (2*y+1) t=phi (2*y) t e.2-phi (2*y) t e.1:=fun e he=>by
  have h:=(ok e he).ar;have w:wst e (2*y) t-wst e (2*y+1) t=if e.1.2=e.2.2 then 0 else phi (2*y) t e.2-phi (2*y) t e.1:=by
   refine zqe ?_ ?_ (fun z n=>?_) (fun z n=>?_)
   ·rcases h with⟨a,b,c|c|c|c⟩|⟨a,c|c|c|c⟩<;>omega
   ·rcases h with⟨a,b,c|c|c|c⟩|⟨a,c|c|c|c⟩<;>omega
   ·unfold mid;rcases h with⟨a,b,c|c|c|c⟩|⟨a,c|c|c|c⟩<;>rcases ht with rfl|rfl<;>omega
   ·unfold mid;rcases h with⟨a,b,c|c|c|c⟩|⟨a,c|c|c|c⟩<;>rcases ht with rfl|rfl<;>omega
  rw[w]
  by_cases c:e.1.2=e.2.2
  ·rw[if_pos c];have o:e.1.2≠2*y+1:=by rcases h with⟨a,b,c|c|c|c⟩|⟨a,c|c|c|c⟩<;>omega
   unfold phi;rw[if_neg (fun z=>o (by omega)),if_neg (fun z=>o z.1)]
   rfl
  ·rw[if_neg c]
 unfold Wp;have:=zag z;rw[zdu,cl] at this;omega
theorem wp_v2{l:List E2}(ok:∀e,e∈l->okE e)(cl:Clo l)(x y:Int):Wp l (2*y+1) (8*x+4)-Wp l (2*(y+1)) (8*x+4)=ct ((2*x+2,2*y+2),(2*x,2*y+2)) l-ct ((2*x,2*y+2),(2*x+2,2*y+2)) l:=by
 have z:∀e,e∈l->wst e (2*y+1) (8*x+4)-wst e (2*y+1+1) (8*x+4)=(phi (2*y+1) (8*x+4) e.2-phi (2*y+1) (8*x+4) e.1)-((if e=((2*x+2,2*y+2),(2*x,2*y+2)) then 1 else 0)-(if e=((2*x,2*y+2),(2*x+2,2*y+2)) then 1 else 0)):=fun e he=>by
  have h:=(ok e he).ar;have w:wst e (2*y+1) (8*x+4)-wst e (2*y+1+1) (8*x+4)=if e.1.2=e.2.2 then 0 else phi (2*y+1) (8*x+4) e.2-phi (2*y+1) (8*x+4) e.1:=by
   refine zqe ?_ ?_ (fun z n=>?_) (fun z n=>?_)
   ·rcases h with⟨a,b,c|c|c|c⟩|⟨a,c|c|c|c⟩<;>omega
   ·rcases h with⟨a,b,c|c|c|c⟩|⟨a,c|c|c|c⟩<;>omega
   ·unfold mid;rcases h with⟨a,b,c|c|c|c⟩|⟨a,c|c|c|c⟩<;>omega
   ·unfold mid;rcases h with⟨a,b,c|c|c|c⟩|⟨a,c|c|c|c⟩<;>omega
  rw[w];simp only[e_eq]
  by_cases c:e.1.2=e.2.2
  ·rw[if_pos c];have hz:e.1.1%2=0/\(e.2.1=e.1.1+2∨e.2.1=e.1.1-2):=by rcases h with⟨a,b,c|c|c|c⟩|⟨a,c|c|c|c⟩<;>omega
   unfold phi;have i1:=ite_d (e.2.2=2*y+1+1/\4*e.2.1<8*x+4);have i2:=ite_d (e.1.2=2*y+1+1/\4*e.1.1<8*x+4);have i3:=ite_d (e.1.1=2*x+2/\e.1.2=2*y+2/\e.2.1=2*x/\e.2.2=2*y+2);have i4:=ite_d (e.1.1=2*x/\e.1.2=2*y+2/\e.2.1=2*x+2/\e.2.2=2*y+2);clear w h;rcases i1 with⟨a1,b1⟩|⟨a1,b1⟩<;>rcases i2 with⟨a2,b2⟩|⟨a2,b2⟩<;>rcases i3 with⟨a3,b3⟩|⟨a3,b3⟩<;>rcases i4 with⟨a4,b4⟩|⟨a4,b4⟩<;>rw[b1,b2,b3,b4]<;>omega
  ·rw[if_neg c,if_neg (fun z=>c (by omega)),if_neg (fun z=>c (by omega))]
   omega
 unfold Wp ct;have:=zag z;have c0:=cl (phi (2*y+1) (8*x+4));rw[zdu] at c0;rw[zdu,zdu,zdu,zdu] at this;rw[show 2*(y+1)=2*y+1+1 by omega]
 omega
section
variable{l:List E2}(ok:∀e,e∈l->okE e)(cl:Clo l)
theorem wd0(x y:Int):Wd l (x,y,0)=Wp l (2*y) (8*x+4):=rfl
theorem wd1(x y:Int):Wd l (x,y,1)=Wp l (2*y) (8*x+7):=rfl
theorem wd2(x y:Int):Wd l (x,y,2)=Wp l (2*y+1) (8*x+4):=rfl
theorem wd3(x y:Int):Wd l (x,y,3)=Wp l (2*y) (8*x+1):=rfl
include ok
theorem b1(x y:Int):Wd l (x,y,3)-Wd l (x,y,0)=ct ((2*x,2*y),(2*x+1,2*y+1)) l-ct ((2*x+1,2*y+1),(2*x,2*y)) l:=by
 rw[wd0,wd3];exact zjr ok (by omega) (r1 x y)
theorem b2(x y:Int):Wd l (x,y,0)-Wd l (x,y,1)=ct ((2*x+2,2*y),(2*x+1,2*y+1)) l-ct ((2*x+1,2*y+1),(2*x+2,2*y)) l:=by
 rw[wd0,wd1];exact zjr ok (by omega) (r2 x y)
theorem b3(x y:Int):Wd l (x,y,1)-Wd l (x+1,y,3)=ct ((2*x+2,2*y),(2*x+2,2*y+2)) l-ct ((2*x+2,2*y+2),(2*x+2,2*y)) l:=by
 rw[wd1,wd3];exact zjr ok (by omega) (r3 x y)
include cl
theorem b4(x y:Int):Wd l (x,y,3)-Wd l (x,y,2)=ct ((2*x+1,2*y+1),(2*x,2*y+2)) l-ct ((2*x,2*y+2),(2*x+1,2*y+1)) l:=by
 rw[wd2,wd3,wp_v1 ok cl (.inl rfl)];exact zjr ok (by omega) (r4 x y)
theorem b5(x y:Int):Wd l (x,y,2)-Wd l (x,y,1)=ct ((2*x+1,2*y+1),(2*x+2,2*y+2)) l-ct ((2*x+2,2*y+2),(2*x+1,2*y+1)) l:=by
 rw[wd2,wd1,wp_v1 ok cl (.inr rfl)];exact zjr ok (by omega) (r5 x y)
theorem b6(x y:Int):Wd l (x,y,2)-Wd l (x,y+1,0)=ct ((2*x+2,2*y+2),(2*x,2*y+2)) l-ct ((2*x,2*y+2),(2*x+2,2*y+2)) l:=by
 rw[wd2,wd0];exact wp_v2 ok cl x y
theorem jump{a:Int×Int}{k:Fin 8}(h:okp a k):Wd l (zaa a k)-Wd l (zaa a (k+7))=ct (a,stp a k) l-ct (stp a k,a) l:=by
 obtain⟨d0,d1,d2,d3,d4,d5,d6,d7⟩:=zm5;obtain⟨a1,a2⟩:=a;rcases h with⟨h1,h2⟩|⟨h1,h2,h3⟩
 ·dsimp only at h1 h2;obtain⟨x,rfl⟩:∃x,a1=2*x:=⟨a1/2,by omega⟩
  obtain⟨y,rfl⟩:∃y,a2=2*y:=⟨a2/2,by omega⟩
  rw[zd5 (a:=(2*x,2*y)) h1,zd5 (a:=(2*x,2*y)) h1];have ex:(2*x)/2=x:=by omega
  have ey:(2*y)/2=y:=by omega
  unfold stp;dsimp only;rw[ex,ey];rcases k8 k with rfl|rfl|rfl|rfl|rfl|rfl|rfl|rfl
  ·show Wd l (x,y,0)-Wd l (x,y-1,2)=ct ((2*x,2*y),(2*x+2,2*y+0)) l-ct ((2*x+2,2*y+0),(2*x,2*y)) l
   have:=b6 ok cl x (y-1);rw[show y-1+1=y by omega,show 2*(y-1)+2=2*y by omega] at this
   rw[Qg];omega
  ·show Wd l (x,y,3)-Wd l (x,y,0)=ct ((2*x,2*y),(2*x+1,2*y+1)) l-ct ((2*x+1,2*y+1),(2*x,2*y)) l
   exact b1 ok x y
  ·show Wd l (x-1,y,1)-Wd l (x,y,3)=ct ((2*x,2*y),(2*x+0,2*y+2)) l-ct ((2*x+0,2*y+2),(2*x,2*y)) l
   have:=b3 ok (x-1) y;rw[show x-1+1=x by omega,show 2*(x-1)+2=2*x by omega] at this
   rw[Qg];exact this
  ·show Wd l (x-1,y,0)-Wd l (x-1,y,1)=ct ((2*x,2*y),(2*x+ -1,2*y+1)) l-ct ((2*x+ -1,2*y+1),(2*x,2*y)) l
   have:=b2 ok (x-1) y;rw[show 2*(x-1)+2=2*x by omega,show 2*(x-1)+1=2*x+ -1 by omega] at this
   exact this
  ·show Wd l (x-1,y-1,2)-Wd l (x-1,y,0)=ct ((2*x,2*y),(2*x+ -2,2*y+0)) l-ct ((2*x+ -2,2*y+0),(2*x,2*y)) l
   have:=b6 ok cl (x-1) (y-1);rw[show y-1+1=y by omega,show 2*(y-1)+2=2*y by omega,show 2*(x-1)+2=2*x by omega,show 2*(x-1)=2*x+ -2 by omega] at this
   rw[Qg];exact this
  ·show Wd l (x-1,y-1,1)-Wd l (x-1,y-1,2)=ct ((2*x,2*y),(2*x+ -1,2*y+ -1)) l-ct ((2*x+ -1,2*y+ -1),(2*x,2*y)) l
   have:=b5 ok cl (x-1) (y-1);rw[show 2*(y-1)+2=2*y by omega,show 2*(x-1)+2=2*x by omega,show 2*(x-1)+1=2*x+ -1 by omega,show 2*(y-1)+1=2*y+ -1 by omega] at this
   omega
  ·show Wd l (x,y-1,3)-Wd l (x-1,y-1,1)=ct ((2*x,2*y),(2*x+0,2*y+ -2)) l-ct ((2*x+0,2*y+ -2),(2*x,2*y)) l
   have:=b3 ok (x-1) (y-1);rw[show x-1+1=x by omega,show 2*(x-1)+2=2*x by omega,show 2*(y-1)+2=2*y by omega,show 2*(y-1)=2*y+ -2 by omega] at this
   rw[Qg];omega
  ·show Wd l (x,y-1,2)-Wd l (x,y-1,3)=ct ((2*x,2*y),(2*x+1,2*y+ -1)) l-ct ((2*x+1,2*y+ -1),(2*x,2*y)) l
   have:=b4 ok cl x (y-1);rw[show 2*(y-1)+2=2*y by omega,show 2*(y-1)+1=2*y+ -1 by omega] at this
   omega
 ·dsimp only at h1 h2;obtain⟨x,rfl⟩:∃x,a1=2*x+1:=⟨a1/2,by omega⟩
  obtain⟨y,rfl⟩:∃y,a2=2*y+1:=⟨a2/2,by omega⟩
  rw[zeg (a:=(2*x+1,2*y+1)) h1,zeg (a:=(2*x+1,2*y+1)) h1];have ex:(2*x+1)/2=x:=by omega
  have ey:(2*y+1)/2=y:=by omega
  unfold stp;dsimp only;rw[ex,ey];rcases k8 k with rfl|rfl|rfl|rfl|rfl|rfl|rfl|rfl
  ·exact absurd h3 (by decide)
  ·show Wd l (x,y,2)-Wd l (x,y,1)=ct ((2*x+1,2*y+1),(2*x+1+1,2*y+1+1)) l-ct ((2*x+1+1,2*y+1+1),(2*x+1,2*y+1)) l
   rw[show 2*x+1+1=2*x+2 by omega,show 2*y+1+1=2*y+2 by omega]
   exact b5 ok cl x y
  ·exact absurd h3 (by decide)
  ·show Wd l (x,y,3)-Wd l (x,y,2)=ct ((2*x+1,2*y+1),(2*x+1+ -1,2*y+1+1)) l-ct ((2*x+1+ -1,2*y+1+1),(2*x+1,2*y+1)) l
   rw[show 2*x+1+ -1=2*x by omega,show 2*y+1+1=2*y+2 by omega]
   exact b4 ok cl x y
  ·exact absurd h3 (by decide)
  ·show Wd l (x,y,0)-Wd l (x,y,3)=ct ((2*x+1,2*y+1),(2*x+1+ -1,2*y+1+ -1)) l-ct ((2*x+1+ -1,2*y+1+ -1),(2*x+1,2*y+1)) l
   rw[show 2*x+1+ -1=2*x by omega,show 2*y+1+ -1=2*y by omega]
   have:=b1 ok x y;omega
  ·exact absurd h3 (by decide)
  ·show Wd l (x,y,1)-Wd l (x,y,0)=ct ((2*x+1,2*y+1),(2*x+1+1,2*y+1+ -1)) l-ct ((2*x+1+1,2*y+1+ -1),(2*x+1,2*y+1)) l
   rw[show 2*x+1+1=2*x+2 by omega,show 2*y+1+ -1=2*y by omega]
   have:=b2 ok x y;omega
end
def ovC(c:C3):C3:=if c.2.2=0 then(c.1,c.2.1-1,2) else if c.2.2=1 then(c.1+1,c.2.1,3) else if c.2.2=2 then(c.1,c.2.1+1,0) else(c.1-1,c.2.1,1)
def nbs(c:C3):List C3:=[(c.1,c.2.1,(c.2.2+1)%4),(c.1,c.2.1,(c.2.2+3)%4),ovC c]
def vq(c:C3):Prop:=0<=c.2.2/\c.2.2<=3
theorem vq3(x y q:Int)(h1:0<=q)(h2:q<=3):vq (x,y,q):=⟨h1,h2⟩
theorem vq4{c:C3}(h:vq c):∃x y,c=(x,y,0)∨c=(x,y,1)∨c=(x,y,2)∨c=(x,y,3):=by
 obtain⟨x,y,q⟩:=c;obtain⟨h1,h2⟩:=h;dsimp only at h1 h2;refine⟨x,y,?_⟩;rcases(by omega:q=0∨q=1∨q=2∨q=3) with rfl|rfl|rfl|rfl
 ·exact .inl rfl
 ·exact .inr (.inl rfl)
 ·exact .inr (.inr (.inl rfl))
 ·exact .inr (.inr (.inr rfl))
theorem nbs0(x y:Int):nbs (x,y,0)=[(x,y,1),(x,y,3),(x,y-1,2)]:=rfl
theorem nbs1(x y:Int):nbs (x,y,1)=[(x,y,2),(x,y,0),(x+1,y,3)]:=rfl
theorem nbs2(x y:Int):nbs (x,y,2)=[(x,y,3),(x,y,1),(x,y+1,0)]:=rfl
theorem nbs3(x y:Int):nbs (x,y,3)=[(x,y,0),(x,y,2),(x-1,y,1)]:=rfl
theorem mem3{c a b d:C3}:c∈[a,b,d]↔c=a∨c=b∨c=d:=by
 simp only[kg,UC,or_false]
theorem zgx{c d:C3}(h:vq c)(hd:d∈nbs c):c∈nbs d:=by
 obtain⟨x,y,h⟩:=vq4 h;rcases h with rfl|rfl|rfl|rfl
 ·rw[nbs0,mem3] at hd;rcases hd with rfl|rfl|rfl
  ·rw[nbs1,mem3];exact .inr (.inl rfl)
  ·rw[nbs3,mem3];exact .inl rfl
  ·rw[nbs2,mem3];exact .inr (.inr (zaf rfl (by omega) rfl))
 ·rw[nbs1,mem3] at hd;rcases hd with rfl|rfl|rfl
  ·rw[nbs2,mem3];exact .inr (.inl rfl)
  ·rw[nbs0,mem3];exact .inl rfl
  ·rw[nbs3,mem3];exact .inr (.inr (zaf (by omega) rfl rfl))
 ·rw[nbs2,mem3] at hd;rcases hd with rfl|rfl|rfl
  ·rw[nbs3,mem3];exact .inr (.inl rfl)
  ·rw[nbs1,mem3];exact .inl rfl
  ·rw[nbs0,mem3];exact .inr (.inr (zaf rfl (by omega) rfl))
 ·rw[nbs3,mem3] at hd;rcases hd with rfl|rfl|rfl
  ·rw[nbs0,mem3];exact .inr (.inl rfl)
  ·rw[nbs2,mem3];exact .inl rfl
  ·rw[nbs1,mem3];exact .inr (.inr (zaf (by omega) rfl rfl))
theorem zp5(a:Int×Int)(k:Fin 8):vq (zaa a k):=by
 by_cases h:a.1%2=0
 ·rw[zd5 h];rcases k8 k with rfl|rfl|rfl|rfl|rfl|rfl|rfl|rfl
  ·exact vq3 _ _ 0 (by decide) (by decide)
  ·exact vq3 _ _ 3 (by decide) (by decide)
  ·exact vq3 _ _ 1 (by decide) (by decide)
  ·exact vq3 _ _ 0 (by decide) (by decide)
  ·exact vq3 _ _ 2 (by decide) (by decide)
  ·exact vq3 _ _ 1 (by decide) (by decide)
  ·exact vq3 _ _ 3 (by decide) (by decide)
  ·exact vq3 _ _ 2 (by decide) (by decide)
 ·rw[zeg (by omega)]
  exact vq3 _ _ _ (by revert k;decide) (by revert k;decide)
theorem zo4{a:Int×Int}{k:Fin 8}(h:okp a k):zaa a (k+7)∈nbs (zaa a k):=by
 obtain⟨a1,a2⟩:=a;rcases h with⟨h1,h2⟩|⟨h1,h2,h3⟩
 ·dsimp only at h1 h2;obtain⟨x,rfl⟩:∃x,a1=2*x:=⟨a1/2,by omega⟩
  obtain⟨y,rfl⟩:∃y,a2=2*y:=⟨a2/2,by omega⟩
  rw[zd5 (a:=(2*x,2*y)) h1,zd5 (a:=(2*x,2*y)) h1];have ex:(2*x)/2=x:=by omega
  have ey:(2*y)/2=y:=by omega
  dsimp only;rw[ex,ey];rcases k8 k with rfl|rfl|rfl|rfl|rfl|rfl|rfl|rfl
  ·show(x,y-1,2)∈nbs (x,y,0)
   rw[nbs0,mem3];exact .inr (.inr rfl)
  ·show(x,y,0)∈nbs (x,y,3)
   rw[nbs3,mem3];exact .inl rfl
  ·show(x,y,3)∈nbs (x-1,y,1)
   rw[nbs1,mem3];exact .inr (.inr (zaf (by omega) rfl rfl))
  ·show(x-1,y,1)∈nbs (x-1,y,0)
   rw[nbs0,mem3];exact .inl rfl
  ·show(x-1,y,0)∈nbs (x-1,y-1,2)
   rw[nbs2,mem3];exact .inr (.inr (zaf rfl (by omega) rfl))
  ·show(x-1,y-1,2)∈nbs (x-1,y-1,1)
   rw[nbs1,mem3];exact .inl rfl
  ·show(x-1,y-1,1)∈nbs (x,y-1,3)
   rw[nbs3,mem3];exact .inr (.inr rfl)
  ·show(x,y-1,3)∈nbs (x,y-1,2)
   rw[nbs2,mem3];exact .inl rfl
 ·dsimp only at h1 h2;rw[zeg (a:=(a1,a2)) h1,zeg (a:=(a1,a2)) h1];rcases k8 k with rfl|rfl|rfl|rfl|rfl|rfl|rfl|rfl
  ·exact absurd h3 (by decide)
  ·show(a1/2,a2/2,1)∈nbs (a1/2,a2/2,2)
   rw[nbs2,mem3];exact .inr (.inl rfl)
  ·exact absurd h3 (by decide)
  ·show(a1/2,a2/2,2)∈nbs (a1/2,a2/2,3)
   rw[nbs3,mem3];exact .inr (.inl rfl)
  ·exact absurd h3 (by decide)
  ·show(a1/2,a2/2,3)∈nbs (a1/2,a2/2,0)
   rw[nbs0,mem3];exact .inr (.inl rfl)
  ·exact absurd h3 (by decide)
  ·show(a1/2,a2/2,0)∈nbs (a1/2,a2/2,1)
   rw[nbs1,mem3];exact .inr (.inl rfl)
theorem zjs(x y:Int)(k:Fin 8):zaa (2*x+1,2*y+1) k=(x,y,([1,2,2,3,3,0,0,1]:List Int).getD k.val 0):=by
 rw[zeg (by dsimp only;omega)]
 dsimp only;rw[show(2*x+1)/2=x by omega,show(2*y+1)/2=y by omega]
theorem cellK(x y:Int)(k:Fin 8):zaa (2*x,2*y) k=[(x,y,0),(x,y,3),(x-1,y,1),(x-1,y,0),(x-1,y-1,2),(x-1,y-1,1),(x,y-1,3),(x,y-1,2)].getD k.val (0,0,0):=by
 rw[zd5 (by dsimp only;omega)]
 dsimp only;rw[show(2*x)/2=x by omega,show(2*y)/2=y by omega]
theorem okC(x y:Int){k:Fin 8}(h:k.val%2=1):okp (2*x+1,2*y+1) k:=.inr ⟨by dsimp only;omega,by dsimp only;omega,h⟩
theorem okK(x y:Int)(k:Fin 8):okp (2*x,2*y) k:=.inl ⟨by dsimp only;omega,by dsimp only;omega⟩
theorem zlx{c d:C3}(h:vq c)(hd:d∈nbs c):∃a k,okp a k/\c=zaa a k/\d=zaa a (k+7):=by
 obtain⟨x,y,h⟩:=vq4 h;rcases h with rfl|rfl|rfl|rfl
 ·rw[nbs0,mem3] at hd;rcases hd with rfl|rfl|rfl
  ·exact⟨_,3,okK (x+1) y 3,by rw[cellK];exact zaf (by omega) rfl rfl,by rw[cellK];exact zaf (by omega) rfl rfl⟩
  ·exact⟨_,5,okC x y rfl,by rw[zjs];rfl,by rw[zjs];rfl⟩
  ·exact⟨_,0,okK x y 0,by rw[cellK];rfl,by rw[cellK];rfl⟩
 ·rw[nbs1,mem3] at hd;rcases hd with rfl|rfl|rfl
  ·exact⟨_,5,okK (x+1) (y+1) 5,by rw[cellK];exact zaf (by omega) (by omega) rfl,by rw[cellK];exact zaf (by omega) (by omega) rfl⟩
  ·exact⟨_,7,okC x y rfl,by rw[zjs];rfl,by rw[zjs];rfl⟩
  ·exact⟨_,2,okK (x+1) y 2,by rw[cellK];exact zaf (by omega) rfl rfl,by rw[cellK];rfl⟩
 ·rw[nbs2,mem3] at hd;rcases hd with rfl|rfl|rfl
  ·exact⟨_,7,okK x (y+1) 7,by rw[cellK];exact zaf rfl (by omega) rfl,by rw[cellK];exact zaf rfl (by omega) rfl⟩
  ·exact⟨_,1,okC x y rfl,by rw[zjs];rfl,by rw[zjs];rfl⟩
  ·exact⟨_,4,okK (x+1) (y+1) 4,by rw[cellK];exact zaf (by omega) (by omega) rfl,by rw[cellK];exact zaf (by omega) rfl rfl⟩
 ·rw[nbs3,mem3] at hd;rcases hd with rfl|rfl|rfl
  ·exact⟨_,1,okK x y 1,by rw[cellK];rfl,by rw[cellK];rfl⟩
  ·exact⟨_,3,okC x y rfl,by rw[zjs];rfl,by rw[zjs];rfl⟩
  ·exact⟨_,6,okK x (y+1) 6,by rw[cellK];exact zaf rfl (by omega) rfl,by rw[cellK];exact zaf rfl (by omega) rfl⟩
def inB(X Y:Int)(c:C3):Prop:= -1<=c.1/\c.1<=X/\ -1<=c.2.1/\c.2.1<=Y/\vq c
theorem zl0{X Y:Int}{Q:C3->Prop}(st:∀c d,inB X Y c->inB X Y d->d∈nbs c->Q c->Q d){c0:C3}(h0:inB X Y c0)(q0:Q c0):∀c,inB X Y c->Q c:=by
 have v0:vq ((0,0,0):C3):=⟨by decide,by decide⟩
 have iB':∀{x y:Int}{q:Int},-1<=x->x<=X-> -1<=y->y<=Y->0<=q->q<=3->inB X Y (x,y,q):=fun a b c d e f=>⟨a,b,c,d,e,f⟩;have sq:∀x y,-1<=x->x<=X-> -1<=y->y<=Y->∀q,0<=q->q<=3->Q (x,y,q)->∀r,0<=r->r<=3->Q (x,y,r):=fun x y x1 x2 y1 y2 q q1 q2 hq=>by
  have s:∀{q r:Int},0<=q->q<=3->0<=r->r<=3->(x,y,r)∈nbs (x,y,q)->Q (x,y,q)->Q (x,y,r):=fun a b c d e f=>st _ _ (iB' x1 x2 y1 y2 a b) (iB' x1 x2 y1 y2 c d) e f;have h01:Q (x,y,0)->Q (x,y,1):=s (by decide) (by decide) (by decide) (by decide) (by rw[nbs0,mem3];exact .inl rfl)
  have h12:Q (x,y,1)->Q (x,y,2):=s (by decide) (by decide) (by decide) (by decide) (by rw[nbs1,mem3];exact .inl rfl)
  have h23:Q (x,y,2)->Q (x,y,3):=s (by decide) (by decide) (by decide) (by decide) (by rw[nbs2,mem3];exact .inl rfl)
  have h30:Q (x,y,3)->Q (x,y,0):=s (by decide) (by decide) (by decide) (by decide) (by rw[nbs3,mem3];exact .inl rfl)
  have q3:Q (x,y,3):=by
   rcases(by omega:q=0∨q=1∨q=2∨q=3) with rfl|rfl|rfl|rfl
   ·exact h23 (h12 (h01 hq))
   ·exact h23 (h12 hq)
   ·exact h23 hq
   ·exact hq
  intro r r1 r2;rcases(by omega:r=0∨r=1∨r=2∨r=3) with rfl|rfl|rfl|rfl
  ·exact h30 q3
  ·exact h01 (h30 q3)
  ·exact h12 (h01 (h30 q3))
  ·exact q3
 obtain⟨x0,y0,p0⟩:=c0;obtain⟨a1,a2,a3,a4,a5,a6⟩:=h0;dsimp only at a1 a2 a3 a4 a5 a6;have S0:=sq x0 y0 a1 a2 a3 a4 p0 a5 a6 q0;have E:∀n:Nat,x0+n<=X->∀r,0<=r->r<=3->Q (x0+n,y0,r):=fun n=>by
  induction n with
  |zero=>exact fun _=>by rw[show x0+((0:Nat):Int)=x0 by omega];exact S0
  |succ n ih=>
   intro h;have i:=ih (by omega) 1 (by decide) (by decide)
   refine sq _ y0 (by omega) (by omega) a3 a4 3 (by decide) (by decide) (st _ _ (iB' (by omega) (by omega) a3 a4 (by decide) (by decide)) (iB' (by omega) (by omega) a3 a4 (by decide) (by decide)) ?_ i)
   rw[nbs1,mem3];exact .inr (.inr (zaf (by omega) rfl rfl))
 have F:∀n:Nat,-1<=x0-n->∀r,0<=r->r<=3->Q (x0-n,y0,r):=fun n=>by
  induction n with
  |zero=>exact fun _=>by rw[show x0-((0:Nat):Int)=x0 by omega];exact S0
  |succ n ih=>
   intro h;have i:=ih (by omega) 3 (by decide) (by decide)
   refine sq _ y0 (by omega) (by omega) a3 a4 1 (by decide) (by decide) (st _ _ (iB' (by omega) (by omega) a3 a4 (by decide) (by decide)) (iB' (by omega) (by omega) a3 a4 (by decide) (by decide)) ?_ i)
   rw[nbs3,mem3];exact .inr (.inr (zaf (by omega) rfl rfl))
 have R:∀x,-1<=x->x<=X->∀r,0<=r->r<=3->Q (x,y0,r):=fun x x1 x2=>by
  rcases Db x0 x with z|z
  ·have:=E (x-x0).toNat (by omega)
   rw[show x0+((x-x0).toNat:Int)=x by omega] at this
   exact this
  ·have:=F (x0-x).toNat (by omega)
   rw[show x0-((x0-x).toNat:Int)=x by omega] at this
   exact this
 rintro⟨x,y,q⟩ ⟨b1,b2,b3,b4,b5,b6⟩;dsimp only at b1 b2 b3 b4 b5 b6;have E2:∀n:Nat,y0+n<=Y->∀r,0<=r->r<=3->Q (x,y0+n,r):=fun n=>by
  induction n with
  |zero=>exact fun _=>by rw[show y0+((0:Nat):Int)=y0 by omega];exact R x b1 b2
  |succ n ih=>
   intro h;have i:=ih (by omega) 2 (by decide) (by decide)
   refine sq x _ b1 b2 (by omega) (by omega) 0 (by decide) (by decide) (st _ _ (iB' b1 b2 (by omega) (by omega) (by decide) (by decide)) (iB' b1 b2 (by omega) (by omega) (by decide) (by decide)) ?_ i)
   rw[nbs2,mem3];exact .inr (.inr (zaf rfl (by omega) rfl))
 have F2:∀n:Nat,-1<=y0-n->∀r,0<=r->r<=3->Q (x,y0-n,r):=fun n=>by
  induction n with
  |zero=>exact fun _=>by rw[show y0-((0:Nat):Int)=y0 by omega];exact R x b1 b2
  |succ n ih=>
   intro h;have i:=ih (by omega) 0 (by decide) (by decide)
   refine sq x _ b1 b2 (by omega) (by omega) 2 (by decide) (by decide) (st _ _ (iB' b1 b2 (by omega) (by omega) (by decide) (by decide)) (iB' b1 b2 (by omega) (by omega) (by decide) (by decide)) ?_ i)
   rw[nbs0,mem3];exact .inr (.inr (zaf rfl (by omega) rfl))
 rcases Db y0 y with z|z
 ·have:=E2 (y-y0).toNat (by omega) q b5 b6
  rw[show y0+((y-y0).toNat:Int)=y by omega] at this
  exact this
 ·have:=F2 (y0-y).toNat (by omega) q b5 b6
  rw[show y0-((y0-y).toNat:Int)=y by omega] at this
  exact this
inductive Cn (S:C3->Prop) (c:C3):C3->Prop where
 |refl:S c->Cn S c c
 |step {d e}:Cn S c d->e∈nbs d->S e->Cn S c e
theorem Cn.trans{S:C3->Prop}{c d e:C3}(h:Cn S c d)(h':Cn S d e):Cn S c e:=by
 induction h' with
 |refl _=>exact h
 |step _ m s ih=>exact .step ih m s
theorem Cn.lst{S:C3->Prop}{c d:C3}(h:Cn S c d):S d:=by
 cases h with
 |refl s=>exact s
 |step _ _ s=>exact s
theorem Cn.symm{S:C3->Prop}(v:∀c,S c->vq c){c d:C3}(h:Cn S c d):Cn S d c:=by
 induction h with
 |refl s=>exact .refl s
 |step h m s ih=>exact Cn.trans (.step (.refl s) (zgx (v _ h.lst) m) h.lst) ih
theorem Cn.inv{S:C3->Prop}{α:Type}{f:C3->α}(k:∀c d,S c->S d->d∈nbs c->f d=f c){c d:C3}(h:Cn S c d):f d=f c:=by
 induction h with
 |refl _=>rfl
 |step h m s ih=>rw[k _ _ h.lst s m,ih]
theorem Cn.two{S:C3->Prop}{c d:C3}(hc:S c)(hd:S d)(m:d∈nbs c):Cn S c d:=.step (.refl hc) m hd
def dirE(e:E2):Fin 8:=if stp e.1 0=e.2 then 0 else if stp e.1 1=e.2 then 1 else if stp e.1 2=e.2 then 2 else if stp e.1 3=e.2 then 3 else if stp e.1 4=e.2 then 4 else if stp e.1 5=e.2 then 5 else if stp e.1 6=e.2 then 6 else 7
theorem zme(a:Int×Int)(k:Fin 8):dirE (a,stp a k)=k:=by
 have h:∀j,(stp a j=stp a k)=(j=k):=fun j=>propext ⟨zgt,fun z=>by rw[z]⟩
 unfold dirE;simp only[h];clear h
 revert k
 decide
def lfC(e:E2):C3:=zaa e.1 (dirE e)
def rtC(e:E2):C3:=zaa e.1 (dirE e+7)
theorem zgc(a:Int×Int)(k:Fin 8):lfC (a,stp a k)=zaa a k:=by unfold lfC;rw[zme]
theorem zh6(a:Int×Int)(k:Fin 8):rtC (a,stp a k)=zaa a (k+7):=by unfold rtC;rw[zme]
theorem rt_in{a:Int×Int}{k:Fin 8}(h:okp a k):rtC (a,stp a k)=zaa (stp a k) (k+4):=by rw[zh6,zfu h]
theorem lf_in{a:Int×Int}{k:Fin 8}(h:okp a k):lfC (a,stp a k)=zaa (stp a k) (k+4+7):=by
 have:=zfu (zgp.mpr h);rw[zey,f44] at this;rw[zgc,this]
section
variable{P:List C3}{es:List E2}
theorem Edg.at(E:Edg P es){a:Int×Int}{k:Fin 8}:(a,stp a k)∈es↔okp a k/\zaa a k∈P/\¬zaa a (k+7)∈P:=by
 rw[E];show Sd P (a,stp a k)/\¬Sd P (stp a k,a)↔_;rw[zhj,zg0];exact⟨fun⟨⟨h1,h2⟩,h3⟩=>⟨h1,h2,fun z=>h3 ⟨h1,z⟩⟩,fun⟨h1,h2,h3⟩=>⟨⟨h1,h2⟩,fun z=>h3 z.2⟩⟩
theorem Edg.bk(E:Edg P es){a:Int×Int}{k:Fin 8}:(stp a k,a)∈es↔okp a k/\zaa a (k+7)∈P/\¬zaa a k∈P:=by
 rw[E];show Sd P (stp a k,a)/\¬Sd P (a,stp a k)↔_;rw[zhj,zg0];exact⟨fun⟨⟨h1,h2⟩,h3⟩=>⟨h1,h2,fun z=>h3 ⟨h1,z⟩⟩,fun⟨h1,h2,h3⟩=>⟨⟨h1,h2⟩,fun z=>h3 z.2⟩⟩
theorem Edg.of(E:Edg P es){e:E2}(h:e∈es):∃a k,e=(a,stp a k)/\okp a k/\zaa a k∈P/\¬zaa a (k+7)∈P:=by
 obtain⟨k,hk⟩:=E.ray h;have e':e=(e.1,stp e.1 k):=QX rfl hk;rw[e'] at h;exact⟨e.1,k,e',E.at.mp h⟩
theorem Edg.okE(E:Edg P es){e:E2}(h:e∈es):okE e:=by
 obtain⟨a,k,e1,h1,_⟩:=E.of h;exact⟨a,k,h1,e1⟩
theorem Edg.lf(E:Edg P es){e:E2}(h:e∈es):lfC e∈P/\¬rtC e∈P:=by
 obtain⟨a,k,rfl,h1,h2,h3⟩:=E.of h;rw[zgc,zh6];exact⟨h2,h3⟩
end
theorem zit(v:Int×Int)(i:Fin 8):v.1/2-1<=(zaa v i).1/\(zaa v i).1<=v.1/2/\v.2/2-1<=(zaa v i).2.1/\(zaa v i).2.1<=v.2/2:=by
 have t:∀{a b c d:Int},a-1<=b->b<=a->c-1<=d->d<=c->a-1<=b/\b<=a/\c-1<=d/\d<=c:=fun h1 h2 h3 h4=>⟨h1,h2,h3,h4⟩
 by_cases h:v.1%2=0
 ·rw[zd5 h];rcases k8 i with rfl|rfl|rfl|rfl|rfl|rfl|rfl|rfl
  ·exact t (uC _ (by decide)) (uE _) (uC _ (by decide)) (uE _)
  ·exact t (uC _ (by decide)) (uE _) (uC _ (by decide)) (uE _)
  ·exact t (uE _) (uC _ (by decide)) (uC _ (by decide)) (uE _)
  ·exact t (uE _) (uC _ (by decide)) (uC _ (by decide)) (uE _)
  ·exact t (uE _) (uC _ (by decide)) (uE _) (uC _ (by decide))
  ·exact t (uE _) (uC _ (by decide)) (uE _) (uC _ (by decide))
  ·exact t (uC _ (by decide)) (uE _) (uE _) (uC _ (by decide))
  ·exact t (uC _ (by decide)) (uE _) (uE _) (uC _ (by decide))
 ·rw[zeg (by omega)]
  exact t (uC _ (by decide)) (uE _) (uC _ (by decide)) (uE _)
theorem arnd{X Y:Int}{v:Int×Int}{i j:Fin 8}(h:0<=(zaa v j).1/\(zaa v j).1<X/\0<=(zaa v j).2.1/\(zaa v j).2.1<Y):inB X Y (zaa v i):=by
 have a:=zit v i;have b:=zit v j;exact⟨by omega,by omega,by omega,by omega,zp5 _ _⟩
def ad8(i:Fin 8):Nat->Fin 8
 |0=>i
 |m+1=>ad8 i m+1
theorem p17:∀k:Fin 8,k+1+7=k:=by decide
theorem fan1{v:Int×Int}(h:ok v)(k:Fin 8):zaa v (k+7)=zaa v k∨zaa v (k+7)∈nbs (zaa v k):=by
 rcases h with h|h
 ·exact .inr (zo4 (.inl h))
 ·by_cases c:k.val%2=0
  ·exact .inl (zm6 h.1 c).symm
  ·exact .inr (zo4 (.inr ⟨h.1,h.2,by omega⟩))
theorem fan{S:C3->Prop}{v:Int×Int}(h:ok v)(i:Fin 8):∀n,(∀m,m<=n->S (zaa v (ad8 i m)))->Cn S (zaa v i) (zaa v (ad8 i n))
 |0,s=>.refl (s 0 (kG _))
 |n+1,s=>by
  have ih:=fan h i n fun m hm=>s m (by omega)
  have s1:=s (n+1) (kG _);have f:=fan1 h (ad8 i (n+1));have e:ad8 i (n+1)+7=ad8 i n:=p17 _;rw[e] at f;rcases f with f|f
  ·rw[←f];exact ih
  ·exact .step ih (zgx (zp5 _ _) f) s1
theorem fanV':∀b0 b1 b2 b3 b4 b5 b6 b7:Bool,∀i:Fin 8,iB (mkb b0 b1 b2 b3 b4 b5 b6 b7) i=true->∃n:Fin 8,(∀m:Fin 8,m<=n->mkb b0 b1 b2 b3 b4 b5 b6 b7 (ad8 i m.val)=false)/\oB (mkb b0 b1 b2 b3 b4 b5 b6 b7) (ad8 i n.val+1)=true:=by decide+kernel
theorem fanV{b:Fin 8->Bool}{i:Fin 8}(h:iB b i=true):∃n:Nat,(∀m,m<=n->b (ad8 i m)=false)/\oB b (ad8 i n+1)=true:=by
 rw[zmi b] at h⊢;obtain⟨n,h1,h2⟩:=fanV' _ _ _ _ _ _ _ _ i h;exact⟨n.val,fun m hm=>h1 ⟨m,by omega⟩ hm,h2⟩
theorem fanL':∀b0 b1 b2 b3 b4 b5 b6 b7:Bool,∀i j:Fin 8,iB (mkb b0 b1 b2 b3 b4 b5 b6 b7) i=true->oB (mkb b0 b1 b2 b3 b4 b5 b6 b7) j=true->(∀j',oB (mkb b0 b1 b2 b3 b4 b5 b6 b7) j'=true->rk i j<=rk i j')->∃n:Fin 8,(∀m:Fin 8,m<=n->mkb b0 b1 b2 b3 b4 b5 b6 b7 (ad8 j m.val)=true)/\ad8 j n.val=i+7:=by decide+kernel
theorem fanL{b:Fin 8->Bool}{i j:Fin 8}(h:iB b i=true)(h':oB b j=true)(k:∀j',oB b j'=true->rk i j<=rk i j'):∃n:Nat,(∀m,m<=n->b (ad8 j m)=true)/\ad8 j n=i+7:=by
 rw[zmi b] at h h' k⊢;obtain⟨n,h1,h2⟩:=fanL' _ _ _ _ _ _ _ _ i j h h' k;exact⟨n.val,fun m hm=>h1 ⟨m,by omega⟩ hm,h2⟩
theorem okp_ok{v:Int×Int}{k:Fin 8}(h:okp v k):ok v:=h.imp id fun z=>⟨z.1,z.2.1⟩
theorem zpz{a:Int×Int}{k:Fin 8}(h:okp a k):ok (stp a k):=okp_ok (zgp.mpr h)
section
variable{P:List C3}{es:List E2}
theorem sec_at{v:Int×Int}(h:ok v)(k:Fin 8):sec P v k=true↔zaa v k∈P:=by
 unfold sec;rw[decide_eq_true_iff];exact⟨fun z=>z.2,fun z=>⟨h,z⟩⟩
theorem Edg.void{S:C3->Prop}(E:Edg P es){e:E2}(h:e∈es)(hS:∀i,¬zaa e.2 i∈P->S (zaa e.2 i)):∃d,d∈es/\d.1=e.2/\Cn S (rtC e) (rtC d):=by
 obtain⟨a,k,rfl,h1,h2,h3⟩:=E.of h;have hv:=zpz h1;have i:iB (sec P (stp a k)) (k+4)=true:=by
  have:=(E.inn (a:=stp a k) (k:=k+4)).mp (by rw[zey];exact h)
  exact this
 obtain⟨n,f1,f2⟩:=fanV i;refine⟨(stp a k,stp (stp a k) (ad8 (k+4) n+1)),E.out.mpr f2,rfl,?_⟩;rw[rt_in h1,zh6,p17];exact fan hv (k+4) n fun m hm=>hS _ fun z=>by
  have:=f1 m hm;rw[(sec_at hv _).mpr z] at this
  cases this
theorem Edg.over(E:Edg P es){a:Int×Int}{k j:Fin 8}(h:(a,stp a k)∈es)(h':(stp a k,stp (stp a k) j)∈es)(m:∀j',oB (sec P (stp a k)) j'=true->rk (k+4) j<=rk (k+4) j'):Cn (fun c=>c∈P) (lfC (stp a k,stp (stp a k) j)) (lfC (a,stp a k)):=by
 obtain⟨h1,_⟩:=E.at.mp h;have hv:=zpz h1;have i:iB (sec P (stp a k)) (k+4)=true:=(E.inn (a:=stp a k) (k:=k+4)).mp (by rw[zey];exact h)
 obtain⟨n,f1,f2⟩:=fanL i (E.out.mp h') m;rw[lf_in h1,zgc,←f2];exact fan hv j n fun m hm=>(sec_at hv _).mp (f1 m hm)
end
def Chn{α:Type}:α->List (α×α)->α->Prop
 |a,[],b=>a=b
 |a,e::l,b=>e.1=a/\Chn e.2 l b
theorem Chn.su{φ:Int×Int->Int}:∀{l:List E2}{a b:Int×Int},Chn a l b->su (fun e=>φ e.2-φ e.1) l=φ b-φ a
 |[],a,b,h=>by
  have h:a=b:=h;rw[h];exact(CI _).symm
 |e::l,a,b,h=>by
  obtain⟨h1,h2⟩:=h;have:=Chn.su (φ:=φ) h2;show φ e.2-φ e.1+Mine.su _ l=_;rw[this,h1];omega
theorem Chn.clo{l:List E2}{a:Int×Int}(h:Chn a l a):Clo l:=fun φ=>by
 rw[h.su];omega
theorem ze4{e:E2}:∀{l:List E2},¬e∈l->ct e l=0
 |[],_=>rfl
 |x::l,h=>by
  show(if x=e then(1:Int) else 0)+ct e l=0
  rw[if_neg (fun z=>h (by rw[z];simp)),ze4 fun z=>h (kI _ z)]
  rfl
theorem zma{e:E2}:∀{l:List E2},l.Nodup->e∈l->ct e l=1
 |[],_,h=>by cases h
 |x::l,nd,h=>by
  obtain⟨n1,n2⟩:=Qj.mp nd;show(if x=e then(1:Int) else 0)+ct e l=1
  by_cases c:x=e
  ·rw[if_pos c,ze4 (by rw[←c];exact n1)]
   rfl
  ·rw[if_neg c,zma n2 ((kg.mp h).resolve_left fun z=>c z.symm)];rfl
theorem zh8{α:Type}(f:α->Int):∀l:List α,su (fun x=> -f x) l= -su f l
 |[]=>rfl
 |x::l=>by
  show-f x+su _ l= -(f x+su f l)
  rw[zh8 f l];omega
theorem su_le{α:Type}{f:α->Int}:∀{l:List α},(∀x,x∈l->f x<=0)->su f l<=0
 |[],_=>uE _
 |x::l,h=>by
  have a:=h x (by simp)
  have b:=su_le fun y hy=>h y (kI _ hy);show f x+su f l<=0;omega
theorem zge{α:Type}{f:α->Int}{x:α}:∀{l:List α},(∀x,x∈l->f x<=0)->x∈l->su f l<=f x
 |[],_,h=>by cases h
 |y::l,h,hx=>by
  have a:=h y (by simp)
  have h':=fun z hz=>h z (kI y hz);show f y+su f l<=f x;rcases kg.mp hx with z|z
  ·have:=su_le h';rw[z];omega
  ·have:=zge h' z;omega
theorem su_one{α:Type}{f:α->Int}{x y:α}:∀{l:List α},(∀z,z∈l->f z<=0)->su f l= -1->x∈l->y∈l->f x= -1->f y= -1->x=y
 |[],_,_,h,_,_,_=>by cases h
 |z::l,h,s,hx,hy,fx,fy=>by
  have s:f z+su f l= -1:=s;have h':=fun z' hz=>h z' (kI z hz);rcases kg.mp hx with a|a<;>rcases kg.mp hy with b|b
  ·rw[a,b]
  ·have:=zge h' b;rw[a] at fx;omega
  ·have:=zge h' a;rw[b] at fy;omega
  ·have z0:=h z (by simp)
   have:=zge h' a;exact su_one h' (by omega) a b fx fy
structure Lps(X Y:Int)(P:List C3)(es:List E2)(Ls:List (List E2)):Prop where
 edg:Edg P es
 nd:es.Nodup
 pm:Ls.flatten.Perm es
 ne:∀l,l∈Ls->l≠[]
 cyc:∀l,l∈Ls->∃a,Chn a l a
 one:∀l,l∈Ls->∀e e',e∈l->e'∈l->e.1=e'.1->e=e'
 inn:∀c,c∈P->0<=c.1/\c.1<X/\0<=c.2.1/\c.2.1<Y/\vq c
 con:∀c d,c∈P->d∈P->Cn (fun c=>c∈P) c d
 non:∃c,c∈P
theorem Chn.last:∀{l:List E2}{a b:Int×Int},Chn a l b->l≠[]->∃e,e∈l/\e.2=b
 |[],_,_,_,n=>absurd rfl n
 |[x],_,_,h,_=>⟨x,by simp,h.2⟩
 |x::y::l,a,b,h,_=>by
  obtain⟨e,h1,h2⟩:=Chn.last h.2 (by simp)
  exact⟨e,kI _ h1,h2⟩
def Vd(X Y:Int)(P:List C3)(c:C3):Prop:=inB X Y c/\¬c∈P
theorem Vd.sy{X Y:Int}{P:List C3}{c d:C3}(h:Cn (Vd X Y P) c d):Cn (Vd X Y P) d c:=h.symm fun _ z=>z.1.2.2.2.2
section
variable{X Y:Int}{P:List C3}{es:List E2}{Ls:List (List E2)}(L:Lps X Y P es Ls)
include L
theorem Lps.sub{l:List E2}(hl:l∈Ls){e:E2}(he:e∈l):e∈es:=L.pm.mem_iff.mp (uX.mpr ⟨l,hl,he⟩)
theorem Lps.ndl{l:List E2}(hl:l∈Ls):l.Nodup:=by
 have:=kK.mp (L.pm.nodup_iff.mpr L.nd);rw[uf] at this;exact kK.mpr (this.1 l hl)
theorem Lps.ok{l:List E2}(hl:l∈Ls):∀e,e∈l->okE e:=fun e he=>L.edg.okE (L.sub hl he)
theorem Lps.clo{l:List E2}(hl:l∈Ls):Clo l:=by
 obtain⟨a,h⟩:=L.cyc l hl;exact h.clo
theorem Lps.okA:∀e,e∈es->okE e:=fun e he=>L.edg.okE he
theorem Lps.cloA:Clo es:=fun φ=>by
 rw[←zg4 _ L.pm,zh0,zag (g:=fun _=>0) fun l hl=>L.clo hl φ,zfz]
theorem Lps.at{e:E2}(he:e∈es):∃l,l∈Ls/\e∈l:=uX.mp (L.pm.mem_iff.mpr he)
theorem Lps.sumW(c:C3):su (fun l=>Wd l c) Ls=Wd es c:=by
 unfold Wd Wp;rw[zh8,←zg4 _ L.pm,zh0]
theorem Lps.stay{l:List E2}(hl:l∈Ls){c d:C3}(hc:vq c)(m:d∈nbs c)(h:c∈P↔d∈P):Wd l d=Wd l c:=by
 obtain⟨a,k,h1,rfl,rfl⟩:=zlx hc m;have j:=jump (L.ok hl) (L.clo hl) h1;rw[ze4 (fun z=>by obtain⟨_,x,y⟩:=L.edg.at.mp (L.sub hl z);exact y (h.mp x)),ze4 (fun z=>by obtain⟨_,x,y⟩:=L.edg.bk.mp (L.sub hl z);exact y (h.mpr x))] at j
 omega
theorem Lps.vP{c:C3}(h:c∈P):vq c:=(L.inn c h).2.2.2.2
theorem Lps.onP{l:List E2}(hl:l∈Ls){c d:C3}(hc:c∈P)(hd:d∈P):Wd l d=Wd l c:=(L.con c d hc hd).inv fun c d h1 h2 m=>L.stay hl (L.vP h1) m ⟨fun _=>h2,fun _=>h1⟩
theorem Lps.offP{l:List E2}(hl:l∈Ls){c d:C3}(h:Cn (Vd X Y P) c d):Wd l d=Wd l c:=h.inv fun c d h1 h2 m=>L.stay hl h1.1.2.2.2.2 m ⟨fun z=>absurd z h1.2,fun z=>absurd z h2.2⟩
theorem Lps.drop{l:List E2}(hl:l∈Ls){e:E2}(he:e∈l):Wd l (lfC e)=Wd l (rtC e)+1:=by
 obtain⟨a,k,rfl,h1,h2,h3⟩:=L.edg.of (L.sub hl he);rw[zgc,zh6];have j:=jump (L.ok hl) (L.clo hl) h1;rw[zma (L.ndl hl) he,ze4 (fun z=>h3 (L.edg.bk.mp (L.sub hl z)).2.1)] at j;omega
theorem Lps.rt{l:List E2}(hl:l∈Ls){e:E2}(he:e∈l){c:C3}(hc:c∈P):Wd l (rtC e)=Wd l c-1:=by
 have:=L.drop hl he;have:=L.onP hl hc (L.edg.lf (L.sub hl he)).1;omega
theorem Lps.two{l:List E2}(hl:l∈Ls){c0:C3}(h0:c0∈P):∀c,inB X Y c->Wd l c=Wd l c0∨Wd l c=Wd l c0-1:=by
 refine zl0 (Q:=fun c=>Wd l c=Wd l c0∨Wd l c=Wd l c0-1) (fun c d hc hd m q=>?_) (c0:=c0) (by obtain⟨a,b,c,d,e⟩:=L.inn c0 h0;exact⟨by omega,by omega,by omega,by omega,e⟩) (.inl rfl)
 obtain⟨a,k,h1,rfl,rfl⟩:=zlx hc.2.2.2.2 m
 by_cases x:(a,stp a k)∈l
 ·have:=L.rt hl x h0;rw[zh6] at this;exact .inr this
 ·by_cases y:(stp a k,a)∈l
  ·have:=L.onP hl h0 (L.edg.bk.mp (L.sub hl y)).2.1;exact .inl this
  ·have j:=jump (L.ok hl) (L.clo hl) h1;rw[ze4 x,ze4 y] at j;omega
theorem Lps.sum1{c0:C3}(h0:c0∈P):∀c,inB X Y c->Wd es c=Wd es c0-if c∈P then 0 else 1:=by
 refine zl0 (Q:=fun c=>Wd es c=Wd es c0-if c∈P then 0 else 1) (fun c d hc hd m q=>?_) (c0:=c0) (by obtain⟨a,b,c,d,e⟩:=L.inn c0 h0;exact⟨by omega,by omega,by omega,by omega,e⟩) (by rw[if_pos h0];omega)
 obtain⟨a,k,h1,rfl,rfl⟩:=zlx hc.2.2.2.2 m;have j:=jump L.okA L.cloA h1
 by_cases x:zaa a k∈P<;>by_cases y:zaa a (k+7)∈P
 ·rw[ze4 (fun z=>(L.edg.at.mp z).2.2 y),ze4 (fun z=>(L.edg.bk.mp z).2.2 x)] at j;rw[if_pos x] at q;rw[if_pos y];omega
 ·rw[zma L.nd (L.edg.at.mpr ⟨h1,x,y⟩),ze4 (fun z=>(L.edg.bk.mp z).2.2 x)] at j;rw[if_pos x] at q;rw[if_neg y];omega
 ·rw[ze4 (fun z=>x (L.edg.at.mp z).2.1),zma L.nd (L.edg.bk.mpr ⟨h1,y,x⟩)] at j;rw[if_neg x] at q;rw[if_pos y];omega
 ·rw[ze4 (fun z=>x (L.edg.at.mp z).2.1),ze4 (fun z=>y (L.edg.bk.mp z).2.1)] at j;rw[if_neg x] at q;rw[if_neg y];omega
theorem Lps.uniq{c0 c:C3}(h0:c0∈P)(hc:inB X Y c)(n:¬c∈P){l l':List E2}(hl:l∈Ls)(hl':l'∈Ls)(w:Wd l c=Wd l c0-1)(w':Wd l' c=Wd l' c0-1):l=l':=by
 have s:su (fun l=>Wd l c-Wd l c0) Ls= -1:=by
  rw[zdu,L.sumW,L.sumW,L.sum1 h0 c hc,if_neg n];omega
 exact su_one (f:=fun l=>Wd l c-Wd l c0) (fun l hl=>by rcases L.two hl h0 c hc with z|z<;>omega) s hl hl' (by omega) (by omega)
theorem Lps.rtB{e:E2}(he:e∈es):inB X Y (rtC e):=by
 obtain⟨a,k,rfl,h1,h2,h3⟩:=L.edg.of he;rw[zh6];have:=L.inn _ h2;exact arnd (j:=k) ⟨this.1,this.2.1,this.2.2.1,this.2.2.2.1⟩
theorem Lps.void{e:E2}(he:e∈es):∃d,d∈es/\d.1=e.2/\Cn (Vd X Y P) (rtC e) (rtC d):=by
 refine L.edg.void he fun i n=>⟨?_,n⟩;obtain⟨a,k,rfl,h1,h2,h3⟩:=L.edg.of he;have e1:=lf_in h1;rw[zgc] at e1;have:=L.inn _ h2;rw[e1] at this;exact arnd ⟨this.1,this.2.1,this.2.2.1,this.2.2.2.1⟩
theorem Lps.apart{l l':List E2}(hl:l∈Ls)(hl':l'∈Ls){e e':E2}(he:e∈l)(he':e'∈l')(h:Cn (Vd X Y P) (rtC e) (rtC e')):l=l':=by
 obtain⟨c0,h0⟩:=L.non;refine L.uniq h0 (L.rtB (L.sub hl' he')) (L.edg.lf (L.sub hl' he')).2 hl hl' ?_ (L.rt hl' he' h0);rw[L.offP hl h];exact L.rt hl he h0
theorem Lps.near{l:List E2}(hl:l∈Ls){e e':E2}(he:e∈l)(he':e'∈l)(h:e'.1=e.2):Cn (Vd X Y P) (rtC e) (rtC e'):=by
 obtain⟨d,hd,d1,cn⟩:=L.void (L.sub hl he);obtain⟨l',hl',dm⟩:=L.at hd;have:=L.apart hl hl' he dm cn;subst this;rw[L.one l hl e' d he' dm (h.trans d1.symm)];exact cn
theorem Lps.chain{l:List E2}(hl:l∈Ls):∀{m:List E2}{a b:Int×Int},(∀e,e∈m->e∈l)->Chn a m b->∀{e:E2},e∈l->e.2=a->∀d,d∈m->Cn (Vd X Y P) (rtC e) (rtC d)
 |[],_,_,_,_,_,_,_,d,hd=>by cases hd
 |x::m,a,b,s,ch,e,he,ea,d,hd=>by
  have c1:=L.near hl he (s x (by simp)) (by rw[ch.1,ea])
  rcases kg.mp hd with z|z
  ·rw[z];exact c1
  ·exact c1.trans (Lps.chain hl (fun e he=>s e (kI _ he)) ch.2 (s x (by simp)) rfl d z)
theorem Lps.round{l:List E2}(hl:l∈Ls){e e':E2}(he:e∈l)(he':e'∈l):Cn (Vd X Y P) (rtC e) (rtC e'):=by
 obtain⟨a,h⟩:=L.cyc l hl;obtain⟨z,hz,z2⟩:=Chn.last h (L.ne l hl);have k:=L.chain hl (fun _ q=>q) h hz z2;exact(Vd.sy (k e he)).trans (k e' he')
theorem Lps.reach:∀c,inB X Y c->c∈P∨∃e,e∈es/\Cn (Vd X Y P) (rtC e) c:=by
 obtain⟨c0,h0⟩:=L.non;refine zl0 (Q:=fun c=>c∈P∨∃e,e∈es/\Cn (Vd X Y P) (rtC e) c) (fun c d hc hd m q=>?_) (c0:=c0) (by obtain⟨a,b,c,d,e⟩:=L.inn c0 h0;exact⟨by omega,by omega,by omega,by omega,e⟩) (.inl h0)
 by_cases n:d∈P
 ·exact .inl n
 ·rcases q with q|⟨e,he,cn⟩
  ·obtain⟨a,k,h1,rfl,rfl⟩:=zlx hc.2.2.2.2 m;refine .inr ⟨(a,stp a k),L.edg.at.mpr ⟨h1,q,n⟩,?_⟩;rw[zh6];exact .refl ⟨hd,n⟩
  ·exact .inr ⟨e,he,.step cn m ⟨hd,n⟩⟩
end
theorem zpr{α β:Type}[DecidableEq β]{A:List α}{B:List β}{R:α->β->Prop}(nd:A.Nodup)(t:∀a,a∈A->∃b,b∈B/\R a b)(i:∀a a' b,a∈A->a'∈A->R a b->R a' b->a=a'):A.length<=B.length:=by
 induction A generalizing B with
 |nil=>exact pY _
 |cons a A ih=>
  obtain⟨n1,n2⟩:=Qj.mp nd;obtain⟨b,hb,r⟩:=t a (by simp)
  have:=ih (B:=B.erase b) n2 (fun x hx=>by
   obtain⟨y,hy,s⟩:=t x (kI _ hx);refine⟨y,(BT fun z=>n1 ?_).mpr hy,s⟩;rw[z] at s;rw[i a x b (by simp) (kI _ hx) r s]
   exact hx) fun x y z hx hy=>i x y z (kI _ hx) (kI _ hy)
  rw[AB hb] at this;have:=jM hb;rw[pJ];omega
structure Prt(S:C3->Prop)(Ps:List (List C3)):Prop where
 all:∀c,S c↔∃p,p∈Ps/\c∈p
 ne:∀p,p∈Ps->∃c,c∈p
 con:∀p,p∈Ps->∀c d,c∈p->d∈p->Cn S c d
 sep:∀p,p∈Ps->∀c d,c∈p->S d->d∈nbs c->d∈p
 dis:Ps.Pairwise fun p q=>∀c,c∈p->¬c∈q
theorem Prt.cn{S:C3->Prop}{Ps:List (List C3)}(h:Prt S Ps){p:List C3}(hp:p∈Ps){c d:C3}(k:Cn S c d)(hc:c∈p):d∈p:=by
 induction k with
 |refl _=>exact hc
 |step k m s ih=>exact h.sep p hp _ _ ih s m
theorem Prt.conI{S:C3->Prop}{Ps:List (List C3)}(h:Prt S Ps){p:List C3}(hp:p∈Ps){c d:C3}(hc:c∈p)(hd:d∈p):Cn (fun c=>c∈p) c d:=by
 have k:=h.con p hp c d hc hd;clear hd
 induction k with
 |refl _=>exact .refl hc
 |step k m s ih=>exact .step ih m (h.sep p hp _ _ ih.lst s m)
theorem Prt.one{S:C3->Prop}{Ps:List (List C3)}(h:Prt S Ps){p q:List C3}(hp:p∈Ps)(hq:q∈Ps){c:C3}(cp:c∈p)(cq:c∈q):p=q:=by
 have d:=h.dis;clear h
 induction Ps with
 |nil=>cases hp
 |cons x Ps ih=>
  obtain⟨d1,d2⟩:=List.pairwise_cons.mp d;rcases kg.mp hp with a|a<;>rcases kg.mp hq with b|b
  ·rw[a,b]
  ·rw[a] at cp;exact absurd cq (d1 q b c cp)
  ·rw[b] at cq;exact absurd cp (d1 p a c cq)
  ·exact ih a b d2
theorem Prt.nd{S:C3->Prop}{Ps:List (List C3)}(h:Prt S Ps):Ps.Nodup:=by
 refine kK.mpr (h.dis.imp_of_mem fun{p q} hp hq d z=>?_);obtain⟨c,hc⟩:=h.ne p hp;exact d c hc (by rw[←z];exact hc)
section
variable{X Y:Int}{P:List C3}{es:List E2}{Ls:List (List E2)}(L:Lps X Y P es Ls)
include L
theorem Lps.ndL:Ls.Nodup:=by
 have:=kK.mp (L.pm.nodup_iff.mpr L.nd);rw[uf] at this;refine kK.mpr (this.2.imp_of_mem fun{p q} hp hq d z=>?_);obtain⟨x,l,e⟩:=Qh (L.ne p hp);have hx:x∈p:=by rw[e];simp
 exact d x hx x (by rw[←z];exact hx) rfl
theorem Lps.count{Qs:List (List C3)}(h:Prt (Vd X Y P) Qs):Qs.length=Ls.length:=by
 have first:∀l,l∈Ls->∃e,e∈l:=fun l hl=>by
  obtain⟨x,l',e⟩:=Qh (L.ne l hl);exact⟨x,by rw[e];simp⟩
 have vd:∀{l e},l∈Ls->e∈l->Vd X Y P (rtC e):=fun hl he=>⟨L.rtB (L.sub hl he),(L.edg.lf (L.sub hl he)).2⟩
 apply Cu
 ·refine zpr (R:=fun q l=>l∈Ls/\∃e c,e∈l/\c∈q/\Cn (Vd X Y P) (rtC e) c) h.nd (fun q hq=>?_) fun q q' l hq hq'⟨hl,e,c,e1,e2,e3⟩⟨_,e',c',f1,f2,f3⟩=>?_
  ·obtain⟨c,hc⟩:=h.ne q hq;have v:=(h.all c).mpr ⟨q,hq,hc⟩;rcases L.reach c v.1 with z|⟨e,he,k⟩
   ·exact absurd z v.2
   ·obtain⟨l,hl,hel⟩:=L.at he;exact⟨l,hl,hl,e,c,hel,hc,k⟩
  ·refine h.one hq hq' (h.cn hq ?_ e2) f2;exact(Vd.sy e3).trans ((L.round hl e1 f1).trans f3)
 ·refine zpr (R:=fun l q=>∃e,e∈l/\q∈Qs/\rtC e∈q) L.ndL (fun l hl=>?_) fun l l' q hl hl'⟨e,e1,e2,e3⟩⟨e',f1,f2,f3⟩=>?_
  ·obtain⟨e,he⟩:=first l hl
   obtain⟨q,hq,hc⟩:=(h.all _).mp (vd hl he);exact⟨q,hq,e,he,hq,hc⟩
  ·exact L.apart hl hl' e1 f1 (h.con q e2 _ _ e3 f3)
theorem Lps.pos{e:E2}(he:e∈es):(0<=e.1.1/\e.1.1<=2*X+1/\0<=e.1.2/\e.1.2<=2*Y+1)/\(0<=e.2.1/\e.2.1<=2*X+1/\0<=e.2.2/\e.2.2<=2*Y+1):=by
 obtain⟨a,k,rfl,h1,h2,h3⟩:=L.edg.of he;have e1:=lf_in h1;rw[zgc] at e1;have i:=L.inn _ h2;have b1:=zit a k;rw[e1] at i;have b2:=zit (stp a k) (k+4+7);rw[←e1] at i b2;dsimp only;omega
theorem Lps.far{l:List E2}(hl:∀e,e∈l->e∈es):Wd l (-1,-1,3)=0:=by
 show-su (fun e=>wst e (2* -1) (8* -1+1)) l=0
 rw[zag (g:=fun _=>0) fun e he=>?_,zfz]
 ·rfl
 ·have p:=L.pos (hl e he);unfold wst Uc mid;rw[if_neg (fun z=>by omega),if_neg (fun z=>by have:=z.2;unfold rv at this;dsimp only at this;omega)]
  rfl
theorem Lps.farB:inB X Y (-1,-1,3)/\¬((-1,-1,3):C3)∈P:=by
 obtain⟨c,hc⟩:=L.non;have:=L.inn c hc;refine⟨⟨by decide,by dsimp only;omega,by decide,by dsimp only;omega,vq3 _ _ 3 (by decide) (by decide)⟩,fun z=>?_⟩
 have:=(L.inn _ z).1;dsimp only at this;omega
theorem Lps.w01{l:List E2}(hl:l∈Ls){c0:C3}(h0:c0∈P):Wd l c0=0∨Wd l c0=1:=by
 have a:=L.two hl h0 _ L.farB.1;rw[L.far fun e he=>L.sub hl he] at a;omega
theorem Lps.w1{c0:C3}(h0:c0∈P):su (fun l=>Wd l c0) Ls=1:=by
 have a:=L.sum1 h0 _ L.farB.1;rw[if_neg L.farB.2,L.far fun e he=>he] at a;rw[L.sumW];omega
end
def crs(e:E2):Int:=e.1.1*e.2.2-e.2.1*e.1.2
def lace(l:List E2):Int:=su crs l
theorem zl5{α β:Type}(g:α->β->Int)(is:List α):∀l:List β,su (fun i=>su (fun e=>g i e) l) is=su (fun e=>su (fun i=>g i e) is) l
 |[]=>zfz is
 |e::l=>by
  show su (fun i=>g i e+su (fun e=>g i e) l) is=su (fun i=>g i e) is+su (fun e=>su (fun i=>g i e) is) l
  rw[zm4,zl5 g is l]
theorem cnt{lo hi:Int}(h0:0<=lo)(h:lo<=hi):∀n:Nat,su (fun i:Nat=>if lo<=(i:Int)/\(i:Int)<hi then 1 else 0) (kc n)=if(n:Int)<=lo then 0 else if(n:Int)<=hi then n-lo else hi-lo
 |0=>by
  rw[if_pos (by omega)]
  rfl
 |n+1=>by
  rw[um,zgb,cnt h0 h n];show _+((if lo<=(n:Int)/\(n:Int)<hi then 1 else 0)+0)=_;rw[Qg]
  by_cases a:((n+1:Nat):Int)<=lo
  ·rw[if_pos a,if_pos (by omega),if_neg (by omega)]
   rfl
  ·rw[if_neg a]
   by_cases b:((n+1:Nat):Int)<=hi
   ·rw[if_pos b]
    by_cases c:(n:Int)<=lo
    ·rw[if_pos c,if_pos (by omega)]
     omega
    ·rw[if_neg c,if_pos (show(n:Int)<=hi by omega),if_pos (by omega)]
     omega
   ·rw[if_neg b,if_neg (show ¬(lo<=(n:Int)/\(n:Int)<hi) by omega)]
    by_cases c:(n:Int)<=lo
    ·rw[if_pos c];omega
    ·rw[if_neg c]
     by_cases d:(n:Int)<=hi
     ·rw[if_pos d];omega
     ·rw[if_neg d];omega
theorem zny{lo hi:Int}(h0:0<=lo)(h:lo<=hi){n:Nat}(hn:hi<=n):su (fun i:Nat=>if lo<=(i:Int)/\(i:Int)<hi then 1 else 0) (kc n)=hi-lo:=by
 rw[cnt h0 h]
 by_cases a:(n:Int)<=lo
 ·rw[if_pos a];omega
 ·rw[if_neg a]
  by_cases b:(n:Int)<=hi
  ·rw[if_pos b];omega
  ·rw[if_neg b]
theorem uc_j{e:E2}{r:Int}{T:Nat}(h1: -8<=mid e)(h2:mid e<=T-8):su (fun j:Nat=>Uc e r ((j:Int)-7)) (kc T)=(T-(mid e+8))*(if up e r then 1 else 0):=by
 by_cases u:up e r
 ·rw[if_pos u,Ci,←zny (lo:=mid e+8) (hi:=T) (n:=T) (by omega) (by omega) (uE _)]
  refine zag fun j hj=>?_;have:=kx.mp hj;unfold Uc
  by_cases c:mid e<(j:Int)-7
  ·rw[if_pos ⟨u,c⟩,if_pos ⟨by omega,by omega⟩]
  ·rw[if_neg (fun z=>c z.2),if_neg (by omega)]
 ·rw[if_neg u,UU,zag (g:=fun _=>0) fun j _=>?_,zfz];unfold Uc;exact if_neg fun z=>u z.1
def rise(e:E2):Int:=if e.1.2<e.2.2 then e.2.2-e.1.2 else 0
theorem up_i{e:E2}{R:Nat}(h1: -2<=e.1.2)(h2:e.2.2<=R-2):su (fun i:Nat=>if up e ((i:Int)-2) then(1:Int) else 0) (kc R)=rise e:=by
 unfold rise
 by_cases c:e.1.2<e.2.2
 ·rw[if_pos c,show e.2.2-e.1.2=(e.2.2+2)-(e.1.2+2) by omega,←zny (lo:=e.1.2+2) (hi:=e.2.2+2) (n:=R) (by omega) (by omega) (by omega)]
  refine zag fun i _=>?_
  by_cases d:up e ((i:Int)-2)
  ·rw[if_pos d,if_pos (by obtain⟨d1,d2⟩:=d;omega)]
  ·rw[if_neg d,if_neg (fun z=>d ⟨by omega,by omega⟩)]
 ·rw[if_neg c,zag (g:=fun _=>0) fun i _=>?_,zfz];exact if_neg fun⟨d1,d2⟩=>by omega
theorem uc_ij{e:E2}{R T:Nat}(h1: -8<=mid e)(h2:mid e<=T-8)(h3: -2<=e.1.2)(h4:e.2.2<=R-2):su (fun i:Nat=>su (fun j:Nat=>Uc e ((i:Int)-2) ((j:Int)-7)) (kc T)) (kc R)=(T-(mid e+8))*rise e:=by
 rw[zag fun i _=>uc_j h1 h2,zhx,up_i h3 h4]
theorem crs_mid(e:E2):(e.2.2-e.1.2)*mid e=2*crs e+(2*(e.2.1*e.2.2)-2*(e.1.1*e.1.2)):=by
 obtain⟨⟨a,b⟩,⟨c,d⟩⟩:=e;unfold mid crs;dsimp only;rw[jN,Dk,vL,vL,uh d a,uh d c,uh b a,uh b c];omega
theorem edge_ij{e:E2}{R T:Nat}(h1: -8<=mid e)(h2:mid e<=T-8)(h3: -2<=e.1.2)(h4:e.2.2<=R-2)(h5: -2<=e.2.2)(h6:e.1.2<=R-2):su (fun i:Nat=>su (fun j:Nat=>wst e ((i:Int)-2) ((j:Int)-7)) (kc T)) (kc R)=(T-8)*(e.2.2-e.1.2)-(2*crs e+(2*(e.2.1*e.2.2)-2*(e.1.1*e.1.2))):=by
 have mm:mid (rv e)=mid e:=by unfold mid rv;dsimp only;omega
 have a:=uc_ij h1 h2 h3 h4;have b:=uc_ij (e:=rv e) (R:=R) (T:=T) (by rw[mm];exact h1) (by rw[mm];exact h2) h5 h6
 rw[mm] at b;unfold wst;rw[zag fun i _=>zdu _ _ _,zdu,a,b,←crs_mid,←Dl];have r:rise e-rise (rv e)=e.2.2-e.1.2:=by
  unfold rise rv;dsimp only
  by_cases c:e.1.2<e.2.2
  ·rw[if_pos c,if_neg (by omega)]
   omega
  ·rw[if_neg c]
   by_cases d:e.2.2<e.1.2
   ·rw[if_pos d];omega
   ·rw[if_neg d];omega
 rw[r,uh _ (mid e),←Dk,show(T:Int)-(mid e+8)=T-8-mid e by omega]
theorem lace_ij{l:List E2}(cl:Clo l){R T:Nat}(h:∀e,e∈l-> -8<=mid e/\mid e<=T-8/\ -2<=e.1.2/\e.2.2<=R-2/\ -2<=e.2.2/\e.1.2<=R-2):2*lace l=su (fun i:Nat=>su (fun j:Nat=>Wp l ((i:Int)-2) ((j:Int)-7)) (kc T)) (kc R):=by
 have a:su (fun i:Nat=>su (fun j:Nat=>Wp l ((i:Int)-2) ((j:Int)-7)) (kc T)) (kc R)= -su (fun e=>su (fun i:Nat=>su (fun j:Nat=>wst e ((i:Int)-2) ((j:Int)-7)) (kc T)) (kc R)) l:=by
  unfold Wp;rw[zag fun i _=>zh8 _ _,zh8,zag fun(i:Nat) _=>zl5 (fun(j:Nat) e=>wst e ((i:Int)-2) ((j:Int)-7)) (kc T) l,zl5 (fun(i:Nat) e=>su (fun j:Nat=>wst e ((i:Int)-2) ((j:Int)-7)) (kc T)) (kc R) l]
 rw[a,zag fun e he=>by obtain⟨h1,h2,h3,h4,h5,h6⟩:=h e he;exact edge_ij h1 h2 h3 h4 h5 h6,zdu,zhx,cl fun v=>v.2,zm4,zhx,cl fun v=>2*(v.1*v.2)]
 unfold lace;omega
theorem zio{l:List E2}{r t t':Int}(ht:t<=t')(n:∀e,e∈l->e.1.2≠e.2.2->¬(t<=mid e/\mid e<t')):Wp l r t=Wp l r t':=by
 unfold Wp;rw[zag fun e he=>?_];have u:∀e:E2,(e.1.2≠e.2.2->¬(t<=mid e/\mid e<t'))->Uc e r t=Uc e r t':=fun e n=>by
  unfold Uc
  by_cases d:up e r
  ·have n:=n (by obtain⟨d1,d2⟩:=d;omega)
   by_cases c:mid e<t
   ·rw[if_pos ⟨d,c⟩,if_pos ⟨d,by omega⟩]
   ·rw[if_neg (fun z=>c z.2),if_neg (fun z=>n ⟨by omega,z.2⟩)]
  ·rw[if_neg (fun z=>d z.1),if_neg (fun z=>d z.1)]
 have mm:mid (rv e)=mid e:=by unfold mid rv;dsimp only;omega
 unfold wst;rw[u e (n e he),u (rv e) (by rw[mm];exact fun z=>n e he fun q=>z q.symm)]
theorem mid8{e:E2}(h:okE e)(n:e.1.2≠e.2.2):mid e%8=0∨mid e%8=2∨mid e%8=6:=by
 unfold mid;rcases h.ar with⟨a,b,c|c|c|c⟩|⟨a|a,c|c|c|c⟩<;>omega
theorem pt_cell{X Y:Int}{l:List E2}(ok:∀e,e∈l->okE e)(cl:Clo l){r t:Int}(h1: -2<=r)(h2:r<=2*Y+1)(h3: -7<=t)(h4:t<=8*X+8):∃c,inB X Y c/\Wp l r t=Wd l c:=by
 obtain⟨x,hx⟩:∃x,x=(t-1)/8:=⟨_,rfl⟩;obtain⟨y,hy⟩:∃y,y=r/2:=⟨_,rfl⟩;have x1: -1<=x:=by omega
 have x2:x<=X:=by omega
 have y1: -1<=y:=by omega
 have y2:y<=Y:=by omega
 have B:∀q,0<=q->q<=3->inB X Y (x,y,q):=fun q a b=>⟨x1,x2,y1,y2,a,b⟩;have m8:∀e,e∈l->e.1.2≠e.2.2->mid e%8=0∨mid e%8=2∨mid e%8=6:=fun e he=>mid8 (ok e he);have s1:t<=8*x+2->Wp l r t=Wp l r (8*x+1):=fun z=>(zio (by omega) fun e he q=>by have:=m8 e he q;omega).symm
 have s2:8*x+3<=t->t<=8*x+6->Wp l r t=Wp l r (8*x+4):=fun z z'=>by
  rw[←zio (t:=8*x+3) (by omega) fun e he q=>by have:=m8 e he q;omega]
  exact zio (by omega) fun e he q=>by have:=m8 e he q;omega
 have s3:8*x+7<=t->Wp l r t=Wp l r (8*x+7):=fun z=>(zio (by omega) fun e he q=>by have:=m8 e he q;omega).symm
 rcases(by omega:r=2*y∨r=2*y+1) with e|e
 ·rcases(by omega:t<=8*x+2∨(8*x+3<=t/\t<=8*x+6)∨8*x+7<=t) with z|⟨z,z'⟩|z
  ·exact⟨_,B 3 (by decide) (by decide),by rw[s1 z,wd3,e]⟩
  ·exact⟨_,B 0 (by decide) (by decide),by rw[s2 z z',wd0,e]⟩
  ·exact⟨_,B 1 (by decide) (by decide),by rw[s3 z,wd1,e]⟩
 ·rcases(by omega:t<=8*x+2∨(8*x+3<=t/\t<=8*x+6)∨8*x+7<=t) with z|⟨z,z'⟩|z
  ·exact⟨_,B 3 (by decide) (by decide),by rw[s1 z,wd3,e,wp_v1 ok cl (.inl rfl)]⟩
  ·exact⟨_,B 2 (by decide) (by decide),by rw[s2 z z',wd2,e]⟩
  ·exact⟨_,B 1 (by decide) (by decide),by rw[s3 z,wd1,e,wp_v1 ok cl (.inr rfl)]⟩
theorem cell_pt{X Y:Int}{c:C3}(h:inB X Y c):(-2<=rowC c/\rowC c<=2*Y+1)/\ -7<=posC c/\posC c<=8*X+8:=by
 obtain⟨h1,h2,h3,h4,v⟩:=h;unfold rowC posC;obtain⟨x,y,h⟩:=vq4 v;rcases h with rfl|rfl|rfl|rfl
 ·show(-2<=2*y/\2*y<=_)/\ -7<=8*x+4/\8*x+4<=_
  dsimp only at h1 h2 h3 h4;omega
 ·show(-2<=2*y/\2*y<=_)/\ -7<=8*x+7/\8*x+7<=_
  dsimp only at h1 h2 h3 h4;omega
 ·show(-2<=2*y+1/\2*y+1<=_)/\ -7<=8*x+4/\8*x+4<=_
  dsimp only at h1 h2 h3 h4;omega
 ·show(-2<=2*y/\2*y<=_)/\ -7<=8*x+1/\8*x+1<=_
  dsimp only at h1 h2 h3 h4;omega
section
variable{X Y:Int}{P:List C3}{es:List E2}{Ls:List (List E2)}(L:Lps X Y P es Ls)
include L
theorem Lps.lace2{l:List E2}(hl:l∈Ls):2*lace l=su (fun i:Nat=>su (fun j:Nat=>Wp l ((i:Int)-2) ((j:Int)-7)) (kc (8*X+16).toNat)) (kc (2*Y+4).toNat):=by
 obtain⟨c,hc⟩:=L.non;have i:=L.inn c hc;refine lace_ij (L.clo hl) fun e he=>?_;have p:=L.pos (L.sub hl he);unfold mid;omega
theorem Lps.wp{l:List E2}(hl:l∈Ls){i j:Nat}(hi:i∈kc (2*Y+4).toNat)(hj:j∈kc (8*X+16).toNat):∃c,inB X Y c/\Wp l ((i:Int)-2) ((j:Int)-7)=Wd l c:=by
 have:=kx.mp hi;have:=kx.mp hj;exact pt_cell (L.ok hl) (L.clo hl) (by omega) (by omega) (by omega) (by omega)
theorem Lps.pw{c:C3}(h:inB X Y c):∃i j:Nat,i∈kc (2*Y+4).toNat/\j∈kc (8*X+16).toNat/\(i:Int)-2=rowC c/\(j:Int)-7=posC c:=by
 obtain⟨⟨h1,h2⟩,h3,h4⟩:=cell_pt h;exact⟨(rowC c+2).toNat,(posC c+7).toNat,kx.mpr (by omega),kx.mpr (by omega),by omega,by omega⟩
theorem Lps.neg{l:List E2}(hl:l∈Ls){c0:C3}(h0:c0∈P)(w:Wd l c0=0):lace l<0:=by
 have s:=L.lace2 hl;obtain⟨e,m,he⟩:=Qh (L.ne l hl);have he:e∈l:=by rw[he];simp
 obtain⟨i,j,hi,hj,ei,ej⟩:=L.pw (L.rtB (L.sub hl he));have le:∀i,i∈kc (2*Y+4).toNat->∀j,j∈kc (8*X+16).toNat->Wp l ((i:Int)-2) ((j:Int)-7)<=0:=fun i hi j hj=>by
  obtain⟨c,hc,e⟩:=L.wp hl hi hj;rw[e];have:=L.two hl h0 c hc;omega
 have a:=zge (f:=fun i:Nat=>su (fun j:Nat=>Wp l ((i:Int)-2) ((j:Int)-7)) (kc (8*X+16).toNat)) (fun i hi=>su_le (le i hi)) hi;have b:=zge (le i hi) hj;rw[ei,ej] at b;have c:Wp l (rowC (rtC e)) (posC (rtC e))=Wd l c0-1:=L.rt hl he h0;rw[ei] at a;omega
theorem Lps.posL{l:List E2}(hl:l∈Ls){c0:C3}(h0:c0∈P)(w:Wd l c0=1):0<lace l:=by
 have s:=L.lace2 hl;have i0:=L.inn c0 h0;obtain⟨i,j,hi,hj,ei,ej⟩:=L.pw (c:=c0) ⟨by omega,by omega,by omega,by omega,i0.2.2.2.2⟩
 have le:∀i,i∈kc (2*Y+4).toNat->∀j,j∈kc (8*X+16).toNat-> -Wp l ((i:Int)-2) ((j:Int)-7)<=0:=fun i hi j hj=>by
  obtain⟨c,hc,e⟩:=L.wp hl hi hj;rw[e];have:=L.two hl h0 c hc;omega
 have a:=zge (f:=fun i:Nat=>su (fun j:Nat=> -Wp l ((i:Int)-2) ((j:Int)-7)) (kc (8*X+16).toNat)) (fun i hi=>su_le (le i hi)) hi;have b:=zge (le i hi) hj;rw[ei,ej] at b;have c:Wp l (rowC c0) (posC c0)=Wd l c0:=rfl;rw[ei] at a;rw[zag fun i _=>zh8 _ _,zh8] at a;omega
end
theorem lift{α β:Type}{g:α->β}{S:α->Prop}:∀{l:List β},(∀y,y∈l->∃x,S x/\g x=y)->∃l':List α,l'.map g=l/\∀x,x∈l'->S x
 |[],_=>⟨[],rfl,fun x hx=>by cases hx⟩
 |y::l,h=>by
  obtain⟨x,h1,h2⟩:=h y (by simp)
  obtain⟨l',h3,h4⟩:=lift (l:=l) fun y hy=>h y (kI _ hy);refine⟨x::l',by rw[kh,h2,h3],fun z hz=>?_⟩
  rcases kg.mp hz with e|e
  ·rw[e];exact h1
  ·exact h4 z e
theorem Chn.app{α:Type}:∀{l m:List (α×α)}{a b c:α},Chn a l b->Chn b m c->Chn a (l++m) c
 |[],m,a,b,c,h,h'=>by
  have h:a=b:=h;rw[h];exact h'
 |e::l,m,a,b,c,h,h'=>⟨h.1,Chn.app h.2 h'⟩
theorem zfx{α:Type}(g:Nat->α):∀n,Chn (g 0) ((kc n).map fun i=>(g i,g (i+1))) (g n)
 |0=>rfl
 |n+1=>by
  rw[um,pV];exact(zfx g n).app ⟨rfl,rfl⟩
def unE(a:Int×Int)(k:Fin 8)(m:Nat):List E2:=(kc (m+1)).map fun j=>(att a k ((j:Nat):Int),att a k ((j+1:Nat):Int))
open Classical in
noncomputable def exW(es:List E2)(w:E2):List E2:=if h:∃p:Fin 8×Nat,Wy es w.1 w.2 p.1 p.2 then unE w.1 (choose h).1 (choose h).2 else[]
section
variable{es ws:List E2}{cs:List C3}
theorem zej{a c:Int×Int}{k:Fin 8}{m:Nat}(h:Wy es a c k m):exW es (a,c)=unE a k m:=by
 have x:∃p:Fin 8×Nat,Wy es (a,c).1 (a,c).2 p.1 p.2:=⟨(k,m),h⟩;unfold exW;rw[dif_pos x];have w:=Classical.choose_spec x;have e1:=Wy.dir w h;have f1:=w.fin;rw[e1] at f1;have e2:=zi3 (f1.symm.trans h.fin);rw[e1,show(Cd x).2=m by omega]
theorem zfn{a:Int×Int}{k:Fin 8}{m:Nat}{e:E2}:e∈unE a k m↔∃j:Nat,j<=m/\e=(att a k j,att a k (j+1)):=by
 unfold unE;rw[kW]
 constructor
 ·rintro⟨j,hj,rfl⟩;have:=kx.mp hj;exact⟨j,by omega,rfl⟩
 ·rintro⟨j,hj,rfl⟩;exact⟨j,kx.mpr (by omega),rfl⟩
theorem un_nd(a:Int×Int)(k:Fin 8)(m:Nat):(unE a k m).Nodup:=by
 unfold unE;rw[kK,uR];refine jO.imp fun{i j} h z=>?_;have:=zi3 (congrArg jL z);omega
theorem un_chn{a c:Int×Int}{k:Fin 8}{m:Nat}(h:Wy es a c k m):Chn a (unE a k m) c:=by
 have:=zfx (fun j:Nat=>att a k (j:Int)) (m+1);rw[show((0:Nat):Int)=0 from rfl,zf2,show((m+1:Nat):Int)=(m:Int)+1 by omega,←h.fin] at this
 exact this
theorem un_sub{a c:Int×Int}{k:Fin 8}{m:Nat}(h:Wy es a c k m){e:E2}(he:e∈unE a k m):e∈es:=by
 obtain⟨j,hj,rfl⟩:=zfn.mp he;exact h.mem j hj
theorem un_ray{a c:Int×Int}{k:Fin 8}{m:Nat}{e:E2}(he:e∈unE a k m):e.2=stp e.1 k:=by
 obtain⟨j,hj,rfl⟩:=zfn.mp he;exact(zdy a k j).symm
theorem un_lt{a c a' c':Int×Int}{k:Fin 8}{m m':Nat}(h:Wy es a c k m)(b:Bgn es a k)(h':Wy es a' c' k m'){j j':Nat}(hj':j'<=m')(e:att a k j=att a' k j')(z:j<j'):False:=by
 have ea:a=att a' k ((j'-j:Nat):Int):=by
  have:=congrArg (fun x=>att x k (-(j:Int))) e;rw[zcm,zcm,show(j:Int)+ -(j:Int)=0 by omega,zf2] at this
  rw[this]
  congr 1
  omega
 have e1:stp a (k+4)=att a' k ((j'-j-1:Nat):Int):=by
  rw[zh7,ea,zcm]
  congr 1
  omega
 have e2:att a' k (((j'-j-1:Nat):Int)+1)=a:=by
  rw[ea]
  congr 1
  omega
 refine b ⟨?_,?_⟩
 ·have:=h'.mem (j'-j-1) (by omega)
  rw[e2,←e1] at this;exact this
 ·have:=h'.str (j'-j-1) (by omega)
  rw[e2,←e1] at this;exact this
theorem un_one(W:Wys es ws){w w':E2}(hw:w∈ws)(hw':w'∈ws){e:E2}(he:e∈exW es w)(he':e∈exW es w'):w=w':=by
 obtain⟨k,m,y,b⟩:=W.of w hw;obtain⟨k',m',y',b'⟩:=W.of w' hw';obtain⟨a,c⟩:=w;obtain⟨a',c'⟩:=w';dsimp only at y b y' b';rw[zej y] at he;rw[zej y'] at he';have ek:k=k':=zgt ((un_ray (c:=c) he).symm.trans (un_ray (c:=c') he'));subst ek;obtain⟨j,hj,rfl⟩:=zfn.mp he;obtain⟨j',hj',e⟩:=zfn.mp he';have e:=congrArg jL e;dsimp only at e;rcases jH j j' with z|z|z
 ·exact(un_lt y b y' hj' e z).elim
 ·subst z;have ea:a=a':=by
   have:=congrArg (fun x=>att x k (-(j:Int))) e;rw[zcm,zcm,show(j:Int)+ -(j:Int)=0 by omega,zf2,zf2] at this
   exact this
  subst ea;rw[y.one y']
 ·exact(un_lt y' b' y hj e.symm z).elim
theorem Wys.cover(W:Wys es ws){b:Int×Int}{k:Fin 8}(hb:(b,stp b k)∈es):∃w,w∈ws/\(b,stp b k)∈exW es w:=by
 have back:∀n:Nat,(∃j:Nat,j<=n/\Bgn es (att b k (-(j:Int))) k/\(att b k (-(j:Int)),att b k (-(j:Int)+1))∈es/\∀i:Nat,i<j->str es (att b k (-(i:Int)-1)) (att b k (-(i:Int)))=true)∨((∀i:Nat,i<=n+1->(att b k (-(i:Int)),att b k (-(i:Int)+1))∈es)/\∀i:Nat,i<=n->str es (att b k (-(i:Int)-1)) (att b k (-(i:Int)))=true):=fun n=>by
  have one:∀i:Nat,¬Bgn es (att b k (-(i:Int))) k->(att b k (-((i+1:Nat):Int)),att b k (-((i+1:Nat):Int)+1))∈es/\str es (att b k (-(i:Int)-1)) (att b k (-(i:Int)))=true:=fun i h=>by
   unfold Bgn at h;have h:=Classical.not_not.mp h;have e:stp (att b k (-(i:Int))) (k+4)=att b k (-(i:Int)-1):=by
    rw[zh7,zcm];rfl
   rw[e] at h;refine⟨?_,h.2⟩;rw[show-((i+1:Nat):Int)= -(i:Int)-1 by omega,show-(i:Int)-1+1= -(i:Int) by omega]
   exact h.1
  have h00:(att b k (-((0:Nat):Int)),att b k (-((0:Nat):Int)+1))∈es:=by
   rw[show-((0:Nat):Int)=0 from rfl,ur,zf2,zgh];exact hb
  induction n with
  |zero=>
   by_cases c:Bgn es (att b k (-((0:Nat):Int))) k
   ·exact .inl ⟨0,kG _,c,h00,fun i hi=>by omega⟩
   ·obtain⟨o1,o2⟩:=one 0 c;refine .inr ⟨fun i hi=>?_,fun i hi=>?_⟩
    ·rcases(by omega:i=0∨i=1) with rfl|rfl
     ·exact h00
     ·exact o1
    ·have:i=0:=by omega
     rw[this];exact o2
  |succ n ih=>
   rcases ih with⟨j,h1,h2⟩|⟨h1,h2⟩
   ·exact .inl ⟨j,by omega,h2⟩
   ·by_cases c:Bgn es (att b k (-((n+1:Nat):Int))) k
    ·exact .inl ⟨n+1,kG _,c,h1 (n+1) (kG _),fun i hi=>h2 i (by omega)⟩
    ·obtain⟨o1,o2⟩:=one (n+1) c;refine .inr ⟨fun i hi=>?_,fun i hi=>?_⟩
     ·rcases(by omega:i<=n+1∨i=n+1+1) with z|z
      ·exact h1 i z
      ·rw[z];exact o1
     ·rcases(by omega:i<=n∨i=n+1) with z|z
      ·exact h2 i z
      ·rw[z];exact o2
 rcases back es.length with⟨j,_,bg,hm,st⟩|⟨h,_⟩
 ·have e0:att b k (-(j:Int)+1)=stp (att b k (-(j:Int))) k:=(zdy _ _ _).symm;rw[e0] at hm;obtain⟨c,m,hc,y⟩:=W.all _ k hm bg;refine⟨_,hc,?_⟩;rw[zej y,zfn];have e1:∀i:Int,att (att b k (-(j:Int))) k i=att b k (i-j):=fun i=>by
   rw[zcm]
   congr 1
   omega
  refine⟨j,?_,?_⟩
  ·rcases UR m j with z|z
   ·exfalso
    have s1:=st (j-m-1) (by omega)
    have s2:=y.stop;rw[e1,e1,show(m:Int)-j= -((j-m-1:Nat):Int)-1 by omega,show(m:Int)+1-j= -((j-m-1:Nat):Int) by omega,s1] at s2
    cases s2
   ·exact z
  ·rw[e1,e1,CI,zf2,show(j:Int)+1-j=1 by omega,zgh]
 ·exfalso
  have nd:((kc (es.length+1)).map fun i:Nat=>(att b k (-(i:Int)),att b k (-(i:Int)+1))).Nodup:=by
   rw[kK,uR];refine jO.imp fun{i j} h z=>?_;have:=zi3 (congrArg jL z);omega
  have:=zfr _ es nd fun e he=>by
   obtain⟨i,hi,rfl⟩:=kW.mp he;have:=kx.mp hi;exact h i (by omega)
  rw[kO,ua] at this;omega
theorem zqm(W:Wys es ws){w:E2}(hw:w∈ws){e:E2}(he:e∈exW es w):e∈es:=by
 obtain⟨k,m,y,b⟩:=W.of w hw;have:exW es w=unE w.1 k m:=zej y;rw[this] at he;exact un_sub y he
theorem ex_all(E:Edg cs es)(nd:es.Nodup)(W:Wys es ws):(ws.flatMap (exW es)).Perm es:=by
 refine(uY ?_ nd).mpr fun e=>⟨fun he=>?_,fun he=>?_⟩
 ·rw[kK,vT,uf];refine⟨fun l hl=>?_,?_⟩
  ·obtain⟨w,hw,rfl⟩:=kW.mp hl;obtain⟨k,m,y,b⟩:=W.of w hw;have:exW es w=unE w.1 k m:=zej y;rw[this];exact kK.mp (un_nd _ _ _)
  ·rw[uR];exact(kK.mp W.nd).imp_of_mem fun{w w'} hw hw' n e he e' he' z=>n (un_one W hw hw' he (by rw[z];exact he'))
 ·obtain⟨w,hw,h⟩:=Qp.mp he;exact zqm W hw h
 ·obtain⟨k,hk⟩:=E.ray he;have e':e=(e.1,stp e.1 k):=QX rfl hk;rw[e'] at he⊢;obtain⟨w,hw,h⟩:=W.cover he;exact Qp.mpr ⟨w,hw,h⟩
end
section
variable{f:Fr}{es ws:List E2}{cs:List C3}
theorem way_lf(E:Edg cs es){a c:Int×Int}{k:Fin 8}{m:Nat}(y:Wy es a c k m):∀j:Nat,j<=m->Cn (fun c=>c∈cs) (lfC (att a k j,att a k (j+1))) (lfC (a,stp a k))
 |0,_=>by
  show Cn _ (lfC (att a k 0,att a k (0+1))) _
  rw[ur,zf2,zgh]
  exact .refl (E.lf y.first).1
 |j+1,hj=>by
  have ih:=way_lf E y j (by omega)
  have m1:=y.mem j (by omega)
  have m2:=y.mem (j+1) hj;have s:=y.str j (by omega)
  rw[←zdy] at m1 s ih;rw[show((j+1:Nat):Int)=(j:Int)+1 by omega,←zdy a k ((j:Int)+1),←zdy a k (j:Int)] at m2⊢
  exact(E.over m1 m2 fun j' o=>by rw[zkz s (E.out.mpr o)];exact kG _).trans ih
def AtP(f:Fr)(es ws:List E2)(P:List C3)(x:Q3×Q3):Prop:=∃w,w∈ws/\x=tdF f w/\∀e,e∈exW es w->lfC e∈P
theorem atP_of(E:Edg cs es){Ps:List (List C3)}(pr:Prt (fun c=>c∈cs) Ps)(v:∀c,c∈cs->vq c){P:List C3}(hP:P∈Ps){a c:Int×Int}{k:Fin 8}{m:Nat}(y:Wy es a c k m)(h:lfC (a,stp a k)∈P):∀e,e∈exW es (a,c)->lfC e∈P:=fun e he=>by
 rw[zej y] at he;obtain⟨j,hj,rfl⟩:=zfn.mp he;exact pr.cn hP ((way_lf E y j hj).symm v) h
theorem atP_ex(E:Edg cs es)(W:Wys es ws){Ps:List (List C3)}(pr:Prt (fun c=>c∈cs) Ps)(v:∀c,c∈cs->vq c){w:E2}(hw:w∈ws):∃P,P∈Ps/\AtP f es ws P (tdF f w):=by
 obtain⟨k,m,y,b⟩:=W.of w hw
 obtain⟨P,hP,h⟩:=(pr.all _).mp (E.lf y.first).1
 exact⟨P,hP,w,hw,rfl,atP_of E pr v hP y h⟩
theorem atP_suc(w0:0<f.w)(d0:0<fd2 f)(E:Edg cs es)(W:Wys es ws){Ps:List (List C3)}(pr:Prt (fun c=>c∈cs) Ps)(v:∀c,c∈cs->vq c){P:List C3}(hP:P∈Ps){x:Q3×Q3}(h:AtP f es ws P x):AtP f es ws P (suc (ws.map (tdF f)) x):=by
 obtain⟨w,hw,rfl,h⟩:=h;obtain⟨a,c⟩:=w;obtain⟨k,m,y,b⟩:=W.of _ hw;dsimp only at y b;obtain⟨d,j,n,hd,y',fr,mn⟩:=zfl w0 d0 E W y;refine⟨(c,d),hd,?_,atP_of E pr v hP y' ?_⟩
 ·show(PF f c,zht (PF f c) (PF f a) (leav (ws.map (tdF f)) (PF f c)))=_
  rw[fr];rfl
 ·have fin:=y.fin;rw[←zdy] at fin;have m1:=y.mem m (kG _);have l1:lfC (att a k (m:Int),att a k ((m:Int)+1))∈P:=h _ (by rw[zej y,zfn];exact⟨m,kG _,rfl⟩)
  rw[←zdy] at m1 l1
  have y1:=y'.first
  rw[fin] at y1 mn⊢;exact pr.cn hP ((E.over m1 y1 mn).symm v) l1
theorem zot(w0:0<f.w)(d0:0<fd2 f)(E:Edg cs es)(W:Wys es ws){Ps:List (List C3)}(pr:Prt (fun c=>c∈cs) Ps)(v:∀c,c∈cs->vq c){P:List C3}(hP:P∈Ps){x:Q3×Q3}(h:AtP f es ws P x):∀n,AtP f es ws P (itr (ws.map (tdF f)) x n)
 |0=>h
 |n+1=>atP_suc w0 d0 E W pr v hP (zot w0 d0 E W pr v hP h n)
theorem run_part(w0:0<f.w)(d0:0<fd2 f)(E:Edg cs es)(W:Wys es ws){Ps:List (List C3)}(pr:Prt (fun c=>c∈cs) Ps)(v:∀c,c∈cs->vq c){i:Nat}{qs:List (List Q3)}{gl:List (Q3×Q3)}(h:Run (ws.map (tdF f)) i qs gl):∀q,q∈qs->∃P,P∈Ps/\∀x,x∈sds q->AtP f es ws P x:=by
 have F:=zoj w0 d0 E W
 induction h with
 |nil=>exact fun q hq=>by cases hq
 |skip r e1 m ih=>exact ih
 |@go i qs gl e t r e1 m c n ih=>
  intro q hq;rcases ke.mp hq with z|z
  ·exact ih q z
  ·have he:=kz e1;obtain⟨d1,d2⟩:=(zpk F he t n).done F he c;obtain⟨w,hw,rfl⟩:=kW.mp he;obtain⟨P,hP,a⟩:=atP_ex (f:=f) E W pr v hw;refine⟨P,hP,fun x hx=>?_⟩;obtain⟨i,_,rfl⟩:=kW.mp (d2.mem_iff.mp (zgn z hx));exact zot w0 d0 E W pr v hP a i
theorem zpm(w0:0<f.w)(d0:0<fd2 f)(E:Edg cs es)(W:Wys es ws){Ps:List (List C3)}(pr:Prt (fun c=>c∈cs) Ps)(v:∀c,c∈cs->vq c){g:Int}{os:List (List Q3)}(td:Told (ws.map (tdF f)) g os){q:List Q3}(hq:q∈os):∃P,P∈Ps/\∀x,x∈sds q->AtP f es ws P x:=by
 obtain⟨qs,gl,c,run,nd,lc,can,pm⟩:=td.run;obtain⟨j,hj⟩:=uG.mp (pm.mem_iff.mp hq);have hj':j<qs.length:=by rw[←lc];exact(kH.mp hj).1
 have z:=kR hj';obtain⟨P,hP,h⟩:=run_part w0 d0 E W pr v run _ (Qn hj');exact⟨P,hP,fun x hx=>h x ((can j q _ hj z).sds.mp hx)⟩
theorem chn_td(w0:0<f.w)(d0:0<fd2 f):∀{wl:List E2}{a:Int×Int}{x:Q3},Chn (PF f a) (wl.map (tdF f)) x->∃b,x=PF f b/\Chn a wl b
 |[],a,x,h=>⟨a,(show PF f a=x from h).symm,rfl⟩
 |w::wl,a,x,h=>by
  obtain⟨h1,h2⟩:=h;obtain⟨b,e,c⟩:=chn_td w0 d0 (wl:=wl) h2;exact⟨b,e,zfo w0 d0 h1,c⟩
theorem rg_chn(w0:0<f.w)(d0:0<fd2 f){wl:List E2}{q:List Q3}(h:wl.map (tdF f)=sds q)(l:0<q.length):∃a,Chn a wl a:=by
 have c:Chn (nx q 0) (sds q) (nx q q.length):=zfx (nx q) q.length;have e:nx q q.length=nx q 0:=zk7 q 0;rw[e,←h] at c
 cases wl with
 |nil=>
  have:=congrArg je h;rw[zha] at this;simp only[uU,Qw] at this;omega
 |cons w wl=>
  have e1:PF f w.1=nx q 0:=c.1;rw[←e1] at c;obtain⟨b,e2,c2⟩:=chn_td w0 d0 c;rw[←zfo w0 d0 e2] at c2;exact⟨_,c2⟩
theorem rg_one{wl:List E2}{q:List Q3}(w0:0<f.w)(d0:0<fd2 f)(h:wl.map (tdF f)=sds q)(nd:q.Nodup){w w':E2}(hw:w∈wl)(hw':w'∈wl)(e:w.1=w'.1):w=w':=by
 have m1:tdF f w∈sds q:=by rw[←h];exact kW.mpr ⟨w,hw,rfl⟩
 have m2:tdF f w'∈sds q:=by rw[←h];exact kW.mpr ⟨w',hw',rfl⟩
 obtain⟨i,hi,e1⟩:=kW.mp m1;obtain⟨j,hj,e2⟩:=kW.mp m2;have hi:=kx.mp hi;have hj:=kx.mp hj;have x1:nx q i=PF f w.1:=congrArg jL e1;have x2:nx q j=PF f w'.1:=congrArg jL e2;have:=nx_inj nd hi hj (by rw[x1,x2,e])
 subst this;exact zhu w0 d0 (e1.symm.trans e2)
noncomputable def lpW(es wl:List E2):List E2:=wl.flatMap (exW es)
theorem lp_chn(W:Wys es ws):∀{wl:List E2}{a b:Int×Int},(∀w,w∈wl->w∈ws)->Chn a wl b->Chn a (lpW es wl) b
 |[],a,b,_,h=>h
 |w::wl,a,b,s,h=>by
  obtain⟨k,m,y,_⟩:=W.of w (s w (by simp))
  have e:exW es w=unE w.1 k m:=zej y;have c:=un_chn y;rw[←e,h.1] at c;show Chn a (exW es w++lpW es wl) b;exact c.app (lp_chn W (fun w hw=>s w (kI _ hw)) h.2)
theorem lp_one(E:Edg cs es)(W:Wys es ws){wl:List E2}(s:∀w,w∈wl->w∈ws)(o:∀w w',w∈wl->w'∈wl->w.1=w'.1->w=w'){e e':E2}(he:e∈lpW es wl)(he':e'∈lpW es wl)(h:e.1=e'.1):e=e':=by
 obtain⟨w,hw,m1⟩:=Qp.mp he;obtain⟨w',hw',m2⟩:=Qp.mp he';obtain⟨k,m,y,_⟩:=W.of w (s w hw);obtain⟨k',m',y',_⟩:=W.of w' (s w' hw');obtain⟨a,c⟩:=w;obtain⟨a',c'⟩:=w';dsimp only at y y';have n1:=zqm W (s _ hw) m1;have n2:=zqm W (s _ hw') m2;rw[zej y] at m1;rw[zej y'] at m2;obtain⟨j,hj,rfl⟩:=zfn.mp m1;obtain⟨j',hj',rfl⟩:=zfn.mp m2;have inn:∀{a c:Int×Int}{k:Fin 8}{m:Nat}(_:Wy es a c k m){j:Nat},j<m->∀{e:E2},e∈es->e.1=att a k ((j:Int)+1)->e=(att a k ((j:Int)+1),att a k ((j:Int)+1+1)):=fun{a c k m} y{j} hj{e} he h=>by
  have st:=y.str j hj;obtain⟨i,hi⟩:=E.ray he;have e':e=(e.1,stp e.1 i):=QX rfl hi;rw[h] at e';rw[e'] at he;rw[←zdy a k (j:Int)] at st he;have:=zkz st he;rw[this] at e';rw[e',zdy]
 cases j with
 |succ j=>
  have:=inn y (j:=j) (by omega) n2 (by rw[←h];rfl)
  exact this.symm
 |zero=>
  cases j' with
  |succ j'=>exact inn y' (j:=j') (by omega) n1 (by rw[h];rfl)
  |zero=>
   have ea:a=a':=by
    have h:att a k ((0:Nat):Int)=att a' k' ((0:Nat):Int):=h;rw[show((0:Nat):Int)=0 from rfl,zf2,zf2] at h;exact h
   have:=o _ _ hw hw' ea
   cases this;have ek:=Wy.dir y y';subst ek;rfl
end
theorem zct(p:Int×Int)(k:Fin 8):crs (p,stp p k)=p.1*(dv k).2-(dv k).1*p.2:=by
 unfold crs stp;dsimp only;rw[vL,jj];omega
theorem crs_att(a:Int×Int)(k:Fin 8)(j:Int):crs (att a k j,att a k (j+1))=a.1*(dv k).2-(dv k).1*a.2:=by
 rw[←zdy,zct];unfold att;dsimp only;rw[jj,vL,AE,jN (dv k).1 j];omega
theorem crs_far(a:Int×Int)(k:Fin 8)(j:Int):crs (a,att a k j)=j*(a.1*(dv k).2-(dv k).1*a.2):=by
 unfold crs att;dsimp only;rw[vL,jj,Dl,jN a.1 j,AE];omega
theorem su_un(a:Int×Int)(k:Fin 8):∀n:Nat,su crs ((kc n).map fun j=>(att a k ((j:Nat):Int),att a k ((j+1:Nat):Int)))=n*(a.1*(dv k).2-(dv k).1*a.2)
 |0=>(jK _).symm
 |n+1=>by
  rw[um,pV,zgb,su_un a k n];show _+(crs (att a k (n:Int),att a k ((n:Int)+1))+0)=_;rw[crs_att,show((n+1:Nat):Int)=(n:Int)+1 by omega,jj,gq,Qg]
section
variable{f:Fr}{es ws:List E2}{cs:List C3}
theorem su_way(W:Wys es ws){w:E2}(hw:w∈ws):su crs (exW es w)=crs w:=by
 obtain⟨k,m,y,b⟩:=W.of w hw;have e:exW es w=unE w.1 k m:=zej y;rw[e];unfold unE;rw[su_un];have:crs w=crs (w.1,w.2):=rfl;rw[this,y.fin,crs_far,show((m+1:Nat):Int)=(m:Int)+1 by omega]
theorem su_lp(W:Wys es ws):∀{wl:List E2},(∀w,w∈wl->w∈ws)->lace (lpW es wl)=su crs wl
 |[],_=>rfl
 |w::wl,s=>by
  show su crs (exW es w++lpW es wl)=crs w+su crs wl
  rw[zgb,su_way W (s w (by simp))]
  have:=su_lp W (wl:=wl) fun w hw=>s w (kI _ hw);unfold lace at this;rw[this]
def zdf(c:C3):List E2:=(triK c).map fun p=>(p.1,stp p.1 p.2)
theorem zfm{c:C3}{e:E2}:e∈zdf c↔∃a k,(a,k)∈triK c/\e=(a,stp a k):=by
 unfold zdf;rw[kW];exact⟨fun⟨p,h1,h2⟩=>⟨p.1,p.2,h1,h2.symm⟩,fun⟨a,k,h1,h2⟩=>⟨(a,k),h1,h2.symm⟩⟩
theorem znq{c:C3}(h:vq c):su crs (zdf c)=2:=by
 obtain⟨d0,d1,d2,d3,d4,d5,d6,d7⟩:=zm5;have s3:∀a b c:(Int×Int)×Fin 8,su crs ([a,b,c].map fun p=>(p.1,stp p.1 p.2))=crs (a.1,stp a.1 a.2)+crs (b.1,stp b.1 b.2)+crs (c.1,stp c.1 c.2):=fun a b c=>by
  show crs (a.1,stp a.1 a.2)+(crs (b.1,stp b.1 b.2)+(crs (c.1,stp c.1 c.2)+0))=_
  omega
 obtain⟨x,y,h⟩:=vq4 h;rcases h with rfl|rfl|rfl|rfl
 ·show su crs ([((2*x,2*y),0),((2*x+2,2*y),3),((2*x+1,2*y+1),5)].map fun p=>(p.1,stp p.1 p.2))=2
  rw[s3,zct,zct,zct];dsimp only;rw[d0,d3,d5];dsimp only;omega
 ·show su crs ([((2*x+2,2*y),2),((2*x+2,2*y+2),5),((2*x+1,2*y+1),7)].map fun p=>(p.1,stp p.1 p.2))=2
  rw[s3,zct,zct,zct];dsimp only;rw[d2,d5,d7];dsimp only;omega
 ·show su crs ([((2*x+2,2*y+2),4),((2*x,2*y+2),7),((2*x+1,2*y+1),1)].map fun p=>(p.1,stp p.1 p.2))=2
  rw[s3,zct,zct,zct];dsimp only;rw[d4,d7,d1];dsimp only;omega
 ·show su crs ([((2*x,2*y+2),6),((2*x,2*y),1),((2*x+1,2*y+1),3)].map fun p=>(p.1,stp p.1 p.2))=2
  rw[s3,zct,zct,zct];dsimp only;rw[d6,d1,d3];dsimp only;omega
theorem sides_nd{c:C3}(h:vq c):(zdf c).Nodup:=by
 have n3:∀a b c:(Int×Int)×Fin 8,a.1≠b.1->a.1≠c.1->b.1≠c.1->([a,b,c].map fun p=>(p.1,stp p.1 p.2)).Nodup:=fun a b c h1 h2 h3=>by
  simp only[kh,uU,List.nodup_cons,kg,UC,or_false,not_or,Qq,and_true,Uu,not_false_eq_true];exact⟨⟨fun z=>h1 z.1,fun z=>h2 z.1⟩,fun z=>h3 z.1⟩
 have ne:∀{a b c d:Int},a≠c∨b≠d->(a,b)≠(c,d):=fun h z=>by
  injection z with z1 z2
  omega
 obtain⟨x,y,h⟩:=vq4 h;rcases h with rfl|rfl|rfl|rfl
 ·exact n3 ((2*x,2*y),0) ((2*x+2,2*y),3) ((2*x+1,2*y+1),5) (ne (by omega)) (ne (by omega)) (ne (by omega))
 ·exact n3 ((2*x+2,2*y),2) ((2*x+2,2*y+2),5) ((2*x+1,2*y+1),7) (ne (by omega)) (ne (by omega)) (ne (by omega))
 ·exact n3 ((2*x+2,2*y+2),4) ((2*x,2*y+2),7) ((2*x+1,2*y+1),1) (ne (by omega)) (ne (by omega)) (ne (by omega))
 ·exact n3 ((2*x,2*y+2),6) ((2*x,2*y),1) ((2*x+1,2*y+1),3) (ne (by omega)) (ne (by omega)) (ne (by omega))
theorem zoc{e:E2}:e∈cs.flatMap zdf↔Sd cs e:=by
 rw[Qp];exact⟨fun⟨c,h1,h2⟩=>⟨c,h1,zfm.mp h2⟩,fun⟨c,h1,h2⟩=>⟨c,h1,zfm.mpr h2⟩⟩
theorem all_nd(v:∀c,c∈cs->vq c)(nd:cs.Nodup):(cs.flatMap zdf).Nodup:=by
 rw[kK,vT,uf];refine⟨fun l hl=>?_,?_⟩
 ·obtain⟨c,hc,rfl⟩:=kW.mp hl;exact kK.mp (sides_nd (v c hc))
 ·rw[uR];refine(kK.mp nd).imp fun{c d} n e he e' he' z=>n ?_;obtain⟨a,k,h1,rfl⟩:=zfm.mp he;obtain⟨a',k',h2,rfl⟩:=zfm.mp he'
  injection z with z1 z2
  subst z1;have:=zgt z2;subst this;rw[←(zi0 h1).2,(zi0 h2).2]
theorem ze2{α:Type}(p:α->Bool){l:List α}(h:l.Nodup):(l.filter p).Nodup:=kK.mpr ((kK.mp h).filter p)
theorem zjf{α:Type}(g:α->Int)(p:α->Bool):∀l:List α,su g l=su g (l.filter p)+su g (l.filter fun x=> !p x)
 |[]=>rfl
 |x::l=>by
  have ih:=zjf g p l;show g x+su g l=_;rw[uA,uA]
  cases h:p x
  ·show _=su g (l.filter p)+(g x+su g (l.filter fun x=> !p x))
   omega
  ·show _=g x+su g (l.filter p)+su g (l.filter fun x=> !p x)
   omega
theorem crs_rv(e:E2):crs (rv e)= -crs e:=by
 unfold crs rv;dsimp only;rw[uh e.2.1,uh e.1.1];have:=uh e.1.2 e.2.1;have:=uh e.2.2 e.1.1;omega
theorem su_two:∀{cs:List C3},(∀c,c∈cs->vq c)->su crs (cs.flatMap zdf)=2*cs.length
 |[],_=>rfl
 |c::cs,v=>by
  rw[QB,zgb,znq (v c (by simp)),su_two fun d hd=>v d (kI _ hd),pJ]
  omega
theorem su_es(E:Edg cs es)(nd:es.Nodup)(v:∀c,c∈cs->vq c)(ndc:cs.Nodup):su crs es=2*cs.length:=by
 have an:=all_nd v ndc;have f:=zjf crs (fun e=>decide (rv e∈cs.flatMap zdf)) (cs.flatMap zdf);rw[su_two v] at f;have p1:((cs.flatMap zdf).filter fun e=> !decide (rv e∈cs.flatMap zdf)).Perm es:=by
  refine(uY (ze2 _ an) nd).mpr fun e=>?_;rw[pf,CJ,decide_eq_false_iff_not,zoc,zoc,E];exact Cz
 rw[zg4 crs p1] at f;have p2:(((cs.flatMap zdf).filter fun e=>decide (rv e∈cs.flatMap zdf)).map rv).Perm ((cs.flatMap zdf).filter fun e=>decide (rv e∈cs.flatMap zdf)):=by
  refine(uY ?_ (ze2 _ an)).mpr fun e=>?_
  ·rw[kK,uR];exact(kK.mp (ze2 _ an)).imp fun n z=>n (by have:=congrArg rv z;exact this)
  ·rw[kW,pf,decide_eq_true_iff]
   constructor
   ·rintro⟨x,hx,rfl⟩;obtain⟨h1,h2⟩:=pf.mp hx;exact⟨of_decide_eq_true h2,h1⟩
   ·rintro⟨h1,h2⟩;exact⟨rv e,pf.mpr ⟨h2,decide_eq_true h1⟩,rfl⟩
 have s:=zg4 crs p2;rw[zes,zag fun e _=>crs_rv e,zh8] at s;omega
end
theorem zq7{α β:Type}(g:α->List β):∀W:List (List α),(W.map fun wl=>wl.flatMap g).flatten=W.flatten.flatMap g
 |[]=>rfl
 |w::W=>by rw[kh,UV,UV,vX,zq7 g W]
theorem zi6{α:Type}(c:Int):∀l:List α,su (fun _=>c) l=c*l.length
 |[]=>(UU c).symm
 |x::l=>by
  show c+su (fun _=>c) l=_
  rw[zi6 c l,pJ,show((l.length+1:Nat):Int)=(l.length:Int)+1 by omega,vL]
  omega
structure All(X Y:Int)(f:Fr)(cs:List C3)(es ws:List E2)(Ps:List (List C3))(Wl:List (List E2)):Prop where
 w0:0<f.w
 d0:0<fd2 f
 E:Edg cs es
 nd:es.Nodup
 W:Wys es ws
 pr:Prt (fun c=>c∈cs) Ps
 ndc:cs.Nodup
 inn:∀c,c∈cs->0<=c.1/\c.1<X/\0<=c.2.1/\c.2.1<Y/\vq c
 td:∃g os,Told (ws.map (tdF f)) g os/\Wl.map (AV (tdF f))=os.map sds
 sub:∀wl,wl∈Wl->∀w,w∈wl->w∈ws
section
variable{X Y:Int}{f:Fr}{cs:List C3}{es ws:List E2}{Ps:List (List C3)}{Wl:List (List E2)}(A:All X Y f cs es ws Ps Wl)
include A
theorem All.v:∀c,c∈cs->vq c:=fun c hc=>(A.inn c hc).2.2.2.2
theorem All.ring{wl:List E2}(h:wl∈Wl):∃q,q.Nodup/\3<=q.length/\wl.map (tdF f)=sds q/\∃P,P∈Ps/\∀x,x∈sds q->AtP f es ws P x:=by
 obtain⟨g,os,td,e⟩:=A.td;have:wl.map (tdF f)∈os.map sds:=by rw[←e];exact kW.mpr ⟨wl,h,rfl⟩
 obtain⟨q,hq,e⟩:=kW.mp this;exact⟨q,(td.rg q hq).1,(td.rg q hq).2,e.symm,zpm A.w0 A.d0 A.E A.W A.pr A.v td hq⟩
theorem All.pmw:Wl.flatten.Perm ws:=by
 obtain⟨g,os,td,e⟩:=A.td;have F:=zoj A.w0 A.d0 A.E A.W;have e2:Wl.flatten.map (tdF f)=os.flatMap sds:=by
  rw[List.map_flatten,e,vT]
 have p:(Wl.flatten.map (tdF f)).Perm (ws.map (tdF f)):=by rw[e2];exact td.pm
 refine(uY (zps (p.nodup_iff.mpr F.nd)) A.W.nd).mpr fun w=>⟨fun h=>?_,fun h=>?_⟩
 ·obtain⟨wl,h1,h2⟩:=uX.mp h;exact A.sub wl h1 w h2
 ·obtain⟨w',h1,h2⟩:=kW.mp (p.mem_iff.mpr (kW.mpr ⟨w,h,rfl⟩));rw[←zhu A.w0 A.d0 h2];exact h1
theorem All.pm:(Wl.map (lpW es)).flatten.Perm es:=by
 have e:(Wl.map (lpW es)).flatten=Wl.flatten.flatMap (exW es):=zq7 (exW es) Wl;rw[e];exact(A.pmw.flatMap_right _).trans (ex_all A.E A.nd A.W)
theorem All.loop{l:List E2}(h:l∈Wl.map (lpW es)):l≠[]/\(∃a,Chn a l a)/\(∀e e',e∈l->e'∈l->e.1=e'.1->e=e')/\∃P,P∈Ps/\∀e,e∈l->lfC e∈P:=by
 obtain⟨wl,hw,rfl⟩:=kW.mp h;obtain⟨q,q1,q2,q3,P,hP,q4⟩:=A.ring hw;have s:=A.sub wl hw;refine⟨fun z=>?_,?_,fun e e' he he'=>lp_one A.E A.W s (fun w w' h1 h2=>rg_one A.w0 A.d0 q3 q1 h1 h2) he he',P,hP,fun e he=>?_⟩
 ·cases wl with
  |nil=>
   have:=congrArg je q3;rw[zha] at this;simp only[uU,Qw] at this;omega
  |cons w wl=>
   obtain⟨k,m,y,_⟩:=A.W.of w (s w (by simp))
   have e:exW es w=unE w.1 k m:=zej y;have:exW es w++lpW es wl=[]:=z;rw[e] at this;have:=congrArg je this;unfold unE at this;rw[kJ,kO,ua] at this;simp only[Qw] at this;omega
 ·obtain⟨a,c⟩:=rg_chn A.w0 A.d0 q3 (by omega)
  exact⟨a,lp_chn A.W s c⟩
 ·obtain⟨w,h1,h2⟩:=Qp.mp he;obtain⟨w',h3,h4,h5⟩:=q4 (tdF f w) (by rw[←q3];exact kW.mpr ⟨w,h1,rfl⟩)
  rw[zhu A.w0 A.d0 h4] at h2;exact h5 e h2
theorem All.ndL:(Wl.map (lpW es)).Nodup/\(∀l,l∈Wl.map (lpW es)->l.Nodup)/\(Wl.map (lpW es)).Pairwise fun l l'=>∀x,x∈l->∀y,y∈l'->x≠y:=by
 have:=kK.mp (A.pm.nodup_iff.mpr A.nd);rw[uf] at this;refine⟨kK.mpr (this.2.imp_of_mem fun{p q} hp hq d z=>?_),fun l hl=>kK.mpr (this.1 l hl),this.2⟩;obtain⟨x,l,e⟩:=Qh (A.loop hp).1;have hx:x∈p:=by rw[e];simp
 exact d x hx x (by rw[←z];exact hx) rfl
end
def lpP(Ls:List (List E2))(P:List C3):List (List E2):=Ls.filter fun l=>decide (∀e,e∈l->lfC e∈P)
section
variable{X Y:Int}{f:Fr}{cs:List C3}{es ws:List E2}{Ps:List (List C3)}{Wl:List (List E2)}(A:All X Y f cs es ws Ps Wl)
include A
theorem zdh{Ls:List (List E2)}{P:List C3}{l:List E2}:l∈lpP Ls P↔l∈Ls/\∀e,e∈l->lfC e∈P:=by
 unfold lpP;rw[pf,decide_eq_true_iff]
theorem All.sP{P:List C3}(hP:P∈Ps){c:C3}(hc:c∈P):c∈cs:=(A.pr.all c).mpr ⟨P,hP,hc⟩
theorem All.lps{P:List C3}(hP:P∈Ps):Lps X Y P (es.filter fun e=>decide (lfC e∈P)) (lpP (Wl.map (lpW es)) P):=by
 have eM:∀e,e∈es.filter (fun e=>decide (lfC e∈P))↔e∈es/\lfC e∈P:=fun e=>by rw[pf,decide_eq_true_iff]
 have L:=A.ndL;refine⟨fun e=>?_,ze2 _ A.nd,?_,fun l hl=>(A.loop ((zdh A).mp hl).1).1,fun l hl=>(A.loop ((zdh A).mp hl).1).2.1,fun l hl=>(A.loop ((zdh A).mp hl).1).2.2.1,fun c hc=>A.inn c (A.sP hP hc),fun c d hc hd=>A.pr.conI hP hc hd,A.pr.ne P hP⟩
 ·rw[eM]
  constructor
  ·rintro⟨h1,h2⟩;obtain⟨a,k,rfl,o,i1,i2⟩:=A.E.of h1;rw[zgc] at h2;exact⟨zhj.mpr ⟨o,h2⟩,fun z=>i2 (A.sP hP (zg0.mp z).2)⟩
  ·rintro⟨h1,h2⟩;obtain⟨c,hc,a,k,hm,rfl⟩:=h1;obtain⟨o,rfl⟩:=zi0 hm;rw[zgc];refine⟨A.E.at.mpr ⟨o,A.sP hP hc,fun z=>h2 (zg0.mpr ⟨o,A.pr.sep P hP _ _ hc z (zo4 o)⟩)⟩,hc⟩
 ·refine(uY ?_ (ze2 _ A.nd)).mpr fun e=>?_
  ·rw[kK,uf];refine⟨fun l hl=>kK.mp (L.2.1 l ((zdh A).mp hl).1),?_⟩;exact L.2.2.filter _
  ·rw[eM,uX]
   constructor
   ·rintro⟨l,hl,he⟩;obtain⟨h1,h2⟩:=(zdh A).mp hl;exact⟨A.pm.mem_iff.mp (uX.mpr ⟨l,h1,he⟩),h2 e he⟩
   ·rintro⟨h1,h2⟩;obtain⟨l,hl,he⟩:=uX.mp (A.pm.mem_iff.mpr h1);refine⟨l,(zdh A).mpr ⟨hl,?_⟩,he⟩;obtain⟨P',hP',q⟩:=(A.loop hl).2.2.2;rw[A.pr.one hP hP' h2 (q e he)];exact q
theorem All.split:(Wl.map (lpW es)).Perm (Ps.flatMap fun P=>lpP (Wl.map (lpW es)) P):=by
 refine(uY A.ndL.1 ?_).mpr fun l=>?_
 ·rw[kK,vT,uf];refine⟨fun x hx=>?_,?_⟩
  ·obtain⟨P,_,rfl⟩:=kW.mp hx;exact kK.mp (ze2 _ A.ndL.1)
  ·rw[uR];refine(kK.mp A.pr.nd).imp_of_mem fun{P P'} hP hP' n l hl l' hl' z=>n ?_;obtain⟨h1,h2⟩:=(zdh A).mp hl;obtain⟨_,h3⟩:=(zdh A).mp hl';rw[←z] at h3;obtain⟨x,m,e⟩:=Qh (A.loop h1).1;have hx:x∈l:=by rw[e];simp
   exact A.pr.one hP hP' (h2 x hx) (h3 x hx)
 ·rw[Qp]
  constructor
  ·intro hl;obtain⟨P,hP,h⟩:=(A.loop hl).2.2.2;exact⟨P,hP,(zdh A).mpr ⟨hl,h⟩⟩
  ·rintro⟨P,_,h⟩;exact((zdh A).mp h).1
theorem All.su(g:List E2->Int):Mine.su g (Wl.map (lpW es))=Mine.su (fun P=>Mine.su g (lpP (Wl.map (lpW es)) P)) Ps:=by
 rw[zg4 g A.split,vT,zh0,zes]
theorem All.suW(g:Int->Int):Mine.su (fun wl=>g (Mine.su crs wl)) Wl=Mine.su (fun l=>g (lace l)) (Wl.map (lpW es)):=by
 rw[zes];exact zag fun wl hw=>by rw[su_lp A.W (A.sub wl hw)]
theorem All.main:
  (∀wl,wl∈Wl->Mine.su crs wl≠0)/\Mine.su (fun wl=>if 0<Mine.su crs wl then 1 else 0) Wl=Ps.length/\Mine.su (fun wl=>if Mine.su crs wl<0 then 1 else 0) Wl=Mine.su (fun P=>((lpP (Wl.map (lpW es)) P).length:Int)-1) Ps/\Mine.su (Mine.su crs) Wl=2*cs.length:=by
 have sg:∀P,P∈Ps->∀c0,c0∈P->∀l,l∈lpP (Wl.map (lpW es)) P->(Wd l c0=1/\0<lace l)∨(Wd l c0=0/\lace l<0):=fun P hP c0 h0 l hl=>by
  have L:=A.lps hP;rcases L.w01 hl h0 with z|z
  ·exact .inr ⟨z,L.neg hl h0 z⟩
  ·exact .inl ⟨z,L.posL hl h0 z⟩
 refine⟨fun wl hw=>?_,?_,?_,?_⟩
 ·have hl:lpW es wl∈Wl.map (lpW es):=kW.mpr ⟨wl,hw,rfl⟩;obtain⟨P,hP,h⟩:=(A.loop hl).2.2.2;obtain⟨c0,h0⟩:=A.pr.ne P hP;have:=sg P hP c0 h0 _ ((zdh A).mpr ⟨hl,h⟩);rw[←su_lp A.W (A.sub wl hw)];omega
 ·rw[A.suW fun x=>if 0<x then 1 else 0,A.su,zag (g:=fun _=>1) fun P hP=>?_,zi6,gq];obtain⟨c0,h0⟩:=A.pr.ne P hP;refine Eq.trans (zag (g:=fun l=>Wd l c0) fun l hl=>?_) ((A.lps hP).w1 h0);rcases sg P hP c0 h0 l hl with⟨a,b⟩|⟨a,b⟩
  ·rw[if_pos b,a]
  ·rw[if_neg (by omega),a]
 ·rw[A.suW fun x=>if x<0 then 1 else 0,A.su];refine zag fun P hP=>?_;obtain⟨c0,h0⟩:=A.pr.ne P hP;have w:=(A.lps hP).w1 h0;have z:=zdu (fun _=>1) (fun l=>Wd l c0) (lpP (Wl.map (lpW es)) P);rw[zi6,w,gq] at z;rw[←z];refine zag fun l hl=>?_;rcases sg P hP c0 h0 l hl with⟨a,b⟩|⟨a,b⟩
  ·rw[if_neg (by omega),a]
   rfl
  ·rw[if_pos b,a];rfl
 ·rw[A.suW fun x=>x,←su_es A.E A.nd A.v A.ndc,←zg4 crs A.pm,zh0];rfl
end
def RgP(H:Hp)(p:Addr)(r:List (Int×Int)):Prop:=∃zs,H p=some (.lst zs)/\LR P2H H zs r
theorem RgP.same{H H':Hp}{p:Addr}{r:List (Int×Int)}(h:RgP H p r)(g:Same H H'):RgP H' p r:=by
 obtain⟨zs,h1,h2⟩:=h;exact⟨zs,g _ _ h1,h2.ts zek (za6 g)⟩
theorem RgP.put{H:Hp}{p R:Addr}{r:List (Int×Int)}{ys:List V}{o:HO}(h:RgP H p r)(ne:p≠R)(hR:H R=some (.lst ys)):RgP (upd H R o) p r:=by
 obtain⟨zs,h1,h2⟩:=h;exact⟨zs,by rw[za7 ne];exact h1,h2.ts zek (zc6 hR)⟩
def BkG(f:Fr)(S:Int×Int->Prop)(H:Hp)(d:Addr)(kvs:List (List Key×V)):Prop:=H d=some (.dT kvs)/\∀x,S x->∃b,valV kvs (kQ (PF f x))=some (.ref b)/\P2H H b (mv f x)
theorem BkG.same{f:Fr}{S:Int×Int->Prop}{H H':Hp}{d:Addr}{kvs:List (List Key×V)}(h:BkG f S H d kvs)(g:Same H H'):BkG f S H' d kvs:=⟨g _ _ h.1,fun e he=>by
 obtain⟨b,e1,e2⟩:=h.2 e he;exact⟨b,e1,g _ _ e2⟩⟩
theorem BkG.put{f:Fr}{S:Int×Int->Prop}{H:Hp}{d c:Addr}{kvs:List (List Key×V)}{x:Int×Int}(w0:0<f.w)(d0:0<fd2 f)(h:BkG f S H d kvs)(hc:P2H H c (mv f x)):BkG f (fun y=>S y∨y=x) (upd H d (HO.dT (putK kvs (kQ (PF f x)) (V.ref c)))) d (putK kvs (kQ (PF f x)) (V.ref c)):=by
 have ts:zad H (upd H d (HO.dT (putK kvs (kQ (PF f x)) (V.ref c)))):=fun b xs q=>by
  rw[za7 (fun z=>by rw[z,h.1] at q;cases q)]
  exact q
 refine⟨upd_same,fun y hy=>?_⟩;rw[zda]
 by_cases cx:kQ (PF f y)=kQ (PF f x)
 ·rw[if_pos cx];have e:y=x:=zfo w0 d0 (zf8 cx);exact⟨c,rfl,by rw[e];exact ts _ _ hc⟩
 ·rw[if_neg cx];rcases hy with z|z
  ·obtain⟨b,q1,q2⟩:=h.2 y z;exact⟨b,q1,ts _ _ q2⟩
  ·exact absurd (by rw[z]) cx
def sp_back:Sp:=fun vs H Q _=>∃(l:Addr)(ys:List V)(ws:List E2)(f:Fr),vs=[.ref l,.int f.w]/\H l=some (.lst ys)/\ys.length<=144/\LR (MwH f) H ys ws/\FrB f/\0<fd2 f/\∀D kvs H',H D=none->Same H H'->BkG f (fun x=>∃e,e∈ws/\x=e.1) H' D kvs->Q (.ref D) H'
def BckI(H:Hp)(l D:Addr)(f:Fr)(ws:List E2)(i:Nat)(σ:St)(H':Hp):Prop:=∃(kvs:List (List Key×V))(o1 o2:Option V)(S:Int×Int->Prop),σ=[some (V.ref l),some (V.int f.w),some (V.ref D),o1,o2]/\Same H H'/\kvs.length<=2*i/\BkG f S H' D kvs/\∀e,e∈ws.take i->S e.1
theorem zkm(T:Txt K mg ad fd):FnOk P w K mg base CX0 3 (ad 25) (fd 25) ["_law_ways","_law_share"] sp_back:=by
 refine T.law_back.fn.ok zef (fun vs H Q E h=>?_) (fun cdv A outer s H vs Q E hr h=>?_)
 ·obtain⟨l,ys,ws,f,rfl,_⟩:=h;rfl
 obtain⟨l,ys,ws,f,rfl,hl,ny,hw,fb,d0,k⟩:=h;have zw:=@pss3;have zc:=@zbe;have zO:=@zgl;have zm:=@zd0;have zq:=@zc8;have qpv:=@pv;have zG:=@zff;have zE:=@zec;have zj:=@zbd;have zH:=@zfa;have zB:=@pss2;have zZ:=@zl4;have zh:=@zbh;have zt:=@pa3;have zd:=@zel;have za:=@zbr;have ze:=@zaz;generalize @L2.PE=QE,@L2.PT=QT,@L2.PW=QW,@L2.PA=QA,@L2.PS=QS,@L2.PSs=QSs,@L2.PG=QG,@L2.PGs=QGs,@L2.PI=QI,@L2.PO=QO,@L2.PIf=QIf at zw zc zO zm zq qpv zG zE zj zH zB zZ zh zt zd za ze⊢;refine⟨_,
  (zw
   (zc (i:=2) zef.nd rfl (kj rfl) zO)
   (zm pK rfl (zq (qpv 0)) (zG (n:=2) rfl (zE (zj (i:=3) zef.nd rfl (kj rfl)) (zE (zj (i:=4) zef.nd rfl (kj rfl)) zH))) (zB
   (zZ (zem hr) (qpv 2) (zh (zds T) (hr.mono (by decide)) rfl T.law_point.mg T.law_point.fn.kp T.law_point.bn .nil pass0 (zt (zd za5 (qpv 3) za (fun _ _=>rfl)) za9 (zd za5 (qpv 3) za (fun _ _=>rfl)) za9 (qpv 1) za1)) (qpv 3) rfl)
   (zZ (zem hr) (qpv 2) (zh (zds T) (hr.mono (by decide)) rfl T.law_point.mg T.law_point.fn.kp T.law_point.bn .nil pass0 (zt (zd za5 (qpv 4) za (fun _ _=>rfl)) za9 (zd za5 (qpv 4) za (fun _ _=>rfl)) za9 (qpv 1) za1)) (qpv 4) rfl)))
   (ze (qpv 2)))
  ,?_⟩
 clear zw zc zO zm zq qpv zG zE zj zH zB zZ zh zt zd za ze QE QT QW QA QS QSs QG QGs QI QO QIf
 dsimp! [L2.start]
 have w0:0<f.w:=by have:=fb.2.2.2.2.2.2.1;omega
 simp! [zmq];intro D hD;have gD:=za2 hD (HO.dT []);refine zbc ?_;simp! [zd1];refine⟨⟨_,.of (gD _ _ hl)⟩,?_⟩;refine zba (K:=K) (a:=l) (xs:=ys) (BckI H l D f ws) ⟨[],none,none,fun _=>False,rfl,gD,kG _,⟨upd_same,fun x z=>z.elim⟩,fun e he=>(by rw[Qe] at he;cases he)⟩ (fun i σ H' _ iv=>.of (by obtain⟨_,_,_,_,_,g,_⟩:=iv;exact g _ _ hl)) ?_ ?_
 ·intro _ _;rintro i v σ H4 hi ⟨kvs,o1,o2,S,rfl,g4,nk,bk,al⟩;obtain⟨p,e,rfl,he',⟨c,d,h1,h2,h3⟩,b1,b2⟩:=hw.2 i v hi;have hi':=(kH.mp hi).1;have h1':=g4 _ _ h1;have h2':H4 c=some (.tup [.int (mv f e.1).1,.int (mv f e.1).2]):=g4 _ _ h2;have h3':H4 d=some (.tup [.int (mv f e.2).1,.int (mv f e.2).2]):=g4 _ _ h3;simp! [sDPut,h1',h2'];refine⟨_,_,_,rfl,zqb fb b1,w0,fun pa H5 g5 ha=>?_⟩;have ha:QH H5 pa (PF f e.1):=ha;have bk5:=bk.same g5;refine⟨_,.t (k:=kQ (PF f e.1)) bk5.1 ha.1 (small1000 (by omega)),?_⟩
  have bk6:=bk5.put w0 d0 (x:=e.1) (c:=c) (g5 _ _ h2');have g6:Same H (upd H5 D (HO.dT (putK kvs (kQ (PF f e.1)) (V.ref c)))):=zaj (g4.trans g5) hD;have l6:=zbn kvs (kQ (PF f e.1)) (V.ref c);generalize putK kvs (kQ (PF f e.1)) (V.ref c)=kv6 at*;generalize upd H5 D (HO.dT kv6)=H6 at*;have h36:H6 d=some (.tup [.int (mv f e.2).1,.int (mv f e.2).2]):=g6 _ _ h3;simp! [h36];refine⟨_,_,_,rfl,zqb fb b2,w0,fun pb H7 g7 hb=>?_⟩;have hb:QH H7 pb (PF f e.2):=hb;have bk7:=bk6.same g7;refine⟨_,.t (k:=kQ (PF f e.2)) bk7.1 hb.1 (small1000 (by omega)),?_⟩
  refine⟨_,_,_,_,rfl,zaj (g6.trans g7) hD,pL (zbn _ _ _) (by omega),bk7.put w0 d0 (x:=e.2) (c:=d) (g7 _ _ h36),fun x hx=>?_⟩
  rw[kq,he'] at hx;rcases ke.mp hx with z|z
  ·exact .inl (.inl (al x z))
  ·have:x=e:=by simpa using z
   rw[this];exact .inl (.inr rfl)
 ·rintro σ H4 ⟨kvs,o1,o2,S,rfl,g4,nk,bk,al⟩;rw[kU (QZ hw.1.symm)] at al;simp! [];refine k D kvs H4 hD g4 ⟨bk.1,fun x⟨e,he,ex⟩=>?_⟩;rw[ex];exact bk.2 e.1 (al e he)
def sp_rgl:Sp:=fun vs H Q _=>∃(F B:Addr)(fs:List V)(rs:List (List (Int×Int)))(f:Fr)(S:Int×Int->Prop)(kvs:List (List Key×V)),vs=[.ref F,.ref B]/\H F=some (.lst fs)/\fs.length<=100/\LR RgQ H fs (rs.map (AV (PF f)))/\(∀r,r∈rs->3<=r.length/\r.length<=200/\∀a,a∈r->S a)/\BkG f S H B kvs/\∀D zs H',H D=none->Same H H'->H' D=some (.lst zs)->LR RgP H' zs (rs.map (AV (mv f)))->Q (.ref D) H'
def RgPN(R:Addr)(H:Hp)(p:Addr)(r:List (Int×Int)):Prop:=p≠R/\RgP H p r
def RglI(H:Hp)(F B D:Addr)(f:Fr)(rs:List (List (Int×Int)))(i:Nat)(σ:St)(H':Hp):Prop:=∃(zs:List V)(o1 o2:Option V),σ=[some (V.ref F),some (V.ref B),some (V.ref D),o1,o2]/\Same H H'/\H' D=some (.lst zs)/\LR (RgPN D) H' zs ((rs.take i).map (AV (mv f)))
theorem zk5(T:Txt K mg ad fd):FnOk P w K mg base CX0 1 (ad 26) (fd 26) ["_law_found","_law_back_here"] sp_rgl:=by
 refine T.law_rings.fn.ok zdt (fun vs H Q E h=>?_) (fun cdv A outer s H vs Q E hr h=>?_)
 ·obtain⟨F,B,fs,rs,f,S,kvs,rfl,_⟩:=h;rfl
 obtain⟨F,B,fs,rs,f,S,kvs,rfl,hF,nf,hfs,hrr,hB,k⟩:=h;have zA:=@pss4;have zn:=@zf4;have yc:=@pt_not;have zI:=@zhv;have zv:=@zcj;have zk:=@pa2;have qpv:=@pv;have yo:=@pe_bltn;have zf:=@zah;have ze:=@zaz;have ya:=@pe_non;have zp:=@zc7;have zc:=@zbe;have zu:=@zdr;have zx:=@zcz;have zm:=@zd0;have zq:=@zc8;have zj:=@zbd;have zw:=@pss3;have zQ:=@PW.pt;have zR:=@pw_or;have zS:=@zmn;have zr:=@zcl;have zg:=@pa1;have za:=@zbr;have zL:=@zjx;have yd:=@zje;have zC:=@zeb;have zD:=@zir;have zy:=@zee;unfold L2.CompBody at zy;have zF:=@zfd;have zX:=@zkf;generalize @L2.PE=QE,@L2.PT=QT,@L2.PW=QW,@L2.PA=QA,@L2.PS=QS,@L2.PSs=QSs,@L2.PG=QG,@L2.PGs=QGs,@L2.PI=QI,@L2.PO=QO,@L2.PIf=QIf,@L2.PC=QC,@L2.PK=QK at zA zn yc zI zv zk qpv yo zf ze ya zp zc zu zx zm zq zj zw zQ zR zS zr zg za zL yd zC zD zy zF zX⊢;refine⟨_,
  (zA
   (zn (yc (zI (zv (isiF zfj) rfl T.b_isinstance zfw (zk (qpv 0) za1 (yo (v:=.ty "list") rfl T.b_list zkc rfl) za1)))) (zf (ze ya)) zp)
   (zc (i:=2) zdt.nd rfl (kj rfl) (zu zx))
   (zm pK rfl (zq (qpv 0)) (zj (i:=3) zdt.nd rfl (kj rfl)) (zw
   (zn (zQ (zR (yc (zI (zv (isiF zfj) rfl T.b_isinstance zfw (zk (qpv 3) za1 (yo (v:=.ty "list") rfl T.b_list zkc rfl) za1)))) (zS (zr zj7 (zv zbq rfl T.b_len zdn (zg (qpv 3) za1)) za (nomark _))))) (zf (ze ya)) zp)
   (zm pK rfl (zq (qpv 3)) (zj (i:=4) zdt.nd rfl (kj rfl)) (zf (zn (zL (yd (zem hr) (qpv 4) (qpv 1))) (zf (ze ya)) zp)))
   (zC (zD pZ uL uM zc9 (qpv 2) (zg (zy (dsc:=za0 zb7) (N:=["_law_found","_law_back_here","_law_turned","_law_ring","_law_one"]) (own:=["_law_one"]) (ix:=[1]) rfl rfl rfl ⟨rfl,by decide+kernel,by decide+kernel,by decide+kernel,by decide+kernel⟩ (zq (qpv 3)) (fun cl C fp s2 H2 xe=>⟨(zj (i:=0) (show Qf (["_law_one","_law_back_here"]:List Str) from by decide+kernel) rfl (kj rfl)),zF,(zX (zem hr) (qpv 1) (qpv 0) (fun _ _=>rfl))⟩)) zdl)))))
   (ze (qpv 2)))
  ,?_⟩
 clear zA zn yc zI zv zk qpv yo zf ze ya zp zc zu zx zm zq zj zw zQ zR zS zr zg za zL yd zC zD zy zF zX QE QT QW QA QS QSs QG QGs QI QO QIf QC QK
 dsimp! [L2.start]
 have lfs:=hfs.1;rw[kO] at lfs;simp! [];refine⟨_,zpf hF,?_⟩;rw[isi_ll];refine iteF fun D hD=>?_;have gD:=za2 hD (HO.lst []);refine zbc ?_;simp! [zd1];refine⟨⟨_,.of (gD _ _ hF)⟩,?_⟩;refine zba (K:=K) (a:=F) (xs:=fs) (RglI H F B D f rs) ⟨[],none,none,rfl,gD,upd_same,.nil⟩ (fun i σ H' _ iv=>.of (by obtain⟨_,_,_,_,g,_⟩:=iv;exact g _ _ hF)) ?_ ?_
 ·intro _ _;rintro i v σ H3 hi ⟨zs,o1,o2,rfl,g3,hD3,hz⟩;obtain⟨p,q,rfl,hq',us,hp,hu⟩:=hfs.2 i v hi;have hi':=(kH.mp hi).1;obtain⟨r,hr1⟩:∃r,rs[i]?=some r:=⟨_,kR (by omega)⟩
  rw[pG,hr1] at hq'
  cases hq';obtain⟨r3,r200,rS⟩:=hrr r (kz hr1);have lu:=hu.1;rw[kO] at lu;have hp3:=g3 _ _ hp;have hB3:=hB.same g3;have lz:=hz.1;rw[kO,pI] at lz;simp! [hp3];refine⟨_,zpf hp3,?_⟩;rw[isi_ll];refine iteF ?_;rw[if_neg (by rw[decide_eq_true_iff];omega)]
  have at_:∀(n:Nat)(v:V),us[n]?=some v->∃b a c,v=.ref b/\r[n]?=some a/\QH H b (PF f a)/\valV kvs (kQ (PF f a))=some (.ref c)/\P2H H c (mv f a):=fun n v hv=>by
   obtain⟨b,q,rfl,hq,hb⟩:=hu.2 n v hv;obtain⟨a,ha⟩:∃a,r[n]?=some a:=⟨_,kR (by have:=(kH.mp hv).1;omega)⟩
   rw[pG,ha] at hq
   cases hq;obtain⟨c,v1,p1⟩:=hB.2 a (rS a (kz ha));exact⟨b,a,c,rfl,ha,hb,v1,p1⟩
  refine zbc ?_;simp! [zd1];refine⟨⟨_,.of hp3⟩,?_⟩;refine zba (K:=K) (a:=p) (xs:=us) (fun _ σ H'=>H'=H3/\∃o,σ=[some (V.ref F),some (V.ref B),some (V.ref D),some (V.ref p),o]) ⟨rfl,_,rfl⟩ (fun i σ H' _ iv=>.of (by rw[iv.1];exact hp3)) ?_ ?_
  ·intro _ _;rintro n v σ H4 hn ⟨rfl,o,rfl⟩;obtain⟨b,a,c,rfl,ha,hb,v1,p1⟩:=at_ n v hn;simp! [zkp];refine⟨_,.t (k:=kQ (PF f a)) hB3.1 (g3 _ _ hb.1),?_⟩;rw[v1];refine iteF ?_
   trivial
  ·rintro σ H4 ⟨rfl,o,rfl⟩;simp! [];refine⟨ze7 hD3,zc2 ?_⟩;simp! [zd1];refine⟨⟨_,.of hp3⟩,fun Cc hCc=>?_⟩;refine zbx (xs:=us) (zlh (fun H p a=>P2H H p (mv f a)) r H4 Cc) (zfp hCc) (fun n qs H' z=>.of (z.1 _ _ hp3)) ?_ ?_
   ·rintro n qs H5 v hn hvv iv;obtain⟨g5,hC5,lq,hq⟩:=id iv;obtain⟨b,a,c,rfl,ha,hb,v1,p1⟩:=at_ n v hvv;simp! [tDGet];refine⟨.ref c,by rw[←v1];exact .t (k:=kQ (PF f a)) (g5 _ _ hB3.1) (g5 _ _ (g3 _ _ hb.1)),?_⟩
    exact zfk (R:=fun H p a=>P2H H p (mv f a)) (a:=a) (fun _ _ _ _=>zek _ _ _ _) hCc (by omega) iv hn ha (.refl _) (g5 _ _ (g3 _ _ p1))
   ·rintro qs H5 ⟨g5,hC5,lq,hq⟩;rw[kU (by omega)] at hq
    have hq:=hq.map (f:=mv f) (R:=P2H);have hD5:=g5 _ _ hD3;have nC:Cc≠D:=fun z=>by rw[z,hD3] at hCc;cases hCc
    refine⟨zs,hD5,small1000 (by omega),zs++[V.ref Cc],_,_,rfl,zaj (g3.trans g5) hD,upd_same,?_⟩
    rw[kq,hr1,pV];exact((hz.imp (R':=RgPN D) fun p r t=>⟨t.1,t.2.same g5⟩).snoc (R:=RgPN D) (a:=r.map (mv f)) ⟨nC,qs,hC5,hq⟩).imp fun p r t=>⟨t.1,t.2.put t.1 hD5⟩
 ·rintro σ H3 ⟨zs,o1,o2,rfl,g3,hD3,hz⟩;rw[kU (by omega)] at hz
  simp! [];exact k D zs H3 hD g3 hD3 (hz.imp fun p r t=>t.2)
def nz(m:List (Int×Int))(i:Nat):Int×Int:=m.getD (i%m.length) (0,0)
def crs0(e:(Int×Int)×(Int×Int)):Int:=e.1.1*e.2.2-e.2.1*e.1.2
def twc(m:List (Int×Int))(n:Nat):Int:=su (fun i=>crs0 (nz m i,nz m (i+1))) (kc n)
theorem twc_succ(m:List (Int×Int))(n:Nat):twc m (n+1)=twc m n+crs0 (nz m n,nz m (n+1)):=by
 unfold twc;rw[um,zgb];show _+(crs0 _+0)=_;rw[Qg]
def sp_twc:Sp:=fun vs H Q _=>∃(l:Addr)(m:List (Int×Int)),vs=[.ref l]/\RgP H l m/\m.length<=200/\(∀x,x∈m->x.1.natAbs<2^60/\x.2.natAbs<2^60)/\Q (.int (twc m m.length)) H
theorem zj5(T:Txt K mg ad fd):FnOk P w K mg base CX0 1 (ad 27) (fd 27) ["_law_ring"] sp_twc:=by
 refine T.law_twice.fn.ok zcx (fun vs H Q E h=>?_) (fun cdv A outer s H vs Q E hr h=>?_)
 ·obtain⟨l,m,rfl,_⟩:=h;rfl
 obtain⟨l,m,rfl,⟨ys,hl,hm⟩,nm,bd,k⟩:=h;have zw:=@pss3;have zc:=@zbe;have za:=@zbr;have zm:=@zd0;have zK:=@ze8;have zg:=@pa1;have zv:=@zcj;have qpv:=@pv;have zj:=@zbd;have zB:=@pss2;have zd:=@zel;have zb:=@zdx;have ze:=@zaz;generalize @L2.PE=QE,@L2.PT=QT,@L2.PW=QW,@L2.PA=QA,@L2.PS=QS,@L2.PSs=QSs,@L2.PG=QG,@L2.PGs=QGs,@L2.PI=QI,@L2.PO=QO,@L2.PIf=QIf at zw zc za zm zK zg zv qpv zj zB zd zb ze⊢;refine⟨_,
  (zw
   (zc (i:=1) zcx.nd rfl (kj rfl) za)
   (zm pK rfl (zK rfl T.b_range (zg (zv zbq rfl T.b_len zdn (zg (qpv 0) za1)) zby)) (zj (i:=2) zcx.nd rfl (kj rfl)) (zB
   (zc (i:=3) zcx.nd rfl (kj rfl) (zd zai (qpv 0) (zb zi5 (zb zar (qpv 2) za) (zv zbq rfl T.b_len zdn (zg (qpv 0) za1))) (fun _ _=>rfl)))
   (zc (i:=1) zcx.nd rfl (kj rfl) (zb zcp (zb zar (qpv 1) (zb zan (zd za5 (zd zai (qpv 0) (qpv 2) (fun _ _=>rfl)) za (fun _ _=>rfl)) (zd za5 (qpv 3) za (fun _ _=>rfl)))) (zb zan (zd za5 (qpv 3) za (fun _ _=>rfl)) (zd za5 (zd zai (qpv 0) (qpv 2) (fun _ _=>rfl)) za (fun _ _=>rfl)))))))
   (ze (qpv 1)))
  ,?_⟩
 clear zw zc za zm zK zg zv qpv zj zB zd zb ze QE QT QW QA QS QSs QG QGs QI QO QIf
 dsimp! [L2.start]
 have lm:=hm.1;simp! [];refine zbc ?_;simp! [zlj];refine⟨ys,.inl hl,by omega,by omega,zdd (fun i σ H'=>H'=H/\∃o1 o2,σ=[some (V.ref l),some (V.int (twc m i)),o1,o2]) ⟨rfl,none,none,rfl⟩ ?_ ?_⟩
 ·intro _ _;rintro j σ H4 hj ⟨rfl,o1,o2,rfl⟩;have hj':j<m.length:=by omega
  have m2:(j+1)%m.length<m.length:=jY _ (by omega)
  have fm:(((j:Int)+1).fmod (ys.length:Int))=(((j+1)%m.length:Nat):Int):=by
   rw[vD _ (by omega),lm]
   exact(Int.natCast_emod (j+1) m.length).symm
  obtain⟨c1,x1,a1,r1,h1⟩:=hm.at (j:=j) (by omega)
  obtain⟨c2,x2,a2,r2,h2⟩:=hm.at (j:=(j+1)%m.length) (by omega)
  have b1:=bd x1 (kz r1);have b2:=bd x2 (kz r2);have n1:nz m j=x1:=by unfold nz;rw[jX hj',kZ,r1];rfl
  have n2:nz m (j+1)=x2:=by unfold nz;rw[kZ,r2];rfl
  unfold P2H at h1 h2;simp! [ur,hl];refine⟨by omega,_,by rw[fm];exact zce a2,?_⟩
  simp! [zce a1,h1,h2];refine⟨cbig (m:=60) (n:=60) b1.1 b2.2,cbig (m:=60) (n:=60) b2.1 b1.2,?_⟩;rw[twc_succ,n1,n2];unfold crs0;dsimp only;omega
 ·rintro σ H4 ⟨rfl,o1,o2,rfl⟩;simp! [];have e:((ys.length:Int)).toNat=m.length:=by omega
  rw[e];exact k
def T3H(H:Hp)(p:Addr)(c:C3):Prop:=H p=some (.tup [.int c.1,.int c.2.1,.int c.2.2])/\vq c
theorem zc4:∀(H H':Hp)(p:Addr)(c:C3),zad H H'->T3H H p c->T3H H' p c:=fun _ _ _ _ g h=>⟨g _ _ h.1,h.2⟩
def d3(c:C3):BH:=.tuple [.int c.1,.int c.2.1,.int c.2.2]
theorem rd_3{K:kM}{H:Hp}{p:Addr}{c:C3}(h:H p=some (.tup [.int c.1,.int c.2.1,.int c.2.2])):RdD K H (d3 c) (.ref p):=by
 unfold d3;rw[RdD];refine⟨p,_,rfl,.of h,?_⟩;rw[RdDs];refine⟨_,_,rfl,?_,?_⟩
 ·rw[RdD]
 rw[RdDs];refine⟨_,_,rfl,?_,?_⟩
 ·rw[RdD]
 rw[RdDs];refine⟨_,_,rfl,?_,?_⟩
 ·rw[RdD]
 rw[RdDs]
theorem rd_3s{K:kM}{H:Hp}:∀{us:List V}{cs:List C3},LR T3H H us cs->RdDs K H (cs.map d3) us
 |[],[],_=>by rw[uU,RdDs]
 |[],_::_,h=>by cases h.1
 |_::_,[],h=>by cases h.1
 |u::us,c::cs,h=>by
  obtain⟨a,as',e,⟨p,rfl,hp⟩,ht⟩:=h.cons_inv
  cases e;rw[kh,RdDs];exact⟨_,_,rfl,rd_3 hp.1,rd_3s ht⟩
theorem zis{K:kM}{H:Hp}{l:Addr}{zs:List V}{F:List C3}(h:H l=some (.lst zs))(hz:LR T3H H zs F):RdD K H (.list (F.map d3)) (.ref l):=by
 rw[RdD];exact⟨l,zs,rfl,.of h,rd_3s hz⟩
theorem zet(e:C3):(d3 e).canLay0=true/\(d3 e).depth<=4:=by
 simp[d3,UE,uF,vO,uV]
theorem zg2(F:List C3):uF (F.map d3)=true/\uV (F.map d3)<=4:=by
 induction F with
 |nil=>exact⟨rfl,by simp[uV]⟩
 |cons r F ih=>
  have h:=zet r;rw[kh]
  constructor
  ·rw[uF,h.1,ih.1];rfl
  ·rw[uV];have:=h.2;have:=ih.2;omega
theorem d3_eqv(a b:C3):uW (d3 a) (d3 b)=decide (a=b):=by
 obtain⟨a1,a2,a3⟩:=a;obtain⟨b1,b2,b3⟩:=b;rw[QF]
 simp[d3,uW,UX,Bool.and_assoc]
theorem zjg(F:List C3)(c:C3):((F.map d3).any fun e=>uW e (d3 c))=decide (c∈F):=by
 rw[Dc,QF,List.any_eq_true,decide_eq_true_iff]
 constructor
 ·rintro⟨x,h1,h2⟩;have h2:uW (d3 x) (d3 c)=true:=h2;rw[d3_eqv,decide_eq_true_iff] at h2;rw[←h2];exact h1
 ·intro h;exact⟨c,h,by show uW (d3 c) (d3 c)=true;rw[d3_eqv,decide_eq_true rfl]⟩
def sp_near:Sp:=fun vs H Q _=>∃(p l:Addr)(c:C3)(ys:List V)(ps:List C3),vs=[.ref p,.ref l]/\T3H H p c/\H l=some (.lst ys)/\LR T3H H ys ps/\∀H',Same H H'->Q (.bl (decide (∃d,d∈nbs c/\d∈ps))) H'
theorem zkb(T:Txt K mg ad fd):FnOk P w K mg base CX0 1 (ad 29) (fd 29) ["_law_cell_here","_law_part"] sp_near:=by
 refine T.law_near.fn.ok zde (fun vs H Q E h=>?_) (fun cdv A outer s H vs Q E hr h=>?_)
 ·obtain⟨p,l,c,ys,ps,rfl,_⟩:=h;rfl
 obtain⟨p,l,⟨x,y,q⟩,ys,ps,rfl,⟨hp,v⟩,hl,hy,k⟩:=h;dsimp only at hp;have zA:=@pss4;have yE:=@ps_asg;have qpv:=@pv;have zG:=@zff;have zE:=@zec;have zj:=@zbd;have zH:=@zfa;have zn:=@zf4;have zQ:=@PW.pt;have zR:=@pw_or;have zr:=@zcl;have zo:=@zdp;have zt:=@pa3;have zb:=@zdx;have za:=@zbr;have zS:=@zmn;have zf:=@zah;have ze:=@zaz;have zM:=@pe_bl;have zp:=@zc7;have zc:=@zbe;have zu:=@zdr;have ye:=@pa4;have zJ:=@zgq;have zd:=@zel;generalize @L2.PE=QE,@L2.PT=QT,@L2.PW=QW,@L2.PA=QA,@L2.PS=QS,@L2.PSs=QSs,@L2.PG=QG,@L2.PGs=QGs,@L2.PI=QI,@L2.PO=QO,@L2.PIf=QIf at zA yE qpv zG zE zj zH zn zQ zR zr zo zt zb za zS zf ze zM zp zc zu ye zJ zd⊢;refine⟨_,
  (zA
   (yE (qpv 0) (zG (n:=3) rfl (zE (zj (i:=2) zde.nd rfl (kj rfl)) (zE (zj (i:=3) zde.nd rfl (kj rfl)) (zE (zj (i:=4) zde.nd rfl (kj rfl)) zH)))))
   (zn (zQ (zR (zr (zo3 (K':=K) rfl (hu64 hr)) (zo (zt (qpv 2) za1 (qpv 3) za1 (zb zcq (zb zar (qpv 4) za) za) za8)) (qpv 1) rfl) (zS (zr (zo3 (K':=K) rfl (hu64 hr)) (zo (zt (qpv 2) za1 (qpv 3) za1 (zb zcq (zb zar (qpv 4) za) za) za8)) (qpv 1) rfl)))) (zf (ze zM)) zp)
   (zc (i:=5) zde.nd rfl (kj rfl) (zu (ye (zo (zt (qpv 2) za1 (zb zcp (qpv 3) za) za8 za zao)) zbz (zo (zt (zb zar (qpv 2) za) za8 (qpv 3) za1 za zao)) zbz (zo (zt (qpv 2) za1 (zb zar (qpv 3) za) za8 za zao)) zbz (zo (zt (zb zcp (qpv 2) za) za8 (qpv 3) za1 za zao)) zbz)))
   (ze (zJ (zo3 (K':=K) rfl (hu64 hr)) (zd zai (qpv 5) (qpv 4) (fun _ _=>rfl)) (qpv 1) rfl)))
  ,?_⟩
 clear zA yE qpv zG zE zj zH zn zQ zR zr zo zt zb za zS zf ze zM zp zc zu ye zJ zd QE QT QW QA QS QSs QG QGs QI QO QIf
 dsimp! [L2.start]
 simp! [hp];have n4:(0:Int)<4:=by decide
 refine⟨n4,fun t1 ht1=>?_⟩;have g1:=za2 ht1 (HO.tup [V.int x,V.int y,V.int ((q+1)%4)]);have h1:upd H t1 (HO.tup [V.int x,V.int y,V.int ((q+1)%4)]) t1=some (HO.tup [V.int x,V.int y,V.int ((q+1)%4)]):=upd_same;generalize upd H t1 (HO.tup [V.int x,V.int y,V.int ((q+1)%4)])=H1 at*;have y1:=hy.ts zc4 (za6 g1);refine⟨_,_,rd_3 (c:=(x,y,(q+1)%4)) h1,zis (g1 _ _ hl) y1,(zet _).1,(zg2 _).1,by have:=(zet (x,y,(q+1)%4)).2;omega,_,rfl,?_⟩
 rw[zjg];refine ite2 (fun c=>?_) (fun c=>?_)
 ·have c:=of_decide_eq_true c;have:=k H1 g1;rw[decide_eq_true ⟨_,by unfold nbs;exact po ..,c⟩] at this
  exact this
 have c1:¬(x,y,(q+1)%4)∈ps:=fun z=>c (decide_eq_true z);refine⟨n4,fun t2 ht2=>?_⟩;have g2:=za2 ht2 (HO.tup [V.int x,V.int y,V.int ((q+3)%4)]);have h2:upd H1 t2 (HO.tup [V.int x,V.int y,V.int ((q+3)%4)]) t2=some (HO.tup [V.int x,V.int y,V.int ((q+3)%4)]):=upd_same;generalize upd H1 t2 (HO.tup [V.int x,V.int y,V.int ((q+3)%4)])=H2 at*;have y2:=y1.ts zc4 (za6 g2);have l2:=g2 _ _ (g1 _ _ hl);refine⟨_,_,rd_3 (c:=(x,y,(q+3)%4)) h2,zis l2 y2,(zet _).1,(zg2 _).1,by have:=(zet (x,y,(q+3)%4)).2;omega,_,rfl,?_⟩
 rw[zjg];refine ite2 (fun c=>?_) (fun c=>?_)
 ·have c:=of_decide_eq_true c;have:=k H2 (g1.trans g2);rw[decide_eq_true ⟨_,by unfold nbs;exact kI _ (po ..),c⟩] at this
  exact this
 have c2:¬(x,y,(q+3)%4)∈ps:=fun z=>c (decide_eq_true z);have fin:∀(H':Hp)(t:Addr)(d:C3),Same H2 H'->H' t=some (.tup [.int d.1,.int d.2.1,.int d.2.2])->ovC (x,y,q)=d->rInL K (.ref t) (.ref l) H' Q:=fun H' t d g ht e=>by
  refine⟨_,_,rd_3 ht,zis (g _ _ l2) (y2.ts zc4 (za6 g)),(zet _).1,(zg2 _).1,by have:=(zet d).2;omega,?_⟩
  rw[zjg];have:=k H' ((g1.trans g2).trans g);rw[show decide (∃d,d∈nbs (x,y,q)/\d∈ps)=decide (d∈ps) from decide_eq_decide.mpr ⟨fun⟨z,h1,h2⟩=>?_,fun z=>⟨d,?_,z⟩⟩] at this
  ·exact this
  ·unfold nbs at h1;rw[mem3] at h1;rcases h1 with h|h|h
   ·rw[h] at h2;exact absurd h2 c1
   ·rw[h] at h2;exact absurd h2 c2
   ·rw[←e,←h];exact h2
  ·unfold nbs;rw[mem3];exact .inr (.inr e.symm)
 intro u0 z0;have s0:=za2 z0 (HO.tup [V.int x,V.int (y-1),V.int 2]);have q0:upd H2 u0 (HO.tup [V.int x,V.int (y-1),V.int 2]) u0=some (HO.tup [V.int x,V.int (y-1),V.int 2]):=upd_same;generalize upd H2 u0 (HO.tup [V.int x,V.int (y-1),V.int 2])=I0 at*;intro u1 z1;have s1:=za2 z1 (HO.tup [V.int (x+1),V.int y,V.int 3]);have q1:upd I0 u1 (HO.tup [V.int (x+1),V.int y,V.int 3]) u1=some (HO.tup [V.int (x+1),V.int y,V.int 3]):=upd_same;generalize upd I0 u1 (HO.tup [V.int (x+1),V.int y,V.int 3])=I1 at*;intro u2 z2;have s2:=za2 z2 (HO.tup [V.int x,V.int (y+1),V.int 0]);have q2:upd I1 u2 (HO.tup [V.int x,V.int (y+1),V.int 0]) u2=some (HO.tup [V.int x,V.int (y+1),V.int 0]):=upd_same;generalize upd I1 u2 (HO.tup [V.int x,V.int (y+1),V.int 0])=I2 at*;intro u3 z3;have s3:=za2 z3 (HO.tup [V.int (x-1),V.int y,V.int 1]);have q3:upd I2 u3 (HO.tup [V.int (x-1),V.int y,V.int 1]) u3=some (HO.tup [V.int (x-1),V.int y,V.int 1]):=upd_same;generalize upd I2 u3 (HO.tup [V.int (x-1),V.int y,V.int 1])=I3 at*;intro u4 z4;have s4:=za2 z4 (HO.lst [V.ref u0,V.ref u1,V.ref u2,V.ref u3]);generalize upd I3 u4 (HO.lst [V.ref u0,V.ref u1,V.ref u2,V.ref u3])=I4 at*;have g4:Same H2 I4:=(((s0.trans s1).trans s2).trans s3).trans s4;obtain⟨v1,v2⟩:=v;dsimp only at v1 v2;rcases(by omega:q=0∨q=1∨q=2∨q=3) with rfl|rfl|rfl|rfl
 ·exact⟨_,rfl,fin I4 u0 (x,y-1,2) g4 (s4 _ _ (s3 _ _ (s2 _ _ (s1 _ _ q0)))) rfl⟩
 ·exact⟨_,rfl,fin I4 u1 (x+1,y,3) g4 (s4 _ _ (s3 _ _ (s2 _ _ q1))) rfl⟩
 ·exact⟨_,rfl,fin I4 u2 (x,y+1,0) g4 (s4 _ _ (s3 _ _ q2)) rfl⟩
 ·exact⟨_,rfl,fin I4 u3 (x-1,y,1) g4 (s4 _ _ q3) rfl⟩
structure Pin(S R:List C3)(Ps:List (List C3)):Prop where
 pm:(Ps.flatten++R).Perm S
 ne:∀p,p∈Ps->∃c,c∈p
 con:∀p,p∈Ps->∀c d,c∈p->d∈p->Cn (fun c=>c∈S) c d
 sep:∀p,p∈Ps->∀c d,c∈p->d∈S->d∈nbs c->d∈p
structure Pic(S P R:List C3)(Ps:List (List C3)):Prop where
 pin:Pin S (P++R) Ps
 ne:∃c,c∈P
 con:∀c d,c∈P->d∈P->Cn (fun c=>c∈S) c d
def zcy(P:List C3)(c:C3):Bool:=decide (∃d,d∈nbs c/\d∈P)
theorem Pin.pop{S R:List C3}{Ps:List (List C3)}{c:C3}(h:Pin S (R++[c]) Ps):Pic S [c] R Ps:=by
 have pm:(Ps.flatten++([c]++R)).Perm S:=(pg _ uT).trans h.pm;refine⟨⟨pm,h.ne,h.con,h.sep⟩,⟨c,by simp⟩,fun a b ha hb=>?_⟩
 rw[kX.mp ha,kX.mp hb];exact .refl (pm.mem_iff.mp (by simp))
theorem Pic.sub{S P R:List C3}{Ps:List (List C3)}(h:Pic S P R Ps):(∀c,c∈P->c∈S)/\∀c,c∈R->c∈S:=⟨fun c hc=>h.pin.pm.mem_iff.mp (by simp[hc]),fun c hc=>h.pin.pm.mem_iff.mp (by simp[hc])⟩
theorem Pic.grow{S P R:List C3}{Ps:List (List C3)}(v:∀c,c∈S->vq c)(h:Pic S P R Ps):Pic S (P++R.filter (zcy P)) (R.filter fun c=> ! zcy P c) Ps:=by
 have pp:(P++R.filter (zcy P)++R.filter fun c=> ! zcy P c).Perm (P++R):=by
  rw[pC];exact pg _ (AW _ _)
 have to:∀d,d∈P++R.filter (zcy P)->∃e,e∈P/\Cn (fun c=>c∈S) e d:=fun d hd=>by
  rcases ke.mp hd with z|z
  ·exact⟨d,z,.refl (h.sub.1 d z)⟩
  ·obtain⟨h1,h2⟩:=pf.mp z;obtain⟨e,e1,e2⟩:=of_decide_eq_true h2;have hd:=h.sub.2 d h1;exact⟨e,e2,Cn.two (h.sub.1 e e2) hd (zgx (v d hd) e1)⟩
 obtain⟨c,hc⟩:=h.ne;refine⟨⟨(pg _ pp).trans h.pin.pm,h.pin.ne,h.pin.con,h.pin.sep⟩,⟨c,by simp[hc]⟩,fun a b ha hb=>?_⟩
 obtain⟨e,e1,e2⟩:=to a ha;obtain⟨e',f1,f2⟩:=to b hb;exact(e2.symm v).trans ((h.con e e' e1 f1).trans f2)
theorem Pic.done{S P R:List C3}{Ps:List (List C3)}(v:∀c,c∈S->vq c)(nd:S.Nodup)(h:Pic S P R Ps)(no:∀d,d∈R->zcy P d=false):Pin S R (Ps++[P]):=by
 refine⟨?_,fun p hp=>?_,fun p hp=>?_,fun p hp c d hc hd m=>?_⟩
 ·rw[Bb,List.flatten_singleton,pC];exact h.pin.pm
 ·rcases ke.mp hp with z|z
  ·exact h.pin.ne p z
  ·rw[kX.mp z];exact h.ne
 ·rcases ke.mp hp with z|z
  ·exact h.pin.con p z
  ·rw[kX.mp z];exact h.con
 ·rcases ke.mp hp with z|z
  ·exact h.pin.sep p z c d hc hd m
  ·rw[kX.mp z] at hc⊢;have hcS:=h.sub.1 c hc;rcases ke.mp (h.pin.pm.mem_iff.mpr hd) with q|q
   ·exfalso
    obtain⟨p',hp',dp⟩:=uX.mp q;have cp:=h.pin.sep p' hp' d c dp hcS (zgx (v c hcS) m);have n:=h.pin.pm.nodup_iff.mpr nd;exact(List.nodup_append.mp n).2.2 c (uX.mpr ⟨p',hp',cp⟩) c (by simp[hc]) rfl
   ·rcases ke.mp q with q|q
    ·exact q
    ·have:=no d q;unfold zcy at this;rw[decide_eq_false_iff_not] at this;exact absurd ⟨c,zgx (v c hcS) m,hc⟩ this
theorem Pin.prt{S:List C3}{Ps:List (List C3)}(nd:S.Nodup)(h:Pin S [] Ps):Prt (fun c=>c∈S) Ps:=by
 have pm:=h.pm;rw[pU] at pm;refine⟨fun c=>?_,h.ne,h.con,h.sep,?_⟩
 ·rw[←pm.mem_iff,uX]
 ·have:=kK.mp (pm.nodup_iff.mpr nd);rw[uf] at this;exact this.2.imp fun h c h1 h2=>h c h1 c h2 rfl
theorem zq4{Ps:List (List C3)}(h:∀p,p∈Ps->∃c,c∈p):Ps.length<=Ps.flatten.length:=by
 induction Ps with
 |nil=>exact kG _
 |cons p Ps ih=>
  obtain⟨c,hc⟩:=h p (by simp)
  have:=jM hc;have:=ih fun q hq=>h q (kI _ hq);rw[UV,kJ,pJ];omega
theorem Pin.len{S R:List C3}{Ps:List (List C3)}(h:Pin S R Ps):Ps.length+R.length<=S.length:=by
 have a:=h.pm.length_eq;have b:=zq4 h.ne;rw[kJ] at a;omega
theorem d3_nil(F:List C3):uW (.list (F.map d3)) (.list (AV d3 []))=decide (F=[]):=by
 cases F with
 |nil=>rfl
 |cons c F=>rfl
theorem zev(F:List C3):UA (.list (F.map d3))=true:=by
 obtain⟨h1,h2⟩:=zg2 F;unfold UA;rw[UE,h1,Bool.true_and,vO];exact decide_eq_true (by omega)
def RgT(H:Hp)(p:Addr)(r:List C3):Prop:=∃zs,H p=some (.lst zs)/\LR T3H H zs r
def RgTN(A:Addr->Prop)(H:Hp)(p:Addr)(r:List C3):Prop:=A p/\RgT H p r
theorem RgT.same{H H':Hp}{p:Addr}{r:List C3}(h:RgT H p r)(g:Same H H'):RgT H' p r:=by
 obtain⟨zs,h1,h2⟩:=h;exact⟨zs,g _ _ h1,h2.ts zc4 (za6 g)⟩
theorem RgT.put{H:Hp}{p R:Addr}{r:List C3}{ys:List V}{o:HO}(h:RgT H p r)(ne:p≠R)(hR:H R=some (.lst ys)):RgT (upd H R o) p r:=by
 obtain⟨zs,h1,h2⟩:=h;exact⟨zs,by rw[za7 ne];exact h1,h2.ts zc4 (zc6 hR)⟩
theorem for_aft{J:L2.It}{g:TG}{tb:TS}{D:L2.Ends}{σ:St}{H:Hp}(Af:St->Hp->Prop)(hd:∀σ H,Af σ H->D.nx σ H)(k:(∀σ H,Af σ H->D.nx σ H)->ForW J g tb D σ H):ForW J g tb D σ H:=k hd
def sp_parts:Sp:=fun vs H Q _=>∃(l:Addr)(ys:List V)(S:List C3),vs=[.ref l]/\H l=some (.lst ys)/\ys.length<=150/\LR T3H H ys S/\S.Nodup/\∀D zs Ps H',H D=none->Same H H'->H' D=some (.lst zs)->LR RgT H' zs Ps->Prt (fun c=>c∈S) Ps->Q (.ref D) H'
def PrtW(H:Hp)(l:Addr)(S:List C3)(m:Nat)(σ:St)(H':Hp):Prop:=∃(L D:Addr)(us zs:List V)(R:List C3)(Ps:List (List C3))(o3 o4 o5:Option V),σ=[some (V.ref l),some (V.ref L),some (V.ref D),o3,o4,o5]/\Same H H'/\H L=none/\H D=none/\L≠D/\H' L=some (.lst us)/\LR T3H H' us R/\H' D=some (.lst zs)/\LR (RgTN fun p=>p≠L/\p≠D) H' zs Ps/\Pin S R Ps/\m=R.length
def PrtF(H:Hp)(l:Addr)(S:List C3)(n0 i:Nat)(σ:St)(H':Hp):Prop:=∃(L D A:Addr)(us zs ps:List V)(R P:List C3)(Ps:List (List C3))(o4 o5:Option V),σ=[some (V.ref l),some (V.ref L),some (V.ref D),some (V.ref A),o4,o5]/\Same H H'/\H L=none/\H D=none/\L≠D/\A≠L/\A≠D/\H A=none/\H' L=some (.lst us)/\LR T3H H' us R/\H' D=some (.lst zs)/\LR (RgTN fun p=>p≠L/\p≠D) H' zs Ps/\H' A=some (.lst ps)/\LR T3H H' ps P/\Pic S P R Ps/\R.length+i<=n0
def PrtA(H:Hp)(l:Addr)(S:List C3)(n0:Nat)(σ:St)(H':Hp):Prop:=∃(L D A:Addr)(us zs ps:List V)(R P:List C3)(Ps:List (List C3))(o4 o5:Option V),σ=[some (V.ref l),some (V.ref L),some (V.ref D),some (V.ref A),o4,o5]/\Same H H'/\H L=none/\H D=none/\L≠D/\A≠L/\A≠D/\H A=none/\H' L=some (.lst us)/\LR T3H H' us R/\H' D=some (.lst zs)/\LR (RgTN fun p=>p≠L/\p≠D) H' zs Ps/\H' A=some (.lst ps)/\LR T3H H' ps P/\Pic S P R Ps/\R.length<=n0/\∀d,d∈R->zcy P d=false
theorem zgf(T:Txt K mg ad fd):FnOk P w K mg base CX0 2 (ad 28) (fd 28) ["_law_cells_here"] sp_parts:=by
 refine T.law_parts.fn.ok zbf (fun vs H Q E h=>?_) (fun cdv A outer s H vs Q E hr h=>?_)
 ·obtain⟨l,ys,S,rfl,_⟩:=h;rfl
 obtain⟨l,ys,S,rfl,hl,ny,hS,nd,k⟩:=h;have zA:=@pss4;have zc:=@zbe;have yF:=@zqn;have zg:=@pa1;have qpv:=@pv;have zu:=@zdr;have zx:=@zcz;have zP:=@zgm;have zr:=@zcl;have zw:=@pss3;have yG:=@pe_bm0;have zm:=@zd0;have zK:=@ze8;have zv:=@zcj;have zj:=@zbd;have zy:=@zee;unfold L2.CompBody at zy;have zq:=@zc8;have zN:=@zin;have zI:=@zhv;have zh:=@zbh;have zk:=@pa2;have zn:=@zf4;have zf:=@zah;have yH:=@ps_break;have zp:=@zc7;have zb:=@zdx;have zW:=@zkx;unfold L2.CompBody at zW;have zC:=@zeb;have zD:=@zir;have ze:=@zaz;generalize @L2.PE=QE,@L2.PT=QT,@L2.PW=QW,@L2.PA=QA,@L2.PS=QS,@L2.PSs=QSs,@L2.PG=QG,@L2.PGs=QGs,@L2.PI=QI,@L2.PO=QO,@L2.PIf=QIf at zA zc yF zg qpv zu zx zP zr zw yG zm zK zv zj zy zq zN zI zh zk zn zf yH zp zb zW zC zD ze⊢;refine⟨_,
  (zA
   (zc (i:=1) zbf.nd rfl (kj rfl) (yF zmy rfl T.b_list zkc (zg (qpv 0) za1)))
   (zc (i:=2) zbf.nd rfl (kj rfl) (zu zx))
   (zP pK (zr (op_neD (hu64 hr)) (qpv 1) (zu zx) (nomark _)) (zw
   (zc (i:=3) zbf.nd rfl (jU rfl) (zu (zg (yG pZ PySem.F.slot_list_pop PySem.F.type_list_pop mt_pop (qpv 1)) zby)))
   (zm pK rfl (zK rfl T.b_range (zg (zv zbq rfl T.b_len zdn (zg (qpv 1) za1)) zby)) (zj (i:=4) zbf.nd rfl (kj rfl)) (zA
   (zc (i:=5) zbf.nd rfl (jU rfl) (zy (dsc:=za0 zb2) (N:=["_law_cells_here","_law_left","_law_parts_here","_law_part","_law_k","_law_near_here"]) (own:=["_law_one"]) (ix:=[3]) rfl rfl rfl ⟨rfl,by decide+kernel,by decide+kernel,by decide+kernel,by decide+kernel⟩ (zq (qpv 1)) (fun cl C fp s2 H2 xe=>⟨(zj (i:=0) (show Qf (["_law_one","_law_part"]:List Str) from by decide+kernel) rfl (kj rfl)),(zN (zI (zh (zkb T) (hr.mono (by decide)) rfl T.law_near.mg T.law_near.fn.kp T.law_near.bn .nil pass0 (zk (qpv 0) za1 (qpv 1) za1)))),(qpv 0)⟩)))
   (zn (zr (zox (hu64 hr)) (qpv 5) (zu zx) (nomark _)) (zf yH) zp)
   (zc (i:=3) zbf.nd rfl (jU rfl) (zb zpb (qpv 3) (qpv 5)))
   (zW (i:=1) zbf.nd rfl (kj rfl) (dsc:=za0 zb2) (N:=["_law_cells_here","_law_left","_law_parts_here","_law_part","_law_k","_law_near_here"]) (own:=["_law_one"]) (ix:=[5]) rfl rfl rfl ⟨rfl,by decide+kernel,by decide+kernel,by decide+kernel,by decide+kernel⟩ (zq (qpv 1)) (fun cl C fp s2 H2 xe=>⟨(zj (i:=0) (show Qf (["_law_one","_law_near_here"]:List Str) from by decide+kernel) rfl (kj rfl)),(zN (zr (zfv (K':=K) rfl (hu64 hr)) (qpv 0) (qpv 1) rfl)),(qpv 0)⟩))))
   (zC (zD pZ uL uM zc9 (qpv 2) (zg (qpv 3) za1)))))
   (ze (qpv 2)))
  ,?_⟩
 clear zA zc yF zg qpv zu zx zP zr zw yG zm zK zv zj zy zq zN zI zh zk zn zf yH zp zb zW zC zD ze QE QT QW QA QS QSs QG QGs QI QO QIf
 dsimp! [L2.start]
 have v:∀c,c∈S->vq c:=fun c hc=>by
  obtain⟨j,hj⟩:=uG.mp hc;obtain⟨p,x,_,e2,e3⟩:=hS.at (j:=j) (by rw[hS.1];exact(kH.mp hj).1)
  rw[hj] at e2
  cases e2;exact e3.2
 have lS:S.length<=150:=by rw[←hS.1];exact ny
 simp! [];refine⟨ys,.inl hl,fun L hL=>?_⟩;have gL:=za2 hL (HO.lst ys);have hL1:upd H L (HO.lst ys) L=some (.lst ys):=upd_same;generalize upd H L (HO.lst ys)=H1 at*;intro D hD;have gD:=za2 hD (HO.lst []);have hD2:upd H1 D (HO.lst []) D=some (.lst []):=upd_same;have nLD0:L≠D:=zam hL1 hD;generalize upd H1 D (HO.lst [])=H2 at*;have g2:=gL.trans gD;refine zqo (PrtW H l S) ⟨_,L,D,ys,[],S,[],none,none,none,rfl,g2,hL,gL.free hD,nLD0,gD _ _ hL1,hS.ts zc4 (za6 g2),hD2,.nil,⟨.refl _,fun p hp=>(by cases hp),fun p hp=>(by cases hp),fun p hp=>(by cases hp)⟩,rfl⟩ ?_
 rintro m σ H3 ⟨L,D,us,zs,R,Ps,o3,o4,o5,rfl,g3,hL,hD,nLD,hL3,hR,hD3,hz,pin,rfl⟩;have len:=pin.len;have lR:=hR.1;simp! [rNeD];intro E1 hE1;have gE:=za2 hE1 (HO.lst []);have hE2:upd H3 E1 (HO.lst []) E1=some (.lst []):=upd_same;generalize upd H3 E1 (HO.lst [])=H4 at*;have g4:=g3.trans gE;have hL4:=gE _ _ hL3;have hD4:=gE _ _ hD3;have hR4:=hR.ts zc4 (za6 gE);have hz4:LR (RgTN fun p=>p≠L/\p≠D) H4 zs Ps:=hz.imp fun p r t=>⟨t.1,t.2.same gE⟩;refine⟨_,zis hL4 hR4,_,zis (F:=[]) hE2 .nil,zev _,zev _,?_⟩;rw[d3_nil];refine ite2 (fun c=>?_) (fun c=>?_)
 ·have ne:R≠[]:=fun z=>by rw[z] at c;cases c
  obtain⟨R0,c0,rfl⟩:∃R0 c0,R=R0++[c0]:=⟨R.dropLast,R.getLast ne,(List.dropLast_concat_getLast ne).symm⟩;rw[kJ,pH] at lR len;refine⟨fun σ' H'=>∃m',m'<(R0++[c0]).length/\PrtW H l S m' σ' H',fun _ _ z=>z,ze7 hL4,?_⟩;obtain⟨pc,c1,hc1,hc2,hc3⟩:=hR4.at (j:=R0.length) (by omega)
  rw[pO (kG _),vR] at hc2
  cases hc2;have hR5:=hR4.take R0.length;rw[List.take_left] at hR5;have ed:us.dropLast=us.take R0.length:=by rw[List.dropLast_eq_take,lR,Qo]
  refine⟨L,us,.ref pc,rfl,rfl,hL4,by rw[lR,Qo];exact hc1,?_⟩
  rw[ed];have lu5:(us.take R0.length).length=R0.length:=by rw[pI];omega
  generalize us.take R0.length=us5 at*;have g5:Same H (upd H4 L (HO.lst us5)):=zaj g4 hL;have ts5:zad H4 (upd H4 L (HO.lst us5)):=zc6 hL4;have hL5:upd H4 L (HO.lst us5) L=some (.lst us5):=upd_same;have hD5:upd H4 L (HO.lst us5) D=some (.lst zs):=by rw[za7 nLD.symm];exact hD4
  have hz5:LR (RgTN fun p=>p≠L/\p≠D) (upd H4 L (HO.lst us5)) zs Ps:=hz4.imp fun p r t=>⟨t.1,t.2.put t.1.1 hL4⟩;have hR6:=hR5.ts zc4 ts5;have hc5:=zc4 _ _ _ _ ts5 hc3;generalize upd H4 L (HO.lst us5)=H5 at*;intro A hA;have g6:=za2 hA (HO.lst [V.ref pc]);have hA6:upd H5 A (HO.lst [V.ref pc]) A=some (.lst [V.ref pc]):=upd_same;have nAL:A≠L:=(zam hL5 hA).symm;have nAD:A≠D:=(zam hD5 hA).symm;generalize upd H5 A (HO.lst [V.ref pc])=H6 at*;have pic:=pin.pop;refine zbc ?_;simp! [zlj];refine⟨us5,.inl (g6 _ _ hL5),by omega,by omega,?_⟩
  rw[lu5,Qu];refine for_aft (PrtA H l S R0.length) ?_ fun aft=>zj6 (PrtF H l S R0.length) ⟨L,D,A,us5,zs,_,R0,[c0],Ps,_,_,rfl,g5.trans g6,hL,hD,nLD,nAL,nAD,g5.free hA,g6 _ _ hL5,hR6.ts zc4 (za6 g6),g6 _ _ hD5,hz5.imp fun p r t=>⟨t.1,t.2.same g6⟩,hA6,LR.one (R:=T3H) (zc4 _ _ _ _ (za6 g6) hc5),pic,kG _⟩ ?_ fun σ H' iv=>aft σ H' ?_
  ·rintro σ H7 ⟨L,D,A,us,zs,ps,R,P,Ps,o4,o5,rfl,g7,hL,hD,nLD,nAL,nAD,hA,hL7,hR7,hD7,hz7,hA7,hP7,pic,lRn,no⟩;simp! [];have pin':=pic.done v nd no;have ln:=pin'.len;have lz:=hz7.1;rw[kJ,pH] at ln;refine⟨ze7 hD7,zs,hD7,small1000 (by omega),R.length,by rw[kJ,pH];omega,L,D,us,zs++[V.ref A],R,Ps++[P],_,_,_,rfl,zaj g7 hD,hL,hD,nLD,by rw[za7 nLD];exact hL7,hR7.ts zc4 (zc6 hD7),upd_same,?_,pin',rfl⟩
   exact(hz7.snoc (R:=RgTN fun p=>p≠L/\p≠D) (a:=P) ⟨⟨nAL,nAD⟩,ps,hA7,hP7⟩).imp fun p r t=>⟨t.1,t.2.put t.1.2 hD7⟩
  ·rintro i σ H7 hi ⟨L,D,A,us,zs,ps,R,P,Ps,o4,o5,rfl,g7,hL,hD,nLD,nAL,nAD,hA,hL7,hR7,hD7,hz7,hA7,hP7,pic,lRi⟩;have lR:=hR7.1;simp! [];refine zc2 ?_;simp! [zd1];refine⟨⟨_,.of hL7⟩,fun N hN=>?_⟩;refine zbx (xs:=us) (fun i qs H'=>Same H7 H'/\H' N=some (.lst qs)/\qs.length<=i/\LR T3H H' qs ((R.take i).filter (zcy P))) ⟨za2 hN _,upd_same,kG _,.nil⟩ (fun n qs H' z=>.of (z.1 _ _ hL7)) ?_ ?_
   ·rintro n qs H8 v hn hv ⟨g8,hN8,lq,hq⟩;obtain⟨b,c,rfl,hc',hb⟩:=hR7.2 n v hv;simp! [];refine⟨b,A,c,ps,P,rfl,zc4 _ _ _ _ (za6 g8) hb,g8 _ _ hA7,hP7.ts zc4 (za6 g8),fun H9 g9=>⟨_,rfl,?_⟩⟩;have hN9:=g9 _ _ hN8;have hq9:=hq.ts zc4 (za6 g9);refine ite2 (fun y=>?_) (fun y=>?_)
    ·have y:zcy P c=true:=y;refine cw_put hn hN9 (small1000 (by have:=pic.pin.len;rw[kJ] at this;omega)) ⟨zaj (g8.trans g9) hN,upd_same,by rw[kJ,pH];omega,?_⟩
     rw[kq,hc',pW,show(some c).toList.filter (zcy P)=[c] by show[c].filter (zcy P)=[c];rw[uA,if_pos y];rfl]
     exact(hq9.snoc (a:=c) (zc4 _ _ _ _ (za6 (g8.trans g9)) hb)).ts zc4 (zc6 hN9)
    ·have y:¬zcy P c=true:=y;refine cw_skip hn ⟨g8.trans g9,hN9,by omega,?_⟩
     rw[kq,hc',pW,show(some c).toList.filter (zcy P)=[] by show[c].filter (zcy P)=[];rw[uA,if_neg y];rfl,pU]
     exact hq9
   ·rintro qs H8 ⟨g8,hN8,lq,hq⟩;rw[kU (by omega)] at hq
    intro E2 hE2;have gE2:=za2 hE2 (HO.lst []);have hE9:upd H8 E2 (HO.lst []) E2=some (.lst []):=upd_same;generalize upd H8 E2 (HO.lst [])=H9 at*;have g79:=g8.trans gE2;have hN9:=gE2 _ _ hN8;have hq9:=hq.ts zc4 (za6 gE2);have hL9:=g79 _ _ hL7;have hD9:=g79 _ _ hD7;have hA9:=g79 _ _ hA7;have hR9:=hR7.ts zc4 (za6 g79);have hP9:=hP7.ts zc4 (za6 g79);have hz9:LR (RgTN fun p=>p≠L/\p≠D) H9 zs Ps:=hz7.imp fun p r t=>⟨t.1,t.2.same g79⟩;have ln:=pic.pin.len;rw[kJ] at ln;have lps:=hP7.1;have lqn:=hq.1;have lsum:=(AW (zcy P) R).length_eq;rw[kJ] at lsum;refine⟨_,_,zis hN9 hq9,zis (F:=[]) hE9 .nil,zev _,zev _,_,rfl,?_⟩;rw[d3_nil];refine ite2 (fun c=>?_) (fun c=>?_)
    ·have e:=of_decide_eq_true c;have no:∀d,d∈R->zcy P d=false:=fun d hd=>by
      cases z:zcy P d with
      |false=>rfl
      |true=>
       have:d∈R.filter (zcy P):=pf.mpr ⟨hd,z⟩;rw[e] at this
       cases this
     have z:=aft _ _ ⟨L,D,A,us,zs,ps,R,P,Ps,some (V.int (0+(i:Int))),some (V.ref N),rfl,g7.trans g79,hL,hD,nLD,nAL,nAD,hA,hL9,hR9,hD9,hz9,hA9,hP9,pic,by omega,no⟩
     simp only[tSeq,tNext,tRet,tRetN,tIfS,tAsg,gName,tDrop,tVar,tC,tOp,tUn,rI,rI0,rU,rEq,rNe,tTest,tB,tNot,tAnd,tOr,tAndV,tOrV,tNotV,tIf,tCB,tCall,tNil,zcf,tTup,tLst,gTup,gCons,gNil,L2.start,rIsi,rIxT,rIxL,cx_K,tyN_non,tyN_bl,tyN_int,tyN_str,isi_ii,isi_ib,isi_it,isi_il,isi_bi,isi_bb,isi_tt,isi_ni,isi_si,isi_ti,isi_li,isi_di,isi_ll,scal_ii,scal_bb,sz0,sz1,sz2,sz3,sz4,kh,uU,pJ,Qw,jB,jW,Av,pU,AS,AT,Bp,Bq,jC,V.int.injEq,V.bl.injEq,V.ref.injEq,V.ty.injEq,jp,and_true,true_and,exists_eq_left,exists_eq_left',exists_and_left,exists_and_right,exists_eq,exists_eq',and_assoc,Bf,Bg,Ua,BO,pF,if_true,if_false,reduceIte,Al,decide_true,decide_false,selC,comp_K,tYes,Option.join_some,rIxTH,rIxLH,rLenH,rIsiF,at0,at1,at2,at3,at4,at5,at6,at7,at8,HO.tup.injEq,HO.lst.injEq,reduceCtorEq,false_or,or_false,tyF_non,tyF_bl,tyF_int,tyF_str,exists_const,Int.reduceAdd,Int.reduceMul,Int.reduceSub,gSub,rSetL,tSl,tPart,zky,rSlH,upd_same,upd_upd,rIntB,rListH,tBM,tBM0,rAppend,rClear,tPar,gTupH] at z;exact z
    ·have ne:0<(R.filter (zcy P)).length:=by
      rcases Nat.eq_zero_or_pos (R.filter (zcy P)).length with z|z
      ·exact absurd (decide_eq_true (Uk z)) c
      ·exact z
     refine⟨A,N,ps,qs,rfl,rfl,hA9,hN9,uq (small1000 (by omega)),fun A2 hA2=>?_⟩
     have gA2:=za2 hA2 (HO.lst (ps++qs));have hA10:upd H9 A2 (HO.lst (ps++qs)) A2=some (.lst (ps++qs)):=upd_same;have nA2D:A2≠D:=(zam hD9 hA2).symm;generalize upd H9 A2 (HO.lst (ps++qs))=H10 at*;have hL10:=gA2 _ _ hL9;have hN10:=gA2 _ _ hN9;have hq10:=hq9.ts zc4 (za6 gA2);have hR10:=hR9.ts zc4 (za6 gA2);refine zc2 ?_;simp! [zd1];refine⟨⟨_,.of hL10⟩,fun LN hL2=>?_⟩;refine zbx (xs:=us) (fun i qs H'=>Same H10 H'/\H' LN=some (.lst qs)/\qs.length<=i/\LR T3H H' qs ((R.take i).filter fun c=> ! zcy P c)) ⟨za2 hL2 _,upd_same,kG _,.nil⟩ (fun n qs H' z=>.of (z.1 _ _ hL10)) ?_ ?_
     ·rintro n rs H11 v hn hv ⟨g11,hL11,lr,hrs⟩;obtain⟨b,d,rfl,hd',hb⟩:=hR10.2 n v hv;simp! [zgu];refine⟨_,rd_3 (g11 _ _ hb.1),_,zis (g11 _ _ hN10) (hq10.ts zc4 (za6 g11)),(zet _).1,(zg2 _).1,by have:=(zet d).2;omega,?_⟩
      have ed:decide (d∈R.filter (zcy P))=zcy P d:=by
       rw[QF,decide_eq_true_iff,pf];exact⟨fun z=>z.2,fun z=>⟨kz hd',z⟩⟩
      rw[zjg,ed];refine ite2 (fun y=>?_) (fun y=>?_)
      ·refine cw_put hn hL11 (small1000 (by omega)) ⟨zaj g11 hL2,upd_same,by rw[kJ,pH];omega,?_⟩
       rw[kq,hd',pW,show(some d).toList.filter (fun c=> ! zcy P c)=[d] by show[d].filter _=[d];rw[uA,if_pos y];rfl]
       exact(hrs.snoc (a:=d) (zc4 _ _ _ _ (za6 g11) hb)).ts zc4 (zc6 hL11)
      ·refine cw_skip hn ⟨g11,hL11,by omega,?_⟩
       rw[kq,hd',pW,show(some d).toList.filter (fun c=> ! zcy P c)=[] by show[d].filter _=[];rw[uA,if_neg y];rfl,pU]
       exact hrs
     ·rintro rs H11 ⟨g11,hL11,lr,hrs⟩;rw[kU (by omega)] at hrs
      have g711:=g79.trans (gA2.trans g11);have hD10:=gA2 _ _ hD9;have nL2D:LN≠D:=(zam hD10 hL2).symm;have nA2L:A2≠LN:=zam hA10 hL2;have gH9:=g7.trans g79;refine⟨LN,D,A2,rs,zs,ps++qs,_,_,Ps,_,_,rfl,g7.trans g711,(gH9.trans gA2).free hL2,hD,nL2D,nA2L,nA2D,gH9.free hA2,hL11,hrs,g711 _ _ hD7,hz9.imp fun p r t=>⟨⟨fun z=>?_,t.1.2⟩,(t.2.same gA2).same g11⟩,g11 _ _ hA10,((hP9.app hq9).ts zc4 (za6 gA2)).ts zc4 (za6 g11),pic.grow v,by omega⟩
      obtain⟨xs,x1,_⟩:=t.2.same gA2;rw[z,hL2] at x1
      cases x1
  ·obtain⟨L,D,A,us,zs,ps,R,P,Ps,o4,o5,e1,e2,e3,e4,e5,e6,e7,e8,e9,e10,e11,e12,e13,e14,e15,e16⟩:=iv;have:R=[]:=Uk (by omega)
   subst this;exact⟨L,D,A,us,zs,ps,[],P,Ps,o4,o5,e1,e2,e3,e4,e5,e6,e7,e8,e9,e10,e11,e12,e13,e14,e15,pY _,fun d hd=>by cases hd⟩
 ·have e:R=[]:=Classical.byContradiction fun z=>c (by rw[decide_eq_false z];rfl)
  subst e;exact k D zs Ps H4 hD g4 hD4 (hz4.imp fun p r t=>t.2) (pin.prt nd)
def FreI(X Y:Int)(P:List C3)(x y:Int)(F:List C3):Prop:=F.Nodup/\∀c,c∈F↔(Vd X Y P c/\(c.1<x∨(c.1=x/\c.2.1<y)))
def sqC(P:List C3)(x y:Int)(n:Nat):List C3:=((kc n).map fun k:Nat=>((x,y,(k:Int)):C3)).filter fun c=> !decide (c∈P)
theorem sq_mem{P:List C3}{x y:Int}{n:Nat}{c:C3}:c∈sqC P x y n↔c.1=x/\c.2.1=y/\0<=c.2.2/\c.2.2<n/\¬c∈P:=by
 unfold sqC;rw[pf,kW,CJ,decide_eq_false_iff_not]
 constructor
 ·rintro⟨⟨k,hk,rfl⟩,h⟩;have:=kx.mp hk;exact⟨rfl,rfl,by dsimp only;omega,by dsimp only;omega,h⟩
 ·rintro⟨h1,h2,h3,h4,h5⟩;obtain⟨a,b,q⟩:=c;dsimp only at h1 h2 h3 h4;subst h1;subst h2;exact⟨⟨q.toNat,kx.mpr (by omega),by rw[show((q.toNat:Nat):Int)=q by omega]⟩,h5⟩
theorem sq_nd(P:List C3)(x y:Int)(n:Nat):(sqC P x y n).Nodup:=by
 unfold sqC;refine kK.mpr (List.Pairwise.filter _ ?_);rw[uR];refine jO.imp fun{i j} h z=>?_
 injection z with _ z
 injection z with _ z
 omega
theorem FreI.nxt{X Y:Int}{P:List C3}{x y:Int}{F:List C3}(h:FreI X Y P x y F)(hx: -1<=x/\x<=X)(hy: -1<=y/\y<=Y):FreI X Y P x (y+1) (F++sqC P x y 4):=by
 refine⟨Qb.mpr ⟨h.1,sq_nd _ _ _ _,fun a ha b hb z=>?_⟩,fun c=>?_⟩
 ·have h1:=((h.2 a).mp ha).2;rw[z] at h1;have h2:=sq_mem.mp hb;omega
 ·rw[ke,h.2,sq_mem]
  constructor
  ·rintro(⟨h1,h2⟩|⟨h1,h2,h3,h4,h5⟩)
   ·exact⟨h1,by omega⟩
   ·exact⟨⟨⟨by omega,by omega,by omega,by omega,h3,by omega⟩,h5⟩,.inr ⟨h1,by omega⟩⟩
  ·rintro⟨h1,h2⟩
   by_cases c1:c.1<x∨(c.1=x/\c.2.1<y)
   ·exact .inl ⟨h1,c1⟩
   ·obtain⟨v1,v2⟩:=h1.1.2.2.2.2;exact .inr ⟨by omega,by omega,v1,by omega,h1.2⟩
theorem FreI.row{X Y:Int}{P:List C3}{x:Int}{F:List C3}(h:FreI X Y P x (Y+1) F):FreI X Y P (x+1) (-1) F:=by
 refine⟨h.1,fun c=>?_⟩;rw[h.2];exact⟨fun⟨h1,h2⟩=>⟨h1,by omega⟩,fun⟨h1,h2⟩=>⟨h1,by obtain⟨b1,b2,b3,b4,_⟩:=h1.1;omega⟩⟩
def sp_pkt:Sp:=fun vs H Q _=>∃(p:Addr)(P:List C3)(w h:Int),vs=[.ref p,.int w,.int h]/\RgT H p P/\1<=w/\w<=4/\1<=h/\h<=3/\∀H' Qs,Same H H'->Prt (Vd w h P) Qs->Q (.int ((Qs.length:Int)-1)) H'
def PktI(H:Hp)(p:Addr)(wd hg:Int)(P:List C3)(x y:Int)(n:Nat)(o4:Option V)(σ:St)(H':Hp):Prop:=∃(F:Addr)(us:List V)(Fl:List C3)(o5:Option V),σ=[some (V.ref p),some (V.int wd),some (V.int hg),some (V.ref F),o4,o5]/\Same H H'/\H' F=some (.lst us)/\LR T3H H' us Fl/\FreI wd hg P x y Fl/\us.length<=n
theorem zhg(T:Txt K mg ad fd):FnOk P w K mg base CX0 3 (ad 30) (fd 30) ["_law_part","_law_wide","_law_high"] sp_pkt:=by
 refine T.law_pockets.fn.ok zca (fun vs H Q E h=>?_) (fun cdv A outer s H vs Q E hr h=>?_)
 ·obtain⟨p,P,w,h,rfl,_⟩:=h;rfl
 obtain⟨p,P,wd,hg,rfl,⟨ys,hp,hP⟩,w1,w4,h1,h3,k⟩:=h;have zw:=@pss3;have zc:=@zbe;have zu:=@zdr;have zx:=@zcz;have zm:=@zd0;have yp:=@zpn;have zk:=@pa2;have yb:=@pe_un;have za:=@zbr;have zb:=@zdx;have qpv:=@pv;have zj:=@zbd;have zf:=@zah;have zy:=@zee;unfold L2.CompBody at zy;have zK:=@ze8;have zg:=@pa1;have zN:=@zin;have zr:=@zcl;have zo:=@zdp;have zt:=@pa3;have ze:=@zaz;have zv:=@zcj;have zh:=@zbh;generalize @L2.PE=QE,@L2.PT=QT,@L2.PW=QW,@L2.PA=QA,@L2.PS=QS,@L2.PSs=QSs,@L2.PG=QG,@L2.PGs=QGs,@L2.PI=QI,@L2.PO=QO,@L2.PIf=QIf at zw zc zu zx zm yp zk yb za zb qpv zj zf zy zK zg zN zr zo zt ze zv zh⊢;refine⟨_,
  (zw
   (zc (i:=3) zca.nd rfl (kj rfl) (zu zx))
   (zm pK rfl (yp rfl T.b_range (zk (yb zns za) zhl (zb zar (qpv 1) za) za8)) (zj (i:=4) zca.nd rfl (jU rfl)) (zf (zm pK rfl (yp rfl T.b_range (zk (yb zns za) zhl (zb zar (qpv 2) za) za8)) (zj (i:=5) zca.nd rfl (jU rfl)) (zf (zc (i:=3) zca.nd rfl (kj rfl) (zb zpb (qpv 3) (zy (dsc:=za0 zaq) (N:=["_law_part","_law_wide","_law_high","_law_free","_law_x","_law_y"]) (own:=["_law_k"]) (ix:=[0,4,5]) rfl rfl rfl ⟨rfl,by decide+kernel,by decide+kernel,by decide+kernel,by decide+kernel⟩ (zK rfl T.b_range (zg za zao)) (fun cl C fp s2 H2 xe=>⟨(zj (i:=0) (show Qf (["_law_k","_law_part","_law_x","_law_y"]:List Str) from by decide+kernel) rfl (kj rfl)),(zN (zr (zfv (K':=K) rfl (hu64 hr)) (zo (zt (qpv 2) za1 (qpv 3) za1 (qpv 0) za1)) (qpv 1) rfl)),(zo (zt (qpv 2) za1 (qpv 3) za1 (qpv 0) za1))⟩))))))))
   (ze (zb zcp (zv zbq rfl T.b_len zdn (zg (zh (zgf T) (hr.mono (by decide)) rfl T.law_parts.mg T.law_parts.fn.kp T.law_parts.bn .nil pass0 (zg (qpv 3) za1)) zby)) za)))
  ,?_⟩
 clear zw zc zu zx zm yp zk yb za zb qpv zj zf zy zK zg zN zr zo zt ze zv zh QE QT QW QA QS QSs QG QGs QI QO QIf
 dsimp! [L2.start]
 simp! [];intro F0 hF0;refine zbc ?_;simp! [iRng2];refine⟨by decide,by decide,by omega,by omega,zdd (fun i σ H'=>∃o4,PktI H p wd hg P (-1+(i:Int)) (-1) (20*i) o4 σ H') ⟨none,F0,[],[],none,rfl,za2 hF0 _,upd_same,.nil,⟨Qq,fun c=>⟨fun z=>(by cases z),fun⟨⟨⟨b1,_⟩,_⟩,z⟩=>by omega⟩⟩,kG _⟩ ?_ ?_⟩
 ·intro _ _;rintro i σ H3 hi ⟨o4,F,us,Fl,o5,rfl,g3,hF,hu,fr,lu⟩;simp! [];refine zbc ?_;simp! [iRng2];refine⟨by decide,by decide,by omega,by omega,zdd (fun j σ H'=>PktI H p wd hg P (-1+(i:Int)) (-1+(j:Int)) (20*i+4*j) (some (V.int (-1+(i:Int)))) σ H') ⟨F,us,Fl,_,rfl,g3,hF,hu,fr,lu⟩ ?_ ?_⟩
  ·intro _ _;rintro j σ H4 hj ⟨F,us,Fl,o5,rfl,g4,hF,hu,fr,lu⟩;have hx: -1<= -1+(i:Int)/\ -1+(i:Int)<=wd:=by omega
   have hy: -1<= -1+(j:Int)/\ -1+(j:Int)<=hg:=by omega
   generalize-1+(i:Int)=x at*;generalize ey: -1+(j:Int)=y at*;simp! [];refine zc2 ?_;simp! [zlj];refine⟨by decide,by decide,fun N hN=>?_⟩
   refine zmr (fun i qs H'=>Same H4 H'/\H' N=some (.lst qs)/\qs.length<=i/\LR T3H H' qs (sqC P x y i)) ⟨za2 hN _,upd_same,kG _,.nil⟩ ?_ ?_
   ·rintro n qs H5 hn ⟨g5,hN5,lq,hq⟩;have hn4:n<4:=hn;simp! [zgu,ur];intro t1 ht1;have s1:=za2 ht1 (HO.tup [V.int x,V.int y,V.int (n:Int)]);have q1:upd H5 t1 (HO.tup [V.int x,V.int y,V.int (n:Int)]) t1=some (HO.tup [V.int x,V.int y,V.int (n:Int)]):=upd_same;generalize upd H5 t1 (HO.tup [V.int x,V.int y,V.int (n:Int)])=H6 at*;have g46:=g5.trans s1;have g06:=g4.trans g46;have hN6:=s1 _ _ hN5;refine⟨_,rd_3 (c:=(x,y,(n:Int))) q1,_,zis (g06 _ _ hp) (hP.ts zc4 (za6 g06)),(zet _).1,(zg2 _).1,by have:=(zet (x,y,(n:Int))).2;omega,?_⟩
    rw[zjg];have es:sqC P x y (n+1)=sqC P x y n++[((x,y,(n:Int)):C3)].filter (fun c=> !decide (c∈P)):=by
     unfold sqC;rw[um,pV,pW];rfl
    refine ite2 (fun c=>?_) (fun c=>?_)
    ·intro t2 ht2;have s2:=za2 ht2 (HO.tup [V.int x,V.int y,V.int (n:Int)]);have q2:upd H6 t2 (HO.tup [V.int x,V.int y,V.int (n:Int)]) t2=some (HO.tup [V.int x,V.int y,V.int (n:Int)]):=upd_same;generalize upd H6 t2 (HO.tup [V.int x,V.int y,V.int (n:Int)])=H7 at*;have hN7:=s2 _ _ hN6;refine cw_put hn hN7 (small1000 (by omega)) ⟨zaj (g46.trans s2) hN,upd_same,by rw[kJ,pH];omega,?_⟩
     rw[es,uA,if_pos c];exact(((hq.ts zc4 (za6 s1)).ts zc4 (za6 s2)).snoc (a:=(x,y,(n:Int))) ⟨q2,vq3 _ _ _ (by omega) (by omega)⟩).ts zc4 (zc6 hN7)
    ·refine cw_skip hn ⟨g46,hN6,by omega,?_⟩
     rw[es,uA,if_neg c,Cy,pU];exact hq.ts zc4 (za6 s1)
   ·rintro qs H5 ⟨g5,hN5,lq,hq⟩;have lq:qs.length<=4:=lq;have hF5:=g5 _ _ hF;refine⟨F,N,us,qs,rfl,rfl,hF5,hN5,uq (small1000 (by omega)),fun F2 hF2=>?_⟩
    have s6:=za2 hF2 (HO.lst (us++qs));have nx:=fr.nxt hx hy;rw[show y+1= -1+((j+1:Nat):Int) by omega] at nx
    exact⟨F2,us++qs,_,_,rfl,(g4.trans g5).trans s6,upd_same,((hu.ts zc4 (za6 g5)).app hq).ts zc4 (za6 s6),nx,by rw[kJ];omega⟩
  ·rintro σ H4 ⟨F,us,Fl,o5,rfl,g4,hF,hu,fr,lu⟩;have e: -1+((hg+1- -1).toNat:Int)=hg+1:=by omega
   rw[e] at fr;have r:=fr.row;rw[show-1+(i:Int)+1= -1+((i+1:Nat):Int) by omega] at r
   exact⟨_,F,us,Fl,_,rfl,g4,hF,hu,r,by omega⟩
 ·rintro σ H3 ⟨o4,F,us,Fl,o5,rfl,g3,hF,hu,fr,lu⟩;have e: -1+((wd+1- -1).toNat:Int)=wd+1:=by omega
  rw[e] at fr;simp! [];refine⟨F,us,Fl,rfl,hF,by omega,hu,fr.1,fun D zs Ps H4 hD g4 hD4 hz pr=>?_⟩
  have eS:(fun c=>c∈Fl)=Vd wd hg P:=funext fun c=>propext ⟨fun z=>((fr.2 c).mp z).1,fun z=>(fr.2 c).mpr ⟨z,by obtain⟨b1,b2,_⟩:=z.1;omega⟩⟩
  rw[eS] at pr;refine⟨D,rfl,zs,.inl hD4,?_⟩;rw[hz.1];exact k H4 Ps (g3.trans g4) pr
def zcs(r:List (Int×Int)):List E2:=(kc r.length).map fun i=>(nz r i,nz r (i+1))
section
variable{f:Fr}{cs:List C3}{es ws:List E2}
theorem nx_PF{r:List (Int×Int)}(h:0<r.length)(i:Nat):nx (r.map (PF f)) i=PF f (nz r i):=by
 unfold nx nz;have hi:i%r.length<r.length:=jY _ h;rw[kO,kZ,kZ,pG,kR hi];rfl
theorem zq3{r:List (Int×Int)}(h:0<r.length):(zcs r).map (tdF f)=sds (r.map (PF f)):=by
 unfold zcs sds;rw[Ur,kO];refine ux fun i _=>?_;show(PF f (nz r i),PF f (nz r (i+1)))=_;rw[nx_PF h,nx_PF h]
theorem told_rs(w0:0<f.w)(d0:0<fd2 f){g:Int}{os:List (List Q3)}(td:Told (ws.map (tdF f)) g os):∃rs:List (List (Int×Int)),rs.map (AV (PF f))=os/\∀r,r∈rs->3<=r.length/\r.length<=ws.length/\(∀a,a∈r->∃e,e∈ws/\a=e.1)/\∀e,e∈zcs r->e∈ws:=by
 refine lift (g:=AV (PF f)) (S:=fun r=>3<=r.length/\r.length<=ws.length/\(∀a,a∈r->∃e,e∈ws/\a=e.1)/\∀e,e∈zcs r->e∈ws) fun q hq=>?_;have q3:=(td.rg q hq).2;have ql:=zi8 hq;rw[td.pm.length_eq,kO] at ql;have sd:∀x,x∈sds q->∃e,e∈ws/\x=tdF f e:=fun x hx=>by
  obtain⟨e,h1,h2⟩:=kW.mp (td.pm.mem_iff.mp (zgn hq hx));exact⟨e,h1,h2.symm⟩
 obtain⟨r,h1,h2⟩:=lift (g:=PF f) (S:=fun a=>∃e,e∈ws/\a=e.1) (l:=q) fun x hx=>by
  obtain⟨j,hj,rfl⟩:=QV.mp hx;obtain⟨e,he,ee⟩:=sd _ (zg3 (r:=q) (by omega) j)
  exact⟨e.1,⟨e,he,rfl⟩,by rw[←zen hj];exact(congrArg jL ee).symm⟩
 have lr:r.length=q.length:=by rw[←h1,kO]
 refine⟨r,⟨by omega,by omega,h2,fun e he=>?_⟩,h1⟩
 have m:tdF f e∈sds q:=by
  rw[←h1,←zq3 (by omega)]
  exact kW.mpr ⟨e,he,rfl⟩
 obtain⟨e',h3,h4⟩:=sd _ m;rw[zhu w0 d0 h4];exact h3
theorem crs_mv(f:Fr)(a b:Int×Int):crs0 (mv f a,mv f b)=(f.p*f.s-f.q*f.r)*crs (a,b)+((f.t*(f.r*b.1+f.s*b.2)-f.u*(f.p*b.1+f.q*b.2))-(f.t*(f.r*a.1+f.s*a.2)-f.u*(f.p*a.1+f.q*a.2))):=by
 unfold crs0 crs mv;dsimp only
 grind
theorem nz_map{r:List (Int×Int)}(h:0<r.length)(i:Nat):nz (r.map (mv f)) i=mv f (nz r i):=by
 unfold nz;have hi:i%r.length<r.length:=jY _ h;rw[kO,kZ,kZ,pG,kR hi];rfl
theorem twc_mv{r:List (Int×Int)}(h:0<r.length):twc (r.map (mv f)) (r.map (mv f)).length=(f.p*f.s-f.q*f.r)*su crs (zcs r):=by
 unfold twc;rw[kO,zag (g:=fun i=>(f.p*f.s-f.q*f.r)*crs (nz r i,nz r (i+1))+((f.t*(f.r*(nz r (i+1)).1+f.s*(nz r (i+1)).2)-f.u*(f.p*(nz r (i+1)).1+f.q*(nz r (i+1)).2))-(f.t*(f.r*(nz r i).1+f.s*(nz r i).2)-f.u*(f.p*(nz r i).1+f.q*(nz r i).2)))) fun i _=>by rw[nz_map h,nz_map h,crs_mv],zm4,zhx]
 have c:Chn (nz r 0) (zcs r) (nz r r.length):=zfx (nz r) r.length;have e:nz r r.length=nz r 0:=by unfold nz;rw[Nat.mod_self,Nat.zero_mod]
 rw[e] at c;have z:=c.su (φ:=fun v=>f.t*(f.r*v.1+f.s*v.2)-f.u*(f.p*v.1+f.q*v.2));rw[CI] at z;unfold zcs at z⊢;rw[zes] at z⊢;dsimp only at z;rw[z,Qg]
theorem zqc{α:Type}(p:α->Bool):∀l:List α,((l.filter p).length:Int)=su (fun x=>if p x=true then 1 else 0) l
 |[]=>rfl
 |x::l=>by
  show _=(if p x=true then(1:Int) else 0)+su _ l
  rw[←zqc p l,uA]
  by_cases c:p x=true
  ·rw[if_pos c,if_pos c,pJ];omega
  ·rw[if_neg c,if_neg c];omega
theorem su_bd{α:Type}{g:α->Int}{B:Int}:∀{l:List α},(∀x,x∈l-> -B<=g x/\g x<=B)-> -(B*l.length)<=su g l/\su g l<=B*l.length
 |[],_=>by
  show-(B*((0:Nat):Int))<=0/\(0:Int)<=B*((0:Nat):Int)
  rw[show((0:Nat):Int)=0 from rfl,UU]
  decide
 |x::l,h=>by
  have a:=h x (by simp)
  have b:=su_bd (l:=l) fun y hy=>h y (kI _ hy);show _<=g x+su g l/\g x+su g l<=_;rw[pJ,show((l.length+1:Nat):Int)=(l.length:Int)+1 by omega,vL,Ci]
  omega
end
def zik(K:kM)(ts:List Addr):Sp:=fun vs H Q _=>∃(a:Addr)(ns:List Int),vs=[.ref a]/\SqL K H a (ns.map V.int)/\ns.length<=63/\(∀b,b∈ts->zd2 H b lposP qlP)/\∀H',Q (.bl true) H'
theorem zmz{H:Hp}{b:Addr}{pos:Pos}{q:Str}(h:H b=some (.tbl #[])):zd2 H b pos q:=⟨#[],h,by trivial,.inl rfl⟩
def lvs(f:Fr)(rs:List (List (Int×Int))):List Int:=rs.map fun r=>(f.p*f.s-f.q*f.r)*su crs (zcs r)
theorem pos_of{d x:Int}(hd:0<d)(h:0<d*x):0<x:=by
 rcases Int.lt_or_le 0 x with z|z
 ·exact z
 ·have:=ji z (UT hd);rw[UU] at this;omega
theorem lv_pos{f:Fr}(d0:0<fd2 f)(rs:List (List (Int×Int))):(((lvs f rs).filter fun x=>decide (0<x)).length:Int)=su (fun wl=>if 0<su crs wl then 1 else 0) (rs.map zcs):=by
 unfold fd2 at d0;rw[zqc];unfold lvs;rw[zes,zes];refine zag fun r _=>?_
 by_cases c:0<su crs (zcs r)
 ·rw[if_pos c,if_pos (decide_eq_true (vp d0 c))]
 ·rw[if_neg c,if_neg (fun z=>c (pos_of d0 (of_decide_eq_true z)))]
theorem lv_neg{f:Fr}(d0:0<fd2 f)(rs:List (List (Int×Int))):(((lvs f rs).filter fun x=>decide (x<0)).length:Int)=su (fun wl=>if su crs wl<0 then 1 else 0) (rs.map zcs):=by
 unfold fd2 at d0;rw[zqc];unfold lvs;rw[zes,zes];refine zag fun r _=>?_;have n:=Co (f.p*f.s-f.q*f.r) (su crs (zcs r))
 by_cases c:su crs (zcs r)<0
 ·have:=vp d0 (show 0< -su crs (zcs r) by omega)
  rw[if_pos c,if_pos (decide_eq_true (by omega))]
 ·rw[if_neg c,if_neg (fun z=>c ?_)];have z:=of_decide_eq_true z;have:=pos_of (x:= -su crs (zcs r)) d0 (by omega)
  omega
theorem pre_su(ns:List Int):∀k,k<=ns.length->Cf (fun i=>ns.getD i 0) k=su (fun x=>x) (ns.take k)
 |0,_=>rfl
 |k+1,h=>by
  show Cf (fun i=>ns.getD i 0) k+ns.getD k 0=_
  rw[pre_su ns k (by omega),kq,kZ,kR (by omega:k<ns.length),zgb]
  show _=_+(ns[k]+0)
  rw[Qg];rfl
theorem lv_sum(f:Fr)(rs:List (List (Int×Int))):L2.sumTo (lvs f rs) (lvs f rs).length=(f.p*f.s-f.q*f.r)*su (su crs) (rs.map zcs):=by
 unfold L2.sumTo;rw[pre_su _ _ (kG _),kU (kG _)];unfold lvs;rw[zes,zes,zhx]
theorem lv_bd{f:Fr}(fb:FrB f){rs:List (List (Int×Int))}(h:∀r,r∈rs->r.length<=200/\∀e,e∈zcs r->Bx e.1/\Bx e.2){x:Int}(hx:x∈lvs f rs): -(2^40)<=x/\x<=2^40:=by
 unfold lvs at hx;obtain⟨r,hr1,rfl⟩:=kW.mp hx;obtain⟨l2,b⟩:=h r hr1;have c:=su_bd (g:=crs) (B:=100) (l:=zcs r) fun e he=>by
  obtain⟨⟨a1,a2,a3,a4⟩,c1,c2,c3,c4⟩:=b e he;unfold crs;have x1:e.1.1*e.2.2<=8*6:=gN a2 c4 c3 (by decide)
  have x2:e.2.1*e.1.2<=8*6:=gN c2 a4 a3 (by decide)
  have x3:=vK a1 c3;have x4:=vK c1 a3;omega
 have lr:(zcs r).length=r.length:=by unfold zcs;rw[kO,ua]
 rw[lr] at c;obtain⟨⟨p1,p2⟩,⟨q1,q2⟩,⟨r1,r2⟩,⟨s1,s2⟩,_⟩:=fb;have sq:∀{a b:Int},-100<=a->a<=100-> -100<=b->b<=100->(a*b).natAbs<=100*100:=fun h1 h2 h3 h4=>by
  rw[Qd];exact gP (by omega) (by omega)
 have d1:=sq p1 p2 s1 s2;have d2:=sq q1 q2 r1 r2;have dd:(f.p*f.s-f.q*f.r).natAbs<=20000:=by omega
 have cc:(su crs (zcs r)).natAbs<=20000:=by omega
 have:=gP dd cc;rw[←Qd] at this;omega
def di(n:Int):BH:=.int n
theorem rd_is{K:kM}{H:Hp}:∀ns:List Int,RdDs K H (ns.map di) (ns.map V.int)
 |[]=>by rw[uU,uU,RdDs]
 |n::ns=>by
  rw[kh,kh,RdDs];exact⟨_,_,rfl,by unfold di;rw[RdD],rd_is ns⟩
theorem di_lay(ns:List Int):uF (ns.map di)=true:=by
 induction ns with
 |nil=>rfl
 |cons n ns ih=>rw[kh,uF,ih];rfl
theorem di_any{ns:List Int}(h:∀n,n∈ns->n≠0):((ns.map di).any fun e=>uW e (di 0))=false:=by
 rw[Dc,List.any_eq_false];intro n hn z;have z:uW (di n) (di 0)=true:=z;unfold di at z;rw[uW] at z;exact h n hn (by simpa using z)
theorem ok_law(T:Txt K mg ad fd)(hK:K.In base)(hB:base.BuiltinsAt mg (ad 33)):FnOk P w K mg base CX0 8 (ad 31) (fd 31) ["_law_script"] (zik K [(ad 33)]):=by
 refine T.law.fn.ok ze5 (fun vs H Q E h=>?_) (fun cdv A outer s H vs Q E hr h=>?_)
 ·obtain⟨a,ns,rfl,_⟩:=h;rfl
 obtain⟨a0,ns,rfl,hS,hlen,lts,k⟩:=h;have lt:=lts _ (kX.mpr rfl);clear lts;have yK:=@pss14;have zc:=@zbe;have zb:=@zdx;have za:=@zbr;have zh:=@zbh;have zk:=@pa2;have qpv:=@pv;have zt:=@pa3;have zg:=@pa1;have zd:=@zel;have zn:=@zf4;have zr:=@zcl;have ya:=@pe_non;have zf:=@zah;have ze:=@zaz;have zM:=@pe_bl;have zp:=@zc7;have zW:=@zkx;unfold L2.CompBody at zW;have zq:=@zc8;have zj:=@zbd;have zF:=@zfd;have zm:=@zd0;have zQ:=@PW.pt;have zR:=@pw_or;have zv:=@zcj;have zy:=@zee;unfold L2.CompBody at zy;have zN:=@zin;have zS:=@zmn;have yl:=@pe_and;have zJ:=@zgq;have ym:=@pe_one;generalize @L2.PE=QE,@L2.PT=QT,@L2.PW=QW,@L2.PA=QA,@L2.PS=QS,@L2.PSs=QSs,@L2.PG=QG,@L2.PGs=QGs,@L2.PI=QI,@L2.PO=QO,@L2.PIf=QIf at yK zc zb za zh zk qpv zt zg zd zn zr ya zf ze zM zp zW zq zj zF zm zQ zR zv zy zN zS yl zJ ym⊢;refine⟨_,
  (yK
   (zc (i:=1) ze5.nd rfl (kj rfl) (zb zar za (zb zcq (zh (zbw T) (hr.mono (by decide)) rfl T.law_cell.mg T.law_cell.fn.kp T.law_cell.bn .nil pass0 (zk (qpv 0) za1 za zao)) za)))
   (zc (i:=2) ze5.nd rfl (kj rfl) (zb zar za (zb zcq (zh (zbw T) (hr.mono (by decide)) rfl T.law_cell.mg T.law_cell.fn.kp T.law_cell.bn .nil pass0 (zk (qpv 0) za1 za zao)) za)))
   (zc (i:=3) ze5.nd rfl (kj rfl) (zh (zjw T) (hr.mono (by decide)) rfl T.law_cells.mg T.law_cells.fn.kp T.law_cells.bn .nil pass0 (zt (qpv 0) za1 (qpv 1) za1 (qpv 2) za1)))
   (zc (i:=4) ze5.nd rfl (kj rfl) (zh (zjb T) (hr.mono (by decide)) rfl T.law_frame.mg T.law_frame.fn.kp T.law_frame.bn .nil pass0 (zg (qpv 0) za1)))
   (zc (i:=5) ze5.nd rfl (kj rfl) (zh (zkt T) (hr.mono (by decide)) rfl T.law_land.mg T.law_land.fn.kp T.law_land.bn .nil pass0 (zk (qpv 3) za1 (qpv 4) za1)))
   (zc (i:=6) ze5.nd rfl (kj rfl) (zh (zk5 T) (hr.mono (by decide)) rfl T.law_rings.mg T.law_rings.fn.kp T.law_rings.bn .nil pass0 (zk (zh (zlc T hK hB) (hr.mono (by decide)) rfl T.rings_of.mg T.rings_of.fn.kp T.rings_of.bn .nil pass0 (zg (zh (zl3 T) (hr.mono (by decide)) rfl T.law_told.mg T.law_told.fn.kp T.law_told.bn .nil pass0 (zk (qpv 5) za1 (zd zai (qpv 4) za (fun _ _=>rfl)) za9)) zby)) zby (zh (zkm T) (hr.mono (by decide)) rfl T.law_back.mg T.law_back.fn.kp T.law_back.bn .nil pass0 (zk (qpv 5) za1 (zd zai (qpv 4) za (fun _ _=>rfl)) za9)) zby)))
   (zn (zr op_isN (qpv 6) ya (nomark _)) (zf (ze zM)) zp)
   (zW (i:=7) ze5.nd rfl (kj rfl) (dsc:=za0 zfb) (N:=["_law_script","_law_wide","_law_high","_law_cells_here","_law_frame_here","_law_ways","_law_found","_law_laces","_law_parts_here","_law_pockets_here","_law_part","_law_measure"]) (own:=["_law_ring"]) (ix:=[]) rfl rfl rfl ⟨rfl,by decide+kernel,by decide+kernel,by decide+kernel,by decide+kernel⟩ (zq (qpv 6)) (fun cl C fp s2 H2 xe=>⟨(zj (i:=0) (show Qf (["_law_ring"]:List Str) from by decide+kernel) rfl (kj rfl)),zF,(zh (zj5 T) (hr.mono (by decide)) rfl T.law_twice.mg T.law_twice.fn.kp T.law_twice.bn .nil pass0 (zg (qpv 0) za1))⟩))
   (zc (i:=8) ze5.nd rfl (kj rfl) (zh (zgf T) (hr.mono (by decide)) rfl T.law_parts.mg T.law_parts.fn.kp T.law_parts.bn .nil pass0 (zg (qpv 3) za1)))
   (zc (i:=9) ze5.nd rfl (kj rfl) za)
   (zm pK rfl (zq (qpv 8)) (zj (i:=10) ze5.nd rfl (kj rfl)) (zf (zc (i:=9) ze5.nd rfl (kj rfl) (zb zar (qpv 9) (zh (zhg T) (hr.mono (by decide)) rfl T.law_pockets.mg T.law_pockets.fn.kp T.law_pockets.bn .nil pass0 (zt (qpv 10) za1 (qpv 1) za1 (qpv 2) za1))))))
   (zn (zQ (zR (zr zpo (zv zbq rfl T.b_len zdn (zg (zy (dsc:=za0 zfb) (N:=["_law_script","_law_wide","_law_high","_law_cells_here","_law_frame_here","_law_ways","_law_found","_law_laces","_law_parts_here","_law_pockets_here","_law_part","_law_measure"]) (own:=["_law_one"]) (ix:=[]) rfl rfl rfl ⟨rfl,by decide+kernel,by decide+kernel,by decide+kernel,by decide+kernel⟩ (zq (qpv 7)) (fun cl C fp s2 H2 xe=>⟨(zj (i:=0) (show Qf (["_law_one"]:List Str) from by decide+kernel) rfl (kj rfl)),(zN (zr op_gt (qpv 0) za (nomark _))),(qpv 0)⟩)) zdl)) (zv zbq rfl T.b_len zdn (zg (qpv 8) za1)) (nomark _)) (zS (zr zpo (zv zbq rfl T.b_len zdn (zg (zy (dsc:=za0 zfb) (N:=["_law_script","_law_wide","_law_high","_law_cells_here","_law_frame_here","_law_ways","_law_found","_law_laces","_law_parts_here","_law_pockets_here","_law_part","_law_measure"]) (own:=["_law_one"]) (ix:=[]) rfl rfl rfl ⟨rfl,by decide+kernel,by decide+kernel,by decide+kernel,by decide+kernel⟩ (zq (qpv 7)) (fun cl C fp s2 H2 xe=>⟨(zj (i:=0) (show Qf (["_law_one"]:List Str) from by decide+kernel) rfl (kj rfl)),(zN (zr zj7 (qpv 0) za (nomark _))),(qpv 0)⟩)) zdl)) (qpv 9) (nomark _))))) (zf (ze zM)) zp)
   (zc (i:=11) ze5.nd rfl (kj rfl) (zb zcp (zb zan (zd zai (qpv 4) za (fun _ _=>rfl)) (zd zai (qpv 4) za (fun _ _=>rfl))) (zb zan (zd zai (qpv 4) za (fun _ _=>rfl)) (zd zai (qpv 4) za (fun _ _=>rfl)))))
   (ze (yl (zJ (zfv (K':=K) rfl (hu64 hr)) za (qpv 7) rfl) (ym (zJ op_eq (zv (zpw rfl) rfl T.b_sum bt_sum (zg (qpv 7) za1)) (zb zan (zb zdq za (qpv 11)) (zv zbq rfl T.b_len zdn (zg (qpv 3) za1))) (nomark _))))))
  ,?_⟩
 clear yK zc zb za zh zk qpv zt zg zd zn zr ya zf ze zM zp zW zq zj zF zm zQ zR zv zy zN zS yl zJ ym QE QT QW QA QS QSs QG QGs QI QO QIf
 dsimp! [L2.start]
 simp! [];refine⟨a0,ns,0,rfl,hS,by decide,by decide,fun v0=>⟨v0,rfl,by decide,a0,ns,1,rfl,hS,by decide,by decide,fun v1=>⟨v1,rfl,by decide,?_⟩⟩⟩
 have wd1:1<=1+v0%3/\1+v0%3<=3:=by omega
 have hg1:1<=1+v1%2/\1+v1%2<=2:=by omega
 generalize 1+v0%3=wd at*;generalize 1+v1%2=hg at*;refine⟨a0,ns,_,_,rfl,hS,by omega,by omega,by omega,by omega,fun C zs cs H1 hC g1 hC1 nzs hz ci=>?_⟩
 refine⟨a0,ns,rfl,g1.seq hS,fun M f H2 hM g2 hf=>?_⟩;have hC2:=g2 _ _ hC1;have hz2:=hz.ts zj1 (za6 g2);refine⟨C,M,zs,cs,f,rfl,hC2,nzs,hz2,hf,fun W ys ws es H3 hW g3 hW3 ny hw nd Eg Wg=>?_⟩;obtain⟨xf,hxf,f0,f1,f2,f3,f4,f5,f6,fb⟩:=hf.same g3;have w0:0<f.w:=by have:=fb.2.2.2.2.2.2.1;omega
 have d0:0<fd2 f:=by have:=fb.2.2.2.2.2.2.2.2;unfold fd2;omega
 have Fe:=zoj w0 d0 Eg Wg;have lws:=hw.1;refine⟨M,rfl,xf,hxf,_,f6,W,ys,ws,f,rfl,hW3,ny,hw,fb,fun L ls H4 hL g4 hL4 hls=>?_⟩;have lls:=hls.1;rw[kO] at lls;have g04:=((g1.trans g2).trans g3).trans g4;have lt4:=lt.same g04;refine⟨L,ls,_,rfl,hL4,by omega,hls,Fe,lt4,fun F fs os g H5 hF st5 lt5 hF5 ho td=>?_⟩
 have ts5:zad H4 H5:=fun b xs q=>st5.tup lt4 q;have hM5:=st5.lst lt4 (g4 _ _ hxf);have hW5:=st5.lst lt4 (g4 _ _ hW3);have hC5:=st5.lst lt4 (g4 _ _ (g3 _ _ hC2));have hw5:=(hw.ts mw_ts (za6 g4)).ts mw_ts ts5;have hz5:=((hz2.ts zj1 (za6 g3)).ts zj1 (za6 g4)).ts zj1 ts5;have ho5:LR RgQ H5 fs os:=ho.imp (R':=RgQ) fun p r t=>t.2.2;refine⟨M,rfl,xf,hM5,_,f6,W,ys,ws,f,rfl,hW5,ny,hw5,fb,d0,fun B kvs H6 hB g6 bk=>?_⟩;obtain⟨rs,ers,hrs⟩:=told_rs w0 d0 td;have l3:=zjm fun q hq=>(td.rg q hq).2;rw[td.pm.length_eq,kO] at l3;have lfs:=ho.1;have lrs:rs.length=os.length:=by rw[←ers,kO]
 refine⟨F,B,fs,rs,f,_,kvs,rfl,g6 _ _ hF5,by omega,by rw[ers];exact zmd ho5 g6,fun r hr1=>⟨(hrs r hr1).1,by have:=(hrs r hr1).2.1;omega,(hrs r hr1).2.2.1⟩,bk,fun D zs2 H7 hD g7 hD7 hz7=>?_⟩
 refine ite2 (fun z=>nomatch of_decide_eq_true z) fun _=>?_;have bx:∀e,e∈ws->Bx e.1:=fun e he=>by
  obtain⟨j,hj⟩:=uG.mp he;obtain⟨p,x,_,e2,e3⟩:=hw.at (j:=j) (by rw[hw.1];exact(kH.mp hj).1)
  rw[hj] at e2
  cases e2;exact e3.2.1
 have lz2:=hz7.1;rw[kO] at lz2;refine zc2 ?_;simp! [zd1];refine⟨⟨_,.of hD7⟩,fun La hLa=>?_⟩;refine zbx (xs:=zs2) (fun i qs H'=>Same H7 H'/\H' La=some (.lst qs)/\qs=((lvs f rs).take i).map V.int) ⟨za2 hLa _,upd_same,rfl⟩ (fun n qs H' z=>.of (z.1 _ _ hD7)) ?_ ?_
 ·rintro n qs H8 v hn hv ⟨g8,hLa8,eq⟩;obtain⟨p,m,rfl,hm',hp⟩:=hz7.2 n v hv;obtain⟨r,hr1⟩:∃r,rs[n]?=some r:=⟨_,kR (by omega)⟩
  rw[pG,hr1] at hm'
  cases hm';obtain⟨r3,rw1,rS,rE⟩:=hrs r (kz hr1);simp! [];refine⟨p,r.map (mv f),rfl,hp.same g8,by rw[kO];omega,fun x hx=>?_,?_⟩
  ·obtain⟨a,ha,rfl⟩:=kW.mp hx;obtain⟨e,he,rfl⟩:=rS a ha;have:=zqb fb (bx e he);exact⟨this.1,this.2.1⟩
  ·rw[twc_mv (by omega)]
   have lq:qs.length<=n:=by rw[eq,kO,pI];omega
   refine cw_put hn hLa8 (small1000 (by omega)) ⟨zaj g8 hLa,upd_same,?_⟩
   rw[eq,kq,show(lvs f rs)[n]?=some ((f.p*f.s-f.q*f.r)*su crs (zcs r)) by unfold lvs;rw[pG,hr1];rfl,pV]
   rfl
 rintro qs H8 ⟨g8,hLa8,eq⟩;rw[kU (by unfold lvs;rw[kO];omega)] at eq
 subst eq;have g58:=(g6.trans g7).trans g8;have hC8:=g58 _ _ hC5;have hz8:=hz5.ts zj1 (za6 g58);have cB:∀c,c∈cs->0<=c.1/\0<=c.2.1/\vq c:=fun c hc=>by
  obtain⟨j,hj⟩:=uG.mp hc;obtain⟨p,x,_,e2,e3⟩:=hz.at (j:=j) (by rw[hz.1];exact(kH.mp hj).1)
  rw[hj] at e2
  cases e2;exact⟨e3.2.1,e3.2.2.2.1,e3.2.2.2.2.2.1,e3.2.2.2.2.2.2⟩
 refine⟨C,zs,cs,rfl,hC8,by omega,hz8.imp (R':=T3H) (fun p c t=>⟨t.1,t.2.2.2.2.2.1,t.2.2.2.2.2.2⟩),ci.1,fun D2 zs3 Ps H9 hD2 g9 hD9 hz9 pr=>?_⟩
 have A:All wd hg f cs es ws Ps (rs.map zcs):=⟨w0,d0,Eg,nd,Wg,pr,ci.1,fun c hc=>⟨(cB c hc).1,(ci.2 c hc).1,(cB c hc).2.1,(ci.2 c hc).2.1,(cB c hc).2.2⟩,⟨g,os,td,by
  rw[←ers,Ur,Ur];exact ux fun r hr1=>zq3 (by have:=(hrs r hr1).1;omega)⟩,fun wl hwl w hw'=>by
  obtain⟨r,hr1,rfl⟩:=kW.mp hwl;exact(hrs r hr1).2.2.2 w hw'⟩
 obtain⟨m1,m2,m3,m4⟩:=A.main;refine zbc ?_;simp! [zd1];refine⟨⟨_,.of hD9⟩,?_⟩;refine zba (K:=K) (a:=D2) (xs:=zs3) (fun i σ H'=>Same H9 H'/\∃o,σ=[some (V.ref a0),some (V.int wd),some (V.int hg),some (V.ref C),some (V.ref M),some (V.ref W),some (V.ref D),some (V.ref La),some (V.ref D2),some (V.int (su (fun P=>((lpP ((rs.map zcs).map (lpW es)) P).length:Int)-1) (Ps.take i))),o,none]) ⟨.refl _,_,rfl⟩ (fun i σ H' _ iv=>.of (iv.1 _ _ hD9)) ?_ ?_
 ·intro _ _;rintro i v σ H10 hi ⟨g10,o,rfl⟩;obtain⟨p,P,rfl,hP',hp⟩:=hz9.2 i v hi;simp! [];refine⟨p,P,wd,hg,rfl,hp.same g10,by omega,by omega,by omega,by omega,fun H11 Qs g11 pq=>⟨_,rfl,g10.trans g11,?_⟩⟩
  rw[kq,hP',zgb];show _=_+((((lpP ((rs.map zcs).map (lpW es)) P).length:Int)-1)+0);rw[(A.lps (kz hP')).count pq,Qg]
 rintro σ H10 ⟨g10,o,rfl⟩;rw[kU (QZ hz9.1.symm)];have g810:=g9.trans g10;have hLa10:=g810 _ _ hLa8;have llv:(lvs f rs).length=rs.length:=by unfold lvs;rw[kO]
 have at_:∀(n:Nat)(v:V),((lvs f rs).map V.int)[n]?=some v->∃x,v=V.int x/\(lvs f rs)[n]?=some x:=fun n v hv=>by
  rw[pG] at hv;obtain⟨x,h1,h2⟩:=jE.mp hv;exact⟨x,h2.symm,h1⟩
 simp! [];refine zc2 ?_;simp! [zd1];refine⟨⟨_,.of hLa10⟩,fun N1 hN1=>?_⟩;refine zbx (xs:=(lvs f rs).map V.int) (fun i qs H'=>Same H10 H'/\H' N1=some (.lst qs)/\qs=(((lvs f rs).take i).filter fun x=>decide (0<x)).map V.int) ⟨za2 hN1 _,upd_same,rfl⟩ (fun n qs H' z=>.of (z.1 _ _ hLa10)) ?_ ?_
 ·rintro n qs H11 v hn hv ⟨g11,hN,eq⟩;obtain⟨x,rfl,hx⟩:=at_ n v hv;have lq:qs.length<=rs.length:=by
   rw[eq,kO];refine pL (Uy _ _) ?_;rw[pI];omega
  simp! [];refine ite2 (fun c=>?_) (fun c=>?_)
  ·refine cw_put hn hN (small1000 (by omega)) ⟨zaj g11 hN1,upd_same,?_⟩
   rw[eq,kq,hx,pW,show(some x).toList.filter (fun x=>decide (0<x))=[x] by show[x].filter _=[x];rw[uA,if_pos c];rfl,pV]
   rfl
  ·refine cw_skip hn ⟨g11,hN,?_⟩;rw[eq,kq,hx,pW,show(some x).toList.filter (fun x=>decide (0<x))=[] by show[x].filter _=[];rw[uA,if_neg c];rfl,pU]
 rintro qs1 H11 ⟨g11,hN11,eq1⟩;rw[kO,kU (kG _)] at eq1;have c1:(qs1.length:Int)=(zs3.length:Int):=by
  rw[eq1,kO,lv_pos d0,m2,hz9.1]
 refine⟨N1,rfl,qs1,.inl hN11,zs3,.inl (g11 _ _ (g10 _ _ hD9)),?_⟩;rw[decide_eq_true c1];refine iteF ?_;have hLa11:=g11 _ _ hLa10;refine zc2 ?_;simp! [zd1];refine⟨⟨_,.of hLa11⟩,fun N2 hN2=>?_⟩;refine zbx (xs:=(lvs f rs).map V.int) (fun i qs H'=>Same H11 H'/\H' N2=some (.lst qs)/\qs=(((lvs f rs).take i).filter fun x=>decide (x<0)).map V.int) ⟨za2 hN2 _,upd_same,rfl⟩ (fun n qs H' z=>.of (z.1 _ _ hLa11)) ?_ ?_
 ·rintro n qs H12 v hn hv ⟨g12,hN,eq⟩;obtain⟨x,rfl,hx⟩:=at_ n v hv;have lq:qs.length<=rs.length:=by
   rw[eq,kO];refine pL (Uy _ _) ?_;rw[pI];omega
  simp! [];refine ite2 (fun c=>?_) (fun c=>?_)
  ·refine cw_put hn hN (small1000 (by omega)) ⟨zaj g12 hN2,upd_same,?_⟩
   rw[eq,kq,hx,pW,show(some x).toList.filter (fun x=>decide (x<0))=[x] by show[x].filter _=[x];rw[uA,if_pos c];rfl,pV]
   rfl
  ·refine cw_skip hn ⟨g12,hN,?_⟩;rw[eq,kq,hx,pW,show(some x).toList.filter (fun x=>decide (x<0))=[] by show[x].filter _=[];rw[uA,if_neg c];rfl,pU]
 rintro qs2 H12 ⟨g12,hN12,eq2⟩;rw[kO,kU (kG _)] at eq2;have c2:(qs2.length:Int)=su (fun P=>((lpP ((rs.map zcs).map (lpW es)) P).length:Int)-1) Ps:=by
  rw[eq2,kO,lv_neg d0,m3]
 refine⟨N2,rfl,qs2,.inl hN12,?_⟩;rw[decide_eq_true c2];refine iteF ?_;have g812:=(g810.trans g11).trans g12;have hM12:=g812 _ _ (g58 _ _ hM5);simp! [hM12,f0,f1,f2,f3];have hLa12:=g12 _ _ hLa11;have hC12:=g812 _ _ hC8;have lvb:∀{x:Int},x∈lvs f rs-> -(2^40)<=x/\x<=2^40:=lv_bd fb (rs:=rs) fun r hr1=>⟨by have:=(hrs r hr1).2.1;omega,fun e he=>by
  have hm:=(hrs r hr1).2.2.2 e he;obtain⟨j,hj⟩:=uG.mp hm;obtain⟨p,x,_,e2,e3⟩:=hw.at (j:=j) (by rw[hw.1];exact(kH.mp hj).1)
  rw[hj] at e2
  cases e2;exact e3.2⟩
 obtain⟨⟨p1,p2⟩,⟨q1,q2⟩,⟨r1,r2⟩,⟨s1,s2⟩,_⟩:=fb;have e10:(2:Nat)^10=1024:=rfl;have e20:(2:Nat)^20=1048576:=rfl;have sq:∀{a b:Int},-100<=a->a<=100-> -100<=b->b<=100->(a*b).natAbs<=100*100:=fun h1 h2 h3 h4=>by
  rw[Qd];exact gP (by omega) (by omega)
 have dq1:=sq p1 p2 s1 s2;have dq2:=sq q1 q2 r1 r2;refine⟨cbig (m:=10) (n:=10) (by omega) (by omega),cbig (m:=10) (n:=10) (by omega) (by omega),?_⟩
 refine⟨di 0,(lvs f rs).map di,by unfold di;rw[RdD],by rw[RdD];exact⟨La,_,rfl,.of hLa12,rd_is _⟩,rfl,di_lay _,by decide,_,rfl,?_⟩
 rw[di_any fun n hn=>by
  unfold lvs at hn;obtain⟨r,hr1,rfl⟩:=kW.mp hn;have:=m1 (zcs r) (kW.mpr ⟨r,hr1,rfl⟩);unfold fd2 at d0;exact Int.mul_ne_zero (by omega) this]
 refine iteT ?_;refine⟨La,lvs f rs,rfl,hLa12,fun j hj=>lvb (by rw[kZ,kR hj];exact Qn _),by omega,?_⟩
 rw[lv_sum,m4];have lzc:=hz.1;refine⟨.inl ⟨by decide,by decide⟩,zs,.inl hC12,cbig (m:=20) (n:=10) (by omega) (by omega),rfl,?_⟩
 rw[decide_eq_true (congrArg V.int (by rw[lzc,jN,AE]))]
 exact k _
end
theorem all_mk{l:Ao}{w:pR}{K:kM}{h:Heap}{mg:Str->Option kB}{fa f0 f1 f2 f3 f4 f5 f6 cT0 pT0 f7 f8 f9 f10 f11 f12 f13 f14 f15 f16 f17 f18 f19 f20 f21 f22 f23 f24 f25 f26 f27 f28 f29 f30 f31:Addr}(X:K.In h)(G:h.Ns kY mg)(hfa:mg "law"=some (.ref fa))
  {od0 an0:Option Addr}{sl0:Array (Option kB)}{oc0 kV0 dc0 pm0 cd0 ct0:kB}
  {od1 an1:Option Addr}{sl1:Array (Option kB)}{oc1 kV1 dc1 pm1 cd1 ct1:kB}
  {od2 an2:Option Addr}{sl2:Array (Option kB)}{oc2 kV2 dc2 pm2 cd2 ct2:kB}
  {od3 an3:Option Addr}{sl3:Array (Option kB)}{oc3 kV3 dc3 pm3 cd3 ct3:kB}
  {od4 an4:Option Addr}{sl4:Array (Option kB)}{oc4 kV4 dc4 pm4 cd4 ct4:kB}
  {od5 an5:Option Addr}{sl5:Array (Option kB)}{oc5 kV5 dc5 pm5 cd5 ct5:kB}
  {od6 an6:Option Addr}{sl6:Array (Option kB)}{oc6 kV6 dc6 pm6 ct6:kB}
  {tdT0:Option Addr}{tvT0:Array kB}{tsT0:Array (Option kB)}{tcT0:kB}
  {od7 an7:Option Addr}{sl7:Array (Option kB)}{oc7 kV7 dc7 pm7 cd7 ct7:kB}
  {od8 an8:Option Addr}{sl8:Array (Option kB)}{oc8 kV8 dc8 pm8 cd8 ct8:kB}
  {od9 an9:Option Addr}{sl9:Array (Option kB)}{oc9 kV9 dc9 pm9 cd9 ct9:kB}
  {od10 an10:Option Addr}{sl10:Array (Option kB)}{oc10 kV10 dc10 pm10 cd10 ct10:kB}
  {od11 an11:Option Addr}{sl11:Array (Option kB)}{oc11 kV11 dc11 pm11 cd11 ct11:kB}
  {od12 an12:Option Addr}{sl12:Array (Option kB)}{oc12 kV12 dc12 pm12 cd12 ct12:kB}
  {od13 an13:Option Addr}{sl13:Array (Option kB)}{oc13 kV13 dc13 pm13 cd13 ct13:kB}
  {od14 an14:Option Addr}{sl14:Array (Option kB)}{oc14 kV14 dc14 pm14 cd14 ct14:kB}
  {od15 an15:Option Addr}{sl15:Array (Option kB)}{oc15 kV15 dc15 pm15 cd15 ct15:kB}
  {od16 an16:Option Addr}{sl16:Array (Option kB)}{oc16 kV16 dc16 pm16 cd16 ct16:kB}
  {od17 an17:Option Addr}{sl17:Array (Option kB)}{oc17 kV17 dc17 pm17 cd17 ct17:kB}
  {od18 an18:Option Addr}{sl18:Array (Option kB)}{oc18 kV18 dc18 pm18 cd18 ct18:kB}
  {od19 an19:Option Addr}{sl19:Array (Option kB)}{oc19 kV19 dc19 pm19 cd19 ct19:kB}
  {od20 an20:Option Addr}{sl20:Array (Option kB)}{oc20 kV20 dc20 pm20 cd20 ct20:kB}
  {od21 an21:Option Addr}{sl21:Array (Option kB)}{oc21 kV21 dc21 pm21 cd21 ct21:kB}
  {od22 an22:Option Addr}{sl22:Array (Option kB)}{oc22 kV22 dc22 pm22 cd22 ct22:kB}
  {od23 an23:Option Addr}{sl23:Array (Option kB)}{oc23 kV23 dc23 pm23 cd23 ct23:kB}
  {od24 an24:Option Addr}{sl24:Array (Option kB)}{oc24 kV24 dc24 pm24 cd24 ct24:kB}
  {od25 an25:Option Addr}{sl25:Array (Option kB)}{oc25 kV25 dc25 pm25 cd25 ct25:kB}
  {od26 an26:Option Addr}{sl26:Array (Option kB)}{oc26 kV26 dc26 pm26 cd26 ct26:kB}
  {od27 an27:Option Addr}{sl27:Array (Option kB)}{oc27 kV27 dc27 pm27 cd27 ct27:kB}
  {od28 an28:Option Addr}{sl28:Array (Option kB)}{oc28 kV28 dc28 pm28 cd28 ct28:kB}
  {od29 an29:Option Addr}{sl29:Array (Option kB)}{oc29 kV29 dc29 pm29 cd29 ct29:kB}
  {od30 an30:Option Addr}{sl30:Array (Option kB)}{oc30 kV30 dc30 pm30 cd30 ct30:kB}
  {od31 an31:Option Addr}{sl31:Array (Option kB)}{oc31 kV31 dc31 pm31 cd31 ct31:kB}
  (a0:kr K kY "before"=some (some (.ref f0)))(l0:K.lookup f0=some ⟨oc0,od0,.func (kN "before" "before" (za4 zcd) (za3 zcd) (za0 zcd) .none kV0 dc0 pm0 an0 cd0 ct0),sl0⟩)(c0:km K cd0 "before"=true)(k0:ko K (.ref f0)=true)
  (a1:kr K kY "sign_of"=some (some (.ref f1)))(l1:K.lookup f1=some ⟨oc1,od1,.func (kN "sign_of" "sign_of" (za4 zcn) (za3 zcn) (za0 zcn) .none kV1 dc1 pm1 an1 cd1 ct1),sl1⟩)(c1:km K cd1 "sign_of"=true)(k1:ko K (.ref f1)=true)
  (a2:kr K kY "line_of"=some (some (.ref f2)))(l2:K.lookup f2=some ⟨oc2,od2,.func (kN "line_of" "line_of" (za4 zco) (za3 zco) (za0 zco) .none kV2 dc2 pm2 an2 cd2 ct2),sl2⟩)(c2:km K cd2 "line_of"=true)(k2:ko K (.ref f2)=true)
  (a3:kr K kY "side_of"=some (some (.ref f3)))(l3:K.lookup f3=some ⟨oc3,od3,.func (kN "side_of" "side_of" (za4 zch) (za3 zch) (za0 zch) .none kV3 dc3 pm3 an3 cd3 ct3),sl3⟩)(c3:km K cd3 "side_of"=true)(k3:ko K (.ref f3)=true)
  (a4:kr K kY "turn"=some (some (.ref f4)))(l4:K.lookup f4=some ⟨oc4,od4,.func (kN "turn" "turn" (za4 zfh) (za3 zfh) (za0 zfh) .none kV4 dc4 pm4 an4 cd4 ct4),sl4⟩)(c4:km K cd4 "turn"=true)(k4:ko K (.ref f4)=true)
  (a5:kr K kY "order_keys"=some (some (.ref f5)))(l5:K.lookup f5=some ⟨oc5,od5,.func (kN "order_keys" "order_keys" (za4 zay) (za3 zay) (za0 zay) .none kV5 dc5 pm5 an5 cd5 ct5),sl5⟩)(c5:km K cd5 "order_keys"=true)(k5:ko K (.ref f5)=true)
  (a6:kr K kY "by_points"=some (some (.ref f6)))(l6:K.lookup f6=some ⟨oc6,od6,.func (kN "by_points" "by_points" (za4 zak) (za3 zak) (za0 zak) .none kV6 dc6 pm6 an6 (.ref cT0) ct6),sl6⟩)(c6:km K (.ref cT0) "by_points"=true)(k6:ko K (.ref f6)=true)
  (lT0:K.lookup cT0=some ⟨tcT0,tdT0,.fields tvT0,tsT0⟩)(vT0:tvT0[11]?=some (.ref pT0))(hT0:PySem.W.codeHdIn K cT0 pT0=true)(tT0:gv K "by_points"=some (cT0,pT0))(nT0:K.lookup pT0=none)
  (a7:kr K kY "rings_of"=some (some (.ref f7)))(l7:K.lookup f7=some ⟨oc7,od7,.func (kN "rings_of" "rings_of" (za4 zbt) (za3 zbt) (za0 zbt) .none kV7 dc7 pm7 an7 cd7 ct7),sl7⟩)(c7:km K cd7 "rings_of"=true)(k7:ko K (.ref f7)=true)
  (a8:kr K kY "leaving_of"=some (some (.ref f8)))(l8:K.lookup f8=some ⟨oc8,od8,.func (kN "leaving_of" "leaving_of" (za4 zb6) (za3 zb6) (za0 zb6) .none kV8 dc8 pm8 an8 cd8 ct8),sl8⟩)(c8:km K cd8 "leaving_of"=true)(k8:ko K (.ref f8)=true)
  (a9:kr K kY "way_round"=some (some (.ref f9)))(l9:K.lookup f9=some ⟨oc9,od9,.func (kN "way_round" "way_round" (za4 zbk) (za3 zbk) (za0 zbk) .none kV9 dc9 pm9 an9 cd9 ct9),sl9⟩)(c9:km K cd9 "way_round"=true)(k9:ko K (.ref f9)=true)
  (a10:kr K kY "first_right"=some (some (.ref f10)))(l10:K.lookup f10=some ⟨oc10,od10,.func (kN "first_right" "first_right" (za4 zau) (za3 zau) (za0 zau) .none kV10 dc10 pm10 an10 cd10 ct10),sl10⟩)(c10:km K cd10 "first_right"=true)(k10:ko K (.ref f10)=true)
  (a11:kr K kY "is_met_sooner"=some (some (.ref f11)))(l11:K.lookup f11=some ⟨oc11,od11,.func (kN "is_met_sooner" "is_met_sooner" (za4 zal) (za3 zal) (za0 zal) .none kV11 dc11 pm11 an11 cd11 ct11),sl11⟩)(c11:km K cd11 "is_met_sooner"=true)(k11:ko K (.ref f11)=true)
  (a12:kr K kY "from_least"=some (some (.ref f12)))(l12:K.lookup f12=some ⟨oc12,od12,.func (kN "from_least" "from_least" (za4 zb4) (za3 zb4) (za0 zb4) .none kV12 dc12 pm12 an12 cd12 ct12),sl12⟩)(c12:km K cd12 "from_least"=true)(k12:ko K (.ref f12)=true)
  (a13:kr K kY "_law_cell"=some (some (.ref f13)))(l13:K.lookup f13=some ⟨oc13,od13,.func (kN "_law_cell" "_law_cell" (za4 zc0) (za3 zc0) (za0 zc0) .none kV13 dc13 pm13 an13 cd13 ct13),sl13⟩)(c13:km K cd13 "_law_cell"=true)(k13:ko K (.ref f13)=true)
  (a14:kr K kY "_law_divisor"=some (some (.ref f14)))(l14:K.lookup f14=some ⟨oc14,od14,.func (kN "_law_divisor" "_law_divisor" (za4 zav) (za3 zav) (za0 zav) .none kV14 dc14 pm14 an14 cd14 ct14),sl14⟩)(c14:km K cd14 "_law_divisor"=true)(k14:ko K (.ref f14)=true)
  (a15:kr K kY "_law_point"=some (some (.ref f15)))(l15:K.lookup f15=some ⟨oc15,od15,.func (kN "_law_point" "_law_point" (za4 zbj) (za3 zbj) (za0 zbj) .none kV15 dc15 pm15 an15 cd15 ct15),sl15⟩)(c15:km K cd15 "_law_point"=true)(k15:ko K (.ref f15)=true)
  (a16:kr K kY "_law_cells"=some (some (.ref f16)))(l16:K.lookup f16=some ⟨oc16,od16,.func (kN "_law_cells" "_law_cells" (za4 zbo) (za3 zbo) (za0 zbo) .none kV16 dc16 pm16 an16 cd16 ct16),sl16⟩)(c16:km K cd16 "_law_cells"=true)(k16:ko K (.ref f16)=true)
  (a17:kr K kY "_law_ends"=some (some (.ref f17)))(l17:K.lookup f17=some ⟨oc17,od17,.func (kN "_law_ends" "_law_ends" (za4 zc1) (za3 zc1) (za0 zc1) .none kV17 dc17 pm17 an17 cd17 ct17),sl17⟩)(c17:km K cd17 "_law_ends"=true)(k17:ko K (.ref f17)=true)
  (a18:kr K kY "_law_edges"=some (some (.ref f18)))(l18:K.lookup f18=some ⟨oc18,od18,.func (kN "_law_edges" "_law_edges" (za4 zb8) (za3 zb8) (za0 zb8) .none kV18 dc18 pm18 an18 cd18 ct18),sl18⟩)(c18:km K cd18 "_law_edges"=true)(k18:ko K (.ref f18)=true)
  (a19:kr K kY "_law_straight"=some (some (.ref f19)))(l19:K.lookup f19=some ⟨oc19,od19,.func (kN "_law_straight" "_law_straight" (za4 zap) (za3 zap) (za0 zap) .none kV19 dc19 pm19 an19 cd19 ct19),sl19⟩)(c19:km K cd19 "_law_straight"=true)(k19:ko K (.ref f19)=true)
  (a20:kr K kY "_law_long"=some (some (.ref f20)))(l20:K.lookup f20=some ⟨oc20,od20,.func (kN "_law_long" "_law_long" (za4 zbb) (za3 zbb) (za0 zbb) .none kV20 dc20 pm20 an20 cd20 ct20),sl20⟩)(c20:km K cd20 "_law_long"=true)(k20:ko K (.ref f20)=true)
  (a21:kr K kY "_law_frame"=some (some (.ref f21)))(l21:K.lookup f21=some ⟨oc21,od21,.func (kN "_law_frame" "_law_frame" (za4 zbl) (za3 zbl) (za0 zbl) .none kV21 dc21 pm21 an21 cd21 ct21),sl21⟩)(c21:km K cd21 "_law_frame"=true)(k21:ko K (.ref f21)=true)
  (a22:kr K kY "_law_moved"=some (some (.ref f22)))(l22:K.lookup f22=some ⟨oc22,od22,.func (kN "_law_moved" "_law_moved" (za4 zbi) (za3 zbi) (za0 zbi) .none kV22 dc22 pm22 an22 cd22 ct22),sl22⟩)(c22:km K cd22 "_law_moved"=true)(k22:ko K (.ref f22)=true)
  (a23:kr K kY "_law_land"=some (some (.ref f23)))(l23:K.lookup f23=some ⟨oc23,od23,.func (kN "_law_land" "_law_land" (za4 zbu) (za3 zbu) (za0 zbu) .none kV23 dc23 pm23 an23 cd23 ct23),sl23⟩)(c23:km K cd23 "_law_land"=true)(k23:ko K (.ref f23)=true)
  (a24:kr K kY "_law_told"=some (some (.ref f24)))(l24:K.lookup f24=some ⟨oc24,od24,.func (kN "_law_told" "_law_told" (za4 zbv) (za3 zbv) (za0 zbv) .none kV24 dc24 pm24 an24 cd24 ct24),sl24⟩)(c24:km K cd24 "_law_told"=true)(k24:ko K (.ref f24)=true)
  (a25:kr K kY "_law_back"=some (some (.ref f25)))(l25:K.lookup f25=some ⟨oc25,od25,.func (kN "_law_back" "_law_back" (za4 zc3) (za3 zc3) (za0 zc3) .none kV25 dc25 pm25 an25 cd25 ct25),sl25⟩)(c25:km K cd25 "_law_back"=true)(k25:ko K (.ref f25)=true)
  (a26:kr K kY "_law_rings"=some (some (.ref f26)))(l26:K.lookup f26=some ⟨oc26,od26,.func (kN "_law_rings" "_law_rings" (za4 zb7) (za3 zb7) (za0 zb7) .none kV26 dc26 pm26 an26 cd26 ct26),sl26⟩)(c26:km K cd26 "_law_rings"=true)(k26:ko K (.ref f26)=true)
  (a27:kr K kY "_law_twice"=some (some (.ref f27)))(l27:K.lookup f27=some ⟨oc27,od27,.func (kN "_law_twice" "_law_twice" (za4 zbp) (za3 zbp) (za0 zbp) .none kV27 dc27 pm27 an27 cd27 ct27),sl27⟩)(c27:km K cd27 "_law_twice"=true)(k27:ko K (.ref f27)=true)
  (a28:kr K kY "_law_parts"=some (some (.ref f28)))(l28:K.lookup f28=some ⟨oc28,od28,.func (kN "_law_parts" "_law_parts" (za4 zb2) (za3 zb2) (za0 zb2) .none kV28 dc28 pm28 an28 cd28 ct28),sl28⟩)(c28:km K cd28 "_law_parts"=true)(k28:ko K (.ref f28)=true)
  (a29:kr K kY "_law_near"=some (some (.ref f29)))(l29:K.lookup f29=some ⟨oc29,od29,.func (kN "_law_near" "_law_near" (za4 zc5) (za3 zc5) (za0 zc5) .none kV29 dc29 pm29 an29 cd29 ct29),sl29⟩)(c29:km K cd29 "_law_near"=true)(k29:ko K (.ref f29)=true)
  (a30:kr K kY "_law_pockets"=some (some (.ref f30)))(l30:K.lookup f30=some ⟨oc30,od30,.func (kN "_law_pockets" "_law_pockets" (za4 zaq) (za3 zaq) (za0 zaq) .none kV30 dc30 pm30 an30 cd30 ct30),sl30⟩)(c30:km K cd30 "_law_pockets"=true)(k30:ko K (.ref f30)=true)
  (a31:kr K kY "law"=some (some (.ref f31)))(l31:K.lookup f31=some ⟨oc31,od31,.func (kN "law" "law" (za4 zfb) (za3 zfb) (za0 zfb) .none kV31 dc31 pm31 an31 cd31 ct31),sl31⟩)(c31:km K cd31 "law"=true)(k31:ko K (.ref f31)=true)
  (z0:kr K kY "abs"=some none)
  (z1:kr K kY "isinstance"=some none)
  (z2:kr K kY "len"=some none)
  (z3:kr K kY "list"=some none)
  (z4:kr K kY "max"=some none)
  (z5:kr K kY "min"=some none)
  (z6:kr K kY "range"=some none)
  (z7:kr K kY "sorted"=some none)
  (z8:kr K kY "sum"=some none)
  :∃(fd:Qy)(ts:List Addr),(∀b,b∈ts->K.lookup b=none/\∃y c,y∈([QN "by_points"]:List Str)/\gv K y=some (c,b))/\(∀(s:kC)(v:kB),Bu s fd ⟨[v],[]⟩ [("_law_script",v)])/\∀base:Heap,K.In base->base.Ns kY mg->(∀b,b∈ts->base.BuiltinsAt mg b)->FnOk l.prog w K mg base CX0 8 fa fd ["_law_script"] (zik K ts):=by
 have e:=hfa.symm.trans (pD X G a31)
 cases e;have F0:=zax (st:=zcd) l0 c0 k0;have b0:=F0.binds (ps:=["P","Q"]) fun _ _ _ _ _ _ us hl=>match us,hl with|[_,_],_=>rfl
 have F1:=zax (st:=zcn) l1 c1 k1;have b1:=F1.binds (ps:=["number"]) fun _ _ _ _ _ _ us hl=>match us,hl with|[_],_=>rfl
 have F2:=zax (st:=zco) l2 c2 k2;have b2:=F2.binds (ps:=["P","Q"]) fun _ _ _ _ _ _ us hl=>match us,hl with|[_,_],_=>rfl
 have F3:=zax (st:=zch) l3 c3 k3;have b3:=F3.binds (ps:=["line","P"]) fun _ _ _ _ _ _ us hl=>match us,hl with|[_,_],_=>rfl
 have F4:=zax (st:=zfh) l4 c4 k4;have b4:=F4.binds (ps:=["P","Q","R"]) fun _ _ _ _ _ _ us hl=>match us,hl with|[_,_,_],_=>rfl
 have F5:=zax (st:=zay) l5 c5 k5;have b5:=F5.binds (ps:=["points"]) fun _ _ _ _ _ _ us hl=>match us,hl with|[_],_=>rfl
 have F6:=zax (st:=zak) l6 c6 k6;have FC6:FunC K "by_points" "by_points" zak f6 _ cT0 pT0:=⟨⟨_,_,_,_,_,_,_,_,rfl,l6,c6⟩,hT0⟩;have b6:=F6.binds (ps:=["things"]) fun _ _ _ _ _ _ us hl=>match us,hl with|[_],_=>rfl
 have F7:=zax (st:=zbt) l7 c7 k7;have b7:=F7.binds (ps:=["land"]) fun _ _ _ _ _ _ us hl=>match us,hl with|[_],_=>rfl
 have F8:=zax (st:=zb6) l8 c8 k8;have b8:=F8.binds (ps:=["land"]) fun _ _ _ _ _ _ us hl=>match us,hl with|[_],_=>rfl
 have F9:=zax (st:=zbk) l9 c9 k9;have b9:=F9.binds (ps:=["start","leaving","gone"]) fun _ _ _ _ _ _ us hl=>match us,hl with|[_,_,_],_=>rfl
 have F10:=zax (st:=zau) l10 c10 k10;have b10:=F10.binds (ps:=["P","Q","tips"]) fun _ _ _ _ _ _ us hl=>match us,hl with|[_,_,_],_=>rfl
 have F11:=zax (st:=zal) l11 c11 k11;have b11:=F11.binds (ps:=["P","Q","one","other"]) fun _ _ _ _ _ _ us hl=>match us,hl with|[_,_,_,_],_=>rfl
 have F12:=zax (st:=zb4) l12 c12 k12;have b12:=F12.binds (ps:=["ring"]) fun _ _ _ _ _ _ us hl=>match us,hl with|[_],_=>rfl
 have F13:=zax (st:=zc0) l13 c13 k13;have b13:=F13.binds (ps:=["_law_script","_law_k"]) fun _ _ _ _ _ _ us hl=>match us,hl with|[_,_],_=>rfl
 have F14:=zax (st:=zav) l14 c14 k14;have b14:=F14.binds (ps:=["_law_one","_law_other"]) fun _ _ _ _ _ _ us hl=>match us,hl with|[_,_],_=>rfl
 have F15:=zax (st:=zbj) l15 c15 k15;have b15:=F15.binds (ps:=["_law_east","_law_north","_law_share"]) fun _ _ _ _ _ _ us hl=>match us,hl with|[_,_,_],_=>rfl
 have F16:=zax (st:=zbo) l16 c16 k16;have b16:=F16.binds (ps:=["_law_script","_law_wide","_law_high"]) fun _ _ _ _ _ _ us hl=>match us,hl with|[_,_,_],_=>rfl
 have F17:=zax (st:=zc1) l17 c17 k17;have b17:=F17.binds (ps:=["_law_cell_here"]) fun _ _ _ _ _ _ us hl=>match us,hl with|[_],_=>rfl
 have F18:=zax (st:=zb8) l18 c18 k18;have b18:=F18.binds (ps:=["_law_cells_here"]) fun _ _ _ _ _ _ us hl=>match us,hl with|[_],_=>rfl
 have F19:=zax (st:=zap) l19 c19 k19;have b19:=F19.binds (ps:=["_law_starts","_law_begin","_law_end"]) fun _ _ _ _ _ _ us hl=>match us,hl with|[_,_,_],_=>rfl
 have F20:=zax (st:=zbb) l20 c20 k20;have b20:=F20.binds (ps:=["_law_edges_here"]) fun _ _ _ _ _ _ us hl=>match us,hl with|[_],_=>rfl
 have F21:=zax (st:=zbl) l21 c21 k21;have b21:=F21.binds (ps:=["_law_script"]) fun _ _ _ _ _ _ us hl=>match us,hl with|[_],_=>rfl
 have F22:=zax (st:=zbi) l22 c22 k22;have b22:=F22.binds (ps:=["_law_place","_law_frame_here"]) fun _ _ _ _ _ _ us hl=>match us,hl with|[_,_],_=>rfl
 have F23:=zax (st:=zbu) l23 c23 k23;have b23:=F23.binds (ps:=["_law_cells_here","_law_frame_here"]) fun _ _ _ _ _ _ us hl=>match us,hl with|[_,_],_=>rfl
 have F24:=zax (st:=zbv) l24 c24 k24;have b24:=F24.binds (ps:=["_law_ways","_law_share"]) fun _ _ _ _ _ _ us hl=>match us,hl with|[_,_],_=>rfl
 have F25:=zax (st:=zc3) l25 c25 k25;have b25:=F25.binds (ps:=["_law_ways","_law_share"]) fun _ _ _ _ _ _ us hl=>match us,hl with|[_,_],_=>rfl
 have F26:=zax (st:=zb7) l26 c26 k26;have b26:=F26.binds (ps:=["_law_found","_law_back_here"]) fun _ _ _ _ _ _ us hl=>match us,hl with|[_,_],_=>rfl
 have F27:=zax (st:=zbp) l27 c27 k27;have b27:=F27.binds (ps:=["_law_ring"]) fun _ _ _ _ _ _ us hl=>match us,hl with|[_],_=>rfl
 have F28:=zax (st:=zb2) l28 c28 k28;have b28:=F28.binds (ps:=["_law_cells_here"]) fun _ _ _ _ _ _ us hl=>match us,hl with|[_],_=>rfl
 have F29:=zax (st:=zc5) l29 c29 k29;have b29:=F29.binds (ps:=["_law_cell_here","_law_part"]) fun _ _ _ _ _ _ us hl=>match us,hl with|[_,_],_=>rfl
 have F30:=zax (st:=zaq) l30 c30 k30;have b30:=F30.binds (ps:=["_law_part","_law_wide","_law_high"]) fun _ _ _ _ _ _ us hl=>match us,hl with|[_,_,_],_=>rfl
 have F31:=zax (st:=zfb) l31 c31 k31;have b31:=F31.binds (ps:=["_law_script"]) fun _ _ _ _ _ _ us hl=>match us,hl with|[_],_=>rfl
 have T:Txt K mg (fun n=>[f0,f1,f2,f3,f4,f5,f6,f7,f8,f9,f10,f11,f12,f13,f14,f15,f16,f17,f18,f19,f20,f21,f22,f23,f24,f25,f26,f27,f28,f29,f30,fa,cT0,pT0].getD n 0) (fun n=>[kN "before" "before" (za4 zcd) (za3 zcd) (za0 zcd) .none kV0 dc0 pm0 an0 cd0 ct0,kN "sign_of" "sign_of" (za4 zcn) (za3 zcn) (za0 zcn) .none kV1 dc1 pm1 an1 cd1 ct1,kN "line_of" "line_of" (za4 zco) (za3 zco) (za0 zco) .none kV2 dc2 pm2 an2 cd2 ct2,kN "side_of" "side_of" (za4 zch) (za3 zch) (za0 zch) .none kV3 dc3 pm3 an3 cd3 ct3,kN "turn" "turn" (za4 zfh) (za3 zfh) (za0 zfh) .none kV4 dc4 pm4 an4 cd4 ct4,kN "order_keys" "order_keys" (za4 zay) (za3 zay) (za0 zay) .none kV5 dc5 pm5 an5 cd5 ct5,kN "by_points" "by_points" (za4 zak) (za3 zak) (za0 zak) .none kV6 dc6 pm6 an6 (.ref cT0) ct6,kN "rings_of" "rings_of" (za4 zbt) (za3 zbt) (za0 zbt) .none kV7 dc7 pm7 an7 cd7 ct7,kN "leaving_of" "leaving_of" (za4 zb6) (za3 zb6) (za0 zb6) .none kV8 dc8 pm8 an8 cd8 ct8,kN "way_round" "way_round" (za4 zbk) (za3 zbk) (za0 zbk) .none kV9 dc9 pm9 an9 cd9 ct9,kN "first_right" "first_right" (za4 zau) (za3 zau) (za0 zau) .none kV10 dc10 pm10 an10 cd10 ct10,kN "is_met_sooner" "is_met_sooner" (za4 zal) (za3 zal) (za0 zal) .none kV11 dc11 pm11 an11 cd11 ct11,kN "from_least" "from_least" (za4 zb4) (za3 zb4) (za0 zb4) .none kV12 dc12 pm12 an12 cd12 ct12,kN "_law_cell" "_law_cell" (za4 zc0) (za3 zc0) (za0 zc0) .none kV13 dc13 pm13 an13 cd13 ct13,kN "_law_divisor" "_law_divisor" (za4 zav) (za3 zav) (za0 zav) .none kV14 dc14 pm14 an14 cd14 ct14,kN "_law_point" "_law_point" (za4 zbj) (za3 zbj) (za0 zbj) .none kV15 dc15 pm15 an15 cd15 ct15,kN "_law_cells" "_law_cells" (za4 zbo) (za3 zbo) (za0 zbo) .none kV16 dc16 pm16 an16 cd16 ct16,kN "_law_ends" "_law_ends" (za4 zc1) (za3 zc1) (za0 zc1) .none kV17 dc17 pm17 an17 cd17 ct17,kN "_law_edges" "_law_edges" (za4 zb8) (za3 zb8) (za0 zb8) .none kV18 dc18 pm18 an18 cd18 ct18,kN "_law_straight" "_law_straight" (za4 zap) (za3 zap) (za0 zap) .none kV19 dc19 pm19 an19 cd19 ct19,kN "_law_long" "_law_long" (za4 zbb) (za3 zbb) (za0 zbb) .none kV20 dc20 pm20 an20 cd20 ct20,kN "_law_frame" "_law_frame" (za4 zbl) (za3 zbl) (za0 zbl) .none kV21 dc21 pm21 an21 cd21 ct21,kN "_law_moved" "_law_moved" (za4 zbi) (za3 zbi) (za0 zbi) .none kV22 dc22 pm22 an22 cd22 ct22,kN "_law_land" "_law_land" (za4 zbu) (za3 zbu) (za0 zbu) .none kV23 dc23 pm23 an23 cd23 ct23,kN "_law_told" "_law_told" (za4 zbv) (za3 zbv) (za0 zbv) .none kV24 dc24 pm24 an24 cd24 ct24,kN "_law_back" "_law_back" (za4 zc3) (za3 zc3) (za0 zc3) .none kV25 dc25 pm25 an25 cd25 ct25,kN "_law_rings" "_law_rings" (za4 zb7) (za3 zb7) (za0 zb7) .none kV26 dc26 pm26 an26 cd26 ct26,kN "_law_twice" "_law_twice" (za4 zbp) (za3 zbp) (za0 zbp) .none kV27 dc27 pm27 an27 cd27 ct27,kN "_law_parts" "_law_parts" (za4 zb2) (za3 zb2) (za0 zb2) .none kV28 dc28 pm28 an28 cd28 ct28,kN "_law_near" "_law_near" (za4 zc5) (za3 zc5) (za0 zc5) .none kV29 dc29 pm29 an29 cd29 ct29,kN "_law_pockets" "_law_pockets" (za4 zaq) (za3 zaq) (za0 zaq) .none kV30 dc30 pm30 an30 cd30 ct30,kN "law" "law" (za4 zfb) (za3 zfb) (za0 zfb) .none kV31 dc31 pm31 an31 cd31 ct31].getD n (kN "before" "before" (za4 zcd) (za3 zcd) (za0 zcd) .none kV0 dc0 pm0 an0 cd0 ct0)):=
  ⟨⟨F0,b0,pD X G a0⟩,⟨F1,b1,pD X G a1⟩,⟨F2,b2,pD X G a2⟩,⟨F3,b3,pD X G a3⟩,⟨F4,b4,pD X G a4⟩,⟨F5,b5,pD X G a5⟩,⟨F6,b6,pD X G a6⟩,FC6,⟨F7,b7,pD X G a7⟩,⟨F8,b8,pD X G a8⟩,⟨F9,b9,pD X G a9⟩,⟨F10,b10,pD X G a10⟩,⟨F11,b11,pD X G a11⟩,⟨F12,b12,pD X G a12⟩,⟨F13,b13,pD X G a13⟩,⟨F14,b14,pD X G a14⟩,⟨F15,b15,pD X G a15⟩,⟨F16,b16,pD X G a16⟩,⟨F17,b17,pD X G a17⟩,⟨F18,b18,pD X G a18⟩,⟨F19,b19,pD X G a19⟩,⟨F20,b20,pD X G a20⟩,⟨F21,b21,pD X G a21⟩,⟨F22,b22,pD X G a22⟩,⟨F23,b23,pD X G a23⟩,⟨F24,b24,pD X G a24⟩,⟨F25,b25,pD X G a25⟩,⟨F26,b26,pD X G a26⟩,⟨F27,b27,pD X G a27⟩,⟨F28,b28,pD X G a28⟩,⟨F29,b29,pD X G a29⟩,⟨F30,b30,pD X G a30⟩,⟨F31,b31,pD X G a31⟩,uk X G z0,uk X G z1,uk X G z2,uk X G z3,uk X G z4,uk X G z5,uk X G z6,uk X G z7,uk X G z8⟩
 exact⟨kN "law" "law" (za4 zfb) (za3 zfb) (za0 zfb) .none kV31 dc31 pm31 an31 cd31 ct31,[pT0],fun b hb=>by rw[kX.mp hb];exact⟨nT0,_,cT0,kX.mpr rfl,tT0⟩,fun s v=>.of_eq rfl,fun base hK _ hB=>ok_law T hK (hB _ (kX.mpr rfl))⟩
theorem walk{l:Ao}{q:pA}{loose:List Str}{XP:(Str->Option kB)->Heap->Prop}{YP:pR->Heap->Prop}{d:DefRec}{K:Params->kM}(hn:l.most=some 63)(hdf:d.params.defaults=[])
  (hY:∀(w:pR)(h:Heap),YP w h->(K w.params).In h)(hD:∀y,y∈([QN "by_points"]:List Str)->∃e,(PyProof.Rows.recsOf q).find? (fun e=>e.name==y)=some e)
  (F:∀(w:pR)(mg:Str->Option kB)(fa:Addr)(h:Heap),(K w.params).In h->h.Ns kY mg->mg d.name=some (.ref fa)->
   ∃(fd:Qy)(ts:List Addr),(∀b,b∈ts->(K w.params).lookup b=none/\∃y c,y∈([QN "by_points"]:List Str)/\gv (K w.params) y=some (c,b))/\(∀(s:kC)(u:kB),Bu s fd ⟨[u],[]⟩ [("_law_script",u)])/\∀base:Heap,(K w.params).In base->base.Ns kY mg->(∀b,b∈ts->base.BuiltinsAt mg b)->FnOk l.prog w (K w.params) mg base CX0 8 fa fd ["_law_script"] (zik (K w.params) ts)):
  DL q loose XP YP l.row.toRowW d [] (fun f vs=>DF f vs):=
 L2.walk_ofT (n:=63) (k:=8) (x:="_law_script") (CX:=fun _=>CX0) (sp:=fun w ts=>zik (K w.params) ts) (ds:=[QN "by_points"]) hn (by decide) hdf ⟨rfl,by decide,by decide⟩ hY hD F (fun _ _ a ns ts hl hO hS=>⟨a,ns,rfl,hS,hl,fun b hb=>zmz (hO.tabs b hb),fun _=>rfl⟩) fun _ _ _ _ _ z=>z
end Mine
namespace PySem.W.Fast
def tw10704132583696516268:Nat:=0
def tw17052710403117307823:Nat:=0
def tw15280073522288831254:Nat:=0
def tw361817951393369310:Nat:=0
def tw17452608565961083627:Nat:=0
def tw17738415202574672863:Nat:=0
def tw16034815265986701295:Nat:=0
def tw13858939699329639698:Nat:=0
def tw12372286734648908167:Nat:=0
def tw15041670759608187455:Nat:=0
def tw4118109100828383041:Nat:=0
def tw2190578964055908398:Nat:=0
def tw48101594681842171:Nat:=0
def tw13739149455363716704:Nat:=0
def tw1293203785534453493:Nat:=0
def tw9554166241093639602:Nat:=0
def tw10217871214169790393:Nat:=0
def tw276986877722604023:Nat:=0
def tw3260330050508431607:Nat:=0
def tw5852279878441384645:Nat:=0
def tw7490919047910457724:Nat:=0
def tw13839937436469033044:Nat:=0
def tw11844171827934206999:Nat:=0
def tw1750165973299350476:Nat:=0
def tw15348574584781245022:Nat:=0
def tw3721255212220673751:Nat:=0
def tw5688220435300397220:Nat:=0
def tw39918332542111420:Nat:=0
def tw5110229982779694820:Nat:=0
def tw7037830491679996538:Nat:=0
def tw8820589124452434987:Nat:=0
def tw17713996386128831797:Nat:=0
def tw2938603837653118033:Nat:=0
def tw10104075460835147447:Nat:=0
def tw8602512288636395326:Nat:=0
def tw15469940528481571191:Nat:=0
def tw7739331471601652486:Nat:=0
def tw1114950607984280011:Nat:=0
def tw3917381978180641473:Nat:=0
def tw4598178094124201849:Nat:=0
def tw910212801966919211:Nat:=0
def tw10048778681602356264:Nat:=0
def tw16702533974694549896:Nat:=0
def tw2802431791824995601:Nat:=0
def tw10247467425634100138:Nat:=0
def tw6788937948775746039:Nat:=0
def tw14521778050765978848:Nat:=0
def tw4886654166411885333:Nat:=0
def tw14898328094662764152:Nat:=0
def tw6962154983733955636:Nat:=0
def tw7886165049407527730:Nat:=0
def tw3636423528296188293:Nat:=0
def tw16966358914558346450:Nat:=0
def tw10786184891667525104:Nat:=0
def tw4020833999207070615:Nat:=0
def tw15755814990795931791:Nat:=0
def tw7886617747984766258:Nat:=0
def tw13568573373353116922:Nat:=0
def tw468323774474925625:Nat:=0
def tw4876379143675321021:Nat:=0
def tw10138401779189301715:Nat:=0
def tw16716117914959050584:Nat:=0
def tw16822197788283380777:Nat:=0
def tw15668791952590891994:Nat:=0
def tw9594477339540930351:Nat:=0
def tw115322162019341146:Nat:=0
def tw2373193582894409452:Nat:=0
def tw3887907983693647295:Nat:=0
def tw18078686560404913594:Nat:=0
def tw6888637819653130657:Nat:=0
def tw2250887001920772363:Nat:=0
def tw13937503918249846758:Nat:=0
def tw5821174874078083378:Nat:=0
def tw2543615688255446343:Nat:=0
def tw2650844327066720750:Nat:=0
def tw5845258709975234124:Nat:=0
def tw14710984917194935116:Nat:=0
def tw9698823447109129164:Nat:=0
def tw13880886080727712292:Nat:=0
def tw16331433754117076488:Nat:=0
def tw12849685582108707170:Nat:=0
def tw2796899550952171826:Nat:=0
def tw14137706888828990505:Nat:=0
def tw12770011318473583172:Nat:=0
def tw6054003977130141808:Nat:=0
def tw5181731424651212703:Nat:=0
def tw18418875235527433548:Nat:=0
def tw6604829244627373966:Nat:=0
def tw6535211554374327191:Nat:=0
def tw896051464588666262:Nat:=0
def tw12455585970982441452:Nat:=0
def tw8117357021395072236:Nat:=0
def tw16786099347320506443:Nat:=0
def tw14846591792466699799:Nat:=0
def tw5370795640171357384:Nat:=0
def tw14211939754708646645:Nat:=0
def tw4594555321783505403:Nat:=0
def tw41170185384039249:Nat:=0
def tw11712654792867539596:Nat:=0
def tw5027737557446621987:Nat:=0
def tw8490318862022669738:Nat:=0
def tw10519474295876250880:Nat:=0
def tw11998294316247367390:Nat:=0
def tw2188882325448483807:Nat:=0
def tw5154368711342006556:Nat:=0
def tw12806378354334464913:Nat:=0
def tw2670365010135527559:Nat:=0
def tw5029669605668660551:Nat:=0
def tw14561169454927336794:Nat:=0
def tw2755034143793884954:Nat:=0
def tw2222093834725166125:Nat:=0
def tw16149673066130163841:Nat:=0
def tw6962653756603144519:Nat:=0
def tw8636764143870988086:Nat:=0
def tw18281009634998266021:Nat:=0
def tw13372192919057436435:Nat:=0
def tw3415411416834099660:Nat:=0
def tw14503439259666028361:Nat:=0
def tw13020780884369028789:Nat:=0
def tw5618141312279295728:Nat:=0
def tw18235163731926015185:Nat:=0
def tw7999229248178616048:Nat:=0
def tw4798012108046997506:Nat:=0
def tw472748268176196201:Nat:=0
def tw9863439991089253404:Nat:=0
def tw3878092768163437026:Nat:=0
def tw3995469816224384725:Nat:=0
def tw5616913355593444306:Nat:=0
def tw8583554503128520746:Nat:=0
def tw11154253024446299387:Nat:=0
def tw17673092326242997561:Nat:=0
end PySem.W.Fast
open PySem PySem.W PyProof.Rows
set_option maxRecDepth 100000 in
set_option maxHeartbeats 0 in
theorem PySem.Challenge.cw_acre_k43_rings_counted_holds : PySem.Challenge.rw_acre_k43_rings_counted.Holds := by
 w_on;o_law;k_head;(case hw=>w_witness2)
 k_fill
 refine Mine.walk (l:=PySem.Challenge.rw_acre_k43_rings_counted) rfl rfl (fun w h Y=>PySem.W.km_in_of Y) (fun y hy=>by rw[kX.mp hy];exact⟨_,rfl⟩) ?F
 case F=>
  intro w mg fa h KX G hmg
  refine' Mine.all_mk KX G hmg ?a0 ?l0 ?c0 ?k0 ?a1 ?l1 ?c1 ?k1 ?a2 ?l2 ?c2 ?k2 ?a3 ?l3 ?c3 ?k3 ?a4 ?l4 ?c4 ?k4 ?a5 ?l5 ?c5 ?k5 ?a6 ?l6 ?c6 ?k6 ?lT0 ?vT0 ?hT0 ?tT0 ?nT0 ?a7 ?l7 ?c7 ?k7 ?a8 ?l8 ?c8 ?k8 ?a9 ?l9 ?c9 ?k9 ?a10 ?l10 ?c10 ?k10 ?a11 ?l11 ?c11 ?k11 ?a12 ?l12 ?c12 ?k12 ?a13 ?l13 ?c13 ?k13 ?a14 ?l14 ?c14 ?k14 ?a15 ?l15 ?c15 ?k15 ?a16 ?l16 ?c16 ?k16 ?a17 ?l17 ?c17 ?k17 ?a18 ?l18 ?c18 ?k18 ?a19 ?l19 ?c19 ?k19 ?a20 ?l20 ?c20 ?k20 ?a21 ?l21 ?c21 ?k21 ?a22 ?l22 ?c22 ?k22 ?a23 ?l23 ?c23 ?k23 ?a24 ?l24 ?c24 ?k24 ?a25 ?l25 ?c25 ?k25 ?a26 ?l26 ?c26 ?k26 ?a27 ?l27 ?c27 ?k27 ?a28 ?l28 ?c28 ?k28 ?a29 ?l29 ?c29 ?k29 ?a30 ?l30 ?c30 ?k30 ?a31 ?l31 ?c31 ?k31 ?z0 ?z1 ?z2 ?z3 ?z4 ?z5 ?z6 ?z7 ?z8
  (case a0=>k_is)
  (case l0=>k_is)
  (case c0=>k_is)
  (case k0=>k_is)
  (case a1=>k_is)
  (case l1=>k_is)
  (case c1=>k_is)
  (case k1=>k_is)
  (case a2=>k_is)
  (case l2=>k_is)
  (case c2=>k_is)
  (case k2=>k_is)
  (case a3=>k_is)
  (case l3=>k_is)
  (case c3=>k_is)
  (case k3=>k_is)
  (case a4=>k_is)
  (case l4=>k_is)
  (case c4=>k_is)
  (case k4=>k_is)
  (case a5=>k_is)
  (case l5=>k_is)
  (case c5=>k_is)
  (case k5=>k_is)
  (case a6=>k_is)
  (case l6=>k_is)
  (case c6=>k_is)
  (case k6=>k_is)
  (case lT0=>k_is)
  (case vT0=>rfl)
  (case hT0=>kernel_rfl)
  (case tT0=>kernel_rfl)
  (case nT0=>kernel_rfl)
  (case a7=>k_is)
  (case l7=>k_is)
  (case c7=>k_is)
  (case k7=>k_is)
  (case a8=>k_is)
  (case l8=>k_is)
  (case c8=>k_is)
  (case k8=>k_is)
  (case a9=>k_is)
  (case l9=>k_is)
  (case c9=>k_is)
  (case k9=>k_is)
  (case a10=>k_is)
  (case l10=>k_is)
  (case c10=>k_is)
  (case k10=>k_is)
  (case a11=>k_is)
  (case l11=>k_is)
  (case c11=>k_is)
  (case k11=>k_is)
  (case a12=>k_is)
  (case l12=>k_is)
  (case c12=>k_is)
  (case k12=>k_is)
  (case a13=>k_is)
  (case l13=>k_is)
  (case c13=>k_is)
  (case k13=>k_is)
  (case a14=>k_is)
  (case l14=>k_is)
  (case c14=>k_is)
  (case k14=>k_is)
  (case a15=>k_is)
  (case l15=>k_is)
  (case c15=>k_is)
  (case k15=>k_is)
  (case a16=>k_is)
  (case l16=>k_is)
  (case c16=>k_is)
  (case k16=>k_is)
  (case a17=>k_is)
  (case l17=>k_is)
  (case c17=>k_is)
  (case k17=>k_is)
  (case a18=>k_is)
  (case l18=>k_is)
  (case c18=>k_is)
  (case k18=>k_is)
  (case a19=>k_is)
  (case l19=>k_is)
  (case c19=>k_is)
  (case k19=>k_is)
  (case a20=>k_is)
  (case l20=>k_is)
  (case c20=>k_is)
  (case k20=>k_is)
  (case a21=>k_is)
  (case l21=>k_is)
  (case c21=>k_is)
  (case k21=>k_is)
  (case a22=>k_is)
  (case l22=>k_is)
  (case c22=>k_is)
  (case k22=>k_is)
  (case a23=>k_is)
  (case l23=>k_is)
  (case c23=>k_is)
  (case k23=>k_is)
  (case a24=>k_is)
  (case l24=>k_is)
  (case c24=>k_is)
  (case k24=>k_is)
  (case a25=>k_is)
  (case l25=>k_is)
  (case c25=>k_is)
  (case k25=>k_is)
  (case a26=>k_is)
  (case l26=>k_is)
  (case c26=>k_is)
  (case k26=>k_is)
  (case a27=>k_is)
  (case l27=>k_is)
  (case c27=>k_is)
  (case k27=>k_is)
  (case a28=>k_is)
  (case l28=>k_is)
  (case c28=>k_is)
  (case k28=>k_is)
  (case a29=>k_is)
  (case l29=>k_is)
  (case c29=>k_is)
  (case k29=>k_is)
  (case a30=>k_is)
  (case l30=>k_is)
  (case c30=>k_is)
  (case k30=>k_is)
  (case a31=>k_is)
  (case l31=>k_is)
  (case c31=>k_is)
  (case k31=>k_is)
  (case z0=>k_is)
  (case z1=>k_is)
  (case z2=>k_is)
  (case z3=>k_is)
  (case z4=>k_is)
  (case z5=>k_is)
  (case z6=>k_is)
  (case z7=>k_is)
  (case z8=>k_is)
