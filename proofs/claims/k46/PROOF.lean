import PyProof.Rows.All
import Wide.All
import OpenK.AllK
import Wide.FinOn
import Lean
import PyProof.EqAt
import PyProof.EqKinds
import PyProof.TupleCall
import PySem.Challenge.RW_acre_k46_many_wedges
set_option Elab.async false
set_option linter.all false
set_option maxRecDepth 100000
set_option maxHeartbeats 4000000
namespace L2
open PySem PySem.Spec PyProof.Rows
abbrev Key:=Sum Int Str
def zkc:Key->Value->Bool
 |.inl k,v=>Value.isInt k v
 |.inr x,v=>Value.isStrOf x v
def keyH(w:World):Key->Int
 |.inl k=>hashInt k
 |.inr x=>hashStr w x
theorem zb2:∀{k:Key}{v:Value},zkc k v=true->(∃i t,k=Sum.inl i/\v=Value.int i t)∨(∃x t,k=Sum.inr x/\v=Value.str x t)
 |.inl i,v,h=>by
  obtain⟨t,e⟩:=Value.isInt_shape (k:=i) (v:=v) h;exact .inl ⟨i,t,rfl,e⟩
 |.inr x,v,h=>by
  obtain⟨t,e⟩:=Value.isStrOf_shape (x:=x) (v:=v) h;exact .inr ⟨x,t,rfl,e⟩
theorem zmf(i:Int)(t:Tok):zkc (.inl i) (.int i t)=true:=by simp[zkc,Value.isInt]
theorem zmv(x:Str)(t:Tok):zkc (.inr x) (.str x t)=true:=by simp[zkc,Value.isStrOf]
theorem key_ll(a b:Int):decide ((Sum.inl a:Key)=Sum.inl b)=(a==b):=by
 by_cases e:a=b
 ·subst e;simp
 ·have h:¬(Sum.inl a:Key)=Sum.inl b:=fun q=>e (Sum.inl.inj q);rw[decide_eq_false h];exact(beq_eq_false_iff_ne.mpr e).symm
theorem key_rr(a b:Str):decide ((Sum.inr a:Key)=Sum.inr b)=decide (a=b):=by
 by_cases e:a=b
 ·subst e;simp
 ·have h:¬(Sum.inr a:Key)=Sum.inr b:=fun q=>e (Sum.inr.inj q);rw[decide_eq_false h,decide_eq_false e]
theorem key_lr(a:Int)(b:Str):decide ((Sum.inl a:Key)=Sum.inr b)=false:=decide_eq_false (fun q=>nomatch q)
theorem key_rl(a:Str)(b:Int):decide ((Sum.inr a:Key)=Sum.inl b)=false:=decide_eq_false (fun q=>nomatch q)
def za9(prog:Program)(w:World):PySem.KeyKind prog w Key where
 is:=zkc
 hash:=keyH w
 inj:=fun v a b ha hb=>by
  rcases zb2 ha with⟨i,t,rfl,rfl⟩|⟨x,t,rfl,rfl⟩
  ·rcases zb2 hb with⟨j,u,rfl,e⟩|⟨y,u,rfl,e⟩
   ·injection e with e1 _;rw[e1]
   ·exact nomatch e
  ·rcases zb2 hb with⟨j,u,rfl,e⟩|⟨y,u,rfl,e⟩
   ·exact nomatch e
   ·injection e with e1 _;rw[e1]
 byValue:=fun k v h=>by
  rcases zb2 h with⟨i,t,rfl,rfl⟩|⟨x,t,rfl,rfl⟩<;>rfl
 pyHash:=fun hv h=>by
  rcases zb2 hv with⟨i,t,rfl,rfl⟩|⟨x,t,rfl,rfl⟩
  ·exact wpAny_pyHash_int h
  ·exact wpAny_pyHash_str h
 eqBool:=fun hu hv h=>by
  rcases zb2 hu with⟨i,t,rfl,rfl⟩|⟨x,t,rfl,rfl⟩
  ·rcases zb2 hv with⟨j,u,rfl,rfl⟩|⟨y,u,rfl,rfl⟩
   ·rw[key_ll] at h;exact wpAny_eqBool_int h
   ·rw[key_lr] at h;exact SeqAt.EqAt.int_str i t y u _ _ _ _ h
  ·rcases zb2 hv with⟨j,u,rfl,rfl⟩|⟨y,u,rfl,rfl⟩
   ·rw[key_rl] at h;exact SeqAt.EqAt.str_int x t j u _ _ _ _ h
   ·rw[key_rr] at h;exact wpAny_eqBool_str h
 «strs»:=fun k x t v h=>by
  rcases zb2 h with⟨i,u,rfl,e⟩|⟨y,u,rfl,e⟩
  ·exact nomatch e
  ·injection e with e1 _
   subst e1
   cases v<;>rfl
theorem zih(prog:Program)(w:World)(i:Int)(t:Tok):(za9 prog w).is (.inl i) (.int i t)=true:=zmf i t
theorem ziz(prog:Program)(w:World)(x:Str)(t:Tok):(za9 prog w).is (.inr x) (.str x t)=true:=zmv x t
inductive V where
 |non|bl (b:Bool)|int (i:Int)|str (x:Str)|byt (b:Array UInt8)|flt (b:UInt64)|ref (a:Addr)|ty (n:String)
 deriving DecidableEq
def RelV:V->Value->Prop
 |.non,u=>u=Value.none
 |.bl b,u=>u=Value.bool b
 |.int i,u=>∃t,u=Value.int i t
 |.str x,u=>∃t,u=Value.str x t
 |.byt b,u=>∃t,u=Value.bytes b t
 |.flt b,u=>∃t,u=Value.float b t
 |.ref a,u=>u=Value.ref a
 |.ty n,u=>u=Value.type n
abbrev Vals:List V->List Value->Prop:=Paired RelV
theorem Vals.length{xs:List V}{us:List Value}(r:Vals xs us):xs.length=us.length:=Paired.length r
theorem Vals.get:∀{xs:List V}{us:List Value}{i:Nat}{x:V},Vals xs us->xs[i]?=some x->∃u,us[i]?=some u/\RelV x u
 |_,_,_,_,.nil,e=>by simp at e
 |_,_,0,_,.cons r _,e=>by simp at e;subst e;exact⟨_,rfl,r⟩
 |_,_,i+1,x,.cons _ t,e=>by
  obtain⟨u,h1,h2⟩:=Vals.get (i:=i) (x:=x) t (by simpa using e)
  exact⟨u,by simpa using h1,h2⟩
theorem Vals.append:∀{xs ys:List V}{us ws:List Value},Vals xs us->Vals ys ws->Vals (xs++ys) (us++ws)
 |_,_,_,_,.nil,s=>s
 |_,_,_,_,.cons r t,s=>.cons r (Vals.append t s)
theorem Vals.take:∀{xs:List V}{us:List Value}(n:Nat),Vals xs us->Vals (xs.take n) (us.take n)
 |_,_,0,_=>.nil
 |_,_,_+1,.nil=>.nil
 |_,_,n+1,.cons r t=>.cons r (Vals.take n t)
theorem Vals.drop:∀{xs:List V}{us:List Value}(n:Nat),Vals xs us->Vals (xs.drop n) (us.drop n)
 |_,_,0,r=>r
 |_,_,_+1,.nil=>.nil
 |_,_,n+1,.cons _ t=>Vals.drop n t
def RelO:Option V->Option Value->Prop
 |some v,some u=>RelV v u
 |none,none=>True
 |_,_=>False
def KV{κ:Type}:List (κ×V)->List (κ×Value)->Prop:=Paired fun(p:κ×V)(q:κ×Value)=>p.1=q.1/\RelV p.2 q.2
def kV:Key->V
 |.inl i=>.int i
 |.inr x=>.str x
inductive HO where
 /--a list-/
 |lst (xs:List V)
 /--a tuple (never changes)-/
 |tup (xs:List V)
 /--a dict whose keys are ints and texts;one whose keys are tuples of ints and texts (the empty one is both)-/
 |dK (kvs:List (Key×V))|dT (kvs:List (List Key×V))
 /--a set of ints:its members,its size-/
 |set (S:Int->Bool) (n:Nat)
 /--an instance of the class at C,its dict at dx,its attributes-/
 |ins (C dx:Addr) (fs:List (Str×V))
 /--the dict of the instance at x-/
 |own (x:Addr)
 /--the dict of an exception-/
 |xd (fs:List (Str×V))
 /--a bound method,f of x-/
 |met (f x:Addr)
 /--a range object lo,lo+1,.. below hi-/
 |rng (lo hi:Int)
 /--a thing that is known to the object (the script;a dict while a loop walks it):read,never written while it is so-/
 |frz (o:Obj) (u:HO)
 /--a code object's table-/
 |tbl (ps:Array Value)
 /--any other thing,by what is true of its one object (a def of one's own:SetO a S n:=HO.ext fun h=>..)-/
 |ext (φ:Heap->Prop)
abbrev Hp:=Addr->Option HO
def upd(H:Hp)(a:Addr)(o:HO):Hp:=fun b=>if b=a then some o else H b
theorem upd_same{H:Hp}{a:Addr}{o:HO}:upd H a o a=some o:=by unfold upd;rw[if_pos rfl]
theorem za7{H:Hp}{a b:Addr}{o:HO}(h:b≠a):upd H a o b=H b:=by unfold upd;rw[if_neg h]
theorem upd_upd{H:Hp}{a:Addr}{o u:HO}:upd (upd H a o) a u=upd H a u:=by
 funext b;unfold upd;split<;>rfl
theorem ne_of{H:Hp}{a b:Addr}{o u:HO}(h:H a=some o)(h':H b=some u)(d:o≠u):a≠b:=by
 intro e;subst e;rw[h] at h';exact d (Option.some.inj h')
theorem zag{H:Hp}{a b:Addr}{o:HO}(h:H a=some o)(h':H b=none):a≠b:=by
 intro e;subst e;rw[h] at h';cases h'
section
variable(P:Program)(w:World)
def zcc(H:Hp)(h:Heap)(a:Addr):HO->Prop
 |.lst xs=>xs.length<=sizeLine/\∃(its:List Value)(n:Nat),Vals xs its/\h.get? a=some {cls:=.type "list",data:=.seq its.toArray n}
 |.tup xs=>xs.length<=sizeLine/\∃its:List Value,Vals xs its/\IsTup h a its.toArray
 |.dK kvs=>kvs.length<=sizeLine/\(a==sysModules)=false/\∃vs,KV kvs vs/\h.DictOf (za9 P w) a vs
 |.dT kvs=>kvs.length<=sizeLine/\(a==sysModules)=false/\∃xs:List (List Key×Addr×Value),
   Paired (fun(p:List Key×V)(q:List Key×Addr×Value)=>p.1=q.1/\H q.2.1=some (.tup (p.1.map kV))/\RelV p.2 q.2.2) kvs xs/\
   ∃o es ep,h.get? a=some o/\o.ExactDict/\o.data=.dict es ep/\es.toList=xs.map (entryOfKey (tupleKind (za9 P w)))/\(xs.map (·.1)).Nodup
 |.set S n=>h.SetOf (intKind P w) a S n
 |.ins C dx fs=>H dx=some (.own a)/\fs.length<=1000/\dx≠a/\h.get? a=some (PySem.W.instObj C dx)/\
   ∃mA,h.Ns1 dx mA/\(∀f,RelO (fs.lookup f) (mA f))/\PySem.Within mA (fs.map (·.1))
 |.own _=>∃o,h.get? a=some o
 |.xd fs=>∃mA,h.Ns1 a mA/\∀f,RelO (fs.lookup f) (mA f)
 |.rng lo hi=>∃t u v,h.get? a=some {cls:=.type "range",data:=.fields #[.int lo t,.int hi u,.int 1 v]}
 |.frz o u=>h.get? a=some o/\zcc H h a u
 |.tbl ps=>h.get? a=some {cls:=.none,data:=.fields ps}
 |.met f x=>h.get? a=some (PySem.W.methodObj (.ref f) (.ref x))
 |.ext φ=>φ h/\(∃o,h.get? a=some o)/\∀h1 h2:Heap,φ h1->(∀o,h1.get? a=some o->h2.get? a=some o)->φ h2
def HOk(H:Hp)(h:Heap):Prop:=∀a o,H a=some o->zcc P w H h a o
end
section
variable{P:Program}{w:World}{H H':Hp}{h h':Heap}{a:Addr}{o:HO}
theorem zcc.lt(x:zcc P w H h a o):a<h.objs.size:=by
 cases o with
 |lst xs=>obtain⟨_,_,_,_,e⟩:=x;exact Heap.lt_size e
 |tup xs=>obtain⟨_,_,_,p⟩:=x;exact p.lt
 |dK kvs=>obtain⟨_,_,_,_,o,_,_,e,_⟩:=x;exact Heap.lt_size e
 |dT kvs=>obtain⟨_,_,_,_,o,_,_,e,_⟩:=x;exact Heap.lt_size e
 |set S n=>obtain⟨o,_,_,_,e,_⟩:=x;exact Heap.lt_size e
 |ins C dx fs=>obtain⟨_,_,_,e,_⟩:=x;exact Heap.lt_size e
 |own y=>obtain⟨_,e⟩:=x;exact Heap.lt_size e
 |xd fs=>obtain⟨_,⟨_,_,_,e,_⟩,_⟩:=x;exact Heap.lt_size e
 |rng lo hi=>obtain⟨_,_,_,e⟩:=x;exact Heap.lt_size e
 |frz ob u=>obtain⟨e,_⟩:=x;exact Heap.lt_size e
 |tbl ps=>exact Heap.lt_size (show h.get? a=some _ from x)
 |met f y=>exact Heap.lt_size (show h.get? a=some _ from x)
 |ext φ=>obtain⟨_,⟨_,e⟩,_⟩:=x;exact Heap.lt_size e
theorem Paired.mapP{α β:Type}{F G:α->β->Prop}:∀{l₁:List α}{l₂:List β},Paired F l₁ l₂->(∀a b,F a b->G a b)->Paired G l₁ l₂
 |_,_,.nil,_=>.nil
 |_,_,.cons r t,f=>.cons (f _ _ r) (Paired.mapP t f)
theorem zcc.stay(x:zcc P w H h a o)(k:∀b u,(b=a∨H b=some (.own a))->h.get? b=some u->h'.get? b=some u)
  (ho:∀b,H b=some (.own a)->H' b=some (.own a))(ht:∀b xs,H b=some (.tup xs)->H' b=some (.tup xs)):zcc P w H' h' a o:=by
 induction o with
 |lst xs=>obtain⟨z,its,n,r,e⟩:=x;exact⟨z,its,n,r,k _ _ (.inl rfl) e⟩
 |tup xs=>obtain⟨z,its,r,ob,e,c⟩:=x;exact⟨z,its,r,ob,k _ _ (.inl rfl) e,c⟩
 |dK kvs=>obtain⟨z,y,vs,r,ob,es,ep,e,c⟩:=x;exact⟨z,y,vs,r,ob,es,ep,k _ _ (.inl rfl) e,c⟩
 |dT kvs=>
  obtain⟨z,y,xs,r,ob,es,ep,e,c⟩:=x;exact⟨z,y,xs,Paired.mapP r fun p q z=>⟨z.1,ht _ _ z.2.1,z.2.2⟩,ob,es,ep,k _ _ (.inl rfl) e,c⟩
 |set S n=>obtain⟨ob,es,ep,t,e,c⟩:=x;exact⟨ob,es,ep,t,k _ _ (.inl rfl) e,c⟩
 |ins C dx fs=>
  obtain⟨d,z,ne,e,mA,⟨od,es,ep,e2,c⟩,r⟩:=x;exact⟨ho _ d,z,ne,k _ _ (.inl rfl) e,mA,⟨od,es,ep,k _ _ (.inr d) e2,c⟩,r⟩
 |own y=>obtain⟨ob,e⟩:=x;exact⟨ob,k _ _ (.inl rfl) e⟩
 |xd fs=>obtain⟨mA,⟨od,es,ep,e,c⟩,r⟩:=x;exact⟨mA,⟨od,es,ep,k _ _ (.inl rfl) e,c⟩,r⟩
 |rng lo hi=>obtain⟨t,u,v,e⟩:=x;exact⟨t,u,v,k _ _ (.inl rfl) e⟩
 |frz ob u ih=>obtain⟨e,q⟩:=x;exact⟨k _ _ (.inl rfl) e,ih q⟩
 |tbl ps=>
  have e:h.get? a=some {cls:=.none,data:=.fields ps}:=x;show h'.get? a=some {cls:=.none,data:=.fields ps};exact k a _ (.inl rfl) e
 |met f y=>
  have e:h.get? a=some (PySem.W.methodObj (.ref f) (.ref y)):=x;show h'.get? a=some (PySem.W.methodObj (.ref f) (.ref y));exact k a _ (.inl rfl) e
 |ext φ=>obtain⟨p,⟨o,e⟩,st⟩:=x;exact⟨st _ _ p fun o q=>k _ _ (.inl rfl) q,⟨o,k _ _ (.inl rfl) e⟩,st⟩
theorem HOk.lt(x:HOk P w H h)(e:H a=some o):a<h.objs.size:=(x a o e).lt
theorem HOk.fresh(x:HOk P w H h)(e:h.objs.size<=a):H a=none:=by
 cases q:H a with
 |none=>rfl
 |some u=>exact absurd (Nat.lt_of_lt_of_le (x.lt q) e) (Nat.lt_irrefl _)
theorem HOk.kept(x:HOk P w H h)(k:∀b u,h.get? b=some u->h'.get? b=some u):HOk P w H h':=fun a o e=>
 (x a o e).stay (fun b u _ q=>k b u q) (fun _ q=>q) fun _ _ q=>q
theorem HOk.laid(x:HOk P w H h)(k:∀b u,h.get? b=some u->h'.get? b=some u)(hp:h.objs.size<=a)(new:zcc P w (upd H a o) h' a o):HOk P w (upd H a o) h':=fun b u e=>by
 have hn:=x.fresh hp
 by_cases hb:b=a
 ·subst hb;rw[upd_same] at e;cases e;exact new
 ·rw[za7 hb] at e;exact(x b u e).stay (fun c v _ q=>k c v q) (fun c q=>by rw[za7 (zag q hn)];exact q) fun c xs q=>by rw[za7 (zag q hn)];exact q
end
def Rd(H:Hp)(a:Addr)(u:HO):Prop:=H a=some u∨∃o,H a=some (.frz o u)
theorem Rd.ok{P:Program}{w:World}{H:Hp}{h:Heap}{a:Addr}{u:HO}(r:Rd H a u)(x:HOk P w H h):zcc P w H h a u:=by
 rcases r with r|⟨o,r⟩
 ·exact x a u r
 ·obtain⟨_,q⟩:=x a _ r;exact q
def Mut:Option HO->Prop
 |some (.lst _)=>True
 |some (.dK _)=>True
 |some (.dT _)=>True
 |some (.set _ _)=>True
 |some (.ins _ _ _)=>True
 |some (.ext _)=>True
 |_=>False
section
variable{P:Program}{w:World}{H:Hp}{h h':Heap}{x e:Addr}{o':HO}
theorem HOk.write(ok:HOk P w H h)(mu:Mut (H x))(he:e=x∨H e=some (.own x))(k:∀b u,b≠e->h.get? b=some u->h'.get? b=some u)(heo:∃u,h'.get? e=some u)
  (new:zcc P w (upd H x o') h' x o'):HOk P w (upd H x o') h':=fun b u q=>by
 have nown:∀c y,H c=some (.own y)->c≠x:=fun c y r z=>by subst z;rw[r] at mu;exact mu
 have ntup:∀c xs,H c=some (.tup xs)->c≠x:=fun c xs r z=>by subst z;rw[r] at mu;exact mu
 by_cases hb:b=x
 ·subst hb;rw[upd_same] at q;cases q;exact new
 ·rw[za7 hb] at q
  by_cases hbe:b=e
  ·have q':H b=some (.own x):=by
    rcases he with z|z
    ·exact absurd (hbe.trans z) hb
    ·rw[hbe];exact z
   rw[q] at q';cases q';obtain⟨v,hv⟩:=heo;exact⟨v,by rw[hbe];exact hv⟩
  ·refine(ok b u q).stay (fun c v hc r=>k c v ?_ r) (fun c r=>by rw[za7 (nown c b r)];exact r) fun c xs r=>by rw[za7 (ntup c xs r)];exact r
   rcases hc with rfl|hc
   ·exact hbe
   ·rintro rfl;rcases he with z|z
    ·exact nown c b hc z
    ·rw[hc] at z;cases z;exact hb rfl
end
structure Un(fs ex:List Addr)(H H':Hp)(h h':Heap):Prop where
 keep:∀b o,h.get? b=some o->H b=none->b∉fs->b∉ex->h'.get? b=some o
 slot:∀b o,h.get? b=some o->H b=none->b∈fs->b∉ex->∃sl,h'.get? b=some {o with slots:=sl}
 free:∀b o,h.get? b=some o->H b=none->b∉ex->H' b=none
 there:∀b o,h.get? b=some o->b∉ex->∃o',h'.get? b=some o'
 tups:∀b xs,H b=some (.tup xs)->H' b=some (.tup xs)
 frzs:∀b o u,H b=some (.frz o u)->H' b=some (.frz o u)
 tbls:∀b ps,H b=some (.tbl ps)->∃more,H' b=some (.tbl (ps++more))
section
variable{fs fs' ex ex':List Addr}{H H1 H2:Hp}{h h1 h2 h':Heap}{a x e:Addr}{o:HO}
theorem Un.any(u:Un fs ex H H1 h h1){b:Addr}{ob:Obj}(q:h.get? b=some ob)(n:H b=none)(hx:b∉ex):∃sl,h1.get? b=some {ob with slots:=sl}:=by
 by_cases hb:b∈fs
 ·exact u.slot b ob q n hb hx
 ·exact⟨ob.slots,u.keep b ob q n hb hx⟩
theorem Un.kept(k:∀b u,h.get? b=some u->h'.get? b=some u):Un fs ex H H h h':=
 ⟨fun b ob q _ _ _=>k b ob q,fun b ob q _ _ _=>⟨ob.slots,k b ob q⟩,fun _ _ _ n _=>n,fun b ob q _=>⟨ob,k b ob q⟩,fun _ _ q=>q,fun _ _ _ q=>q,fun _ ps q=>⟨#[],by rw[q];simp⟩⟩
theorem Un.refl:Un fs ex H H h h:=Un.kept fun _ _ q=>q
theorem Un.laid(k:∀b u,h.get? b=some u->h'.get? b=some u)(hp:h.objs.size<=a)(hn:H a=none):Un fs ex H (upd H a o) h h' where
 keep:=fun b u q _ _ _=>k b u q
 slot:=fun b u q _ _ _=>⟨u.slots,k b u q⟩
 free:=fun b u q n _=>by rw[za7 (Nat.ne_of_lt (Nat.lt_of_lt_of_le (Heap.lt_size q) hp))];exact n
 there:=fun b u q _=>⟨u,k b u q⟩
 tups:=fun b xs q=>by rw[za7 (zag q hn)];exact q
 frzs:=fun b u xs q=>by rw[za7 (zag q hn)];exact q
 tbls:=fun b ps q=>⟨#[],by rw[za7 (zag q hn),q];simp⟩
theorem Un.write(mu:Mut (H x))(he:e=x∨H e=some (.own x))(k:∀b u,b≠e->h.get? b=some u->h'.get? b=some u)(heo:∃u,h'.get? e=some u):Un fs ex H (upd H x o) h h':=by
 have hx:∀b,H b=none->b≠x:=fun b n z=>by subst z;rw[n] at mu;exact mu
 have hb:∀b,H b=none->b≠e:=fun b n z=>by
  subst z;rcases he with r|r
  ·exact hx b n r
  ·rw[n] at r;cases r
 have hm:∀b u,H b=some u->¬Mut (some u)->b≠x:=fun b u q nm z=>by subst z;rw[q] at mu;exact nm mu
 refine⟨fun b u q n _ _=>k b u (hb b n) q,fun b u q n _ _=>⟨u.slots,k b u (hb b n) q⟩,fun b u q n _=>by rw[za7 (hx b n)];exact n,fun b u q _=>?_,
  fun b xs q=>by rw[za7 (hm b _ q fun z=>z)];exact q,fun b u xs q=>by rw[za7 (hm b _ q fun z=>z)];exact q,fun b ps q=>⟨#[],by rw[za7 (hm b _ q fun z=>z),q];simp⟩⟩
 by_cases hbe:b=e
 ·subst hbe;exact heo
 ·exact⟨u,k b u hbe q⟩
end
def trk(h:Heap)(H:Hp):List Addr:=(List.range h.objs.size).filter fun a=>(H a).isSome
def hidT(h:Heap)(H:Hp):Heap:=PySem.W.hideAll h (trk h H)
theorem znf(h:Heap)(H:Hp):(hidT h H).objs.size=h.objs.size:=PySem.W.hideAll_size _ _
theorem hidT_get{h:Heap}{H:Hp}{b:Addr}{o:Obj}(e:h.get? b=some o)(n:H b=none):(hidT h H).get? b=some o:=
 PySem.W.hideAll_get _ e fun hm=>by
  have q:(H b).isSome=true:=(List.mem_filter.mp hm).2;rw[n] at q;simp at q
theorem of_hidT{h:Heap}{H:Hp}{b:Addr}{o:Obj}(e:(hidT h H).get? b=some o):h.get? b=some o/\H b=none:=by
 have e':h.get? b=some o:=PySem.W.of_hideAll (trk h H) e;refine⟨e',?_⟩
 cases q:H b with
 |none=>rfl
 |some x=>
  have hm:b∈trk h H:=List.mem_filter.mpr ⟨List.mem_range.mpr (Heap.lt_size e'),by simp[q]⟩
  have z:(hidT h H).get? b=none:=PySem.W.hideAll_none (trk h H) hm;rw[z] at e;cases e
def allNews(g h:Heap)(L:Addr):List (Addr×Obj):=(List.range h.objs.size).filterMap fun a=>if a=L∨(g.get? a).isSome=true then none else(h.get? a).map fun o=>(a,o)
def rest(g h:Heap)(L d:Addr):List (Addr×Obj):=(allNews g h L).filter fun p=>decide (p.1≠d)
structure Mod(K:PySem.W.Frag)(mg:Str->Option Value)(base:Heap):Prop where
 kin:K.In base
 glob:base.Ns mainGlobals mg
 blt:∃mb,base.Ns builtinsNs mb/\∀x:Str,x≠"__name__"->mb x=bootBuiltins x
 nolimit:base.NoLimit
structure Cx where
 prog:Program
 w:World
 K:PySem.W.Frag
 mg:Str->Option Value
 base:Heap
 A:Around
 N:List Str
 s₀:Shared
 H₀:Hp
 env:Env
 outer:List Env
 stack:List Env
 ex:List Addr
 fn:Str->Bool
 calm:Bool
 pn:List (Addr×Obj)
 xe:Value->Shared->Prop
def frs(l:List Env):List Addr:=l.filterMap (·.frame)
abbrev Cx.fs(X:Cx):List Addr:=frs X.outer
def Vis(sc:Scope)(x:Str):Prop:=sc.names.lookup x=some .local∨sc.names.lookup x=some .cell∨sc.names.lookup x=some .free
def Loc(sc:Scope)(x:Str):Prop:=sc.names.lookup x=some .local∨sc.names.lookup x=some .cell
def Look(env:Env)(h:Heap)(m:Str->Option Value)(x:Str)(u:Value):Prop:=
 (env.kindOf x=some .local/\m x=some u)∨((env.kindOf x=some .cell∨env.kindOf x=some .free)/\∃c,env.cells.lookup x=some c/\h.IsCell c (some u))
structure Cx.Ok(X:Cx):Prop where
 mod:Mod X.K X.mg X.base
 kind:X.env.scope.kind=.function
 glob:X.env.globals=mainGlobals
 blt:X.env.builtins=builtinsNs
 above:X.s₀.heap.objs.size<=X.env.locals
 inj:∀x y c,X.env.cells.lookup x=some c->X.env.cells.lookup y=some c->x=y
 has:∀x,(X.env.kindOf x=some .cell∨X.env.kindOf x=some .free)->∃c,X.env.cells.lookup x=some c
 cab:∀x c,X.fn x=true->X.env.cells.lookup x=some c->X.s₀.heap.objs.size<=c
 hd:X.calm=true->X.A.handled=none
 frames:X.A.frames=some X.stack
 stk:X.stack=X.outer∨(X.stack=X.env::X.outer/\X.env.frame=some X.env.locals)
 exf:∀b∈X.ex,b≠X.env.locals/\∀x c,X.env.cells.lookup x=some c->c≠b
 bs:∀b o,X.base.get? b=some o->X.s₀.heap.get? b=some o/\X.H₀ b=none
 bsz:X.base.objs.size<=X.s₀.heap.objs.size
 noex:∀b o,X.base.get? b=some o->b∉X.ex
 exfs:∀b∈X.ex,b∉X.fs
 funs:X.s₀.heap.FunFrames X.base X.outer
 frf:∀b∈X.fs,X.H₀ b=none
structure Inv(X:Cx)(pins:List (Addr×Obj))(σ:List (Option V))(H:Hp)(s:Shared):Prop where
 ok:X.Ok
 os:s.os=X.s₀.os
 bare:AllBare s.gens
 base:Un X.fs X.ex X.H₀ H X.s₀.heap s.heap
 loc:∃m,s.heap.Ns X.env.locals m/\∀(i:Nat)(x:Str)(v:V),X.N[i]?=some x->σ[i]?=some (some v)->Vis X.env.scope x->∃u,RelV v u/\Look X.env s.heap m x u
 cell:∀x c,X.env.cells.lookup x=some c->∃v,s.heap.IsCell c v
 free:H X.env.locals=none
 freeC:∀x c,X.env.cells.lookup x=some c->H c=none
 pin:∀p∈X.pn++pins,s.heap.get? p.1=some p.2/\H p.1=none/\p.1≠X.env.locals/\p.1∉X.fs/\∀v,p.2.data≠.cell v
 hok:HOk X.prog X.w H s.heap
 len:σ.length=X.N.length
section
variable{X:Cx}{pins:List (Addr×Obj)}{σ:List (Option V)}{H H':Hp}{s:Shared}{h':Heap}
theorem Cx.Ok.nofr(ok:X.Ok){b:Addr}{o:Obj}(e:X.base.get? b=some o):b∉X.fs:=fun hb=>by
 have:=(ok.funs.mem hb).1;rw[e] at this;cases this
theorem Inv.bs(I:Inv X pins σ H s):∀b o,X.base.get? b=some o->s.heap.get? b=some o/\H b=none:=fun b o e=>
 ⟨I.base.keep b o (I.ok.bs b o e).1 (I.ok.bs b o e).2 (I.ok.nofr e) (I.ok.noex b o e),I.base.free b o (I.ok.bs b o e).1 (I.ok.bs b o e).2 (I.ok.noex b o e)⟩
theorem Inv.bk(I:Inv X pins σ H s):∀b o,X.base.get? b=some o->s.heap.get? b=some o:=fun b o e=>(I.bs b o e).1
theorem Inv.mod(I:Inv X pins σ H s):Mod X.K X.mg X.base:=I.ok.mod
theorem Inv.kIn(I:Inv X pins σ H s):X.K.In s.heap:=I.ok.mod.kin.keeps I.bk
theorem Inv.nolimit(I:Inv X pins σ H s):s.heap.NoLimit:=I.ok.mod.nolimit.keeps I.bk
theorem Inv.lt(I:Inv X pins σ H s):X.env.locals<s.heap.objs.size:=let⟨_,hn,_⟩:=I.loc;hn.lt
theorem Inv.sz(I:Inv X pins σ H s):X.s₀.heap.objs.size<=s.heap.objs.size:=Nat.le_trans I.ok.above (Nat.le_of_lt I.lt)
theorem Inv.nofs(I:Inv X pins σ H s){a:Addr}(h:s.heap.objs.size<=a):a∉X.fs:=fun hb=>by
 obtain⟨_,o,ho,_⟩:=I.ok.funs.mem hb;exact absurd (Nat.lt_of_lt_of_le (Heap.lt_size ho) (Nat.le_trans I.sz h)) (Nat.lt_irrefl _)
theorem Inv.cne(I:Inv X pins σ H s):∀x c,X.env.cells.lookup x=some c->c≠X.env.locals:=fun x c e z=>by
 obtain⟨v,o,ho,hd⟩:=I.cell x c e;obtain⟨m,⟨o',es,ep,ho',hd',_⟩,_⟩:=I.loc;rw[z,ho'] at ho;cases ho;rw[hd'] at hd;cases hd
theorem Inv.funs(I:Inv X pins σ H s):s.heap.FunFrames X.base X.outer:=by
 have all:∀(l:List Env),(∀b∈frs l,b∈X.fs)->X.s₀.heap.FunFrames X.base l->s.heap.FunFrames X.base l:=by
  intro l
  induction l with
  |nil=>intro _ _;trivial
  |cons env r ih=>
   intro hs hl;obtain⟨hk,⟨L,o,hf,hn,ho,hd⟩,hr⟩:=hl;have hL:L∈X.fs:=hs L (by unfold frs;rw[List.filterMap_cons,hf];exact List.mem_cons_self)
   obtain⟨sl,e⟩:=I.base.slot L o ho (I.ok.frf L hL) hL fun z=>I.ok.exfs L z hL;exact⟨hk,⟨L,_,hf,hn,e,hd⟩,ih (fun b hb=>hs b (by unfold frs;rw[List.filterMap_cons,hf];exact List.mem_cons_of_mem _ hb)) hr⟩
 exact all X.outer (fun _ hb=>hb) I.ok.funs
theorem Inv.stack(I:Inv X pins σ H s):s.heap.FunFrames X.base X.stack:=by
 rcases I.ok.stk with e|⟨e,hf⟩
 ·rw[e];exact I.funs
 ·rw[e];obtain⟨m,hn,_⟩:=I.loc;refine .cons (by rw[I.ok.kind];decide) hf hn ?_ I.funs
  exact Heap.get?_none_of_le (Nat.le_trans I.ok.bsz I.ok.above)
theorem Inv.stkSub(I:Inv X pins σ H s):∀b∈frs X.stack,b∈X.env.locals::X.fs:=fun b hb=>by
 rcases I.ok.stk with e|⟨e,hf⟩
 ·rw[e] at hb;exact List.mem_cons_of_mem _ hb
 ·rw[e] at hb;unfold frs at hb;rw[List.filterMap_cons,hf] at hb;exact hb
theorem Inv.stkFree(I:Inv X pins σ H s):∀b∈frs X.stack,H b=none:=fun b hb=>by
 rcases List.mem_cons.mp (I.stkSub b hb) with e|hb
 ·rw[e];exact I.free
 ·obtain⟨_,o,ho,_⟩:=I.ok.funs.mem hb;exact I.base.free b o ho (I.ok.frf b hb) fun z=>I.ok.exfs b z hb
theorem Inv.step{g':Array GenState}{t':Nat}{d':Drawn}{ch:List Addr}(I:Inv X pins σ H s)
  (hch:∀b∈ch,(b∈X.ex∨X.s₀.heap.objs.size<=b)/\b≠X.env.locals/\(∀x c,X.env.cells.lookup x=some c->c≠b)/\∀p∈X.pn++pins,p.1≠b)
  (keep:∀b o,b≠X.env.locals->b∉X.fs->b∉ch->s.heap.get? b=some o->H b=none->h'.get? b=some o)
  (slot:∀b o,b≠X.env.locals->b∈X.fs->b∉ch->s.heap.get? b=some o->H b=none->∃sl,h'.get? b=some {o with slots:=sl})(free:∀b o,b∉ch->s.heap.get? b=some o->H b=none->H' b=none)
  (there:∀b o,b∉ch->s.heap.get? b=some o->∃o',h'.get? b=some o')
  (tups:∀b xs,H b=some (.tup xs)->H' b=some (.tup xs)) (frzs:∀b o u,H b=some (.frz o u)->H' b=some (.frz o u)) (tbls:∀b ps,H b=some (.tbl ps)->∃more,H' b=some (.tbl (ps++more)))
  (ns:∀m,s.heap.Ns X.env.locals m->h'.Ns X.env.locals m) (hok:HOk X.prog X.w H' h') (hg:AllBare g'):
  Inv X pins σ H' {s with heap:=h',gens:=g',drawn:=d',toks:=t'}:=by
 have neL:∀b o,X.s₀.heap.get? b=some o->b≠X.env.locals:=fun b o e=>Nat.ne_of_lt (Nat.lt_of_lt_of_le (Heap.lt_size e) I.ok.above);have neC:∀b o,X.s₀.heap.get? b=some o->b∉X.ex->b∉ch:=fun b o e hx hb=>by
  rcases(hch b hb).1 with z|z
  ·exact hx z
  ·exact absurd (Nat.lt_of_lt_of_le (Heap.lt_size e) z) (Nat.lt_irrefl _)
 have cellK:∀x c,X.env.cells.lookup x=some c->∀v,s.heap.IsCell c v->h'.IsCell c v:=fun x c e v⟨o,ho,hd⟩=>by
  have nch:c∉ch:=fun z=>(hch c z).2.2.1 x c e rfl
  by_cases hc:c∈X.fs
  ·obtain⟨sl,q⟩:=slot c o (I.cne x c e) hc nch ho (I.freeC x c e);exact⟨_,q,hd⟩
  ·exact⟨o,keep c o (I.cne x c e) hc nch ho (I.freeC x c e),hd⟩
 refine⟨I.ok,I.os,hg,⟨fun b o e n hb hx=>?_,fun b o e n hb hx=>?_,fun b o e n hx=>?_,fun b o e hx=>?_,fun b xs e=>tups b xs (I.base.tups b xs e),fun b o xs e=>frzs b o xs (I.base.frzs b o xs e),fun b ps e=>?_⟩,?_,fun x c e=>?_,?_,fun x c e=>?_,fun p hp=>?_,hok,I.len⟩
 ·exact keep b o (neL b o e) hb (neC b o e hx) (I.base.keep b o e n hb hx) (I.base.free b o e n hx)
 ·obtain⟨sl,e1⟩:=I.base.slot b o e n hb hx;obtain⟨sl',e2⟩:=slot b _ (neL b o e) hb (neC b o e hx) e1 (I.base.free b o e n hx);exact⟨sl',e2⟩
 ·obtain⟨o',e1⟩:=I.base.there b o e hx;exact free b o' (neC b o e hx) e1 (I.base.free b o e n hx)
 ·obtain⟨o',e1⟩:=I.base.there b o e hx;exact there b o' (neC b o e hx) e1
 ·obtain⟨m1,e1⟩:=I.base.tbls b ps e;obtain⟨m2,e2⟩:=tbls b _ e1;exact⟨m1++m2,by rw[e2,Array.append_assoc]⟩
 ·obtain⟨m,hn,hl⟩:=I.loc;refine⟨m,ns m hn,fun i x v e1 e2 e3=>?_⟩;obtain⟨u,r,l⟩:=hl i x v e1 e2 e3;refine⟨u,r,?_⟩;rcases l with l|⟨k,c,e,z⟩
  ·exact .inl l
  ·exact .inr ⟨k,c,e,cellK x c e _ z⟩
 ·obtain⟨v,z⟩:=I.cell x c e;exact⟨v,cellK x c e v z⟩
 ·obtain⟨m,⟨o,_,_,ho,_⟩,_⟩:=I.loc;exact free _ o (fun z=>(hch _ z).2.1 rfl) ho I.free
 ·obtain⟨v,o,ho,hd⟩:=I.cell x c e;exact free c o (fun z=>(hch c z).2.2.1 x c e rfl) ho (I.freeC x c e)
 ·obtain⟨e,n,ne,nf,d⟩:=I.pin p hp;have nch:p.1∉ch:=fun z=>(hch p.1 z).2.2.2 p hp rfl;exact⟨keep p.1 p.2 ne nf nch e n,free p.1 p.2 nch e n,ne,nf,d⟩
theorem Inv.un{t':Nat}(I:Inv X pins σ H s)(u:Un X.fs [] H H' s.heap h')(hok:HOk X.prog X.w H' h'):Inv X pins σ H' {s with heap:=h',toks:=t'}:=by
 obtain⟨m,⟨o,es,ep,ho,r⟩,_⟩:=id I.loc;obtain⟨sl,hL⟩:=u.any ho I.free (by simp)
 exact I.step (g':=s.gens) (d':=s.drawn) (ch:=[]) (fun _ z=>nomatch z) (fun b o _ hb _ e n=>u.keep b o e n hb (by simp)) (fun b o _ hb _ e n=>u.slot b o e n hb (by simp)) (fun b o _ e n=>u.free b o e n (by simp)) (fun b o _ e=>u.there b o e (by simp)) u.tups u.frzs u.tbls (fun m' hm=>by
  obtain⟨o',es',ep',ho',r'⟩:=hm;rw[ho] at ho';cases ho';exact⟨_,es',ep',hL,r'⟩) hok I.bare
theorem Inv.call{g':Array GenState}{t':Nat}{d':Drawn}{ch:List Addr}(I:Inv X pins σ H s)(u:Un (frs X.stack) ch H H' s.heap h')(hok:HOk X.prog X.w H' h')(hg:AllBare g')
  (hch:∀b∈ch,(b∈X.ex∨X.s₀.heap.objs.size<=b)/\b≠X.env.locals/\(∀x c,X.env.cells.lookup x=some c->c≠b)/\∀p∈X.pn++pins,p.1≠b):
  Inv X pins σ H' {s with heap:=h',gens:=g',drawn:=d',toks:=t'}:=by
 obtain⟨m,⟨o,es,ep,ho,r⟩,_⟩:=id I.loc;obtain⟨sl,hL⟩:=u.any ho I.free fun z=>(hch _ z).2.1 rfl;exact I.step (ch:=ch) hch (fun b o hL hb hc e n=>u.keep b o e n (fun z=>(List.mem_cons.mp (I.stkSub b z)).elim hL hb) hc) (fun b o _ _ hc e n=>u.any e n hc) (fun b o hc e n=>u.free b o e n hc) (fun b o hc e=>u.there b o e hc) u.tups u.frzs u.tbls (fun m' hm=>by
  obtain⟨o',es',ep',ho',r'⟩:=hm;rw[ho] at ho';cases ho';exact⟨_,es',ep',hL,r'⟩) hok hg
theorem Inv.turned{t':Nat}{it:Addr}(I:Inv X pins σ H s)(k:∀b o,b≠it->s.heap.get? b=some o->h'.get? b=some o)(hn:H it=none)(hL:it≠X.env.locals)
  (h1:it∈X.ex∨X.s₀.heap.objs.size<=it)(h2:∀x c,X.env.cells.lookup x=some c->c≠it)(h3:∀p∈X.pn++pins,p.1≠it):Inv X pins σ H {s with heap:=h',toks:=t'}:=by
 have nit:∀b u,H b=some u->b≠it:=fun b u e z=>by rw[z,hn] at e;cases e
 refine I.step (g':=s.gens) (d':=s.drawn) (ch:=[it]) (fun b hb=>?_) (fun b o _ _ hc e _=>k b o (fun z=>hc (by simp[z])) e) (fun b o _ _ hc e _=>⟨o.slots,k b o (fun z=>hc (by simp[z])) e⟩) (fun _ _ _ _ n=>n)
  (fun b o hc e=>⟨o,k b o (fun z=>hc (by simp[z])) e⟩) (fun _ _ e=>e) (fun _ _ _ e=>e) (fun b ps e=>⟨#[],by rw[e];simp⟩) (fun m hm=>?_) (fun b u e=>?_) I.bare
 ·have e:b=it:=by simpa using hb
  subst e;exact⟨h1,hL,h2,h3⟩
 ·obtain⟨o,es,ep,ho,r⟩:=hm;exact⟨o,es,ep,k _ o (Ne.symm hL) ho,r⟩
 ·refine(I.hok b u e).stay (fun c v hc q=>k c v ?_ q) (fun _ q=>q) fun _ _ q=>q;rcases hc with z|z
  ·rw[z];exact nit b u e
  ·exact nit c _ z
theorem Inv.tok(I:Inv X pins σ H s)(t:Nat):Inv X pins σ H {s with toks:=t}:=I.un (h':=s.heap) (t':=t) Un.refl I.hok
theorem Inv.kept{t':Nat}(I:Inv X pins σ H s)(k:∀b u,s.heap.get? b=some u->h'.get? b=some u):Inv X pins σ H {s with heap:=h',toks:=t'}:=I.un (Un.kept k) (I.hok.kept k)
theorem Inv.laid{a:Addr}{o:HO}{t':Nat}(I:Inv X pins σ H s)(k:∀b u,s.heap.get? b=some u->h'.get? b=some u)(hp:s.heap.objs.size<=a)(new:zcc X.prog X.w (upd H a o) h' a o):
  Inv X pins σ (upd H a o) {s with heap:=h',toks:=t'}:=I.un (Un.laid k hp (I.hok.fresh hp)) (I.hok.laid k hp new)
theorem Inv.write{x e:Addr}{o:HO}{t':Nat}(I:Inv X pins σ H s)(mu:Mut (H x))(he:e=x∨H e=some (.own x))(k:∀b u,b≠e->s.heap.get? b=some u->h'.get? b=some u)(heo:∃u,h'.get? e=some u)
  (new:zcc X.prog X.w (upd H x o) h' x o):Inv X pins σ (upd H x o) {s with heap:=h',toks:=t'}:=I.un (Un.write mu he k heo) (I.hok.write mu he k heo new)
theorem Inv.pins_of{pins':List (Addr×Obj)}(I:Inv X pins σ H s)(h:∀p∈pins',s.heap.get? p.1=some p.2/\H p.1=none/\p.1≠X.env.locals/\p.1∉X.fs/\∀v,p.2.data≠.cell v):Inv X pins' σ H s:=
 ⟨I.ok,I.os,I.bare,I.base,I.loc,I.cell,I.free,I.freeC,fun p hp=>(List.mem_append.mp hp).elim (fun z=>I.pin p (List.mem_append_left _ z)) (h p),I.hok,I.len⟩
theorem zjq{N:List Str}(hN:N.Nodup){i j:Nat}{x:Str}(a:N[i]?=some x)(b:N[j]?=some x):i=j:=by
 obtain⟨h1,e1⟩:=List.getElem?_eq_some_iff.mp a;obtain⟨h2,e2⟩:=List.getElem?_eq_some_iff.mp b;exact(List.getElem_inj hN).mp (e1.trans e2.symm)
theorem zlk{M:Model}{A:Around}{E:Value->Shared->Prop}{i:Nat}{x:Str}{v:V}{u:Value}{Q:Unit->Shared->Prop}(I:Inv X pins σ H s)(hN:X.N.Nodup)(hi:X.N[i]?=some x)(hx:Loc X.env.scope x)(r:RelV v u)
  (h:∀s',Inv X pins (σ.set i (some v)) H s'->(∃a,Heap.SameBut a s.heap s'.heap/\(a=X.env.locals∨X.env.cells.lookup x=some a))->Q () s')(hf:X.fn x=true∨X.env.scope.names.lookup x=some .local:=by first|exact .inl rfl|exact .inr rfl|assumption):wpAny M A (storeName X.env x u) Q E s:=by
 obtain⟨m,hn,hl⟩:=id I.loc;have hcls:(X.env.scope.kind==.class||(X.env.scope.kind==.module&&X.env.locals !=X.env.globals))=false:=by rw[I.ok.kind];rfl
 have hiσ:i<σ.length:=by rw[I.len];exact(List.getElem?_eq_some_iff.mp hi).1
 have cne:=I.cne;have tracked:∀{a:Addr}{h':Heap},(∃o,s.heap.get? a=some o/\H a=none)->Heap.SameBut a s.heap h'->HOk X.prog X.w H h':=fun{a h'} ha hs b ob e=>by
  obtain⟨_,_,hfree⟩:=ha;refine(I.hok b ob e).stay (fun c w' hc q=>(hs.2 c ?_).trans q) (fun _ q=>q) fun _ _ q=>q;rintro rfl;rcases hc with rfl|hc
  ·rw[hfree] at e;cases e
  ·rw[hfree] at hc;cases hc
 rcases hx with hk|hk
 ·refine wpAny_storeName_local hk hn (fun h' hn' hs=>?_) hcls;obtain⟨oL,_,_,hoL,_⟩:=id hn;refine h _ ⟨I.ok,I.os,I.bare,⟨fun b o e n hb hx=>?_,fun b o e n hb hx=>?_,I.base.free,fun b o e hx=>?_,I.base.tups,I.base.frzs,I.base.tbls⟩,⟨_,hn',fun j y v' e1 e2 e3=>?_⟩,fun y c e=>?_,I.free,I.freeC,fun p hp=>?_,tracked ⟨oL,hoL,I.free⟩ hs,by simpa using I.len⟩ ⟨_,hs,.inl rfl⟩
  ·exact(hs.2 b (Nat.ne_of_lt (Nat.lt_of_lt_of_le (Heap.lt_size e) I.ok.above))).trans (I.base.keep b o e n hb hx)
  ·obtain⟨sl,e1⟩:=I.base.slot b o e n hb hx;exact⟨sl,(hs.2 b (Nat.ne_of_lt (Nat.lt_of_lt_of_le (Heap.lt_size e) I.ok.above))).trans e1⟩
  ·obtain⟨o',e1⟩:=I.base.there b o e hx;exact⟨o',(hs.2 b (Nat.ne_of_lt (Nat.lt_of_lt_of_le (Heap.lt_size e) I.ok.above))).trans e1⟩
  ·by_cases hj:j=i
   ·subst hj;rw[hi] at e1;cases e1;rw[List.getElem?_set_self hiσ] at e2
    cases e2;exact⟨u,r,.inl ⟨hk,by simp⟩⟩
   ·rw[List.getElem?_set_ne (Ne.symm hj)] at e2;obtain⟨u',r',q⟩:=hl j y v' e1 e2 e3;refine⟨u',r',?_⟩;rcases q with⟨k,e⟩|⟨k,c,e,z⟩
    ·refine .inl ⟨k,?_⟩;have:y≠x:=fun e=>hj (zjq hN e1 (e▸hi))
     simp[this,e]
    ·exact .inr ⟨k,c,e,z.sameBut hs (cne y c e)⟩
  ·obtain⟨w',z⟩:=I.cell y c e;exact⟨w',z.sameBut hs (cne y c e)⟩
  ·obtain⟨e,n,ne,nf,d⟩:=I.pin p hp;exact⟨(hs.2 p.1 ne).trans e,n,ne,nf,d⟩
 ·have hfn:X.fn x=true:=by
   rcases hf with z|z
   ·exact z
   ·rw[z] at hk;cases hk
  obtain⟨c,hc⟩:=I.ok.has x (.inl hk);obtain⟨w',z⟩:=I.cell x c hc;refine wpAny_storeName_cell I.ok.kind hk hc z (fun h' hc' hs=>?_);obtain⟨oc,hoc,hocd⟩:=id z;refine h {s with heap:=h'} ⟨I.ok,I.os,I.bare,⟨fun b o e n hb hx=>?_,fun b o e n hb hx=>?_,I.base.free,fun b o e hx=>?_,I.base.tups,I.base.frzs,I.base.tbls⟩,⟨m,hn.sameBut hs (Ne.symm (cne x c hc)),fun j y v' e1 e2 e3=>?_⟩,fun y c' e=>?_,I.free,I.freeC,fun p hp=>?_,tracked ⟨oc,hoc,I.freeC x c hc⟩ hs,by simpa using I.len⟩ ⟨c,hs,.inr hc⟩
  ·exact(hs.2 b (Nat.ne_of_lt (Nat.lt_of_lt_of_le (Heap.lt_size e) (I.ok.cab x c hfn hc)))).trans (I.base.keep b o e n hb hx)
  ·obtain⟨sl,e1⟩:=I.base.slot b o e n hb hx;exact⟨sl,(hs.2 b (Nat.ne_of_lt (Nat.lt_of_lt_of_le (Heap.lt_size e) (I.ok.cab x c hfn hc)))).trans e1⟩
  ·obtain⟨o',e1⟩:=I.base.there b o e hx;exact⟨o',(hs.2 b (Nat.ne_of_lt (Nat.lt_of_lt_of_le (Heap.lt_size e) (I.ok.cab x c hfn hc)))).trans e1⟩
  ·by_cases hj:j=i
   ·subst hj;rw[hi] at e1;cases e1;rw[List.getElem?_set_self hiσ] at e2
    cases e2;exact⟨u,r,.inr ⟨.inl hk,c,hc,hc'⟩⟩
   ·rw[List.getElem?_set_ne (Ne.symm hj)] at e2;obtain⟨u',r',q⟩:=hl j y v' e1 e2 e3;refine⟨u',r',?_⟩;rcases q with q|⟨k,c',e,z'⟩
    ·exact .inl q
    ·refine .inr ⟨k,c',e,z'.sameBut hs ?_⟩;rintro rfl;exact hj (zjq hN e1 (I.ok.inj _ _ _ e hc▸hi))
  ·by_cases hcc:c'=c
   ·subst hcc;exact⟨_,hc'⟩
   ·obtain⟨w2,z2⟩:=I.cell y c' e;exact⟨w2,z2.sameBut hs hcc⟩
  ·obtain⟨e,n,ne,nf,d⟩:=I.pin p hp;refine⟨(hs.2 p.1 ?_).trans e,n,ne,nf,d⟩;intro q;rw[q,hoc] at e;have q':oc=p.2:=Option.some.inj e;exact d w' (by rw[←q'];exact hocd)
theorem zem{M:Model}{A:Around}{E:Value->Shared->Prop}{i:Nat}{x:Str}{v:V}{u:Value}{Q:Unit->Shared->Prop}(I:Inv X pins σ H s)(hN:X.N.Nodup)(hi:X.N[i]?=some x)(hx:Loc X.env.scope x)(r:RelV v u)
  (h:∀s',Inv X pins (σ.set i (some v)) H s'->Q () s')(hf:X.fn x=true∨X.env.scope.names.lookup x=some .local:=by first|exact .inl rfl|exact .inr rfl|assumption):wpAny M A (storeName X.env x u) Q E s:=
 zlk I hN hi hx r (fun s' I' _=>h s' I') hf
theorem Inv.call'{s':Shared}{ch:List Addr}(I:Inv X pins σ H s)(ho:s'.os=s.os)(u:Un (frs X.stack) ch H H' s.heap s'.heap)(hok:HOk X.prog X.w H' s'.heap)(hg:AllBare s'.gens)
  (hch:∀b∈ch,(b∈X.ex∨X.s₀.heap.objs.size<=b)/\b≠X.env.locals/\(∀x c,X.env.cells.lookup x=some c->c≠b)/\∀p∈X.pn++pins,p.1≠b):Inv X pins σ H' s':=by
 obtain⟨h',g',d',t',o'⟩:=s';have e:o'=s.os:=ho;subst e;exact I.call (g':=g') (t':=t') (d':=d') u hok hg hch
end
abbrev XK:=Value->Option Addr->Hp->Prop
abbrev St:=List (Option V)
abbrev VK:=V->Hp->Prop
abbrev TE:=St->Hp->VK->Prop
abbrev TT:=St->Hp->(Bool->Hp->Prop)->Prop
abbrev TA:=St->Hp->(List V->Hp->Prop)->Prop
structure Ends where
 nx:St->Hp->Prop
 rt:VK
 bk:St->Hp->Prop:=fun _ _=>False
 ct:St->Hp->Prop:=fun _ _=>False
abbrev TS:=Ends->St->Hp->Prop
def EP(X:Cx)(pins:List (Addr×Obj))(σ:St)(Q:VK)(u:Value)(s':Shared):Prop:=∃v H',Inv X pins σ H' s'/\RelV v u/\Q v H'
def TP(X:Cx)(pins:List (Addr×Obj))(σ:St)(Q:Bool->Hp->Prop)(b:Bool)(s':Shared):Prop:=∃H',Inv X pins σ H' s'/\Q b H'
def AP(X:Cx)(pins:List (Addr×Obj))(σ:St)(Q:List V->Hp->Prop)(us:List Value)(s':Shared):Prop:=∃vs H',Inv X pins σ H' s'/\Vals vs us/\Q vs H'
def SP(X:Cx)(pins:List (Addr×Obj))(D:Ends)(f:Flow)(s':Shared):Prop:=
 match f with
 |.next=>∃σ' H',Inv X pins σ' H' s'/\D.nx σ' H'
 |.brk=>∃σ' H',Inv X pins σ' H' s'/\D.bk σ' H'
 |.cont=>∃σ' H',Inv X pins σ' H' s'/\D.ct σ' H'
 |.ret u=>∃v σ' H',Inv X pins σ' H' s'/\RelV v u/\D.rt v H'
def PE(X:Cx)(e:Expr)(t:TE):Prop:=
 ∀(pins:List (Addr×Obj))(s:Shared)(σ:St)(H:Hp)(Q:VK),Inv X pins σ H s->t σ H Q->wpAny (model X.prog X.w) X.A (eval e X.env) (EP X pins σ Q) X.xe s
def PT(X:Cx)(e:Expr)(t:TT):Prop:=
 ∀(pins:List (Addr×Obj))(s:Shared)(σ:St)(H:Hp)(Q:Bool->Hp->Prop),Inv X pins σ H s->t σ H Q->wpAny (model X.prog X.w) X.A (isTrue e X.env (eval e X.env)) (TP X pins σ Q) X.xe s
def PW(X:Cx)(e:Expr)(t:TT):Prop:=
 ∀(whole:Sem Value)(pins:List (Addr×Obj))(s:Shared)(σ:St)(H:Hp)(Q:Bool->Hp->Prop),Inv X pins σ H s->t σ H Q->wpAny (model X.prog X.w) X.A (isTrue e X.env whole) (TP X pins σ Q) X.xe s
theorem PW.pt{X:Cx}{e:Expr}{t:TT}(h:PW X e t):PT X e t:=h _
def PA(X:Cx)(es:List Expr)(t:TA):Prop:=
 ∀(pos:Pos)(pins:List (Addr×Obj))(s:Shared)(σ:St)(H:Hp)(Q:List V->Hp->Prop),Inv X pins σ H s->t σ H Q->wpAny (model X.prog X.w) X.A (spliced (backTo pos (starEach es X.env))) (AP X pins σ Q) X.xe s
def PS(X:Cx)(st:Stmt)(t:TS):Prop:=
 ∀(pins:List (Addr×Obj))(s:Shared)(σ:St)(H:Hp)(D:Ends),Inv X pins σ H s->t D σ H->wpAny (model X.prog X.w) X.A (exec st X.env) (SP X pins D) X.xe s
def PSs(X:Cx)(st:List Stmt)(t:TS):Prop:=
 ∀(pins:List (Addr×Obj))(s:Shared)(σ:St)(H:Hp)(D:Ends),Inv X pins σ H s->t D σ H->wpAny (model X.prog X.w) X.A (execs st X.env) (SP X pins D) X.xe s
theorem thn{α:Type}{t:Sem α}{Q Q':α->Shared->Prop}{M:Model}{A:Around}{E:Value->Shared->Prop}{s:Shared}(h:wpAny M A t Q E s)(hQ:∀a s,Q a s->Q' a s):wpAny M A t Q' E s:=wpAny_mono h hQ fun _ _ x=>x
section
variable{X:Cx}
def tVar(i:Nat):TE:=fun σ H Q=>∃v,σ[i]?=some (some v)/\Q v H
def tC(v:V):TE:=fun _ H Q=>Q v H
theorem pe_var{i:Nat}{x:Str}{pos:Pos}(hN:X.N[i]?=some x)(hv:Vis X.env.scope x)(hd:(x==("__debug__":Str))=false:=by decide)(hcd:(x==("__classdict__":Str))=false:=by decide):PE X (.Name x pos) (tVar i):=by
 intro pins s σ H Q I h;obtain⟨v,e,h⟩:=h;obtain⟨m,hn,hl⟩:=I.loc;obtain⟨u,r,l⟩:=hl i x v hN e hv;have fin:EP X pins σ Q u s:=⟨v,H,I,r,h⟩;rcases l with⟨hk,hm⟩|⟨hk,c,hc,hcell⟩
 ·exact wpAny_Name (wpAny_loadName_local I.ok.kind hk hn hm fin) hd
 ·rcases hk with hk|hk
  ·exact wpAny_Name (wpAny_loadName_cell I.ok.kind hk hc hcell fin) hd
  ·exact wpAny_Name (wpAny_loadName_free I.ok.kind hk hc hcell fin hcd) hd
theorem zbg{i j pos}:PE X (.Constant (.int i) j pos) (tC (.int i)):=fun _ _ _ H _ I h=>wpAny_Constant_int ⟨.int i,H,I.tok _,⟨_,rfl⟩,h⟩
theorem pe_bl{b j pos}:PE X (.Constant (.bool b) j pos) (tC (.bl b)):=fun _ _ _ H _ I h=>Constant_bool ⟨.bl b,H,I,rfl,h⟩
theorem pe_non{j pos}:PE X (.Constant .none j pos) (tC .non):=fun _ _ _ H _ I h=>Constant_none ⟨.non,H,I,rfl,h⟩
def Gl(X:Cx)(x:Str):Prop:=X.env.kindOf x=some .globalImplicit
theorem ld_glob{E:Value->Shared->Prop}{pins:List (Addr×Obj)}{s:Shared}{σ:St}{H:Hp}{x:Str}{u:Value}{pos:Pos}{Q:Value->Shared->Prop}(I:Inv X pins σ H s)(hg:Gl X x)(hm:X.mg x=some u)(h:Q u s)
  (hd:(x==("__debug__":Str))=false:=by decide):wpAny (model X.prog X.w) X.A (eval (.Name x pos) X.env) Q E s:=
 Calls.Name_function_global I.ok.kind hg (Calls.loadGlobal_global (by rw[I.ok.glob];exact I.mod.glob.keeps I.bk) hm h) hd
theorem zf8{E:Value->Shared->Prop}{pins:List (Addr×Obj)}{s:Shared}{σ:St}{H:Hp}{x:Str}{u:Value}{pos:Pos}{Q:Value->Shared->Prop}(I:Inv X pins σ H s)(hg:Gl X x)(hm:X.mg x=none)(hv:bootBuiltins x=some u)(h:Q u s)
  (hn:x≠"__name__":=by decide)(hd:(x==("__debug__":Str))=false:=by decide):wpAny (model X.prog X.w) X.A (eval (.Name x pos) X.env) Q E s:=by
 obtain⟨mb,h1,h2⟩:=I.mod.blt;exact Calls.Name_function_global I.ok.kind hg (Calls.loadGlobal_builtin (by rw[I.ok.glob];exact I.mod.glob.keeps I.bk) hm (by rw[I.ok.blt];exact h1.keeps I.bk) ((h2 x hn).trans hv) h) hd
theorem pe_bltn{x:Str}{v:V}{u:Value}{pos:Pos}(hg:Gl X x)(hm:X.mg x=none)(hv:bootBuiltins x=some u)(r:RelV v u)(hn:x≠"__name__":=by decide)(hd:(x==("__debug__":Str))=false:=by decide):PE X (.Name x pos) (tC v):=
 fun _ _ _ H _ I h=>zf8 I hg hm hv ⟨v,H,I,r,h⟩ hn hd
variable{a b:Expr}{ta tb:TE}{pos:Pos}
def PC(X:Cx)(op:CmpOp)(a b:Expr)(t:TE):Prop:=
 ∀(pins:List (Addr×Obj))(s:Shared)(σ:St)(H:Hp)(Q:VK),Inv X pins σ H s->t σ H Q->
  wpAny (model X.prog X.w) X.A (eval a X.env) (fun v s₁=>wpAny (model X.prog X.w) X.A (eval b X.env) (fun u s₂=>wpAny (model X.prog X.w) X.A (compareOp op v u) (EP X pins σ Q) X.xe s₂) X.xe s₁) X.xe s
def tB(t:TE):TT:=fun σ H Q=>t σ H fun x H1=>∃c,x=.bl c/\Q c H1
theorem zms{op:CmpOp}{t:TE}(h:PC X op a b t)(h1:behindInMarks op b=false:=by first|exact nobehind _ (by decide) (by decide)|rfl):PT X (.Compare a [op] [b] pos) (tB t):=by
 intro pins s σ H Q I hw;refine wpAny_isTrue_Compare1 (thn (h pins s σ H _ I hw) fun v s1 h1=>thn h1 fun u s2 h2=>thn h2 fun c s3⟨x,H1,I1,r1,q1⟩=>?_) h1;obtain⟨d,rfl,q⟩:=q1
 cases r1;exact wpAny_truthy_bool ⟨H1,I1,q⟩
theorem zfz{e:Expr}{t:TE}(h:PE X e t)(he:∀whole,isTrue e X.env whole=(do let v ←whole;standAt e.pos;holding [v] (truthy v)):=by intro _;rfl):PT X e (tB t):=by
 intro pins s σ H Q I hw;refine isTrue_plain (thn (h pins s σ H _ I hw) fun v s1⟨x,H1,I1,r1,q1⟩=>?_) (he _);obtain⟨d,rfl,q⟩:=q1
 cases r1;exact wpAny_truthy_bool ⟨H1,I1,q⟩
variable{tA tB':TT}{rest:List Expr}
def tAnd(t u:TT):TT:=fun σ H Q=>t σ H fun c H1=>if c=true then u σ H1 Q else Q false H1
def tOr(t u:TT):TT:=fun σ H Q=>t σ H fun c H1=>if c=true then Q true H1 else u σ H1 Q
def tNot(t:TT):TT:=fun σ H Q=>t σ H fun c H1=>Q (!c) H1
theorem pw_and1(ha:PT X a tA):PW X (.BoolOp .And [a] pos) tA:=by
 intro wh pins s σ H Q I h;refine isTrue_and (thn (ha pins s σ H Q I h) fun c s1 e=>?_)
 cases c with
 |true=>exact isTrue_and_nil e
 |false=>exact e
theorem pw_or1(ha:PT X a tA):PW X (.BoolOp .Or [a] pos) tA:=by
 intro wh pins s σ H Q I h;refine isTrue_or (thn (ha pins s σ H Q I h) fun c s1 e=>?_)
 cases c with
 |false=>exact isTrue_or_nil e
 |true=>exact e
theorem pw_and(ha:PT X a tA)(hb:PW X (.BoolOp .And (b::rest) pos) tB'):PW X (.BoolOp .And (a::b::rest) pos) (tAnd tA tB'):=by
 intro wh pins s σ H Q I h;refine isTrue_and (thn (ha pins s σ H _ I h) fun c s1⟨H1,I1,q1⟩=>?_)
 cases c with
 |true=>exact hb wh pins s1 σ H1 Q I1 q1
 |false=>exact⟨H1,I1,q1⟩
theorem pw_or(ha:PT X a tA)(hb:PW X (.BoolOp .Or (b::rest) pos) tB'):PW X (.BoolOp .Or (a::b::rest) pos) (tOr tA tB'):=by
 intro wh pins s σ H Q I h;refine isTrue_or (thn (ha pins s σ H _ I h) fun c s1⟨H1,I1,q1⟩=>?_)
 cases c with
 |true=>exact⟨H1,I1,q1⟩
 |false=>exact hb wh pins s1 σ H1 Q I1 q1
theorem pt_not(ha:PT X a tA):PT X (.UnaryOp .Not a pos) (tNot tA):=by
 intro pins s σ H Q I h;exact isTrue_not (ha pins s σ H (fun c H1=>Q (!c) H1) I h)
def zmy(ta tb:TE):TE:=fun σ H Q=>ta σ H fun x H1=>∃c,x=.bl c/\if c=true then tb σ H1 Q else Q (.bl false) H1
def tOrV(ta tb:TE):TE:=fun σ H Q=>ta σ H fun x H1=>∃c,x=.bl c/\if c=true then Q (.bl true) H1 else tb σ H1 Q
def zn6(ta:TE):TE:=fun σ H Q=>ta σ H fun x H1=>∃c,x=.bl c/\Q (.bl (!c)) H1
theorem pe_one{op}{t:TE}(h:PE X a t):PE X (.BoolOp op [a] pos) t:=fun pins s σ H Q I hw=>BoolOp_one (h pins s σ H Q I hw)
theorem pe_and(ha:PE X a ta)(hb:PE X (.BoolOp .And (b::rest) pos) tb):PE X (.BoolOp .And (a::b::rest) pos) (zmy ta tb):=by
 intro pins s σ H Q I h;refine BoolOp_and (thn (ha pins s σ H _ I h) fun v s1⟨x,H1,I1,r1,q1⟩=>?_);obtain⟨c,rfl,q1⟩:=q1
 cases r1;refine wpAny_truthy_bool ?_
 cases c with
 |true=>exact hb pins s1 σ H1 Q I1 q1
 |false=>exact⟨.bl false,H1,I1,rfl,q1⟩
theorem pe_not(ha:PE X a ta):PE X (.UnaryOp .Not a pos) (zn6 ta):=by
 intro pins s σ H Q I h;refine UnaryOp_ (thn (ha pins s σ H _ I h) fun v s1⟨x,H1,I1,r1,q1⟩=>?_);obtain⟨c,rfl,q1⟩:=q1
 cases r1;exact not_of (wpAny_truthy_bool ⟨.bl (!c),H1,I1,rfl,q1⟩)
def tIf(t:TT)(ta tb:TE):TE:=fun σ H Q=>t σ H fun c H1=>if c=true then ta σ H1 Q else tb σ H1 Q
end
def SqL(K:PySem.W.Frag)(H:Hp)(a:Addr)(xs:List V):Prop:=
 Rd H a (.lst xs)∨
  ∃(o:Obj)(its:Array Value)(n:Nat),K.lookup a=some o/\o.cls=.type "list"/\o.dict=none/\o.data=.seq its n/\its.size<=sizeLine/\Vals xs its.toList
def SqT(K:PySem.W.Frag)(H:Hp)(a:Addr)(xs:List V):Prop:=
 Rd H a (.tup xs)∨
  ∃(o:Obj)(its:Array Value)(n:Nat),K.lookup a=some o/\o.cls=.type "tuple"/\o.data=.seq its n/\its.size<=sizeLine/\Vals xs its.toList
def absV:Value->Option V
 |.none=>some .non
 |.bool b=>some (.bl b)
 |.int i _=>some (.int i)
 |.str x _=>some (.str x)
 |.bytes b _=>some (.byt b)
 |.float b _=>some (.flt b)
 |.ref a=>some (.ref a)
 |.type n=>some (.ty n)
 |_=>none
theorem RelV.abs{x:V}{u:Value}(r:RelV x u):absV u=some x:=by
 cases x with
 |non=>cases r;rfl
 |bl _=>cases r;rfl
 |int _=>obtain⟨t,rfl⟩:=r;rfl
 |str _=>obtain⟨t,rfl⟩:=r;rfl
 |byt _=>obtain⟨t,rfl⟩:=r;rfl
 |flt _=>obtain⟨t,rfl⟩:=r;rfl
 |ref _=>cases r;rfl
 |ty _=>cases r;rfl
theorem RelV.inj{x y:V}{u:Value}(r:RelV x u)(q:RelV y u):x=y:=Option.some.inj (r.abs.symm.trans q.abs)
theorem Vals.inj:∀{xs ys:List V}{us:List Value},Vals xs us->Vals ys us->xs=ys
 |_,_,_,.nil,.nil=>rfl
 |_,_,_,.cons r t,.cons r' t'=>by rw[r.inj r',Vals.inj t t']
section
variable{X:Cx}{pins:List (Addr×Obj)}{σ:St}{H:Hp}{s:Shared}{a:Addr}{xs ys:List V}
theorem SqL.of{K:PySem.W.Frag}(h:H a=some (.lst xs)):SqL K H a xs:=.inl (.inl h)
theorem SqT.of{K:PySem.W.Frag}(h:H a=some (.tup xs)):SqT K H a xs:=.inl (.inl h)
theorem Inv.list(I:Inv X pins σ H s)(h:SqL X.K H a xs):∃its:List Value,Vals xs its/\PlainL s.heap a its.toArray/\xs.length<=sizeLine:=by
 rcases h with h|⟨o,its,n,hk,hc,hd,hs,hz,r⟩
 ·obtain⟨z,its,n,r,e⟩:=h.ok I.hok;exact⟨its,r,⟨_,n,e,rfl,rfl,rfl⟩,z⟩
 ·refine⟨its.toList,r,⟨o,n,I.kIn a o hk,hc,hd,by simpa using hs⟩,?_⟩
  have e:=r.length;simp only[Array.length_toList] at e;omega
theorem Inv.tuple(I:Inv X pins σ H s)(h:SqT X.K H a xs):∃its:List Value,Vals xs its/\IsTup s.heap a its.toArray/\xs.length<=sizeLine:=by
 rcases h with h|⟨o,its,n,hk,hc,hs,hz,r⟩
 ·obtain⟨z,its,r,p⟩:=h.ok I.hok;exact⟨its,r,p,z⟩
 ·refine⟨its.toList,r,⟨o,I.kIn a o hk,hc,n,by simpa using hs⟩,?_⟩
  have e:=r.length;simp only[Array.length_toList] at e;omega
theorem Inv.list_inj(I:Inv X pins σ H s)(h:SqL X.K H a xs)(h':SqL X.K H a ys):xs=ys:=by
 obtain⟨its,r,⟨o,n,e,_,_,d⟩,_⟩:=I.list h;obtain⟨its',r',⟨o',n',e',_,_,d'⟩,_⟩:=I.list h';rw[e] at e';cases e';rw[d] at d'
 injection d' with d1 _
 have:its=its':=by simpa using congrArg Array.toList d1
 subst this;exact r.inj r'
end
abbrev Cx.wish(X:Cx)(E:Value->Shared->Prop):Cx:={X with xe:=E}
abbrev Cx.nox(X:Cx):Cx:=X.wish fun _ _=>False
theorem Cx.Ok.wish{X:Cx}(ok:X.Ok)(E:Value->Shared->Prop):(X.wish E).Ok:=
 ⟨ok.mod,ok.kind,ok.glob,ok.blt,ok.above,ok.inj,ok.has,ok.cab,ok.hd,ok.frames,ok.stk,ok.exf,ok.bs,ok.bsz,ok.noex,ok.exfs,ok.funs,ok.frf⟩
theorem Cx.Ok.unwish{X:Cx}{E:Value->Shared->Prop}(ok:(X.wish E).Ok):X.Ok:=
 ⟨ok.mod,ok.kind,ok.glob,ok.blt,ok.above,ok.inj,ok.has,ok.cab,ok.hd,ok.frames,ok.stk,ok.exf,ok.bs,ok.bsz,ok.noex,ok.exfs,ok.funs,ok.frf⟩
section
variable{X:Cx}{pins:List (Addr×Obj)}{σ:St}{H:Hp}{s:Shared}{E:Value->Shared->Prop}
theorem Inv.wish(I:Inv X pins σ H s)(E:Value->Shared->Prop):Inv (X.wish E) pins σ H s:=⟨I.ok.wish E,I.os,I.bare,I.base,I.loc,I.cell,I.free,I.freeC,I.pin,I.hok,I.len⟩
theorem Inv.unwish(I:Inv (X.wish E) pins σ H s):Inv X pins σ H s:=⟨I.ok.unwish,I.os,I.bare,I.base,I.loc,I.cell,I.free,I.freeC,I.pin,I.hok,I.len⟩
theorem SP.unwish{D:Ends}{f:Flow}{s':Shared}(h:SP (X.wish E) pins D f s'):SP X pins D f s':=by
 cases f with
 |next=>obtain⟨σ',H',I,q⟩:=h;exact⟨σ',H',I.unwish,q⟩
 |brk=>obtain⟨σ',H',I,q⟩:=h;exact⟨σ',H',I.unwish,q⟩
 |cont=>obtain⟨σ',H',I,q⟩:=h;exact⟨σ',H',I.unwish,q⟩
 |ret u=>obtain⟨v,σ',H',I,r,q⟩:=h;exact⟨v,σ',H',I.unwish,r,q⟩
theorem PSs.nox{st:List Stmt}{t:TS}(h:PSs X.nox st t):PSs X st t:=fun pins s σ H D I hw=>
 wpAny_mono (h pins s σ H D (I.wish _) hw) (fun _ _ q=>q.unwish) fun _ _ z=>False.elim z
end
section
variable{X:Cx}{st:Stmt}{rest:List Stmt}{t u:TS}{e:Expr}{te:TE}{pos:Pos}
def zm7:TS:=fun D σ H=>D.nx σ H
def tSeq(t u:TS):TS:=fun D σ H=>t {D with nx:=u D} σ H
theorem zbq:PSs X [] zm7:=fun _ _ σ H _ I h=>wpAny_execs_nil ⟨σ,H,I,h⟩
theorem zab(h1:PS X st t)(h2:PSs X rest u):PSs X (st::rest) (tSeq t u):=by
 intro pins s σ H D I h;refine wpAny_execs_cons (thn (h1 pins s σ H {D with nx:=u D} I h) fun f s1 q=>?_)
 cases f with
 |next=>
  obtain⟨σ',H',I',q⟩:=q;exact h2 pins s1 σ' H' D I' q
 |ret v=>exact q
 |brk=>exact q
 |cont=>exact q
theorem zac(h1:PS X st t):PSs X [st] t:=by
 intro pins s σ H D I h;refine wpAny_execs_cons (thn (h1 pins s σ H D I h) fun f s1 q=>?_)
 cases f with
 |next=>exact wpAny_execs_nil q
 |ret v=>exact q
 |brk=>exact q
 |cont=>exact q
theorem Inv.quiet{pins:List (Addr×Obj)}{σ:St}{H:Hp}{s:Shared}(I:Inv X pins σ H s):interactive X.env=false:=by simp[interactive,I.ok.kind]
def znd(te:TE):TS:=fun D σ H=>te σ H fun _ H1=>D.nx σ H1
theorem zdj(he:PE X e te)(hs:swapsWith e none pos.line X.env=pure false:=by rfl):PS X (.Expr e pos) (znd te):=by
 intro pins s σ H D I h;exact wpAny_Expr_any (thn (he pins s σ H _ I h) fun v s1⟨x,H1,I1,r1,q1⟩=>⟨σ,H1,I1,q1⟩) I.quiet hs
def tRet(te:TE):TS:=fun D σ H=>te σ H D.rt
theorem zaq(he:PE X e te):PS X (.Return (some e) pos) (tRet te):=by
 intro pins s σ H D I h;exact wpAny_Return_some (thn (he pins s σ H _ I h) fun v s1⟨x,H1,I1,r1,q1⟩=>⟨x,σ,H1,I1,r1,q1⟩)
def tRetN:TS:=fun D _ H=>D.rt .non H
def tIfS(c:TT)(t u:TS):TS:=fun D σ H=>c σ H fun b H1=>if b=true then t D σ H1 else u D σ H1
theorem ze6{c:Expr}{a b:List Stmt}{tc:TT}(hc:PT X c tc)(ha:PSs X a t)(hb:PSs X b u):PS X (.If c a b pos) (tIfS tc t u):=by
 intro pins s σ H D I h;refine wpAny_If (thn (hc pins s σ H _ I h) fun d s1⟨H1,I1,q1⟩=>?_)
 cases d with
 |true=>exact ha pins s1 σ H1 D I1 q1
 |false=>exact hb pins s1 σ H1 D I1 q1
def tNever:TS:=fun _ _ _=>False
theorem zfi:PS X st tNever:=fun _ _ _ _ _ _ h=>h.elim
end
abbrev TG:=V->St->Hp->(St->Hp->Prop)->Prop
abbrev TGs:=List V->St->Hp->(St->Hp->Prop)->Prop
def PG(X:Cx)(target:Expr)(t:TG):Prop:=
 ∀(pins:List (Addr×Obj))(s:Shared)(σ:St)(H:Hp)(v:V)(u:Value)(Q:St->Hp->Prop),Inv X pins σ H s->RelV v u->t v σ H Q->
  wpAny (model X.prog X.w) X.A (assign target X.env u) (fun _ s'=>∃σ' H',Inv X pins σ' H' s'/\Q σ' H') X.xe s
def PGs(X:Cx)(ts:List Expr)(t:TGs):Prop:=
 ∀(pins:List (Addr×Obj))(s:Shared)(σ:St)(H:Hp)(vs:List V)(us:List Value)(Q:St->Hp->Prop),Inv X pins σ H s->Vals vs us->t vs σ H Q->
  wpAny (model X.prog X.w) X.A (assignInOrder ((assignEach ts X.env).map (·.2)) us) (fun _ s'=>∃σ' H',Inv X pins σ' H' s'/\Q σ' H') X.xe s
section
variable{X:Cx}{pos:Pos}
def gName(i:Nat):TG:=fun v σ H Q=>Q (σ.set i (some v)) H
theorem zbz{i:Nat}{x:Str}(hN:X.N.Nodup)(hi:X.N[i]?=some x)(hx:Loc X.env.scope x)(hf:X.fn x=true∨X.env.scope.names.lookup x=some .local:=by first|exact .inl rfl|exact .inr rfl|assumption):PG X (.Name x pos) (gName i):=by
 intro pins s σ H v u Q I r h;exact wpAny_assign_Name (zem I hN hi hx r (fun s' I'=>⟨_,H,I',h⟩) hf)
def gNil:TGs:=fun vs σ H Q=>vs=[]/\Q σ H
def gCons(t:TG)(u:TGs):TGs:=fun vs σ H Q=>∃v r,vs=v::r/\t v σ H fun σ' H'=>u r σ' H' Q
theorem zfu:PGs X [] gNil:=by
 intro pins s σ H vs us Q I r h;obtain⟨e,h⟩:=h;subst e
 cases r;exact assignInOrder_nil ⟨σ,H,I,h⟩
theorem zeg{e:Expr}{es:List Expr}{t:TG}{u:TGs}(h1:PG X e t)(h2:PGs X es u)
  (hs:(assignEach (e::es) X.env).map (·.2)=assign e X.env::(assignEach es X.env).map (·.2):=by rfl):PGs X (e::es) (gCons t u):=by
 intro pins s σ H vs us Q I r h;obtain⟨v,vr,e1,h⟩:=h;subst e1
 cases r with
 |cons r rr=>
  rw[hs];refine assignInOrder_cons (thn (h1 pins s σ H _ _ _ I r h) fun _ s1⟨σ1,H1,I1,q1⟩=>?_);exact h2 pins s1 σ1 H1 _ _ Q I1 rr q1
def gTup(K:PySem.W.Frag)(n:Nat)(t:TGs):TG:=fun v σ H Q=>∃a xs,v=.ref a/\SqT K H a xs/\xs.length=n/\t xs σ H Q
theorem pg_tup{es:List Expr}{k:Nat}{t:TGs}{n:Nat}(hc:X.calm=true)(h:PGs X es t)
  (hn:(assignEach es X.env).length=n:=by rfl)(hst:(assignEach es X.env).findIdx? (·.1)=none:=by rfl):PG X (.Tuple es k pos) (gTup X.K n t):=by
 intro pins s σ H v u Q I r hw;obtain⟨a,xs,e1,hq,hl,hw⟩:=hw;subst e1
 cases r;obtain⟨its,rv,ht,hz⟩:=I.tuple hq;refine assign_Tuple_tuple (I.ok.hd hc) ht (by simp[hn,←hl,rv.length]) hst fun h' hx=>?_
 have I1:Inv X pins σ H {s with heap:=h'}:=I.kept (t':=s.toks) fun b o e=>hx b o (Nat.ne_of_lt (Heap.lt_size e)) e;exact h pins _ σ H xs _ Q I1 (by simpa using rv) hw
def tAsg(te:TE)(g:TG):TS:=fun D σ H=>te σ H fun x H1=>g x σ H1 D.nx
theorem zbu{i:Nat}{x:Str}{e:Expr}{te:TE}{pos':Pos}(hN:X.N.Nodup)(hi:X.N[i]?=some x)(hx:Loc X.env.scope x)(he:PE X e te)(hs:swapsWith e (some (.Name x pos')) pos.line X.env=pure false:=by rfl)(hf:X.fn x=true∨X.env.scope.names.lookup x=some .local:=by first|exact .inl rfl|exact .inr rfl|assumption):
  PS X (.Assign [.Name x pos'] e pos) (tAsg te (gName i)):=by
 intro pins s σ H D I h;refine wpAny_Assign_Name (thn (he pins s σ H _ I h) fun v s1⟨y,H1,I1,r1,q1⟩=>?_) hs;exact zem I1 hN hi hx r1 (fun s2 I2=>⟨_,H1,I2,q1⟩) hf
def tPar(i j:Nat)(ta:TA):TS:=fun D σ H=>ta σ H fun vs H1=>∃v w,vs=[v,w]/\D.nx ((σ.set i (some v)).set j (some w)) H1
theorem ps_par{i j:Nat}{x y:Str}{a b:Expr}{ta:TA}{px py pt:Pos}{kt k2 pt2}(hc:X.calm=true)(hN:X.N.Nodup)(hi:X.N[i]?=some x)(hj:X.N[j]?=some y)(hij:i≠j)
  (hx:X.env.scope.names.lookup x=some .local)(hy:X.env.scope.names.lookup y=some .local)(ha:PA X [a,b] ta)
  (hw:swappedStores [.Tuple [.Name x px,.Name y py] kt pt] (.Tuple [a,b] k2 pt2) X.env=pure (some [x,y]))
  (hs:swapsWithSole [.Tuple [.Name x px,.Name y py] kt pt] (.Tuple [a,b] k2 pt2) pos.line X.env=pure false:=by rfl):
  PS X (.Assign [.Tuple [.Name x px,.Name y py] kt pt] (.Tuple [a,b] k2 pt2) pos) (tPar i j ta):=by
 intro pins s σ H D I h;rw[exec_Assign_arm];refine wpAny_bind (wpAny_standAt ?_);rw[hs];refine wpAny_bind (wpAny_pure ?_);rw[if_neg (by decide)]
 refine wpAny_bind (Tuple_ (thn (ha _ pins s σ H _ I h) fun us s1⟨vs,H1,I1,r1,q1⟩=>?_));obtain⟨v,w,e1,q1⟩:=q1;subst e1;obtain⟨u1,u2,rfl,rv,rw'⟩:∃u1 u2,us=[u1,u2]/\RelV v u1/\RelV w u2:=by
  cases r1 with
  |cons p q=>
   cases q with
   |cons p' q'=>
    cases q';exact⟨_,_,rfl,p,p'⟩
 refine wpAny_newObj_type ?_ (by show 2<=sizeLine;decide)
 have I2:Inv X pins σ H1 {s1 with heap:=s1.heap.push {cls:=.type "tuple",data:=.seq [u1,u2].toArray}}:=I1.kept (t':=s1.toks) fun b o e=>Heap.get?_push_of_some _ e;rw[hw];refine wpAny_bind (wpAny_pure ?_)
 show wpAny (model X.prog X.w) X.A (do rule "assign.swapped-stores";let items ←unpackItems (.ref s1.heap.objs.size) 2 none;assignInOrder [fun v=>bindName X.env y v,fun v=>bindName X.env x v] items.reverse;pure Flow.next) _ _ _
 refine wpAny_bind (wpAny_rule (wpAny_bind (unpackItems_tuple (items:=#[u1,u2]) (I.ok.hd hc) (IsTup.new s1.heap _) fun h' hx'=>?_)));have I3:=I2.kept (h':=h') (t':=s1.toks) fun b o e=>hx' b o (Nat.ne_of_lt (Heap.lt_size e)) e
 show wpAny _ _ (assignInOrder [fun v=>bindName X.env y v,fun v=>bindName X.env x v] [u2,u1]>>=fun _=>pure Flow.next) _ _ _
 refine wpAny_bind (assignInOrder_cons (wpAny_bindName (zem I3 hN hj (.inl hy) rw' (fun s2 I4=>?_) (.inr hy))));refine assignInOrder_cons (wpAny_bindName (zem I4 hN hi (.inl hx) rv (fun s3 I5=>assignInOrder_nil (wpAny_pure ?_)) (.inr hx)));rw[List.set_comm _ _ (Ne.symm hij)] at I5;exact⟨_,H1,I5,q1⟩
end
section
variable{X:Cx}{pos:Pos}
def zmz(c:TT)(tb:TS):TS:=fun D σ H=>∃W:Nat->St->Hp->Prop,(∃m,W m σ H)/\∀m σ H,W m σ H->
 c σ H fun b H1=>if b=true then ∃N:St->Hp->Prop,(∀σ' H',N σ' H'->∃m',m'<m/\W m' σ' H')/\tb {D with nx:=N,ct:=N,bk:=D.nx} σ H1 else D.nx σ H1
theorem zh1{c:Expr}{body:List Stmt}{tc:TT}{tb:TS}(hp:PassesOwn (model X.prog X.w) X.A X.env X.xe)(hc:PT X c tc)(hb:PSs X body tb):PS X (.While c body [] pos) (zmz tc tb):=by
 intro pins s σ H D I h;obtain⟨W,⟨m0,w0⟩,turn⟩:=h;refine wpAny_While (codeAny_whileLoop (fun n s'=>∃σ' H',Inv X pins σ' H' s'/\W n σ' H') ?_ m0 ⟨σ,H,I,w0⟩);rintro n s1 ⟨σ1,H1,I1,w1⟩;refine wpAny_passesOwn hp (thn (hc pins s1 σ1 H1 _ I1 (turn n σ1 H1 w1)) fun b s2⟨H2,I2,q2⟩=>?_)
 cases b with
 |true=>
  obtain⟨N,hN,q2⟩:=q2;rw[if_pos rfl];refine wpAny_passesOwn hp (thn (hb pins s2 σ1 H2 _ I2 q2) fun f s3 q3=>?_)
  cases f with
  |next=>
   obtain⟨σ3,H3,I3,n3⟩:=q3;obtain⟨m',hm,w3⟩:=hN σ3 H3 n3;exact⟨m',hm,σ3,H3,I3,w3⟩
  |cont=>
   obtain⟨σ3,H3,I3,n3⟩:=q3;obtain⟨m',hm,w3⟩:=hN σ3 H3 n3;exact⟨m',hm,σ3,H3,I3,w3⟩
  |brk=>exact q3
  |ret v=>exact q3
 |false=>
  rw[if_neg Bool.false_ne_true];exact wpAny_execs_nil ⟨σ1,H2,I2,q2⟩
end
structure It where
 go:Nat->Hp->Prop
 yld:Nat->Hp->V->Hp->Prop
 stop:Nat->Hp->Prop
def FpOk(X:Cx)(pins:List (Addr×Obj))(H:Hp)(b:Addr):Prop:=
 H b=none/\b≠X.env.locals/\b∉X.fs/\(b∈X.ex∨X.s₀.heap.objs.size<=b)/\(∀x c,X.env.cells.lookup x=some c->c≠b)/\∀p∈X.pn++pins,p.1≠b
theorem Inv.fpOk{X:Cx}{pins:List (Addr×Obj)}{σ:St}{H H':Hp}{s:Shared}{b:Addr}(I:Inv X pins σ H s)(hb:s.heap.objs.size<=b)(hn:H' b=none):FpOk X pins H' b:=by
 refine⟨hn,Nat.ne_of_gt (Nat.lt_of_lt_of_le I.lt hb),I.nofs hb,.inr (Nat.le_trans I.sz hb),fun x c e z=>?_,fun p hp z=>?_⟩
 ·obtain⟨v,q⟩:=I.cell x c e;exact absurd (Nat.lt_of_lt_of_le q.lt (by rw[z];exact hb)) (Nat.lt_irrefl _)
 ·exact absurd (Nat.lt_of_lt_of_le (Heap.lt_size (I.pin p hp).1) (by rw[z];exact hb)) (Nat.lt_irrefl _)
structure Turn(P:Program)(w:World)(K:PySem.W.Frag)(tg:Expr)(J:It)(fp:List Addr)(it:Addr)(tn:Nat->Heap->Prop):Prop where
 mem:it∈fp
 obj:∀i h,tn i h->∀b∈fp,∃o,h.get? b=some o/\∀v,o.data≠.cell v
 keep:∀i h h',tn i h->(∀b∈fp,∀o,h.get? b=some o->h'.get? b=some o)->tn i h'
 item:∀(X:Cx),X.prog=P->X.w=w->X.K=K->X.calm=true->∀(i:Nat)(pins:List (Addr×Obj))(s:Shared)(σ:St)(H:Hp)(E:Value->Shared->Prop),Inv X pins σ H s->(∀b∈fp,FpOk X pins H b)->tn i s.heap->J.go i H->
  wpAny (model P w) X.A (pyNext (.ref it)) (fun r s1=>∃u,r=some u/\
   wpAny (model P w) X.A (letOwnedTupleGo tg (.ref it) u) (fun _ s2=>∃x H',Inv X pins σ H' s2/\RelV x u/\J.yld i H x H'/\tn (i+1) s2.heap/\∀b∈fp,H' b=none) E s1) E s
 done:∀(X:Cx),X.prog=P->X.w=w->X.K=K->X.calm=true->∀(i:Nat)(pins:List (Addr×Obj))(s:Shared)(σ:St)(H:Hp)(E:Value->Shared->Prop),Inv X pins σ H s->(∀b∈fp,FpOk X pins H b)->tn i s.heap->J.stop i H->
  wpAny (model P w) X.A (pyNext (.ref it)) (fun r s1=>r=none/\Inv X pins σ H s1) E s
 self:∀(A:Around)(i:Nat)(s:Shared)(Q:Value->Shared->Prop)(E:Value->Shared->Prop),tn i s.heap->Q (.ref it) s->wpAny (model P w) A (pyIter (.ref it)) Q E s
abbrev TI:=St->Hp->(It->Hp->Prop)->Prop
def PIE(X:Cx)(pins:List (Addr×Obj))(σ:St)(tg:Expr)(R:It->Hp->Prop)(itv:Value)(s2:Shared):Prop:=
 ∃(it:Addr)(fp:List Addr)(tn:Nat->Heap->Prop)(J:It)(H':Hp),itv=.ref it/\Inv X pins σ H' s2/\Turn X.prog X.w X.K tg J fp it tn/\tn 0 s2.heap/\(∀b∈fp,FpOk X pins H' b)/\R J H'
def PI(X:Cx)(tg iter:Expr)(wi:TI):Prop:=
 ∀(pins:List (Addr×Obj))(s:Shared)(σ:St)(H:Hp)(R:It->Hp->Prop),Inv X pins σ H s->wi σ H R->
  wpAny (model X.prog X.w) X.A (eval iter X.env) (fun v s1=>wpAny (model X.prog X.w) X.A (pyIter v) (PIE X pins σ tg R) X.xe s1) X.xe s
theorem go_of{M:Model}{A:Around}{E:Value->Shared->Prop}{s:Shared}{tg:Expr}{it:Addr}{u:Value}{o:Obj}{n:String}{vs:Array Value}{Q:Unit->Shared->Prop}(ho:s.heap.get? it=some o)(hc:o.cls=.type n)(hd:o.data=.fields vs)
  (hn:["enumerate","zip","dict_itemiterator","dict_reverseitemiterator","odict_iterator","itertools.zip_longest","itertools.pairwise"].contains n=false)(hQ:Q () s):wpAny M A (letOwnedTupleGo tg (.ref it) u) Q E s:=by
 unfold letOwnedTupleGo
 cases tg<;>first
  |exact wpAny_pure hQ
  |(cases u<;>first
    |exact wpAny_pure hQ
    |(refine wpAny_bind (wpAny_load ho ?_)
      rw[hc,hd];show wpAny M A (if(["enumerate","zip","dict_itemiterator","dict_reverseitemiterator","odict_iterator","itertools.zip_longest","itertools.pairwise"].contains n&&vs[0]?==some (rawInt _))=true then _ else _) Q E s;rw[if_neg (by intro h;rw[hn,Bool.false_and] at h;cases h)]
      exact wpAny_pure hQ))
def Itl(K:PySem.W.Frag)(a:Addr):It:=
 ⟨fun i H=>∃xs x,SqL K H a xs/\xs[i]?=some x,fun i H x H'=>H'=H/\∀xs,SqL K H a xs->xs[i]?=some x,fun i H=>∃xs,SqL K H a xs/\xs.length<=i⟩
def Itr(lo:Int)(n:Nat):It:=⟨fun i _=>i<n,fun i H x H'=>H'=H/\x=.int (lo+i),fun i _=>n<=i⟩
theorem zo0{P:Program}{w:World}{K:PySem.W.Frag}{tg:Expr}(a it:Addr):Turn P w K tg (Itl K a) [it] it (fun i h=>h.IsListIter it a i) where
 mem:=by simp
 obj:=fun i h st b hb=>by
  have e:b=it:=by simpa using hb
  subst e;obtain⟨o,e,c,d⟩:=st;exact⟨o,e,fun v z=>by rw[d] at z;cases z⟩
 keep:=fun i h h' st k=>st.at fun o e=>k it (by simp) o e
 item:=by
  intro X hP hw hK hc i pins s σ H E I hf st hg;subst hP hw hK;obtain⟨xs,x,hq,hx⟩:=hg;obtain⟨its,rv,p,hz⟩:=I.list hq;obtain⟨u,hu,ru⟩:=rv.get hx;obtain⟨f0,f1,f2,f3,f4,f5⟩:=hf it (by simp)
  refine wpAny_pyNext_list_item st p.isList (x:=u) (by simpa using hu) fun h' st' sb=>?_
  have I1:Inv X pins σ H {s with heap:=h'}:=I.turned (t':=s.toks) (fun b o hb e=>(sb.2 b hb).trans e) f0 f1 f3 f4 f5;obtain⟨o,e,c,d⟩:=id st';exact⟨u,rfl,go_of (s:={s with heap:=h'}) e c d (by decide) ⟨x,H,I1,ru,⟨rfl,fun ys hy=>by rw[I.list_inj hy hq];exact hx⟩,st',fun b hb=>(hf b hb).1⟩⟩
 done:=by
  intro X hP hw hK hc i pins s σ H E I hf st hg;subst hP hw hK;obtain⟨xs,hq,hx⟩:=hg;obtain⟨its,rv,p,hz⟩:=I.list hq;obtain⟨f0,f1,f2,f3,f4,f5⟩:=hf it (by simp)
  have hl:=rv.length;exact wpAny_pyNext_list_end (I.ok.hd hc) st p.isList (by simp;omega) fun h' eb=>⟨rfl,I.turned (t':=s.toks) (fun b o hb e=>eb b o hb e) f0 f1 f3 f4 f5⟩
 self:=fun _ _ _ _ _ st h=>wpAny_pyIter_listiter st h
theorem zko{P:Program}{w:World}{K:PySem.W.Frag}{tg:Expr}(it:Addr)(lo:Int)(n:Nat):Turn P w K tg (Itr lo n) [it] it (fun i h=>IsRangeIter h it (lo+(i:Nat)*1) ((n:Int)-(i:Nat)) 1) where
 mem:=by simp
 obj:=fun i h st b hb=>by
  have e:b=it:=by simpa using hb
  subst e;exact⟨_,st,fun v z=>by
   have z':Data.fields _=Data.cell v:=z
   cases z'⟩
 keep:=fun i h h' st k=>k it (by simp) _ st
 item:=by
  intro X hP hw hK hc i pins s σ H E I hf st hg;subst hP hw hK;obtain⟨f0,f1,f2,f3,f4,f5⟩:=hf it (by simp)
  have W:=Walks.range (prog:=X.prog) (w:=X.w) (I.ok.hd hc) it lo 1 n;refine W.item i s _ _ hg st fun v h' tk hv st' kk=>?_;obtain⟨t,rfl⟩:=hv;have I1:Inv X pins σ H {s with heap:=h',toks:=tk}:=I.turned (fun b o hb e=>kk b o (by simpa using hb) e) f0 f1 f3 f4 f5
  refine⟨_,rfl,go_of (s:={s with heap:=h',toks:=tk}) (n:="range_iterator") st' rfl rfl (by decide) ⟨.int (lo+i),H,I1,⟨t,?_⟩,⟨rfl,rfl⟩,st',fun b hb=>(hf b hb).1⟩⟩
  rw[Int.mul_one]
 done:=by
  intro X hP hw hK hc i pins s σ H E I hf st hg;subst hP hw hK;obtain⟨f0,f1,f2,f3,f4,f5⟩:=hf it (by simp)
  exact wpAny_pyNext_range_end (I.ok.hd hc) st (by have:n<=i:=hg;omega) fun h' eb=>⟨rfl,I.turned (t':=s.toks) (fun b o hb e=>eb b o hb e) f0 f1 f3 f4 f5⟩
 self:=fun _ _ _ _ _ st h=>wpAny_pyIter_rangeiter st h
section
variable{X:Cx}{tg:Expr}
def zd1(K:PySem.W.Frag)(tl:TE):TI:=fun σ H R=>tl σ H fun x H1=>∃a,x=.ref a/\(∃xs,SqL K H1 a xs)/\R (Itl K a) H1
theorem zc4{l:Expr}{tl:TE}(hl:PE X l tl):PI X tg l (zd1 X.K tl):=by
 intro pins s σ H R I h;refine thn (hl pins s σ H _ I h) fun v s1⟨x,H1,I1,r1,q1⟩=>?_;obtain⟨a,e,⟨xs,hq⟩,q⟩:=q1;subst e
 cases r1;obtain⟨its,rv,p,hz⟩:=I1.list hq;refine wpAny_pyIter_list p.isList ?_;refine⟨s1.heap.objs.size,[s1.heap.objs.size],_,_,H1,rfl,I1.kept (t':=s1.toks) fun b o e=>Heap.get?_push_of_some _ e,zo0 a _,⟨_,Heap.get?_push_size _ rfl,rfl,rfl⟩,fun b hb=>?_,q⟩;have e:b=s1.heap.objs.size:=by simpa using hb
 subst e;exact I1.fpOk (Nat.le_refl _) (I1.hok.fresh (Nat.le_refl _))
theorem range_it{pins:List (Addr×Obj)}{σ:St}{H:Hp}{s:Shared}{R:It->Hp->Prop}{E:Value->Shared->Prop}{lo hi:Int}{t u v:Tok}{tk:Nat}(I:Inv X pins σ H s)(h1: -(2^62)<=lo)(h2:lo<2^62)(h3: -(2^62)<=hi)(h4:hi<2^62)
  (q:R (Itr lo (hi-lo).toNat) H):wpAny (model X.prog X.w) X.A (pyIter (.ref s.heap.objs.size)) (PIE X pins σ tg R) E {s with heap:=s.heap.push {cls:=.type "range",data:=.fields #[.int lo t,.int hi u,.int 1 v]},toks:=tk}:=by
 refine wpAny_pyIter_range (IsRange.new ..) (small_one h1 h2 h3 h4) ?_;have I1:Inv X pins σ H {s with heap:=s.heap.push {cls:=.type "range",data:=.fields #[.int lo t,.int hi u,.int 1 v]},toks:=tk}:=I.kept fun b o e=>Heap.get?_push_of_some _ e;refine⟨(s.heap.push {cls:=.type "range",data:=.fields #[.int lo t,.int hi u,.int 1 v]}).objs.size,[(s.heap.push {cls:=.type "range",data:=.fields #[.int lo t,.int hi u,.int 1 v]}).objs.size],_,_,H,rfl,
  I1.kept (t':=tk) fun b o e=>Heap.get?_push_of_some _ e,zko _ lo (hi-lo).toNat,?_,fun b hb=>?_,q⟩
 ·have e1:lo+((0:Nat):Int)*1=lo:=by simp
  have e2:(((hi-lo).toNat:Nat):Int)-((0:Nat):Int)=Builtin.Range.rangeSize lo hi 1:=by rw[rangeSize_one];split<;>omega
  show IsRangeIter _ _ (lo+((0:Nat):Int)*1) ((((hi-lo).toNat:Nat):Int)-((0:Nat):Int)) 1
  rw[e1,e2];exact Heap.get?_push_size _ rfl
 ·have e:b=(s.heap.push {cls:=.type "range",data:=.fields #[.int lo t,.int hi u,.int 1 v]}).objs.size:=by simpa using hb
  subst e;exact I1.fpOk (Nat.le_refl _) (I1.hok.fresh (Nat.le_refl _))
def zkd(ta:TA):TI:=fun σ H R=>ta σ H fun vs H1=>∃j:Int,vs=[.int j]/\ -(2^62)<=j/\j<2^62/\R (Itr 0 j.toNat) H1
theorem zef{a:Expr}{ta:TA}{p pos:Pos}(hg:Gl X "range")(hm:X.mg "range"=none)(ha:PA X [a] ta)(hs:starEach [a] X.env=[(false,eval a X.env)]:=by rfl):PI X tg (.Call (.Name "range" p) [a] [] pos) (zkd ta):=by
 intro pins s σ H R I h;refine Call_ (zf8 I hg hm boot_range (PyProof.Rows.callWith_type1 (thn (ha pos pins s σ H _ I h) fun us s1⟨vs,H1,I1,r1,q1⟩=>?_) hs rfl));obtain⟨j,e,q1,q2,q⟩:=q1;subst e
 cases r1 with
 |cons r rr=>
  cases rr;obtain⟨t,rfl⟩:=r;exact call_range_1 (range_it I1 (by omega) (by omega) q1 q2 (by simpa using q))
def tFor(wi:TI)(g:TG)(tb:TS):TS:=fun D σ H=>wi σ H fun J H1=>∃W:Nat->Nat->St->Hp->Prop,(∃m,W 0 m σ H1)/\∀i m σ H,W i m σ H->
 (J.stop i H/\D.nx σ H)∨(J.go i H/\∃N:St->Hp->Prop,(∀σ' H',N σ' H'->∃m',m'<m/\W (i+1) m' σ' H')/\∀x H',J.yld i H x H'->g x σ H' fun σ2 H2=>tb {D with nx:=N,ct:=N,bk:=D.nx} σ2 H2)
def zi0(fp:List Addr)(h:Heap):List (Addr×Obj):=fp.filterMap fun b=>(h.get? b).map fun o=>(b,o)
theorem zds{fp:List Addr}{h:Heap}{b:Addr}{o:Obj}(hb:b∈fp)(e:h.get? b=some o):(b,o)∈zi0 fp h:=List.mem_filterMap.mpr ⟨b,hb,by rw[e];rfl⟩
theorem zn0{fp:List Addr}{h:Heap}{p:Addr×Obj}(hp:p∈zi0 fp h):p.1∈fp/\h.get? p.1=some p.2:=by
 obtain⟨b,hb,e⟩:=List.mem_filterMap.mp hp
 cases q:h.get? b with
 |none=>rw[q] at e;cases e
 |some o=>
  rw[q] at e;have e':(b,o)=p:=Option.some.inj e;subst e';exact⟨hb,q⟩
theorem Inv.pinned{pins:List (Addr×Obj)}{σ:St}{H:Hp}{s:Shared}{fp:List Addr}(I:Inv X pins σ H s)(hf:∀b∈fp,FpOk X pins H b)(ho:∀b∈fp,∃o,s.heap.get? b=some o/\∀v,o.data≠.cell v):Inv X (pins++zi0 fp s.heap) σ H s:=
 I.pins_of fun p hp=>(List.mem_append.mp hp).elim (fun z=>I.pin p (List.mem_append_right _ z)) fun z=>by
  obtain⟨hb,e⟩:=zn0 z;obtain⟨f0,f1,f2,_⟩:=hf p.1 hb;obtain⟨o,e',d⟩:=ho p.1 hb;rw[e] at e';cases e';exact⟨e,f0,f1,f2,d⟩
theorem Inv.unpinned{pins pl:List (Addr×Obj)}{σ:St}{H:Hp}{s:Shared}(I:Inv X (pins++pl) σ H s):Inv X pins σ H s:=I.pins_of fun p hp=>I.pin p (List.mem_append_right _ (List.mem_append_left _ hp))
theorem zde{iter:Expr}{body:List Stmt}{wi:TI}{g:TG}{tb:TS}{pos:Pos}(hp:PassesOwn (model X.prog X.w) X.A X.env X.xe)(hc:X.calm=true)(hi:PI X tg iter wi)(hg:PG X tg g)(hb:PSs X body tb)
  (hs:∀x,foldedSetIterable iter X.env x=pure x:=by intro _;rfl):PS X (.For tg iter body [] pos) (tFor wi g tb):=by
 intro pins s σ H D I h;refine wpAny_For (thn (hi pins s σ H _ I h) fun v s1 h1=>thn h1 fun itv s2 h2=>?_) hs;obtain⟨it,fp,tn,J,H2,e,I2,T,st2,f2,W,⟨m0,w0⟩,turn⟩:=h2;subst e;have stat:∀{H':Hp},(∀b∈fp,H' b=none)->∀b∈fp,FpOk X pins H' b:=fun hn b hb=>⟨hn b hb,(f2 b hb).2⟩;refine codeAny_forLoop_any (fun n s'=>∃i σ' H',Inv X pins σ' H' s'/\tn i s'.heap/\(∀b∈fp,H' b=none)/\W i n σ' H') ?_ m0 ⟨0,σ,H2,I2,st2,fun b hb=>(f2 b hb).1,w0⟩;rintro n s3 ⟨i,σ3,H3,I3,st3,fr3,w3⟩;rcases turn i n σ3 H3 w3 with⟨stop,qn⟩|⟨go,N,hN,step⟩
 ·refine wpAny_passesOwn hp (thn (T.done X rfl rfl rfl hc i pins s3 σ3 H3 X.xe I3 (stat fr3) st3 stop) fun r s4⟨hr,I4⟩=>?_);subst hr;exact wpAny_execs_nil ⟨σ3,H3,I4,qn⟩
 ·refine wpAny_passesOwn hp (thn (T.item X rfl rfl rfl hc i pins s3 σ3 H3 X.xe I3 (stat fr3) st3 go) fun r s4⟨u,hr,h4⟩=>?_);subst hr;refine wpAny_passesOwn hp (thn h4 fun _ s5⟨x,H5,I5,r5,y5,st5,fr5⟩=>?_);have I5':=I5.pinned (stat fr5) (T.obj _ _ st5);refine wpAny_passesOwn hp (thn (hg _ s5 σ3 H5 x u _ I5' r5 (step x H5 y5)) fun _ s6⟨σ6,H6,I6,q6⟩=>?_);refine wpAny_passesOwn hp (thn (hb _ s6 σ6 H6 _ I6 q6) fun f s7 q7=>?_);have again:∀{σ7:St}{H7:Hp},Inv X (pins++zi0 fp s5.heap) σ7 H7 s7->N σ7 H7->∃m,m<n/\∃i σ' H',Inv X pins σ' H' s7/\tn i s7.heap/\(∀b∈fp,H' b=none)/\W i m σ' H':=fun{σ7 H7} I7 n7=>by
   obtain⟨m',hm,w7⟩:=hN σ7 H7 n7;refine⟨m',hm,i+1,σ7,H7,I7.unpinned,T.keep _ _ _ st5 fun b hb o e=>(I7.pin (b,o) (List.mem_append_right _ (List.mem_append_right _ (zds hb e)))).1,fun b hb=>?_,w7⟩;obtain⟨o,e,d⟩:=T.obj _ _ st5 b hb;exact(I7.pin (b,o) (List.mem_append_right _ (List.mem_append_right _ (zds hb e)))).2.1
  cases f with
  |next=>obtain⟨σ7,H7,I7,n7⟩:=q7;exact again I7 n7
  |cont=>obtain⟨σ7,H7,I7,n7⟩:=q7;exact again I7 n7
  |brk=>obtain⟨σ7,H7,I7,q7⟩:=q7;exact⟨σ7,H7,I7.unpinned,q7⟩
  |ret v=>obtain⟨x7,σ7,H7,I7,r7,q7⟩:=q7;exact⟨x7,σ7,H7,I7.unpinned,r7,q7⟩
end
theorem for_list{K:PySem.W.Frag}{a:Addr}{xs:List V}{g:TG}{tb:TS}{D:Ends}{σ:St}{H:Hp}(Pv:Nat->St->Hp->Prop)(h0:Pv 0 σ H)(hl:∀i σ H,i<=xs.length->Pv i σ H->SqL K H a xs)
  (hs:∀i x σ H,xs[i]?=some x->Pv i σ H->g x σ H fun σ2 H2=>tb {D with nx:=Pv (i+1),ct:=Pv (i+1),bk:=D.nx} σ2 H2)(hd:∀σ H,Pv xs.length σ H->D.nx σ H):
  ∃W:Nat->Nat->St->Hp->Prop,(∃m,W 0 m σ H)/\∀i m σ H,W i m σ H->
   ((Itl K a).stop i H/\D.nx σ H)∨((Itl K a).go i H/\∃N:St->Hp->Prop,(∀σ' H',N σ' H'->∃m',m'<m/\W (i+1) m' σ' H')/\∀x H',(Itl K a).yld i H x H'->g x σ H' fun σ2 H2=>tb {D with nx:=N,ct:=N,bk:=D.nx} σ2 H2):=by
 refine⟨fun i m σ H=>m=xs.length-i/\i<=xs.length/\Pv i σ H,⟨xs.length,by simp,Nat.zero_le _,h0⟩,?_⟩
 rintro i m σ H ⟨rfl,hi,p⟩;have q:=hl i σ H hi p
 by_cases hlt:i<xs.length
 ·refine .inr ⟨⟨xs,xs[i],q,by simp[hlt]⟩,Pv (i+1),fun σ' H' p'=>⟨xs.length-(i+1),by omega,rfl,hlt,p'⟩,fun x H' y=>?_⟩
  obtain⟨e,y⟩:=y;subst e;exact hs i x σ _ (y xs q) p
 ·have e:i=xs.length:=by omega
  subst e;exact .inl ⟨⟨xs,q,Nat.le_refl _⟩,hd σ H p⟩
theorem zlb{lo:Int}{n:Nat}{g:TG}{tb:TS}{D:Ends}{σ:St}{H:Hp}(Pv:Nat->St->Hp->Prop)(h0:Pv 0 σ H)
  (hs:∀i σ H,i<n->Pv i σ H->g (.int (lo+i)) σ H fun σ2 H2=>tb {D with nx:=Pv (i+1),ct:=Pv (i+1),bk:=D.nx} σ2 H2)(hd:∀σ H,Pv n σ H->D.nx σ H):
  ∃W:Nat->Nat->St->Hp->Prop,(∃m,W 0 m σ H)/\∀i m σ H,W i m σ H->
   ((Itr lo n).stop i H/\D.nx σ H)∨((Itr lo n).go i H/\∃N:St->Hp->Prop,(∀σ' H',N σ' H'->∃m',m'<m/\W (i+1) m' σ' H')/\∀x H',(Itr lo n).yld i H x H'->g x σ H' fun σ2 H2=>tb {D with nx:=N,ct:=N,bk:=D.nx} σ2 H2):=by
 refine⟨fun i m σ H=>m=n-i/\i<=n/\Pv i σ H,⟨n,by simp,Nat.zero_le _,h0⟩,?_⟩
 rintro i m σ H ⟨rfl,hi,p⟩
 by_cases hlt:i<n
 ·refine .inr ⟨hlt,Pv (i+1),fun σ' H' p'=>⟨n-(i+1),by omega,rfl,hlt,p'⟩,fun x H' y=>?_⟩
  obtain⟨e,y⟩:=y;subst e y;exact hs i σ _ hlt p
 ·have e:i=n:=by omega
  subst e;exact .inl ⟨Nat.le_refl _,hd σ H p⟩
theorem zjo{c:TT}{tb:TS}{D:Ends}{σ:St}{H:Hp}(Pv:St->Hp->Prop)(μ:St->Hp->Nat)(h0:Pv σ H)
  (hs:∀σ H,Pv σ H->c σ H fun b H1=>if b=true then tb {D with nx:=fun σ' H'=>Pv σ' H'/\μ σ' H'<μ σ H,ct:=fun σ' H'=>Pv σ' H'/\μ σ' H'<μ σ H,bk:=D.nx} σ H1 else D.nx σ H1)
  (mono:∀σ H Q Q',(∀b H1,Q b H1->Q' b H1)->c σ H Q->c σ H Q'):zmz c tb D σ H:=by
 refine⟨fun m σ H=>m=μ σ H/\Pv σ H,⟨_,rfl,h0⟩,?_⟩;rintro m σ H ⟨rfl,p⟩;refine mono σ H _ _ (fun b H1 q=>?_) (hs σ H p)
 cases b with
 |true=>exact⟨_,fun σ' H'⟨p',l⟩=>⟨_,l,rfl,p'⟩,q⟩
 |false=>exact q
abbrev R2:=V->V->Hp->VK->Prop
def OpR(X:Cx)(f:Value->Value->Sem Value)(r:R2):Prop:=
 ∀(pins:List (Addr×Obj))(s:Shared)(σ:St)(H:Hp)(x y:V)(v u:Value)(Q:VK),Inv X pins σ H s->RelV x v->RelV y u->r x y H Q->
  wpAny (model X.prog X.w) X.A (f v u) (EP X pins σ Q) X.xe s
def UnR(X:Cx)(f:Value->Sem Value)(r:V->Hp->VK->Prop):Prop:=
 ∀(pins:List (Addr×Obj))(s:Shared)(σ:St)(H:Hp)(x:V)(v:Value)(Q:VK),Inv X pins σ H s->RelV x v->r x H Q->
  wpAny (model X.prog X.w) X.A (f v) (EP X pins σ Q) X.xe s
def zdg(X:Cx)(f:Value)(r:List V->Hp->VK->Prop):Prop:=
 ∀(pins:List (Addr×Obj))(s:Shared)(σ:St)(H:Hp)(xs:List V)(us:List Value)(Q:VK),Inv X pins σ H s->Vals xs us->r xs H Q->
  wpAny (model X.prog X.w) X.A (call f us) (EP X pins σ Q) X.xe s
def tOp(r:R2)(ta tb:TE):TE:=fun σ H Q=>ta σ H fun x H1=>tb σ H1 fun y H2=>r x y H2 Q
def tUn(r:V->Hp->VK->Prop)(ta:TE):TE:=fun σ H Q=>ta σ H fun x H1=>r x H1 Q
def rI(C:Int->Int->Prop)(g:Int->Int->V):R2:=fun x y H Q=>∃i j,x=.int i/\y=.int j/\C i j/\Q (g i j) H
def rI0(g:Int->Int->V):R2:=fun x y H Q=>∃i j,x=.int i/\y=.int j/\Q (g i j) H
def rU(g:Int->V):V->Hp->VK->Prop:=fun x H Q=>∃i,x=.int i/\Q (g i) H
section
variable{X:Cx}{a b c:Expr}{ta tb tc:TE}{pos:Pos}
theorem binT(ha:PE X a ta)(hb:PE X b tb){pins:List (Addr×Obj)}{s:Shared}{σ:St}{H:Hp}{R:V->V->Hp->Prop}(I:Inv X pins σ H s)
  (h:ta σ H fun x H1=>tb σ H1 fun y H2=>R x y H2){Q:Value->Shared->Prop}{f:Value->Value->Sem Value}
  (hf:∀v u s2 x y H2,Inv X pins σ H2 s2->RelV x v->RelV y u->R x y H2->wpAny (model X.prog X.w) X.A (f v u) Q X.xe s2):
  wpAny (model X.prog X.w) X.A (eval a X.env) (fun v s₁=>wpAny (model X.prog X.w) X.A (eval b X.env) (fun u s₂=>wpAny (model X.prog X.w) X.A (f v u) Q X.xe s₂) X.xe s₁) X.xe s:=by
 refine thn (ha pins s σ H _ I h) fun v s1⟨x,H1,I1,r1,q1⟩=>?_;refine thn (hb pins s1 σ H1 _ I1 q1) fun u s2⟨y,H2,I2,r2,q2⟩=>?_;exact hf v u s2 x y H2 I2 r1 r2 q2
theorem zd9{op:Operator}{r:R2}(ho:OpR X (binaryOp op) r)(ha:PE X a ta)(hb:PE X b tb):PE X (.BinOp a op b pos) (tOp r ta tb):=by
 intro pins s σ H Q I h;exact wpAny_BinOp (binT ha hb I h fun v u s2 x y H2 I2 rx ry q=>ho pins s2 σ H2 x y v u Q I2 rx ry q)
theorem pe_un{op:UnaryOp}{r:V->Hp->VK->Prop}(ho:UnR X (unaryOp op) r)(ha:PE X a ta):PE X (.UnaryOp op a pos) (tUn r ta):=by
 intro pins s σ H Q I h;exact UnaryOp_ (thn (ha pins s σ H _ I h) fun v s1⟨x,H1,I1,r1,q1⟩=>ho pins s1 σ H1 x v Q I1 r1 q1)
theorem opI{f:Value->Value->Sem Value}{C:Int->Int->Prop}{g:Int->Int->Int}
  (rule:∀(i j:Int)(t u:Tok)(s:Shared)(Q:Value->Shared->Prop)(E:Value->Shared->Prop),C i j->Q (.int (g i j) s.toks) {s with toks:=s.toks+1}->wpAny (model X.prog X.w) X.A (f (.int i t) (.int j u)) Q E s):
  OpR X f (rI C fun i j=>.int (g i j)):=by
 intro pins s σ H x y v u Q I rx ry h;obtain⟨i,j,rfl,rfl,hc,q⟩:=h;obtain⟨t,rfl⟩:=rx;obtain⟨t',rfl⟩:=ry;exact rule i j t t' s _ _ hc ⟨.int (g i j),H,I.tok _,⟨_,rfl⟩,q⟩
theorem opI0{f:Value->Value->Sem Value}{g:Int->Int->Int}
  (rule:∀(i j:Int)(t u:Tok)(s:Shared)(Q:Value->Shared->Prop)(E:Value->Shared->Prop),Q (.int (g i j) s.toks) {s with toks:=s.toks+1}->wpAny (model X.prog X.w) X.A (f (.int i t) (.int j u)) Q E s):
  OpR X f (rI0 fun i j=>.int (g i j)):=by
 intro pins s σ H x y v u Q I rx ry h;obtain⟨i,j,rfl,rfl,q⟩:=h;obtain⟨t,rfl⟩:=rx;obtain⟨t',rfl⟩:=ry;exact rule i j t t' s _ _ ⟨.int (g i j),H,I.tok _,⟨_,rfl⟩,q⟩
theorem opB0{f:Value->Value->Sem Value}{g:Int->Int->Bool}
  (rule:∀(i j:Int)(t u:Tok)(s:Shared)(Q:Value->Shared->Prop)(E:Value->Shared->Prop),Q (.bool (g i j)) s->wpAny (model X.prog X.w) X.A (f (.int i t) (.int j u)) Q E s):
  OpR X f (rI0 fun i j=>.bl (g i j)):=by
 intro pins s σ H x y v u Q I rx ry h;obtain⟨i,j,rfl,rfl,q⟩:=h;obtain⟨t,rfl⟩:=rx;obtain⟨t',rfl⟩:=ry;exact rule i j t t' s _ _ ⟨.bl (g i j),H,I,rfl,q⟩
def CDiv(i j:Int):Prop:=0<j/\j<1073741824
def CMul(i j:Int):Prop:=(-(2^64)<i/\i<2^64)∨(-(2^64)<j/\j<2^64)
theorem CMul.ok{i j:Int}(h:CMul i j):IntMulOk i j:=by
 rcases h with⟨h1,h2⟩|⟨h1,h2⟩
 ·exact .of_left (intBits_le_64 h1 h2)
 ·exact .of_right (intBits_le_64 h1 h2)
theorem zbf:OpR X (binaryOp .Add) (rI0 fun i j=>.int (i+j)):=opI0 fun _ _ _ _ _ _ _ q=>add_int q
theorem zfa:OpR X (binaryOp .Sub) (rI0 fun i j=>.int (i-j)):=opI0 fun _ _ _ _ _ _ _ q=>sub_int q
theorem zfl:OpR X (binaryOp .Mult) (rI CMul fun i j=>.int (i*j)):=opI fun _ _ _ _ _ _ _ hc q=>mul_int q hc.ok
theorem zfm:OpR X (binaryOp .FloorDiv) (rI CDiv fun i j=>.int (i/j)):=opI fun i j _ _ _ _ _ hc q=>by
 have h1:(0:Int)<j:=hc.1;have h2:j<1073741824:=hc.2;exact floordiv_int (by omega) (by rw[Int.fdiv_eq_ediv_of_nonneg i (by omega)];exact q) (.inl (PyProof.noPylong_small (by omega)))
theorem zc9:OpR X (binaryOp .Mod) (rI (fun _ j=>0<j) fun i j=>.int (i%j)):=opI fun i j _ _ _ _ _ hc q=>by
 have h1:(0:Int)<j:=hc;exact mod_int' (by omega) (by rw[Int.fmod_eq_emod_of_nonneg i (by omega)];exact q)
theorem zij:OpR X (binaryOp .Mod) (rI (fun _ j=>j≠0) fun i j=>.int (i.fmod j)):=opI fun _ _ _ _ _ _ _ hc q=>mod_int' hc q
theorem unI{f:Value->Sem Value}{g:Int->Int}
  (rule:∀(i:Int)(t:Tok)(s:Shared)(Q:Value->Shared->Prop)(E:Value->Shared->Prop),Q (.int (g i) s.toks) {s with toks:=s.toks+1}->wpAny (model X.prog X.w) X.A (f (.int i t)) Q E s):
  UnR X f (rU fun i=>.int (g i)):=by
 intro pins s σ H x v Q I rx h;obtain⟨i,rfl,q⟩:=h;obtain⟨t,rfl⟩:=rx;exact rule i t s _ _ ⟨.int (g i),H,I.tok _,⟨_,rfl⟩,q⟩
theorem un_neg:UnR X (unaryOp .USub) (rU fun i=>.int (-i)):=unI fun _ _ _ _ _ q=>neg_int q
end
def scal:V->V->Bool
 |.non,.non=>true|.non,.int _=>true|.int _,.non=>true|.non,.bl _=>true|.bl _,.non=>true|.non,.str _=>true|.str _,.non=>true
 |.int _,.int _=>true|.bl _,.bl _=>true|.str _,.str _=>true|.byt _,.byt _=>true
 |.int _,.str _=>true|.str _,.int _=>true|.bl _,.str _=>true|.str _,.bl _=>true
 |_,_=>false
def rEq:R2:=fun x y H Q=>scal x y=true/\Q (.bl (decide (x=y))) H
def rNe:R2:=fun x y H Q=>scal x y=true/\Q (.bl (!decide (x=y))) H
theorem zmc{i j:Int}:decide (V.int i=V.int j)=(i==j):=by
 rw[Bool.eq_iff_iff]
 simp
theorem dec_bl{i j:Bool}:decide (V.bl i=V.bl j)=(i==j):=by
 rw[Bool.eq_iff_iff]
 simp
theorem zmx{i j:Str}:decide (V.str i=V.str j)=(i==j):=by
 rw[Bool.eq_iff_iff]
 simp
theorem zn7{i j:Array UInt8}:decide (V.byt i=V.byt j)=(i.toList==j.toList):=by
 rw[Bool.eq_iff_iff]
 cases i
 cases j
 simp
section
variable{X:Cx}{a b c:Expr}{ta tb tc:TE}{pos:Pos}
theorem zau{pins:List (Addr×Obj)}{σ:St}{H:Hp}{s:Shared}{Q:VK}{k k':Bool}(I:Inv X pins σ H s)(q:Q (.bl k) H)(e:k=k'):EP X pins σ Q (.bool k') s:=by
 subst e;exact⟨.bl k,H,I,rfl,q⟩
theorem znt:OpR X (compareOp .Eq) rEq:=by
 intro pins s σ H x y v u Q I rx ry h;obtain⟨hs,q⟩:=h
 cases x with
 |non=>
  cases rx
  cases y with
  |non=>cases ry;exact PySem.EqNone.eq_none_none (zau I q (by simp))
  |bl j=>cases ry;exact PySem.EqNone.eq_none_bool (zau I q (by simp))
  |int j=>obtain⟨t',rfl⟩:=ry;exact PySem.EqNone.eq_none_int (zau I q (by simp))
  |str j=>obtain⟨t',rfl⟩:=ry;exact PySem.EqNone.eq_none_str (zau I q (by simp))
  |_=>exact absurd (show false=true from hs) Bool.false_ne_true
 |bl i=>
  cases rx
  cases y with
  |non=>cases ry;exact PySem.EqNone.eq_bool_none (zau I q (by simp))
  |bl j=>cases ry;exact eq_bool (zau I q dec_bl)
  |str j=>obtain⟨t',rfl⟩:=ry;exact PySem.EqMixed.eq_bool_str (zau I q (by simp))
  |_=>exact absurd (show false=true from hs) Bool.false_ne_true
 |int i=>
  obtain⟨t,rfl⟩:=rx
  cases y with
  |non=>cases ry;exact PySem.EqNone.eq_int_none (zau I q (by simp))
  |int j=>obtain⟨t',rfl⟩:=ry;exact eq_int (zau I q zmc)
  |str j=>obtain⟨t',rfl⟩:=ry;exact PySem.EqMixed.eq_int_str (zau I q (by simp))
  |_=>exact absurd (show false=true from hs) Bool.false_ne_true
 |str i=>
  obtain⟨t,rfl⟩:=rx
  cases y with
  |non=>cases ry;exact PySem.EqNone.eq_str_none (zau I q (by simp))
  |bl j=>cases ry;exact PySem.EqMixed.eq_str_bool (zau I q (by simp))
  |int j=>obtain⟨t',rfl⟩:=ry;exact PySem.EqMixed.eq_str_int (zau I q (by simp))
  |str j=>obtain⟨t',rfl⟩:=ry;exact eq_str (zau I q zmx)
  |_=>exact absurd (show false=true from hs) Bool.false_ne_true
 |byt i=>
  obtain⟨t,rfl⟩:=rx
  cases y with
  |byt j=>obtain⟨t',rfl⟩:=ry;exact PySem.W.eq_bytes (zau I q zn7)
  |_=>exact absurd (show false=true from hs) Bool.false_ne_true
 |_=>cases y<;>exact absurd (show false=true from hs) Bool.false_ne_true
theorem zl3:OpR X (compareOp .NotEq) rNe:=by
 intro pins s σ H x y v u Q I rx ry h;obtain⟨hs,q⟩:=h
 cases x with
 |non=>
  cases rx
  cases y with
  |non=>cases ry;exact PySem.EqNone.ne_none_none (zau I q (by simp))
  |bl j=>cases ry;exact PySem.EqNone.ne_none_bool (zau I q (by simp))
  |int j=>obtain⟨t',rfl⟩:=ry;exact PySem.EqNone.ne_none_int (zau I q (by simp))
  |str j=>obtain⟨t',rfl⟩:=ry;exact PySem.EqNone.ne_none_str (zau I q (by simp))
  |_=>exact absurd (show false=true from hs) Bool.false_ne_true
 |bl i=>
  cases rx
  cases y with
  |non=>cases ry;exact PySem.EqNone.ne_bool_none (zau I q (by simp))
  |bl j=>cases ry;exact ne_bool (zau I q (congrArg not dec_bl))
  |str j=>obtain⟨t',rfl⟩:=ry;exact PySem.EqMixed.ne_bool_str (zau I q (by simp))
  |_=>exact absurd (show false=true from hs) Bool.false_ne_true
 |int i=>
  obtain⟨t,rfl⟩:=rx
  cases y with
  |non=>cases ry;exact PySem.EqNone.ne_int_none (zau I q (by simp))
  |int j=>obtain⟨t',rfl⟩:=ry;exact ne_int (zau I q (congrArg not zmc))
  |str j=>obtain⟨t',rfl⟩:=ry;exact PySem.EqMixed.ne_int_str (zau I q (by simp))
  |_=>exact absurd (show false=true from hs) Bool.false_ne_true
 |str i=>
  obtain⟨t,rfl⟩:=rx
  cases y with
  |non=>cases ry;exact PySem.EqNone.ne_str_none (zau I q (by simp))
  |bl j=>cases ry;exact PySem.EqMixed.ne_str_bool (zau I q (by simp))
  |int j=>obtain⟨t',rfl⟩:=ry;exact PySem.EqMixed.ne_str_int (zau I q (by simp))
  |str j=>obtain⟨t',rfl⟩:=ry;exact ne_str (zau I q (congrArg not zmx))
  |_=>exact absurd (show false=true from hs) Bool.false_ne_true
 |byt i=>
  obtain⟨t,rfl⟩:=rx
  cases y with
  |byt j=>obtain⟨t',rfl⟩:=ry;exact PySem.W.ne_bytes (zau I q (congrArg not zn7))
  |_=>exact absurd (show false=true from hs) Bool.false_ne_true
 |_=>cases y<;>exact absurd (show false=true from hs) Bool.false_ne_true
theorem zg2:OpR X (compareOp .Lt) (rI0 fun i j=>.bl (decide (i<j))):=opB0 fun _ _ _ _ _ _ _ q=>lt_int q
theorem op_gt:OpR X (compareOp .Gt) (rI0 fun i j=>.bl (decide (j<i))):=opB0 fun _ _ _ _ _ _ _ q=>gt_int q
theorem nomark(b:Expr){op:CmpOp}(h:op≠.In:=by decide)(h2:op≠.NotIn:=by decide):behindInMarks op b=false:=by
 have e1:(op==CmpOp.In)=false:=by cases op<;>first|rfl|exact absurd rfl h
 have e2:(op==CmpOp.NotIn)=false:=by cases op<;>first|rfl|exact absurd rfl h2
 cases b<;>simp[behindInMarks,e1,e2]
theorem zf2{op:CmpOp}{r:R2}(ho:OpR X (compareOp op) r)(ha:PE X a ta)(hb:PE X b tb)(hm:behindInMarks op b=false):PE X (.Compare a [op] [b] pos) (tOp r ta tb):=by
 intro pins s σ H Q I h;exact wpAny_Compare1 (binT ha hb I h fun v u s2 x y H2 I2 rx ry q=>ho pins s2 σ H2 x y v u Q I2 rx ry q) hm
def zm2(t:TE):TT:=fun σ H Q=>t σ H fun x H'=>∃k,x=.bl k/\Q k H'
theorem zbp{op:CmpOp}{r:R2}(ho:OpR X (compareOp op) r)(ha:PE X a ta)(hb:PE X b tb)(hm:behindInMarks op b=false):PT X (.Compare a [op] [b] pos) (zm2 (tOp r ta tb)):=by
 intro pins s σ H Q I h;refine wpAny_isTrue_Compare1 (thn (ha pins s σ H _ I h) fun v s1⟨x,H1,I1,r1,q1⟩=>thn (hb pins s1 σ H1 _ I1 q1) fun u s2⟨y,H2,I2,r2,q2⟩=>
  thn (ho pins s2 σ H2 x y v u _ I2 r1 r2 q2) fun c s3⟨z,H3,I3,r3,k,e,q3⟩=>?_) hm
 subst e
 cases r3;exact wpAny_truthy_bool ⟨H3,I3,q3⟩
theorem line63:(sizeLine:Nat)<2^63:=by rw[sizeLine_eq];decide
theorem vals1{x:V}{us:List Value}(r:Vals [x] us):∃u,us=[u]/\RelV x u:=by
 cases r with
 |cons r1 r2=>cases r2;exact⟨_,rfl,r1⟩
theorem vals2{x y:V}{us:List Value}(r:Vals [x,y] us):∃u w',us=[u,w']/\RelV x u/\RelV y w':=by
 cases r with
 |cons r1 r2=>
  cases r2 with
  |cons r3 r4=>cases r4;exact⟨_,_,rfl,r1,r3⟩
theorem zgr:zdg X (.builtin "abs") (fun xs H Q=>∃i,xs=[.int i]/\Q (.int (if i<0 then-i else i)) H):=by
 intro pins s σ H xs us Q I r h;obtain⟨i,rfl,q⟩:=h;obtain⟨u,rfl,t,rfl⟩:=vals1 r;exact call_abs_int fun u tk=>⟨.int (if i<0 then-i else i),H,I.tok _,⟨_,rfl⟩,q⟩
theorem zni:zdg X (.type "int") (fun xs H Q=>(∃i,xs=[.int i]/\Q (.int i) H)∨∃k,xs=[.bl k]/\Q (.int (if k then 1 else 0)) H):=by
 intro pins s σ H xs us Q I r h;rcases h with⟨i,rfl,q⟩|⟨k,rfl,q⟩
 ·obtain⟨u,rfl,t,rfl⟩:=vals1 r;exact call_int_int ⟨.int i,H,I,⟨_,rfl⟩,q⟩
 ·obtain⟨u,rfl,r1⟩:=vals1 r
  cases r1;exact call_int_bool ⟨.int (if k then 1 else 0),H,I.tok _,⟨_,rfl⟩,q⟩
end
theorem RelO.some_of{v:V}{o:Option Value}(r:RelO (some v) o):∃u,o=some u/\RelV v u:=by
 cases o with
 |none=>exact(show False from r).elim
 |some u=>exact⟨u,rfl,r⟩
structure Room(k:Nat)(A:Around):Prop where
 hd:A.handled=none
 dp:A.depth+3*k+5<recursionLimit
 un:A.units+16*k+200<cLine
theorem Room.mono{j k:Nat}{A:Around}(r:Room k A)(h:j<=k):Room j A:=⟨r.hd,by have:=r.dp;omega,by have:=r.un;omega⟩
theorem Room.deeper{k:Nat}{A:Around}(r:Room (k+1) A)(env:Env):Room k (A.deeper env):=
 ⟨r.hd,by have:=r.dp;show A.depth+1+3*k+5<_;omega,by have:=r.un;show A.units+3+16*k+200<_;omega⟩
theorem Room.in1{k:Nat}{A:Around}(r:Room (k+1) A):Room k A.in1:=
 ⟨r.hd,by have:=r.dp;show A.depth+3*k+5<_;omega,by have:=r.un;show A.units+1+16*k+200<_;omega⟩
theorem Room.depth{k:Nat}{A:Around}(r:Room k A):A.depth<recursionLimit:=by have:=r.dp;omega
theorem Room.units{k:Nat}{A:Around}(r:Room k A):A.units+64<cLine:=by have:=r.un;omega
def tNil:TA:=fun _ H Q=>Q [] H
def zc7(ta:TE)(tr:TA):TA:=fun σ H Q=>ta σ H fun x H1=>tr σ H1 fun xs H2=>Q (x::xs) H2
section
variable{X:Cx}{e:Expr}{es:List Expr}{te:TE}{t:TA}{pos:Pos}
theorem zd3:PA X [] tNil:=fun _ _ _ _ H Q I h=>Calls.spliced_nil ⟨[],H,I,.nil,h⟩
theorem zbh(ha:PE X e te)(hr:PA X es t)(hs:starEach (e::es) X.env=(false,eval e X.env)::starEach es X.env:=by rfl):PA X (e::es) (zc7 te t):=by
 intro pos pins s σ H Q I h;rw[hs];show wpAny _ _ (spliced ((false,eval e X.env)::backTo pos (starEach es X.env))) _ _ s;refine Calls.spliced_cons (thn (ha pins s σ H _ I h) fun u s1⟨x,H1,I1,r1,q1⟩=>?_);exact thn (hr pos pins s1 σ H1 _ I1 q1) fun us s2⟨xs,H2,I2,r2,q2⟩=>⟨x::xs,H2,I2,.cons r1 r2,q2⟩
def tTup(t:TA):TE:=fun σ H Q=>t σ H fun xs H1=>xs.length<=sizeLine/\∀p,H1 p=none->Q (.ref p) (upd H1 p (.tup xs))
def tLst(t:TA):TE:=fun σ H Q=>t σ H fun xs H1=>xs.length<=sizeLine/\∀p,H1 p=none->Q (.ref p) (upd H1 p (.lst xs))
theorem ze1{x1}(h:PA X es t):PE X (.Tuple es x1 pos) (tTup t):=by
 intro pins s σ H Q I hq;refine wpAny_Tuple_spliced (thn (h pos pins s σ H _ I hq) fun us s1⟨xs,H1,I1,r,z,q⟩=>⟨by rw[←r.length];exact z,?_⟩)
 have hf:H1 s1.heap.objs.size=none:=I1.hok.fresh (Nat.le_refl _);refine⟨.ref s1.heap.objs.size,upd H1 s1.heap.objs.size (.tup xs),I1.laid (t':=s1.toks) (fun b u e=>Heap.get?_push_of_some _ e) (Nat.le_refl _) ?_,rfl,q _ hf⟩;exact⟨z,us,r,⟨_,Heap.get?_push_size _ rfl,rfl,_,rfl⟩⟩
theorem zes(h:PA X es t):PE X (.List es pos) (tLst t):=by
 intro pins s σ H Q I hq;refine wpAny_List_spliced (thn (h pos pins s σ H _ I hq) fun us s1⟨xs,H1,I1,r,z,q⟩=>⟨by rw[←r.length];exact z,?_⟩)
 have hf:H1 s1.heap.objs.size=none:=I1.hok.fresh (Nat.le_refl _);refine⟨.ref s1.heap.objs.size,upd H1 s1.heap.objs.size (.lst xs),I1.laid (t':=s1.toks) (fun b u e=>Heap.get?_push_of_some _ e) (Nat.le_refl _) ?_,rfl,q _ hf⟩;exact⟨z,us,0,r,Heap.get?_push_size _ rfl⟩
end
abbrev Sp:=List V->Hp->VK->XK->Prop
abbrev CXT:=List Env->Hp->Shared->XK->Value->Shared->Prop
structure Env0(P:Program)(w:World)(K:PySem.W.Frag)(mg:Str->Option Value)(base:Heap)(A:Around)(outer:List Env)(s:Shared)(H:Hp):Prop where
 frames:A.frames=some outer
 mod:Mod K mg base
 bs:∀b o,base.get? b=some o->s.heap.get? b=some o/\H b=none
 bsz:base.objs.size<=s.heap.objs.size
 funs:s.heap.FunFrames base outer
 frf:∀b∈frs outer,H b=none
 hok:HOk P w H s.heap
 bare:AllBare s.gens
def CE(outer:List Env)(P:Program)(w:World)(H:Hp)(s:Shared)(Q:VK)(u:Value)(s':Shared):Prop:=
 ∃v H',s'.os=s.os/\AllBare s'.gens/\Un (frs outer) [] H H' s.heap s'.heap/\HOk P w H' s'.heap/\RelV v u/\Q v H'
def CR(CX:CXT)(outer:List Env)(P:Program)(w:World)(H:Hp)(s:Shared)(Q:VK)(E:XK)(r:Result)(s':Shared):Prop:=
 match r with
 |.ok (.ret u)=>CE outer P w H s Q u s'
 |.ok _=>False
 |.error e=>CX outer H s E e s'
structure FnOk(P:Program)(w:World)(K:PySem.W.Frag)(mg:Str->Option Value)(base:Heap)(CX:CXT)(k:Nat)(f:Addr)(fd:FuncData)(ps:List Str)(sp:Sp):Prop where
 len:∀vs H Q E,sp vs H Q E->vs.length=ps.length
 run:∀(A:Around)(outer:List Env)(s:Shared)(H:Hp)(args:Args)(us:List Value)(vs:List V)(Q:VK)(E:XK),Room k A->Env0 P w K mg base A outer s H->BindsTo s fd args (ps.zip us)->Vals vs us->sp vs H Q E->
  codeAny (model P w) A (.call (.ref f) args) (CR CX outer P w H s Q E) s
theorem Env0.in1{P:Program}{w:World}{K:PySem.W.Frag}{mg:Str->Option Value}{base:Heap}{A:Around}{outer:List Env}{s:Shared}{H:Hp}(e:Env0 P w K mg base A outer s H):
  Env0 P w K mg base A.in1 outer s H:=⟨e.frames,e.mod,e.bs,e.bsz,e.funs,e.frf,e.hok,e.bare⟩
section
variable{X:Cx}{pins:List (Addr×Obj)}{σ:St}{H:Hp}{s s':Shared}
theorem Inv.env0(I:Inv X pins σ H s):Env0 X.prog X.w X.K X.mg X.base X.A X.stack s H:=
 ⟨I.ok.frames,I.ok.mod,I.bs,Nat.le_trans I.ok.bsz I.sz,I.stack,I.stkFree,I.hok,I.bare⟩
theorem Inv.after{Q:VK}{u:Value}(I:Inv X pins σ H s)(h:CE X.stack X.prog X.w H s Q u s'):EP X pins σ Q u s':=by
 obtain⟨v,H',os,bare,un,hok,r,q⟩:=h;obtain⟨hh,g,d,t,os'⟩:=s';obtain rfl:os'=s.os:=os;exact⟨v,H',I.call (h':=hh) (g':=g) (d':=d) (t':=t) (ch:=[]) un hok bare (fun b z=>absurd z (by simp)),r,q⟩
end
def zng(sp:Sp)(dvs:List V)(E:XK)(t:TA):TE:=fun σ H Q=>t σ H fun vs H1=>sp (vs++dvs) H1 Q E
def Binds(K:PySem.W.Frag)(fd:FuncData)(ps:List Str)(ds:List Value):Prop:=
 ∀(s:Shared)(us:List Value),K.In s.heap->(us++ds).length=ps.length->BindsTo s fd ⟨us,[]⟩ (ps.zip (us++ds))
theorem Binds.all{K:PySem.W.Frag}{fd:FuncData}{ps:List Str}(h:∀us:List Value,us.length=ps.length->bindArgs fd ⟨us,[]⟩=pure (ps.zip us)):Binds K fd ps []:=fun s us _ hl=>by
 rw[List.append_nil] at hl⊢;exact .of_eq (h us hl)
def Passes(CX:CXT)(X:Cx)(E:XK):Prop:=∀(pins:List (Addr×Obj))(σ:St)(H:Hp)(s:Shared)(e:Value)(s':Shared),Inv X pins σ H s->CX X.stack H s E e s'->X.xe e s'
section
variable{X:Cx}{CX:CXT}{k:Nat}{f C:Addr}{fd:FuncData}{ps:List Str}{sp:Sp}{dvs:List V}{ds:List Value}{E:XK}{x m:Str}{p pos apos:Pos}{e o:Expr}{es:List Expr}{ta:TE}{t:TA}
theorem run_fn{pins:List (Addr×Obj)}{σ:St}{H:Hp}{s:Shared}{Q:VK}{us:List Value}{vs:List V}(F:FnOk X.prog X.w X.K X.mg X.base CX k f fd ps sp)(hr:Room k X.A)(hb:Binds X.K fd ps ds)(hd:Vals dvs ds)(hx:Passes CX X E)
  (I:Inv X pins σ H s)(r:Vals vs us)(h:sp (vs++dvs) H Q E):wpAny (model X.prog X.w) X.A (call (.ref f) us) (EP X pins σ Q) X.xe s:=by
 have r2:Vals (vs++dvs) (us++ds):=r.append hd;have hl:(us++ds).length=ps.length:=by rw[←r2.length];exact F.len _ _ _ _ h
 refine wpAny_call (codeAny_mono (F.run X.A X.stack s H ⟨us,[]⟩ (us++ds) (vs++dvs) Q E hr I.env0 (hb s us I.kIn hl) r2 h) fun r s' hq=>?_)
 cases r with
 |error e=>exact hx pins σ H s e s' I hq
 |ok fl=>
  cases fl with
  |ret u=>exact I.after hq
  |next=>exact False.elim hq
  |brk=>exact False.elim hq
  |cont=>exact False.elim hq
theorem zaz(F:FnOk X.prog X.w X.K X.mg X.base CX k f fd ps sp)(hr:Room k X.A)(hg:Gl X x)(hm:X.mg x=some (.ref f))(hk:PySem.W.keepIn X.K (.ref f)=true)(hb:Binds X.K fd ps ds)(hd:Vals dvs ds)(hx:Passes CX X E)
  (ha:PA X (e::es) t)(hdb:(x==("__debug__":Str))=false:=by decide)(he:starEach (e::es) X.env=(false,eval e X.env)::starEach es X.env:=by rfl)(hpl:(backTo pos (starEach es X.env)).any (·.1)=false:=by rfl):
  PE X (.Call (.Name x p) (e::es) [] pos) (zng sp dvs E t):=by
 intro pins s σ H Q I h;refine wpAny_Call_Name_kw (ld_glob I hg hm ?_ hdb);refine PySem.W.callWith_K (h₀:=X.base) I.ok.mod.kin hk (thn (ha pos pins s σ H _ I h) fun us s1⟨vs,H1,I1,r,q⟩=>⟨I1.kIn,?_⟩) he hpl;exact run_fn F hr hb hd hx I1 r q
end
def PK(X:Cx)(kws:List Keyword)(t:TA):Prop:=
 ∀(pos:Pos)(pins:List (Addr×Obj))(s:Shared)(σ:St)(H:Hp)(Q:List V->Hp->Prop),Inv X pins σ H s->t σ H Q->wpAny (model X.prog X.w) X.A (evalAll ((backToKw pos (keywordEach kws X.env)).map (·.2))) (AP X pins σ Q) X.xe s
section
variable{X:Cx}{CX:CXT}{k:Nat}{f C:Addr}{fd:FuncData}{ps ks:List Str}{sp:Sp}{E:XK}{x m:Str}{p pos apos kpos:Pos}{e o:Expr}{es:List Expr}{kws:List Keyword}{te ta:TE}{t tk:TA}{nm:Option Str}
theorem pk_nil:PK X [] tNil:=fun _ _ _ _ H Q I h=>wpAny_evalAll_nil ⟨[],H,I,.nil,h⟩
theorem pk_cons(ha:PE X e te)(hr:PK X kws t):PK X (⟨nm,e,kpos⟩::kws) (zc7 te t):=by
 intro pos pins s σ H Q I h;show wpAny _ _ (evalAll ((do let v ←eval e X.env;standAt pos;pure v)::(backToKw pos (keywordEach kws X.env)).map (·.2))) _ _ s;refine wpAny_evalAll_cons (wpAny_bind (thn (ha pins s σ H _ I h) fun u s1⟨x,H1,I1,r1,q1⟩=>wpAny_bind (wpAny_standAt (wpAny_pure ?_))));exact thn (hr pos pins s1 σ H1 _ I1 q1) fun us s2⟨xs,H2,I2,r2,q2⟩=>⟨x::xs,H2,I2,.cons r1 r2,q2⟩
variable{g:List Value->List Value->List Value}{gV:List V->List V->List V}
end
structure zaa(N P:List Str)(sc:Scope):Prop where
 kind:sc.kind=.function
 co:sc.isCoroutine=false
 gen:sc.isGenerator=false
 nd:N.Nodup
 pre:N.take P.length=P
 par:∀x∈P,sc.names.lookup x=some .local∨sc.names.lookup x=some .cell
 nofree:∀y∈sc.names,y.2≠.free
theorem zi7{kindOf:Str->Option NameKind}{x:Str}:∀{binds:List (Str×Value)}{m:Str->Option Value},(∀v,(x,v)∉binds)->bindL kindOf binds m x=m x
 |[],_,_=>rfl
 |(n,v)::r,m,h=>by
  unfold bindL;rw[zi7 fun w hw=>h w (List.mem_cons_of_mem _ hw)]
  split
  ·have:x≠n:=by rintro rfl;exact h v List.mem_cons_self
   simp[this]
  ·rfl
theorem zi4{kindOf:Str->Option NameKind}{x:Str}:∀{binds:List (Str×Value)}{m:Str->Option Value},(∀v,(x,v)∉binds)->bindC kindOf binds m x=m x
 |[],_,_=>rfl
 |(n,v)::r,m,h=>by
  unfold bindC;rw[zi4 fun w hw=>h w (List.mem_cons_of_mem _ hw)]
  split
  ·rfl
  ·have:x≠n:=by rintro rfl;exact h v List.mem_cons_self
   simp[this]
theorem zhy{kindOf:Str->Option NameKind}{x:Str}{v:Value}:∀{P:List Str}{vs:List Value}{i:Nat}{m:Str->Option Value},P.Nodup->P[i]?=some x->vs[i]?=some v->kindOf x=some .local->
  bindL kindOf (P.zip vs) m x=some v
 |[],_,_,_,_,h,_,_=>by simp at h
 |_::_,[],_,_,_,_,h,_=>by simp at h
 |p::P,w::vs,0,m,nd,h1,h2,hk=>by
  simp at h1 h2;subst h1;subst h2
  show bindL kindOf ((p,w)::P.zip vs) m p=_
  unfold bindL;rw[zi7 fun v hv=>(List.nodup_cons.mp nd).1 (List.of_mem_zip hv).1,if_pos hk]
  simp
 |p::P,w::vs,i+1,m,nd,h1,h2,hk=>by
  show bindL kindOf ((p,w)::P.zip vs) m x=_
  unfold bindL;exact zhy (i:=i) (List.nodup_cons.mp nd).2 (by simpa using h1) (by simpa using h2) hk
theorem zi5{kindOf:Str->Option NameKind}{x:Str}{v:Value}:∀{P:List Str}{vs:List Value}{i:Nat}{m:Str->Option Value},P.Nodup->P[i]?=some x->vs[i]?=some v->kindOf x≠some .local->
  bindC kindOf (P.zip vs) m x=some v
 |[],_,_,_,_,h,_,_=>by simp at h
 |_::_,[],_,_,_,_,h,_=>by simp at h
 |p::P,w::vs,0,m,nd,h1,h2,hk=>by
  simp at h1 h2;subst h1;subst h2
  show bindC kindOf ((p,w)::P.zip vs) m p=_
  unfold bindC;rw[zi4 fun v hv=>(List.nodup_cons.mp nd).1 (List.of_mem_zip hv).1,if_neg hk]
  simp
 |p::P,w::vs,i+1,m,nd,h1,h2,hk=>by
  show bindC kindOf ((p,w)::P.zip vs) m x=_
  unfold bindC;exact zi5 (i:=i) (List.nodup_cons.mp nd).2 (by simpa using h1) (by simpa using h2) hk
def start(N:List Str)(vs:List V):St:=vs.map some++List.replicate (N.length-vs.length) none
def cxOf(CX:CXT)(P:Program)(w:World)(K:PySem.W.Frag)(mg:Str->Option Value)(base:Heap)(N:List Str)(qual:Str)(scope:Scope)(f:Addr)(cd:Value)(A:Around)(outer:List Env)(s:Shared)(H:Hp)(E:XK):Cx where
 prog:=P
 w:=w
 K:=K
 mg:=mg
 base:=base
 A:=A.deeper (envOfC qual scope s.heap.objs.size f cd)
 N:=N
 s₀:=s
 H₀:=H
 env:=envOfC qual scope s.heap.objs.size f cd
 outer:=outer
 stack:=envOfC qual scope s.heap.objs.size f cd::outer
 ex:=[]
 calm:=true
 fn:=fun _=>true
 pn:=[]
 xe:=fun e s'=>wpAny (model P w) (A.deeper (envOfC qual scope s.heap.objs.size f cd)) (leaving (envOfC qual scope s.heap.objs.size f cd) e) (fun _ s''=>CX outer H s E e s'') (fun e' s''=>CX outer H s E e' s'') s'
theorem zju{sc:Scope}{n:Nat}{x:Str}(h:sc.names.lookup x=some .cell):∃c,(cellsFrom n sc.names []).lookup x=some c:=by
 have q:=PySem.W.cellsFrom_some sc.names n [] (.inl h);exact Option.isSome_iff_exists.mp q
theorem zmd{CX:CXT}{P:Program}{w:World}{K:PySem.W.Frag}{mg:Str->Option Value}{base:Heap}{N ps:List Str}{qual:Str}{scope:Scope}{f:Addr}{cd:Value}{A:Around}{outer:List Env}{s s1:Shared}{H:Hp}{E:XK}{us:List Value}{vs:List V}
  (S:zaa N ps scope)(hd:A.handled=none)(e0:Env0 P w K mg base A outer s H)(hl:vs.length=ps.length)(r:Vals vs us)
  (x:InCallC s s.heap.objs.size (bindL (envOfC qual scope s.heap.objs.size f cd).kindOf (ps.zip us) fun _=>none) (cellsFrom (s.heap.objs.size+1) scope.names []) (bindC (envOfC qual scope s.heap.objs.size f cd).kindOf (ps.zip us) fun _=>none) s1):
  Inv (cxOf CX P w K mg base N qual scope f cd A outer s H E) [] (start N vs) H s1:=by
 have hpl:ps.length<=N.length:=by have:=congrArg List.length S.pre;rw[List.length_take] at this;omega
 obtain⟨h1,tk,rfl,hk⟩:=x.done;have noA:∀b:Addr,b∉(cxOf CX P w K mg base N qual scope f cd A outer s H E).ex:=fun b z=>absurd (show b∈([]:List Addr) from z) (by simp)
 refine⟨⟨e0.mod,S.kind,rfl,rfl,Nat.le_refl _,fun y z c h1 h2=>?_,fun y hy=>?_,fun y c _ h=>?_,fun _=>hd,Around.frames_deeper e0.frames,.inr ⟨rfl,rfl⟩,fun b z=>absurd z (noA b),e0.bs,e0.bsz,fun b _ _=>noA b,fun b z=>absurd z (noA b),e0.funs,e0.frf⟩,
  rfl,e0.bare,Un.kept hk,⟨_,x.toInCall.ns,fun i y v h1 h2 h3=>?_⟩,fun y c h=>⟨_,x.cell y c h⟩,e0.hok.fresh (Nat.le_refl _),fun y c h=>?_,fun p hp=>absurd (show p∈([]:List (Addr×Obj)) from hp) (by simp),e0.hok.kept hk,?_⟩
 ·exact name_of_addr x.apart (PySem.mem_of_lookup h1) (PySem.mem_of_lookup h2)
 ·have hy:scope.names.lookup y=some .cell∨scope.names.lookup y=some .free:=hy;rcases hy with hy|hy
  ·exact zju hy
  ·exact absurd rfl (S.nofree _ (PySem.mem_of_lookup hy))
 ·exact Nat.le_of_lt (x.above y c (PySem.mem_of_lookup h))
 ·have hi:i<vs.length:=by
   unfold start at h2
   by_cases hi:i<vs.length
   ·exact hi
   ·rw[List.getElem?_append_right (by simpa using hi)] at h2
    rw[List.getElem?_replicate] at h2
    split at h2<;>cases h2
  have ha:vs[i]?=some v:=by
   unfold start at h2;rw[List.getElem?_append_left (by simpa using hi),List.getElem?_map] at h2
   cases e:vs[i]? with
   |none=>rw[e] at h2;cases h2
   |some a=>rw[e] at h2;cases h2;rfl
  obtain⟨u,hu,rv⟩:=r.get ha;have hp:ps[i]?=some y:=by
   rw[←S.pre,List.getElem?_take_of_lt (by omega)];exact h1
  have ndP:ps.Nodup:=by rw[←S.pre];exact S.nd.sublist (List.take_sublist _ _)
  refine⟨u,rv,?_⟩;rcases S.par y (List.mem_of_getElem? hp) with k|k
  ·exact .inl ⟨k,zhy ndP hp hu k⟩
  ·obtain⟨c,e⟩:=zju (n:=s.heap.objs.size+1) k;refine .inr ⟨.inl k,c,e,?_⟩;have q:=x.cell y c e;rw[zi5 ndP hp hu (by show scope.names.lookup y≠_;rw[k];decide)] at q
   exact q
 ·exact e0.hok.fresh (Nat.le_of_lt (x.above y c (PySem.mem_of_lookup h)))
 ·unfold start;show _=N.length;rw[List.length_append,List.length_map,List.length_replicate];omega
theorem fn_of{CX:CXT}{P:Program}{w:World}{K:PySem.W.Frag}{mg:Str->Option Value}{base:Heap}{k:Nat}{f:Addr}{name qual:Str}{params:Arguments}{body:List Stmt}{scope:Scope}{dV kV doc pm cdv ct oc:Value}{an od:Option Addr}
  {osl:Array (Option Value)}{N ps:List Str}{sp:Sp}(lk:K.lookup f=some ⟨oc,od,.func (PySem.W.fnOf name qual params body scope dV kV doc pm an cdv ct),osl⟩)(hcd:PySem.W.codeIn K cdv qual=true)(S:zaa N ps scope)
  (len:∀vs H Q E,sp vs H Q E->vs.length=ps.length)
  (hbody:∀(A:Around)(outer:List Env)(s:Shared)(H:Hp)(vs:List V)(Q:VK)(E:XK),Room k (A.deeper (envOfC qual scope s.heap.objs.size f cdv))->sp vs H Q E->
   ∃t,PSs (cxOf CX P w K mg base N qual scope f cdv A outer s H E) body t/\t {nx:=fun _ H'=>Q .non H',rt:=Q} (start N vs) H):
  FnOk P w K mg base CX (k+1) f (PySem.W.fnOf name qual params body scope dV kV doc pm an cdv ct) ps sp:=by
 refine⟨len,fun A outer s H args us vs Q E hr e0 hb r hsp=>?_⟩;have hl:=len _ _ _ _ hsp;have KX:K.In s.heap:=e0.mod.kin.keeps fun b o e=>(e0.bs b o e).1;have lim:s.heap.NoLimit:=e0.mod.nolimit.keeps fun b o e=>(e0.bs b o e).1;have hkind:∀y∈ps.zip us,scope.names.lookup y.1=some .local∨(scope.names.lookup y.1=some .cell/\((cellsFrom (s.heap.objs.size+1) scope.names []).lookup y.1).isSome=true):=fun⟨n,v⟩ hy=>by
  rcases S.par n (List.of_mem_zip hy).1 with q|q
  ·exact .inl q
  ·exact .inr ⟨q,PySem.W.cellsFrom_some _ _ _ (.inl q)⟩
 refine codeAny_call_function hr.depth (KX _ _ lk) rfl S.co S.gen rfl (PySem.W.codeRec_of KX hcd) (hb _ _ _ _ ?_);refine wpAny_newFunctionEnv_cells S.kind hkind fun env he s1 x=>?_;subst he;refine⟨lim.keeps x.toInCall.keep,codeAny_func ?_⟩;obtain⟨t,ht,hq⟩:=hbody A outer s H vs Q E (hr.deeper _) hsp;have I:Inv (cxOf CX P w K mg base N qual scope f cdv A outer s H E) [] (start N vs) H s1:=zmd S hr.hd e0 hl r x;refine wpAny_mono (ht [] s1 (start N vs) H _ I hq) (fun fl s' hs=>?_) fun e s' hs=>hs;have fin:∀{σ':St}{H':Hp}{v:V}{u:Value},Inv (cxOf CX P w K mg base N qual scope f cdv A outer s H E) [] σ' H' s'->RelV v u->Q v H'->CE outer P w H s Q u s':=
  fun{σ' H' v u} J rv q=>⟨v,H',J.os,J.bare,J.base,J.hok,rv,q⟩
 cases fl with
 |ret u=>
  obtain⟨v,σ',H',J,rv,q⟩:=hs;exact fin J rv q
 |next=>
  obtain⟨σ',H',J,q⟩:=hs;exact fin (v:=V.non) (u:=Value.none) J rfl q
 |brk=>
  obtain⟨_,_,_,q⟩:=hs;exact False.elim q
 |cont=>
  obtain⟨_,_,_,q⟩:=hs;exact False.elim q
section
variable{X:Cx}{x:Str}{p pos:Pos}{e:Expr}{es:List Expr}{t:TA}{id T:String}{r:List V->Hp->VK->Prop}
def tCB(r:List V->Hp->VK->Prop)(t:TA):TE:=fun σ H Q=>t σ H fun vs H1=>r vs H1 Q
theorem zch(hc:zdg X (.builtin id) r)(hg:Gl X x)(hm:X.mg x=none)(hv:bootBuiltins x=some (.builtin id))(ha:PA X (e::es) t)(hn:x≠"__name__":=by decide)(hdb:(x==("__debug__":Str))=false:=by decide)
  (he:starEach (e::es) X.env=(false,eval e X.env)::starEach es X.env:=by rfl) (hpl:(backTo pos (starEach es X.env)).any (·.1)=false:=by rfl):PE X (.Call (.Name x p) (e::es) [] pos) (tCB r t):=by
 intro pins s σ H Q I h;refine wpAny_Call_Name_kw (zf8 I hg hm hv ?_ hn hdb);exact PyProof.Rows.callWith_builtin1 (thn (ha pos pins s σ H _ I h) fun us s1⟨vs,H1,I1,r1,q1⟩=>hc pins s1 σ H1 vs us Q I1 r1 q1) he hpl
theorem zlg(hc:zdg X (.type T) r)(hg:Gl X x)(hm:X.mg x=none)(hv:bootBuiltins x=some (.type T))(ha:PA X (e::es) t)(hn:x≠"__name__":=by decide)(hdb:(x==("__debug__":Str))=false:=by decide)
  (he:starEach (e::es) X.env=(false,eval e X.env)::starEach es X.env:=by rfl) (hpl:(backTo pos (starEach es X.env)).any (·.1)=false:=by rfl):PE X (.Call (.Name x p) (e::es) [] pos) (tCB r t):=by
 intro pins s σ H Q I h;refine wpAny_Call_Name_kw (zf8 I hg hm hv ?_ hn hdb);exact PyProof.Rows.callWith_type1 (thn (ha pos pins s σ H _ I h) fun us s1⟨vs,H1,I1,r1,q1⟩=>hc pins s1 σ H1 vs us Q I1 r1 q1) he hpl
end
end L2
namespace HT
open PySem PyProof.Rows
def lexLt:List Int->List Int->Bool
 |[],[]=>false
 |[],_::_=>true
 |_::_,[]=>false
 |x::xs,y::ys=>if x=y then lexLt xs ys else decide (x<y)
theorem lexLt_cons(x y:Int)(xs ys:List Int):lexLt (x::xs) (y::ys)=if x=y then lexLt xs ys else decide (x<y):=rfl
theorem lexLt_nil_nil:lexLt [] []=false:=rfl
theorem eqAt_int(A:Around)(s:Shared)(a:Int)(t:Tok)(c:Int)(u:Tok):∃e,SeqAt.EqAt A s (.int a t) (.int c u) e/\(e=true↔a=c):=
 ⟨(a==c),SeqAt.EqAt.int_int a t c u,by simp⟩
section
variable{prog:Program}{w:World}{A:Around}{E:Value->Shared->Prop}{s:Shared}
def sIx(n d:Nat):Option Int->Nat
 |none=>d
 |some v=>if v<0 then(v+(n:Int)).toNat else min v.toNat n
theorem sIx_none(n d:Nat):sIx n d none=d:=rfl
theorem sIx_nat(n d k:Nat):sIx n d (some (k:Int))=min k n:=by
 show(if(k:Int)<0 then((k:Int)+(n:Int)).toNat else min (k:Int).toNat n)=min k n
 rw[if_neg (by omega),Int.toNat_natCast]
end
end HT
namespace L2
open PySem PySem.Spec PyProof.Rows
abbrev TO:=St->Hp->(Option Int->Hp->Prop)->Prop
def PO(X:Cx)(e:Option Expr)(t:TO):Prop:=
 ∀(pins:List (Addr×Obj))(s:Shared)(σ:St)(H:Hp)(Q:Option Int->Hp->Prop),Inv X pins σ H s->t σ H Q->
  wpAny (model X.prog X.w) X.A (evalPart e X.env) (fun u s'=>∃o H',Inv X pins σ H' s'/\IsPart u o/\Q o H') X.xe s
def zlp:TO:=fun _ H Q=>Q none H
def tPart(t:TE):TO:=fun σ H Q=>t σ H fun x H1=>∃i,x=.int i/\Q (some i) H1
theorem zg6{ns:List Int}:∀{us:List Value},Vals (ns.map V.int) us->IntsAre us ns:=by
 induction ns with
 |nil=>intro us r;rw[List.map_nil] at r;cases r;exact .nil
 |cons n ns ih=>
  intro us r;rw[List.map_cons] at r
  cases r with
  |cons r1 r2=>
   obtain⟨t,e⟩:=r1;subst e;exact .cons n t (ih r2)
section
variable{X:Cx}{e:Expr}{te:TE}{lo hi:Option Expr}{tl th:TO}{pos p2:Pos}
theorem zg0:PO X none zlp:=by
 intro pins s σ H Q I h;rw[evalPart_none];exact wpAny_pure ⟨none,H,I,.none,h⟩
theorem zfp(h:PE X e te):PO X (some e) (tPart te):=by
 intro pins s σ H Q I hw;rw[evalPart_some];refine thn (h pins s σ H _ I hw) fun u s1⟨x,H1,I1,r1,q1⟩=>?_;obtain⟨i,rfl,q⟩:=q1;obtain⟨t,rfl⟩:=r1;exact⟨some i,H1,I1,.int i t,q⟩
def SlR(X:Cx)(r:V->Option Int->Option Int->Hp->VK->Prop):Prop:=
 ∀(pins:List (Addr×Obj))(s:Shared)(σ:St)(H:Hp)(x:V)(v vl vu:Value)(lo hi:Option Int)(sl:Addr)(Q:VK),Inv X pins σ H s->RelV x v->s.heap.IsSliceOf sl vl vu .none->IsPart vl lo->IsPart vu hi->r x lo hi H Q->
  ∃T id,typeLookup (.type T) "__getitem__"=pure (some (.builtin id))/\s.TypeIs v T/\wpAny (model X.prog X.w) X.A (getItem v (.ref sl)) (EP X pins σ Q) X.xe s
def tSl(r:V->Option Int->Option Int->Hp->VK->Prop)(te:TE)(tl th:TO):TE:=fun σ H Q=>te σ H fun x H1=>tl σ H1 fun l H2=>th σ H2 fun u H3=>r x l u H3 Q
theorem zei{r:V->Option Int->Option Int->Hp->VK->Prop}(hr:SlR X r)(he:PE X e te)(hl:PO X lo tl)(hu:PO X hi th):PE X (.Subscript e (.Slice lo hi none p2) pos) (tSl r te tl th):=by
 intro pins s σ H Q I h;refine Subscript_ (thn (he pins s σ H _ I h) fun v s1⟨x,H1,I1,r1,q1⟩=>?_);refine wpAny_Slice (thn (hl pins s1 σ H1 _ I1 q1) fun vl s2⟨l,H2,I2,pl,q2⟩=>thn (hu pins s2 σ H2 _ I2 q2) fun vu s3⟨u,H3,I3,pu,q3⟩=>?_);rw[evalPart_none];refine wpAny_pure ?_;have I4:Inv X pins σ H3 {s3 with heap:=s3.heap.push {cls:=.type "slice",data:=.fields #[vl,vu,.none]}}:=I3.kept (t':=s3.toks) fun b ob q=>Heap.get?_push_of_some _ q;obtain⟨T,id,hT,ht,hg⟩:=hr pins {s3 with heap:=s3.heap.push {cls:=.type "slice",data:=.fields #[vl,vu,.none]}} σ H3 x v vl vu l u s3.heap.objs.size Q I4 r1 (Heap.IsSliceOf.new ..) pl pu q3;show wpAny (model X.prog X.w) X.A (subscriptTail e (.Slice lo hi none p2) v (.ref s3.heap.objs.size)) (EP X pins σ Q) X.xe {s3 with heap:=s3.heap.push {cls:=.type "slice",data:=.fields #[vl,vu,.none]}};exact tail_any (ops:=[.ref s3.heap.objs.size,v]) ht hT hg (by with_unfolding_all rfl)
def cutV(xs:List V)(lo hi:Option Int):List V:=(xs.drop (HT.sIx xs.length 0 lo)).take (HT.sIx xs.length xs.length hi-HT.sIx xs.length 0 lo)
theorem zia(xs:List V)(lo hi:Option Int):(cutV xs lo hi).length<=xs.length:=by
 unfold cutV;rw[List.length_take,List.length_drop];omega
end
def ixN(n:Nat)(i:Int):Option Nat:=if 0<=i then(if i<n then some i.toNat else none) else if-(n:Int)<=i then some (i+n).toNat else none
def atI{α:Type}(xs:List α)(i:Int):Option α:=(ixN xs.length i).bind fun j=>xs[j]?
theorem ixN_seq{n:Nat}{i:Int}{j:Nat}(h:ixN n i=some j):seqIndex? i n=some j/\j<n/\ -(n:Int)<=i/\i<n:=by
 unfold ixN at h
 by_cases h0:0<=i
 ·rw[if_pos h0] at h
  by_cases h1:i<n
  ·rw[if_pos h1] at h;have e:i.toNat=j:=Option.some.inj h;exact⟨by rw[seqIndex_of h0 h1,e],by omega,by omega,h1⟩
  ·rw[if_neg h1] at h;cases h
 ·rw[if_neg h0] at h
  by_cases h1: -(n:Int)<=i
  ·rw[if_pos h1] at h;have e:(i+n).toNat=j:=Option.some.inj h;exact⟨by rw[seqIndex_neg (by omega) h1,e],by omega,h1,by omega⟩
  ·rw[if_neg h1] at h;cases h
theorem zly{α:Type}{xs:List α}{i:Int}{v:α}(h:atI xs i=some v):∃j,seqIndex? i xs.length=some j/\xs[j]?=some v/\j<xs.length/\ -(xs.length:Int)<=i/\i<xs.length:=by
 unfold atI at h
 cases e:ixN xs.length i with
 |none=>rw[e] at h;cases h
 |some j=>
  rw[e] at h;obtain⟨h1,h2,h3,h4⟩:=ixN_seq e;exact⟨j,h1,h,h2,h3,h4⟩
theorem zcq{α:Type}{xs:List α}{j:Nat}{v:α}(h:xs[j]?=some v):atI xs (j:Int)=some v:=by
 have hj:j<xs.length:=(List.getElem?_eq_some_iff.mp h).1;have e:ixN xs.length (j:Int)=some j:=by
  unfold ixN;rw[if_pos (by omega),if_pos (by omega)];simp
 unfold atI;rw[e];exact h
def PlainIx(b:Expr):Prop:=∀o i,subscripted b false o i=operate [o,i] (getItem o i)
def IxR(X:Cx)(r:R2):Prop:=
 ∀(value slice:Expr)(pins:List (Addr×Obj))(s:Shared)(σ:St)(H:Hp)(x y:V)(v u:Value)(Q:VK),Inv X pins σ H s->RelV x v->RelV y u->r x y H Q->
  subscripted slice false v u=operate [v,u] (getItem v u)->wpAny (model X.prog X.w) X.A (subscriptTail value slice v u) (EP X pins σ Q) X.xe s
def MtR(X:Cx)(id:String)(r:V->List V->Hp->VK->Prop):Prop:=
 ∀(pins:List (Addr×Obj))(s:Shared)(σ:St)(H:Hp)(x:V)(xs:List V)(v:Value)(us:List Value)(Q:VK),Inv X pins σ H s->RelV x v->Vals xs us->r x xs H Q->
  wpAny (model X.prog X.w) X.A (call (.builtin id) (v::us)) (EP X pins σ Q) X.xe s
section
variable{X:Cx}{a b:Expr}{ta tb:TE}{pos:Pos}
theorem zdy{r:R2}(hr:IxR X r)(ha:PE X a ta)(hb:PE X b tb)(hs:PlainIx b):PE X (.Subscript a b pos) (tOp r ta tb):=by
 intro pins s σ H Q I h;exact Subscript_ (binT ha hb I h fun v u s2 x y H2 I2 rx ry q=>hr a b pins s2 σ H2 x y v u Q I2 rx ry q (hs _ _))
def rIxL(K:PySem.W.Frag):R2:=fun x y H Q=>∃p xs i v,x=.ref p/\y=.int i/\SqL K H p xs/\atI xs i=some v/\Q v H
def rIxT(K:PySem.W.Frag):R2:=fun x y H Q=>∃p xs i v,x=.ref p/\y=.int i/\SqT K H p xs/\atI xs i=some v/\Q v H
theorem zig:IxR X (rIxL X.K):=by
 intro value slice pins s σ H x y v u Q I rx ry h hs;obtain⟨p,xs,i,z,rfl,rfl,hq,he,q⟩:=h
 cases rx;obtain⟨t,rfl⟩:=ry;obtain⟨its,r,pl,hz⟩:=I.list hq;obtain⟨j,h1,h2,h3,h4,h5⟩:=zly he;obtain⟨w,ew,rw'⟩:=r.get h2;have hl:=r.length;have hn:=line63;have fin:EP X pins σ Q w s:=⟨z,H,I,rw',q⟩
 by_cases h0:0<=i
 ·have hj:i.toNat=j:=by
   rw[seqIndex_of h0 h5] at h1;exact Option.some.inj h1
  exact item_listR pl.isList h0 (by omega) (by rw[hj];simpa using ew) fin hs
 ·have hj:(i+(its.toArray.size:Int)).toNat=j:=by
   rw[seqIndex_neg (by omega) h4] at h1
   rw[List.size_toArray,←hl];exact Option.some.inj h1
  exact subscriptTail_builtinR (x:=w) pl.isList.typeIs slot_list_getitem.lookup
   (wpAny_getItem_list_neg (Q:=fun r s'=>r=w/\EP X pins σ Q r s') pl.isList (by omega) (by rw[List.size_toArray]<;>omega) (by omega) (by rw[hj];simpa using ew) ⟨rfl,fin⟩) hs
theorem ix_tup:IxR X (rIxT X.K):=by
 intro value slice pins s σ H x y v u Q I rx ry h hs;obtain⟨p,xs,i,z,rfl,rfl,hq,he,q⟩:=h
 cases rx;obtain⟨t,rfl⟩:=ry;obtain⟨its,r,pl,hz⟩:=I.tuple hq;obtain⟨j,h1,h2,h3,h4,h5⟩:=zly he;obtain⟨w,ew,rw'⟩:=r.get h2;have hl:=r.length;have hn:=line63;have fin:EP X pins σ Q w s:=⟨z,H,I,rw',q⟩;exact subscriptTail_builtinR (x:=w) pl.typeIs slot_tuple_getitem.lookup
  (getItem_tuple (j:=j) (Q:=fun r s'=>r=w/\EP X pins σ Q r s') pl (by omega) (by omega) (by rw[List.size_toArray,←hl];exact h1) (by simpa using ew) ⟨rfl,fin⟩) hs
theorem zhw(lo hi:Option Int)(n:Nat):(sliceBounds lo hi none n).1=((HT.sIx n 0 lo:Nat):Int)/\(sliceBounds lo hi none n).2.1=((HT.sIx n n hi:Nat):Int)/\(sliceBounds lo hi none n).2.2=1:=by
 refine⟨?_,?_,rfl⟩
 ·cases lo with
  |none=>simp[sliceBounds,HT.sIx]
  |some i=>
   simp only[sliceBounds,HT.sIx,Option.getD_none,show(1:Int)>0 by decide,if_true]
   by_cases h:i<0
   ·simp only[h,if_true]<;>omega
   ·simp only[h,if_false]<;>omega
 ·cases hi with
  |none=>simp[sliceBounds,HT.sIx]
  |some i=>
   simp only[sliceBounds,HT.sIx,Option.getD_none,show(1:Int)>0 by decide,if_true]
   by_cases h:i<0
   ·simp only[h,if_true]<;>omega
   ·simp only[h,if_false]<;>omega
theorem zgq(its:List Value)(lo hi:Option Int):slicePick its.toArray lo hi none=((its.drop (HT.sIx its.length 0 lo)).take (HT.sIx its.length its.length hi-HT.sIx its.length 0 lo)).toArray:=by
 obtain⟨h1,h2,h3⟩:=zhw lo hi its.toArray.size;unfold slicePick;rw[h1,h2,h3];simp only[sliceRange_one,pick_run,List.size_toArray]<;>rfl
def rSlL(K:PySem.W.Frag):V->Option Int->Option Int->Hp->VK->Prop:=fun x lo hi H Q=>∃a xs,x=.ref a/\SqL K H a xs/\∀p,H p=none->Q (.ref p) (upd H p (.lst (cutV xs lo hi)))
theorem sl_list:SlR X (rSlL X.K):=by
 intro pins s σ H x v vl vu lo hi sl Q I rx hs pl pu h;obtain⟨a,xs,rfl,hx,q⟩:=h
 cases rx;obtain⟨its,r,ht,hz⟩:=I.list hx;have hlen:=r.length;refine⟨"list",_,slot_list_getitem.lookup,ht.isList.typeIs,?_⟩;refine wpAny_getItem_list_slice ht.isList hs pl pu .none (by simp) ?_ (by rw[List.size_toArray]<;>omega)
 rw[zgq,←hlen];refine⟨.ref s.heap.objs.size,_,I.laid (t':=s.toks) (o:=.lst (cutV xs lo hi)) (fun b ob q=>Heap.get?_push_of_some _ q) (Nat.le_refl _) ?_,rfl,q _ (I.hok.fresh (Nat.le_refl _))⟩;exact⟨Nat.le_trans (zia xs lo hi) hz,_,0,(r.drop (HT.sIx xs.length 0 lo)).take (HT.sIx xs.length xs.length hi-HT.sIx xs.length 0 lo),Heap.get?_push_size _ rfl⟩
theorem zcx:zdg X (.builtin "len") (fun xs H Q=>∃p ys,xs=[.ref p]/\(SqL X.K H p ys∨SqT X.K H p ys)/\Q (.int ys.length) H):=by
 intro pins s σ H xs us Q I r h;obtain⟨p,ys,rfl,hq,q⟩:=h;obtain⟨u,rfl,rx⟩:=vals1 r
 cases rx;have hn:=line63;rcases hq with hq|hq
 ·obtain⟨its,r',pl,hz⟩:=I.list hq;have hlen:=r'.length;exact Calls.call_len_list pl.isList (by simp only[List.size_toArray]<;>omega) ⟨.int ys.length,H,I.tok _,⟨s.toks+1,by rw[List.size_toArray,hlen]⟩,q⟩
 ·obtain⟨its,r',pl,hz⟩:=I.tuple hq;have hlen:=r'.length;exact len_tuple pl (by simp only[List.size_toArray]<;>omega) ⟨.int ys.length,H,I.tok _,⟨s.toks+1,by rw[List.size_toArray,hlen]⟩,q⟩
def tyV(K:PySem.W.Frag)(T:String)(x:V)(H:Hp):Prop:=match x with
 |.str _=>T="str"
 |.int _=>T="int"
 |.ref p=>(T="list"/\∃xs,SqL K H p xs)∨(T="tuple"/\∃o,K.lookup p=some o/\o.cls=.type "tuple"/\o.dict=none)∨
   (T="dict"/\((∃kvs,H p=some (.dK kvs))∨∃kvs,H p=some (.dT kvs)))∨(T="set"/\∃S n,H p=some (.set S n))
 |_=>False
theorem tyV_is{pins:List (Addr×Obj)}{σ:St}{H:Hp}{s:Shared}{T:String}{x:V}{v:Value}(I:Inv X pins σ H s)(r:RelV x v)(ty:tyV X.K T x H):
  s.TypeIs v T/\∀a,v=.ref a->∃ob,s.heap.get? a=some ob/\ob.dict=none:=by
 cases x with
 |str z=>
  obtain⟨t,rfl⟩:=r
  cases(show T="str" from ty);exact⟨typeIs_str s z t,fun _ e=>nomatch e⟩
 |int i=>
  obtain⟨t,rfl⟩:=r
  cases(show T="int" from ty);exact⟨typeIs_int s i t,fun _ e=>nomatch e⟩
 |ref p=>
  cases r;rcases ty with⟨rfl,xs,hq⟩|⟨rfl,o,hk,hc,hd⟩|⟨rfl,hk⟩|⟨rfl,S,n,hk⟩
  ·obtain⟨its,_,pl,_⟩:=I.list hq;refine⟨pl.isList.typeIs,fun a e=>?_⟩
   cases e;obtain⟨o,n,e,c,hd,_⟩:=pl;exact⟨o,e,hd⟩
  ·refine⟨⟨o,I.kIn p o hk,hc⟩,fun a e=>?_⟩
   cases e;exact⟨o,I.kIn _ o hk,hd⟩
  ·have z:∃o,s.heap.get? p=some o/\o.ExactDict:=by
    rcases hk with⟨kvs,hk⟩|⟨kvs,hk⟩
    ·obtain⟨_,_,_,_,o,_,_,e,ex,_⟩:=I.hok p _ hk;exact⟨o,e,ex⟩
    ·obtain⟨_,_,_,_,o,_,_,e,ex,_⟩:=I.hok p _ hk;exact⟨o,e,ex⟩
   obtain⟨o,e,ex⟩:=z;refine⟨⟨o,e,ex.1⟩,fun a e2=>?_⟩
   cases e2;exact⟨o,e,ex.2.1⟩
  ·obtain⟨o,_,_,_,e,ex,_⟩:=I.hok p _ hk;refine⟨⟨o,e,ex.1⟩,fun a e2=>?_⟩
   cases e2;exact⟨o,e,ex.2.1⟩
 |_=>exact False.elim ty
def tBM(K:PySem.W.Frag)(T:String)(r:V->List V->Hp->VK->Prop)(to:TE)(t:TA):TE:=fun σ H Q=>to σ H fun x H1=>tyV K T x H1/\t σ H1 fun xs H2=>r x xs H2 Q
variable{o e:Expr}{es:List Expr}{to:TE}{t:TA}{name:Str}{apos cpos:Pos}{T id:String}{r:V->List V->Hp->VK->Prop}
theorem zhj(pa:PlainAttrs T)(slot:Slot T name id)(hty:typeOf (.builtin id)=pure (.type "method_descriptor"))(hm:MtR X id r)(ho:PE X o to)(ha:PA X (e::es) t)
  (hbase:attributeBase o name X.env (eval o X.env)=eval o X.env:=by rfl)
  (hfew:((backTo cpos (starEach (e::es) X.env)).all (fun x=> !x.1)&&(backToKw cpos (keywordEach [] X.env)).all (fun x=>x.1.isSome)
   &&decide ((e::es).length+([]:List Keyword).length+(if([]:List Keyword).isEmpty then 0 else 1)<30))=true:=by rfl)
  (hline:(apos.endLine==cpos.line)=true:=by rfl) (hs:starEach (e::es) X.env=(false,eval e X.env)::starEach es X.env:=by rfl) (hplain:(backTo cpos (starEach es X.env)).any (·.1)=false:=by rfl):
  PE X (.Call (.Attribute o name apos) (e::es) [] cpos) (tBM X.K T r to t):=by
 intro pins s σ H Q I h;refine wpAny_Call_method_late hbase hfew hline rfl (thn (ho pins s σ H _ I h) fun v s1⟨x,H1,I1,r1,ty,q1⟩=>?_);obtain⟨h1,h2⟩:=tyV_is I1 r1 ty;refine⟨T,id,pa,slot,hty,h1,h2,?_⟩;have hA:=ha cpos pins s1 σ H1 _ I1 q1;rw[hs] at hA⊢;refine Calls.callWith_builtin (by show(false||(backTo cpos (starEach es X.env)).any (·.1))=false;rw[hplain]<;>rfl) (Calls.evalArgs_plain ?_)
 exact thn hA fun us s2⟨vs,H2,I2,r2,q2⟩=>hm pins s2 σ H2 x vs v us Q I2 r1 r2 q2
end
def MtM(X:Cx)(id:String)(r:V->List V->Hp->VK->Prop):Prop:=
 ∀(pins:List (Addr×Obj))(s:Shared)(σ:St)(H:Hp)(x:V)(xs:List V)(v:Value)(us:List Value)(Q:VK),Inv X pins σ H s->RelV x v->Vals xs us->r x xs H Q->
  wpAny (model X.prog X.w) X.A (call (.builtin id) (v::us)) (EP X pins σ Q) X.xe s
theorem Vals.one:∀{x:V}{us:List Value},Vals [x] us->∃u,us=[u]/\RelV x u
 |_,_,.cons r .nil=>⟨_,rfl,r⟩
section
variable{X:Cx}{pins:List (Addr×Obj)}{σ:St}{H:Hp}{s:Shared}{l b:Addr}{xs ys zs:List V}
theorem Inv.lset{its its':List Value}{n:Nat}{f:Array Value->Array Value}{t':Nat}(I:Inv X pins σ H s)(hH:H l=some (.lst xs))
  (e:s.heap.get? l=some {cls:=.type "list",data:=.seq its.toArray n})(hf:f its.toArray=its'.toArray)(hv:Vals ys its')(hz:ys.length<=sizeLine):
  Inv X pins σ (upd H l (.lst ys)) {s with heap:=s.heap.update l (Obj.mapSeq f),toks:=t'}:=by
 have q:=PySem.IsL.update e f;rw[hf] at q;refine I.write (x:=l) (e:=l) (by rw[hH];exact trivial) (.inl rfl) (fun b' u hb hu=>(Heap.get?_update_other s.heap (Obj.mapSeq f) (Ne.symm hb)).trans hu) ⟨_,q⟩ ?_
 exact⟨hz,its',_,hv,q⟩
theorem Inv.lnew{its:List Value}{t':Nat}(I:Inv X pins σ H s)(hv:Vals ys its)(hz:ys.length<=sizeLine):
  Inv X pins σ (upd H s.heap.objs.size (.lst ys)) {s with heap:=s.heap.push {cls:=.type "list",data:=.seq its.toArray},toks:=t'}:=
 I.laid (fun _ _ q=>Heap.get?_push_of_some _ q) (Nat.le_refl _) ⟨hz,its,0,hv,Heap.get?_push_size _ rfl⟩
theorem Inv.fresh(I:Inv X pins σ H s):H s.heap.objs.size=none:=I.hok.fresh (Nat.le_refl _)
theorem Inv.lstM(I:Inv X pins σ H s)(hH:H l=some (.lst xs)):xs.length<=sizeLine/\∃(its:List Value)(n:Nat),Vals xs its/\xs.length=its.length/\s.heap.get? l=some {cls:=.type "list",data:=.seq its.toArray n}:=by
 obtain⟨z,its,n,r,e⟩:=I.hok l _ hH;exact⟨z,its,n,r,r.length,e⟩
theorem notLongL{n:Nat}(h:n<=sizeLine):Builtin.List.listTooLong n=false:=by
 unfold Builtin.List.listTooLong;exact decide_eq_false (by omega)
end
section
variable{X:Cx}
def rAppend:V->List V->Hp->VK->Prop:=fun x vs H Q=>∃l xs y,x=.ref l/\vs=[y]/\H l=some (.lst xs)/\xs.length<sizeLine/\Q .non (upd H l (.lst (xs++[y])))
theorem zbn:MtM X "list.append" rAppend:=by
 intro pins s σ H x vs v us Q I rx rv h;obtain⟨l,xs,y,rfl,rfl,hH,hz,q⟩:=h
 cases rx;obtain⟨u,rfl,ru⟩:=rv.one;obtain⟨z,its,n,r,hl,e⟩:=I.lstM hH;refine call_meets F.slot_list_append ⟨_,e,rfl⟩ F.entry_list_append (F.args_list_append_2 _ _) (PySem.list_append l its.toArray n u (by rw[List.size_toArray];omega)) ⟨e,?_⟩
 refine⟨.non,_,I.lset (its':=its++[u]) hH e (by simp) (r.append (.cons ru .nil)) ?_,rfl,q⟩
 rw[List.length_append,List.length_singleton];omega
def zid:V->List V->Hp->VK->Prop:=fun x vs H Q=>∃l b xs zs,x=.ref l/\vs=[.ref b]/\H l=some (.lst xs)/\H b=some (.lst zs)/\xs.length+zs.length<=sizeLine/\Q .non (upd H l (.lst (xs++zs)))
theorem zh6:MtM X "list.extend" zid:=by
 intro pins s σ H x vs v us Q I rx rv h;obtain⟨l,b,xs,zs,rfl,rfl,hH,hB,hz,q⟩:=h
 cases rx;obtain⟨u,rfl,ru⟩:=rv.one
 cases ru;obtain⟨z,its,n,r,hl,e⟩:=I.lstM hH;obtain⟨z2,its2,n2,r2,hl2,e2⟩:=I.lstM hB;have hsz:its.toArray.size+its2.toArray.size<=sizeLine:=by rw[List.size_toArray,List.size_toArray];omega
 have hlong:¬(!its.toArray.isEmpty&&Builtin.List.listTooLong (its.toArray.size+its2.toArray.size))=true:=by
  rw[notLongL hsz,Bool.and_false];exact Bool.false_ne_true
 refine call_meets F.slot_list_extend ⟨_,e,rfl⟩ F.entry_list_extend (F.args_list_extend_2 _ _)
  (AutoSeq1.list_extend_list_list_0 l its.toArray n b its2.toArray n2 hlong (by rw[List.size_toArray];omega) (by omega)) ⟨e,e2,?_⟩
 refine⟨.non,_,I.lset (its':=its++its2) hH e (by simp) (r.append r2) ?_,rfl,q⟩
 rw[List.length_append];omega
def rCat:R2:=fun x y H Q=>∃l b xs zs,x=.ref l/\y=.ref b/\H l=some (.lst xs)/\H b=some (.lst zs)/\xs.length+zs.length<=sizeLine/\∀p,H p=none->Q (.ref p) (upd H p (.lst (xs++zs)))
theorem zjb:OpR X (binaryOp .Add) rCat:=by
 intro pins s σ H x y v u Q I rx ry h;obtain⟨l,b,xs,zs,rfl,rfl,hH,hB,hz,q⟩:=h
 cases rx
 cases ry;obtain⟨z,its,n,r,hl,e⟩:=I.lstM hH;obtain⟨z2,its2,n2,r2,hl2,e2⟩:=I.lstM hB;refine PySem.P.add_list e e2 ?_ (by rw[List.size_toArray,List.size_toArray];omega)
 have ea:its.toArray++its2.toArray=(its++its2).toArray:=by simp
 rw[ea];exact⟨.ref _,_,I.lnew (t':=s.toks) (r.append r2) (by rw[List.length_append];omega),rfl,q _ I.fresh⟩
end
end L2
namespace Att
open PySem PySem.W PySem.Calls PyProof.Rows
theorem zfj{P:Params}{h:Heap}:∀(ns:List Int)(vs:List Value),WellAll P h vs (ns.map WData.int)->IntsAre vs ns:=by
 intro ns
 induction ns with
 |nil=>
  intro vs w;rw[List.map_nil] at w
  cases w;exact .nil
 |cons n ns ih=>
  intro vs w;rw[List.map_cons] at w
  cases w with
  |cons a b=>
   cases a;exact .cons _ _ (ih _ b)
theorem zld{l:OpenLaw}{n:Nat}(hn:l.most=some n){P:Params}{h:Heap}{args:List WData}{vals:List Value}
  (hpre:l.row.toRowW.claim.pre args=true)(hwl:WellAll P h vals args):
  ∃a vs ns,vals=[Value.ref a]/\args=[WData.list (ns.map WData.int)]/\h.get? a=some {cls:=.type "list",data:=.seq vs.toArray}/\IntsAre vs ns/\ns.length<=n:=by
 have hsh:WShape.hasAll [] args [.list .int]=true:=(pre_splitW hpre).1;have hc:l.pre.holds [] {args:=args}=true:=(pre_splitW hpre).2;obtain⟨d,r,rfl,h1,h2⟩:=hasAllW_cons hsh;obtain rfl:=hasAllW_nil h2;obtain⟨xs,rfl,h3⟩:=hasW_list h1;obtain⟨ns,rfl⟩:=items_int h3;have hlen:ns.length<=n:=by
  unfold OpenLaw.pre at hc;have h4:(WTm.not (.lt (.lit (.int (n:Int))) (.len (.arg 0)))).holds [] {args:=[.list (ns.map .int)]}=true:=by
   have h4:=(holds_andW hc).1;rw[hn] at h4;exact h4
  have h5:=condW_of h4 (w_not (w_lt w_lit (w_len_list (w_arg rfl))));rw[List.length_map] at h5;refine Nat.le_of_not_lt fun q=>?_;have q':(n:Int)<((ns.length:Nat):Int):=by omega
  first
   |(rw[decide_eq_true q'] at h5;exact absurd h5 (by decide))
   |(simp at h5;omega)
 cases hwl with
 |cons w1 w2=>
  cases w2
  cases w1 with
  |list ho hall=>exact⟨_,_,ns,rfl,rfl,ho,zfj ns _ hall,hlen⟩
theorem zm0(l:OpenLaw)(args:List WData):l.row.toRowW.claim.post args (.bool true) args=true:=
 postW_of (r:=l.row.toRowW) (X:=(true==true))
  (show WShape.has [] (.bool true) .bool=true by first|rfl|decide|simp[WShape.has,WShape.arms,WShape.armsAll])
  (show(WTm.eq .res (.lit (.bool true))).value [] {args:=args,res:=some (.bool true),after:=args}=some (.bool (true==true)) from w_eq_bool (w_res rfl) w_lit) rfl
theorem attach_call{l:OpenLaw}{n:Nat}{q:Program}{loose:List Str}{XP:(Str->Option Value)->Heap->Prop}{YP:World->Heap->Prop}{d:DefRec}
  (hn:l.most=some n)(hdf:d.params.defaults=[])
  (call:∀(w:World)(s₀ s₁:Shared)(mg mb:Str->Option Value)(fa:Addr)(o:Obj)(pm cd doc:Value)(a:Addr)(vs:List Value)(ns:List Int),
   Ground q loose [] XP w s₀ mg mb s₁.heap->YP w s₁.heap->
   s₁.heap.get? fa=some o->o.data=.func (docDef d.name d.params d.body d.scope pm cd doc)->s₁.heap.CodeRec cd d.name->mg d.name=some (.ref fa)->
   s₁.heap.get? a=some {cls:=.type "list",data:=.seq vs.toArray}->IntsAre vs ns->ns.length<=n->s₁.gens=#[]->
   codeAny (model l.prog w) callerA (.call (.ref fa) ⟨[.ref a],[]⟩) (fun r s'=>r=.ok (.ret (.bool true))/\OldK s₁.heap s'.heap/\s'.os=s₁.os/\AllBare s'.gens) s₁):
  WalkO q loose XP YP l.row.toRowW d [] (fun f vs=>PySem.call f vs):=by
 intro w s₀ s₁ mg mb G Y fa o pm cd doc dV kV ho hd hcd hD hmg hg args vals as hpre hlay hrd hwl hlo;obtain rfl:dV=.none:=Dflts.none hD hdf;obtain rfl:kV=.none:=Dflts.noKw hD;obtain⟨a,vs,ns,rfl,rfl,hobj,hints,hlen⟩:=zld hn hpre hwl;refine enter_call (codeAny_mono (call w s₀ s₁ mg mb fa o pm cd doc a vs ns G Y ho (fd_plain hd) hcd hmg hobj hints hlen hg) fun r s' hq=>?_);obtain⟨rfl,h2,h3,h4⟩:=hq;exact⟨.inl ⟨.bool true,.bool true,[],rfl,fun _=>rfl,.bool true,zm0 l _,fun _=>⟨List.Pairwise.nil,fun _ hm=>(nomatch hm)⟩⟩,h2,h3,h4⟩
end Att
namespace L2
open PySem PySem.Spec PyProof.Rows
theorem zh5:∀{vs:List Value}{ns:List Int},IntsAre vs ns->Vals (ns.map V.int) vs
 |_,_,.nil=>.nil
 |_,_,.cons n t h=>.cons ⟨t,rfl⟩ (zh5 h)
def za4(s:Stmt):Arguments:=match s with
 |.FunctionDef _ a _ _ _ _ _ _ _ _=>a
 |_=>{posonlyargs:=[],args:=[],vararg:=none,kwonlyargs:=[],kw_defaults:=[],kwarg:=none,defaults:=[]}
def za3(s:Stmt):List Stmt:=match s with
 |.FunctionDef _ _ b _ _ _ _ _ _ _=>b
 |_=>[]
def za0(s:Stmt):Scope:=match s with
 |.FunctionDef _ _ _ _ _ _ sc _ _ _=>sc
 |_=>{kind:=.function,names:=[],isGenerator:=false,isCoroutine:=false}
abbrev CX0:CXT:=fun _ _ _ _ _ _=>False
abbrev E0:XK:=fun _ _ _=>False
theorem pass0{X:Cx}:Passes CX0 X E0:=fun _ _ _ _ _ _ _ h=>h.elim
structure Fun(K:PySem.W.Frag)(x qual:Str)(st:Stmt)(f:Addr)(fd:FuncData):Prop where
 ex:∃(oc:Value)(od:Option Addr)(kV doc pm:Value)(an:Option Addr)(cdv ct:Value)(osl:Array (Option Value)),
  fd=PySem.W.fnOf x qual (za4 st) (za3 st) (za0 st) .none kV doc pm an cdv ct/\K.lookup f=some ⟨oc,od,.func fd,osl⟩/\PySem.W.codeIn K cdv qual=true
 kp:PySem.W.keepIn K (.ref f)=true
section
variable{P:Program}{w:World}{K:PySem.W.Frag}{mg:Str->Option Value}{base:Heap}
theorem Fun.ok{x qual:Str}{st:Stmt}{f:Addr}{fd:FuncData}{N ps:List Str}{k:Nat}{sp:Sp}(F:Fun K x qual st f fd)(S:zaa N ps (za0 st))(len:∀vs H Q E,sp vs H Q E->vs.length=ps.length)
  (hbody:∀(cdv:Value)(A:Around)(outer:List Env)(s:Shared)(H:Hp)(vs:List V)(Q:VK)(E:XK),Room k (A.deeper (envOfC qual (za0 st) s.heap.objs.size f cdv))->sp vs H Q E->
   ∃t,PSs (cxOf CX0 P w K mg base N qual (za0 st) f cdv A outer s H E).nox (za3 st) t/\t {nx:=fun _ H'=>Q .non H',rt:=Q} (start N vs) H):FnOk P w K mg base CX0 (k+1) f fd ps sp:=by
 obtain⟨oc,od,kV,doc,pm,an,cdv,ct,osl,rfl,lk,hcd⟩:=F.ex;refine fn_of lk hcd S len fun A outer s H vs Q E hr hsp=>?_;obtain⟨t,h,q⟩:=hbody cdv A outer s H vs Q E hr hsp;exact⟨t,h.nox,q⟩
theorem Fun.binds{x qual:Str}{st:Stmt}{f:Addr}{fd:FuncData}{ps:List Str}(F:Fun K x qual st f fd)
  (h:∀(kV doc pm:Value)(an:Option Addr)(cdv ct:Value)(us:List Value),us.length=ps.length->bindArgs (PySem.W.fnOf x qual (za4 st) (za3 st) (za0 st) .none kV doc pm an cdv ct) ⟨us,[]⟩=pure (ps.zip us)):Binds K fd ps []:=by
 obtain⟨oc,od,kV,doc,pm,an,cdv,ct,osl,rfl,lk,hcd⟩:=F.ex;exact .all (h kV doc pm an cdv ct)
theorem zap{x qual:Str}{st:Stmt}{f:Addr}{oc:Value}{od an:Option Addr}{osl:Array (Option Value)}{kV doc pm cdv ct:Value}(l:K.lookup f=some ⟨oc,od,.func (PySem.W.fnOf x qual (za4 st) (za3 st) (za0 st) .none kV doc pm an cdv ct),osl⟩)
  (c:PySem.W.codeIn K cdv qual=true)(k:PySem.W.keepIn K (.ref f)=true):Fun K x qual st f (PySem.W.fnOf x qual (za4 st) (za3 st) (za0 st) .none kV doc pm an cdv ct):=⟨⟨oc,od,kV,doc,pm,an,cdv,ct,osl,rfl,l,c⟩,k⟩
end
theorem zgn{A:Around}{k:Nat}(hr:Room k A):A.units+1<cLine:=Nat.lt_of_le_of_lt (Nat.add_le_add_left (by decide:1<=64) _) hr.units
theorem small1000{n:Nat}(h:n<=1000):n<sizeLine:=Nat.lt_of_le_of_lt h (by decide)
section
variable{X:Cx}
theorem pv(i:Nat){x:Str}{pos:Pos}(hN:X.N[i]?=some x:=by rfl)(hv:Vis X.env.scope x:=by first|exact Or.inl rfl|exact Or.inr (Or.inl rfl)|exact Or.inr (Or.inr rfl))(hd:(x==("__debug__":Str))=false:=by decide)
  (hcd:(x==("__classdict__":Str))=false:=by decide):PE X (.Name x pos) (tVar i):=pe_var hN hv hd hcd
end
theorem iteF{A B:Prop}(h:B):if false=true then A else B:=by
 rw[if_neg Bool.false_ne_true];exact h
theorem iteT{A B:Prop}(h:A):if true=true then A else B:=by
 rw[if_pos rfl];exact h
theorem ite2{c A B:Prop}[Decidable c](h1:c->A)(h2:¬c->B):if c then A else B:=by
 by_cases h:c
 ·rw[if_pos h];exact h1 h
 ·rw[if_neg h];exact h2 h
def Same(H H':Hp):Prop:=∀b o,H b=some o->H' b=some o
theorem Same.refl(H:Hp):Same H H:=fun _ _ h=>h
theorem Same.trans{H H1 H2:Hp}(a:Same H H1)(b:Same H1 H2):Same H H2:=fun c o h=>b c o (a c o h)
theorem Same.free{H H':Hp}(e:Same H H'){l:Addr}(h:H' l=Option.none):H l=Option.none:=by
 cases q:H l with
 |none=>rfl
 |some o=>
  rw[e l o q] at h
  cases h
theorem Same.seq{K:PySem.W.Frag}{H H':Hp}{a:Addr}{xs:List V}(e:Same H H')(h:SqL K H a xs):SqL K H' a xs:=by
 rcases h with(h|⟨o,h⟩)|h
 ·exact .inl (.inl (e _ _ h))
 ·exact .inl (.inr ⟨o,e _ _ h⟩)
 ·exact .inr h
section
variable{X:Cx}
def CBig(i j:Int):Prop:=i.natAbs<2^1000000/\j.natAbs<2^1000000
theorem CBig.ok{i j:Int}(h:CBig i j):IntMulOk i j:=
 PySem.IntMulOk.of_le (PySem.intBits_le_iff.mpr h.1) (PySem.intBits_le_iff.mpr h.2) (by decide)
theorem zaf:OpR X (binaryOp .Mult) (rI CBig fun i j=>.int (i*j)):=opI fun _ _ _ _ _ _ _ hc q=>mul_int q hc.ok
def CDivB(_i j:Int):Prop:=j≠0/\j.natAbs<2^8999
theorem zci:OpR X (binaryOp .FloorDiv) (rI CDivB fun i j=>.int (i.fdiv j)):=opI fun _ j _ _ _ _ _ hc q=>by
 refine floordiv_int hc.1 q (.inl (PyProof.noPylong_of_log2 ?_));have h0:j.natAbs≠0:=by have:=hc.1;omega
 have:=(Nat.log2_lt h0).mpr hc.2;omega
theorem zo2:bootBuiltins "abs"=some (.builtin "abs"):=by decide+kernel
theorem zed:bootBuiltins "len"=some (.builtin "len"):=by decide+kernel
theorem zee:bootBuiltins "isinstance"=some (.builtin "isinstance"):=by decide+kernel
theorem bt_int:bootBuiltins "int"=some (.type "int"):=by decide+kernel
theorem bt_bool:bootBuiltins "bool"=some (.type "bool"):=by decide+kernel
def dictO(a:Addr):HO:=.ext fun h=>∃o,h.get? a=some o/\o.cls=.type "dict"
def tyN(K:PySem.W.Frag)(H:Hp)(x:V)(T:String):Prop:=match x with
 |.non=>T="NoneType"
 |.bl _=>T="bool"
 |.int _=>T="int"
 |.str _=>T="str"
 |.ref p=>(T="list"/\∃xs,SqL K H p xs)∨(T="tuple"/\∃xs,SqT K H p xs)∨(T="dict"/\H p=some (dictO p))
 |_=>False
theorem tyN_is{pins:List (Addr×Obj)}{σ:St}{H:Hp}{s:Shared}{T:String}{x:V}{v:Value}(I:Inv X pins σ H s)(r:RelV x v)(ty:tyN X.K H x T):s.TypeIs v T:=by
 cases x with
 |non=>cases r;cases(show T="NoneType" from ty);rfl
 |bl b=>cases r;cases(show T="bool" from ty);rfl
 |int i=>obtain⟨t,rfl⟩:=r;cases(show T="int" from ty);exact typeIs_int s i t
 |str z=>obtain⟨t,rfl⟩:=r;cases(show T="str" from ty);exact typeIs_str s z t
 |ref p=>
  cases r;rcases ty with⟨rfl,xs,hq⟩|⟨rfl,xs,hq⟩|⟨rfl,hq⟩
  ·obtain⟨its,_,pl,_⟩:=I.list hq;exact pl.isList.typeIs
  ·obtain⟨its,_,⟨o,e,c,_⟩,_⟩:=I.tuple hq;exact⟨o,e,c⟩
  ·obtain⟨⟨o,e,c⟩,_⟩:=I.hok p _ hq;exact⟨o,e,c⟩
 |_=>exact False.elim ty
theorem ze7{pins:List (Addr×Obj)}{σ:St}{H:Hp}{s:Shared}{Tx T:String}{b:Bool}{x:V}{v:Value}{Q:VK}(hne:b=false->(Value.type Tx==Value.type T)=false)
  (hty:typeOf (.type T)=pure (.type "type"))(hsub:isSubtype (.type Tx) (.type T)=pure b)(I:Inv X pins σ H s)(r:RelV x v)(ht:tyN X.K H x Tx)(q:Q (.bl b) H):
  wpAny (model X.prog X.w) X.A (call (.builtin "isinstance") [v,.type T]) (EP X pins σ Q) X.xe s:=by
 cases b with
 |true=>exact call_isinstance_yes (tyN_is I r ht) hty hsub ⟨.bl true,H,I,rfl,q⟩
 |false=>
  have hq:EP X pins σ Q (.bool false) {s with toks:=s.toks+1}:=⟨.bl false,H,I.tok _,rfl,q⟩
  cases x with
  |non=>cases r;cases(show Tx="NoneType" from ht);exact call_isinstance (isinstance_false_none (hne rfl) hty hsub) hq
  |bl b=>cases r;cases(show Tx="bool" from ht);exact call_isinstance (isinstance_false_bool (hne rfl) hty hsub) hq
  |int i=>obtain⟨t,rfl⟩:=r;cases(show Tx="int" from ht);exact call_isinstance (isinstance_false_int (hne rfl) hty hsub) hq
  |str z=>obtain⟨t,rfl⟩:=r;cases(show Tx="str" from ht);exact call_isinstance (isinstance_false_str (hne rfl) hty hsub) hq
  |ref p=>
   have ty:=tyN_is I r ht
   cases r;rcases ht with⟨rfl,xs,hs⟩|⟨rfl,xs,hs⟩|⟨rfl,hs⟩
   ·exact call_isinstance (isinstance_false_list (hne rfl) hty hsub) ⟨ty,hq⟩
   ·exact call_isinstance (isinstance_false_tuple (hne rfl) hty hsub) ⟨ty,hq⟩
   ·exact call_isinstance (isinstance_false_dict (hne rfl) hty hsub) ⟨ty,hq⟩
  |_=>exact False.elim ht
def isiB(Tx T:String):Bool:=(Tx==T)||(Tx=="bool"&&T=="int")
theorem meta_int:typeOf (.type "int")=pure (.type "type"):=by kernel_rfl
theorem zmu:typeOf (.type "bool")=pure (.type "type"):=by kernel_rfl
theorem tyN_in{K:PySem.W.Frag}{H:Hp}{x:V}{T:String}(h:tyN K H x T):T="NoneType"∨T="bool"∨T="int"∨T="str"∨T="list"∨T="tuple"∨T="dict":=by
 cases x with
 |non=>exact .inl h
 |bl b=>exact .inr (.inl h)
 |int i=>exact .inr (.inr (.inl h))
 |str z=>exact .inr (.inr (.inr (.inl h)))
 |ref p=>
  rcases h with⟨h,_⟩|⟨h,_⟩|⟨h,_⟩
  ·exact .inr (.inr (.inr (.inr (.inl h))))
  ·exact .inr (.inr (.inr (.inr (.inr (.inl h)))))
  ·exact .inr (.inr (.inr (.inr (.inr (.inr h)))))
 |_=>exact False.elim h
def rIsi(K:PySem.W.Frag)(T:String):List V->Hp->VK->Prop:=fun xs H Q=>∃x Tx,xs=[x,.ty T]/\tyN K H x Tx/\Q (.bl (isiB Tx T)) H
theorem isi_T{T:String}(hty:typeOf (.type T)=pure (.type "type"))(h1:isSubtype (.type "NoneType") (.type T)=pure (isiB "NoneType" T))(h2:isSubtype (.type "bool") (.type T)=pure (isiB "bool" T))(h3:isSubtype (.type "int") (.type T)=pure (isiB "int" T))
  (h4:isSubtype (.type "str") (.type T)=pure (isiB "str" T))(h5:isSubtype (.type "list") (.type T)=pure (isiB "list" T))(h6:isSubtype (.type "tuple") (.type T)=pure (isiB "tuple" T))(h7:isSubtype (.type "dict") (.type T)=pure (isiB "dict" T))
  (hn:∀Tx∈["NoneType","bool","int","str","list","tuple","dict"],isiB Tx T=false->(Value.type Tx==Value.type T)=false):zdg X (.builtin "isinstance") (rIsi X.K T):=by
 intro pins s σ H xs us Q I r h;obtain⟨x,Tx,rfl,ht,q⟩:=h;obtain⟨u,w',rfl,ru,rw'⟩:=vals2 r
 cases rw';rcases tyN_in ht with rfl|rfl|rfl|rfl|rfl|rfl|rfl
 ·exact ze7 (hn _ (by simp)) hty h1 I ru ht q
 ·exact ze7 (hn _ (by simp)) hty h2 I ru ht q
 ·exact ze7 (hn _ (by simp)) hty h3 I ru ht q
 ·exact ze7 (hn _ (by simp)) hty h4 I ru ht q
 ·exact ze7 (hn _ (by simp)) hty h5 I ru ht q
 ·exact ze7 (hn _ (by simp)) hty h6 I ru ht q
 ·exact ze7 (hn _ (by simp)) hty h7 I ru ht q
theorem zhi:zdg X (.builtin "isinstance") (rIsi X.K "int"):=isi_T meta_int (by rw[isSubtype_type];kernel_rfl) (by rw[isSubtype_type];kernel_rfl) (by rw[isSubtype_type];kernel_rfl) (by rw[isSubtype_type];kernel_rfl) (by rw[isSubtype_type];kernel_rfl) (by rw[isSubtype_type];kernel_rfl) (by rw[isSubtype_type];kernel_rfl) (by decide+kernel)
theorem zgo:zdg X (.builtin "isinstance") (rIsi X.K "bool"):=isi_T zmu (by rw[isSubtype_type];kernel_rfl) (by rw[isSubtype_type];kernel_rfl) (by rw[isSubtype_type];kernel_rfl) (by rw[isSubtype_type];kernel_rfl) (by rw[isSubtype_type];kernel_rfl) (by rw[isSubtype_type];kernel_rfl) (by rw[isSubtype_type];kernel_rfl) (by decide+kernel)
end
theorem cx_K{CX:CXT}{P:Program}{w:World}{K:PySem.W.Frag}{mg:Str->Option Value}{base:Heap}{N:List Str}{qual:Str}{scope:Scope}{f:Addr}{cd:Value}{A:Around}{outer:List Env}{s:Shared}{H:Hp}{E:XK}:
  (cxOf CX P w K mg base N qual scope f cd A outer s H E).K=K:=rfl
theorem tyN_non{K:PySem.W.Frag}{H:Hp}{T:String}:tyN K H .non T=(T="NoneType"):=rfl
theorem tyN_bl{K:PySem.W.Frag}{H:Hp}{T:String}{b:Bool}:tyN K H (.bl b) T=(T="bool"):=rfl
theorem tyN_int{K:PySem.W.Frag}{H:Hp}{T:String}{i:Int}:tyN K H (.int i) T=(T="int"):=rfl
theorem tyN_str{K:PySem.W.Frag}{H:Hp}{T:String}{x:Str}:tyN K H (.str x) T=(T="str"):=rfl
theorem isi_ii:isiB "int" "int"=true:=by decide+kernel
theorem isi_ib:isiB "int" "bool"=false:=by decide+kernel
theorem znj:isiB "int" "tuple"=false:=by decide+kernel
theorem zlq:isiB "int" "list"=false:=by decide+kernel
theorem zn2:isiB "bool" "int"=true:=by decide+kernel
theorem zlx:isiB "bool" "bool"=true:=by decide+kernel
theorem zlj:isiB "NoneType" "int"=false:=by decide+kernel
theorem zml:isiB "str" "int"=false:=by decide+kernel
theorem zne:isiB "tuple" "int"=false:=by decide+kernel
theorem znz:isiB "list" "int"=false:=by decide+kernel
theorem zlz:isiB "dict" "int"=false:=by decide+kernel
theorem zl4:isiB "tuple" "tuple"=true:=by decide+kernel
theorem zll:isiB "list" "list"=true:=by decide+kernel
theorem scal_ii{i j:Int}:scal (.int i) (.int j)=true:=rfl
theorem scal_bb{i j:Bool}:scal (.bl i) (.bl j)=true:=rfl
theorem za2{H:Hp}{p:Addr}(h:H p=none)(o:HO):Same H (upd H p o):=fun b u q=>by rw[za7 (zag q h)];exact q
theorem cbig{i j:Int}{m n:Nat}(h1:i.natAbs<2^m)(h2:j.natAbs<2^n)(hm:m<=1000000:=by decide)(hn:n<=1000000:=by decide):CBig i j:=
 ⟨Nat.lt_of_lt_of_le h1 (Nat.pow_le_pow_right (by decide) hm),Nat.lt_of_lt_of_le h2 (Nat.pow_le_pow_right (by decide) hn)⟩
theorem cdivb{i j:Int}{n:Nat}(h0:j≠0)(h:j.natAbs<2^n)(hn:n<=8999:=by decide):CDivB i j:=⟨h0,Nat.lt_of_lt_of_le h (Nat.pow_le_pow_right (by decide) hn)⟩
def getI(σ:St)(i:Nat):Int:=match σ[i]? with
 |some (some (.int x))=>x
 |_=>0
theorem sz0:(0<=sizeLine)=True:=eq_true (by decide)
theorem sz1:(1<=sizeLine)=True:=eq_true (by decide)
theorem sz2:(2<=sizeLine)=True:=eq_true (by decide)
theorem sz3:(3<=sizeLine)=True:=eq_true (by decide)
theorem sz4:(4<=sizeLine)=True:=eq_true (by decide)
def NS(e:Expr):Prop:=∀es env,starEach (e::es) env=(false,eval e env)::starEach es env
theorem za6{a b c}:NS (Expr.Constant a b c):=fun _ _=>rfl
theorem za1{a b}:NS (Expr.Name a b):=fun _ _=>rfl
theorem zce{a b c d}:NS (Expr.Call a b c d):=fun _ _=>rfl
theorem zad{a b c d}:NS (Expr.BinOp a b c d):=fun _ _=>rfl
theorem zbo{a b c}:NS (Expr.Tuple a b c):=fun _ _=>rfl
theorem zib{a b}:NS (Expr.List a b):=fun _ _=>rfl
theorem za8{a b c}:NS (Expr.Subscript a b c):=fun _ _=>rfl
theorem zkr{a b c d}:NS (Expr.Compare a b c d):=fun _ _=>rfl
theorem zda{a b c d}:NS (Expr.ListComp a b c d):=fun _ _=>rfl
section
variable{X:Cx}
theorem pa1{e1:Expr}{t1:TE}(h1:PE X e1 t1)(n1:NS e1):PA X [e1] (zc7 t1 tNil):=(zbh h1 zd3 (n1 _ _))
theorem pa2{e1 e2:Expr}{t1 t2:TE}(h1:PE X e1 t1)(n1:NS e1)(h2:PE X e2 t2)(n2:NS e2):PA X [e1,e2] (zc7 t1 (zc7 t2 tNil)):=(zbh h1 (zbh h2 zd3 (n2 _ _)) (n1 _ _))
theorem pa3{e1 e2 e3:Expr}{t1 t2 t3:TE}(h1:PE X e1 t1)(n1:NS e1)(h2:PE X e2 t2)(n2:NS e2)(h3:PE X e3 t3)(n3:NS e3):PA X [e1,e2,e3] (zc7 t1 (zc7 t2 (zc7 t3 tNil))):=(zbh h1 (zbh h2 (zbh h3 zd3 (n3 _ _)) (n2 _ _)) (n1 _ _))
theorem pa4{e1 e2 e3 e4:Expr}{t1 t2 t3 t4:TE}(h1:PE X e1 t1)(n1:NS e1)(h2:PE X e2 t2)(n2:NS e2)(h3:PE X e3 t3)(n3:NS e3)(h4:PE X e4 t4)(n4:NS e4):PA X [e1,e2,e3,e4] (zc7 t1 (zc7 t2 (zc7 t3 (zc7 t4 tNil)))):=(zbh h1 (zbh h2 (zbh h3 (zbh h4 zd3 (n4 _ _)) (n3 _ _)) (n2 _ _)) (n1 _ _))
theorem pa7{e1 e2 e3 e4 e5 e6 e7:Expr}{t1 t2 t3 t4 t5 t6 t7:TE}(h1:PE X e1 t1)(n1:NS e1)(h2:PE X e2 t2)(n2:NS e2)(h3:PE X e3 t3)(n3:NS e3)(h4:PE X e4 t4)(n4:NS e4)(h5:PE X e5 t5)(n5:NS e5)(h6:PE X e6 t6)(n6:NS e6)(h7:PE X e7 t7)(n7:NS e7):PA X [e1,e2,e3,e4,e5,e6,e7] (zc7 t1 (zc7 t2 (zc7 t3 (zc7 t4 (zc7 t5 (zc7 t6 (zc7 t7 tNil))))))):=(zbh h1 (zbh h2 (zbh h3 (zbh h4 (zbh h5 (zbh h6 (zbh h7 zd3 (n7 _ _)) (n6 _ _)) (n5 _ _)) (n4 _ _)) (n3 _ _)) (n2 _ _)) (n1 _ _))
theorem pss2{e1 e2:Stmt}{t1 t2:TS}(h1:PS X e1 t1)(h2:PS X e2 t2):PSs X [e1,e2] (tSeq t1 t2):=(zab h1 (zac h2))
theorem pss3{e1 e2 e3:Stmt}{t1 t2 t3:TS}(h1:PS X e1 t1)(h2:PS X e2 t2)(h3:PS X e3 t3):PSs X [e1,e2,e3] (tSeq t1 (tSeq t2 t3)):=(zab h1 (zab h2 (zac h3)))
theorem pss4{e1 e2 e3 e4:Stmt}{t1 t2 t3 t4:TS}(h1:PS X e1 t1)(h2:PS X e2 t2)(h3:PS X e3 t3)(h4:PS X e4 t4):PSs X [e1,e2,e3,e4] (tSeq t1 (tSeq t2 (tSeq t3 t4))):=(zab h1 (zab h2 (zab h3 (zac h4))))
theorem pss5{e1 e2 e3 e4 e5:Stmt}{t1 t2 t3 t4 t5:TS}(h1:PS X e1 t1)(h2:PS X e2 t2)(h3:PS X e3 t3)(h4:PS X e4 t4)(h5:PS X e5 t5):PSs X [e1,e2,e3,e4,e5] (tSeq t1 (tSeq t2 (tSeq t3 (tSeq t4 t5)))):=(zab h1 (zab h2 (zab h3 (zab h4 (zac h5)))))
theorem pss8{e1 e2 e3 e4 e5 e6 e7 e8:Stmt}{t1 t2 t3 t4 t5 t6 t7 t8:TS}(h1:PS X e1 t1)(h2:PS X e2 t2)(h3:PS X e3 t3)(h4:PS X e4 t4)(h5:PS X e5 t5)(h6:PS X e6 t6)(h7:PS X e7 t7)(h8:PS X e8 t8):PSs X [e1,e2,e3,e4,e5,e6,e7,e8] (tSeq t1 (tSeq t2 (tSeq t3 (tSeq t4 (tSeq t5 (tSeq t6 (tSeq t7 t8))))))):=(zab h1 (zab h2 (zab h3 (zab h4 (zab h5 (zab h6 (zab h7 (zac h8))))))))
theorem pss11{e1 e2 e3 e4 e5 e6 e7 e8 e9 e10 e11:Stmt}{t1 t2 t3 t4 t5 t6 t7 t8 t9 t10 t11:TS}(h1:PS X e1 t1)(h2:PS X e2 t2)(h3:PS X e3 t3)(h4:PS X e4 t4)(h5:PS X e5 t5)(h6:PS X e6 t6)(h7:PS X e7 t7)(h8:PS X e8 t8)(h9:PS X e9 t9)(h10:PS X e10 t10)(h11:PS X e11 t11):PSs X [e1,e2,e3,e4,e5,e6,e7,e8,e9,e10,e11] (tSeq t1 (tSeq t2 (tSeq t3 (tSeq t4 (tSeq t5 (tSeq t6 (tSeq t7 (tSeq t8 (tSeq t9 (tSeq t10 t11)))))))))):=(zab h1 (zab h2 (zab h3 (zab h4 (zab h5 (zab h6 (zab h7 (zab h8 (zab h9 (zab h10 (zac h11)))))))))))
end
section
variable{X:Cx}{pins:List (Addr×Obj)}{σ:St}{H:Hp}{s:Shared}{h':Heap}
theorem Inv.turnedNew{t':Nat}{ch:List Addr}{T:Addr}{xs:List V}(I:Inv X pins σ H s)(hf:∀b∈ch,FpOk X pins H b)(k:∀b o,b∉ch->s.heap.get? b=some o->h'.get? b=some o)
  (hT:s.heap.objs.size<=T)(new:zcc X.prog X.w (upd H T (.tup xs)) h' T (.tup xs)):Inv X pins σ (upd H T (.tup xs)) {s with heap:=h',toks:=t'}:=by
 have hn:H T=none:=I.hok.fresh hT;have nit:∀b u,H b=some u->b∉ch:=fun b u e z=>by rw[(hf b z).1] at e;cases e
 refine I.step (g':=s.gens) (d':=s.drawn) (ch:=ch) (fun b hb=>?_) (fun b o _ _ hc e _=>k b o hc e) (fun b o _ _ hc e _=>⟨o.slots,k b o hc e⟩) (fun b o _ e n=>?_)
  (fun b o hc e=>⟨o,k b o hc e⟩) (fun b ys e=>?_) (fun b o u e=>?_) (fun b ps e=>⟨#[],?_⟩) (fun m hm=>?_) (fun b u e=>?_) I.bare
 ·obtain⟨_,f1,_,f3,f4,f5⟩:=hf b hb;exact⟨f3,f1,f4,f5⟩
 ·rw[za7 (Nat.ne_of_lt (Nat.lt_of_lt_of_le (Heap.lt_size e) hT))];exact n
 ·rw[za7 (zag e hn)];exact e
 ·rw[za7 (zag e hn)];exact e
 ·rw[za7 (zag e hn),e];simp
 ·obtain⟨o,es,ep,ho,r⟩:=hm;exact⟨o,es,ep,k _ o (fun z=>(hf _ z).2.1 rfl) ho,r⟩
 ·by_cases hb:b=T
  ·subst hb;rw[upd_same] at e;cases e;exact new
  ·rw[za7 hb] at e;refine(I.hok b u e).stay (fun c v hc q=>k c v ?_ q) (fun c q=>by rw[za7 (zag q hn)];exact q) fun c ys q=>by rw[za7 (zag q hn)];exact q
   rcases hc with z|z
   ·rw[z];exact nit b u e
   ·exact nit c _ z
theorem Inv.turnedL{t':Nat}{ch:List Addr}(I:Inv X pins σ H s)(hf:∀b∈ch,FpOk X pins H b)(k:∀b o,b∉ch->s.heap.get? b=some o->h'.get? b=some o):Inv X pins σ H {s with heap:=h',toks:=t'}:=by
 have nit:∀b u,H b=some u->b∉ch:=fun b u e z=>by rw[(hf b z).1] at e;cases e
 refine I.step (g':=s.gens) (d':=s.drawn) (ch:=ch) (fun b hb=>?_) (fun b o _ _ hc e _=>k b o hc e) (fun b o _ _ hc e _=>⟨o.slots,k b o hc e⟩) (fun _ _ _ _ n=>n)
  (fun b o hc e=>⟨o,k b o hc e⟩) (fun _ _ e=>e) (fun _ _ _ e=>e) (fun b ps e=>⟨#[],by rw[e];simp⟩) (fun m hm=>?_) (fun b u e=>?_) I.bare
 ·obtain⟨_,f1,_,f3,f4,f5⟩:=hf b hb;exact⟨f3,f1,f4,f5⟩
 ·obtain⟨o,es,ep,ho,r⟩:=hm;exact⟨o,es,ep,k _ o (fun z=>(hf _ z).2.1 rfl) ho,r⟩
 ·refine(I.hok b u e).stay (fun c v hc q=>k c v ?_ q) (fun _ q=>q) fun _ _ q=>q;rcases hc with z|z
  ·rw[z];exact nit b u e
  ·exact nit c _ z
end
def Itz(K:PySem.W.Frag)(l1 l2:Addr):It:=
 ⟨fun i H=>∃xs ys x y,SqL K H l1 xs/\SqL K H l2 ys/\xs[i]?=some x/\ys[i]?=some y,
  fun i H v H'=>∃T x y,H T=none/\v=.ref T/\H'=upd H T (.tup [x,y])/\(∀xs,SqL K H l1 xs->xs[i]?=some x)/\(∀ys,SqL K H l2 ys->ys[i]?=some y),
  fun i H=>∃xs ys,SqL K H l1 xs/\SqL K H l2 ys/\(xs.length<=i∨ys.length<=i)⟩
def ZipSt(z TI TO i1 i2 l1 l2:Addr)(i:Nat)(h:Heap):Prop:=∃a b,IsZip h z TI TO .none/\IsPair h TI (.ref i1) (.ref i2)/\IsPair h TO a b/\h.IsListIter i1 l1 i/\h.IsListIter i2 l2 i
theorem turn_zip{P:Program}{w:World}{K:PySem.W.Frag}{elts:List Expr}{x1:Nat}{pos:Pos}{z TI TO i1 i2 l1 l2:Addr}(D:ZipApart z TI TO i1 i2 l1 l2):
  Turn P w K (.Tuple elts x1 pos) (Itz K l1 l2) [z,TI,TO,i1,i2] z (ZipSt z TI TO i1 i2 l1 l2) where
 mem:=by simp
 obj:=fun i h st b hb=>by
  obtain⟨a,b',hz,hTI,hTO,h1,h2⟩:=st;simp only[List.mem_cons,List.not_mem_nil,or_false] at hb;rcases hb with rfl|rfl|rfl|rfl|rfl
  ·exact⟨_,hz,fun v q=>by cases q⟩
  ·exact⟨_,hTI,fun v q=>by cases q⟩
  ·exact⟨_,hTO,fun v q=>by cases q⟩
  ·obtain⟨o,e,c,d⟩:=h1;exact⟨o,e,fun v q=>by rw[d] at q;cases q⟩
  ·obtain⟨o,e,c,d⟩:=h2;exact⟨o,e,fun v q=>by rw[d] at q;cases q⟩
 keep:=fun i h h' st k=>by
  obtain⟨a,b',hz,hTI,hTO,h1,h2⟩:=st;exact⟨a,b',k z (by simp) _ hz,k TI (by simp) _ hTI,k TO (by simp) _ hTO,h1.at fun o e=>k i1 (by simp) o e,h2.at fun o e=>k i2 (by simp) o e⟩
 item:=by
  intro X hP hw hK hc i pins s σ H E I hf st hg;subst hP hw hK;obtain⟨xs,ys,x,y,hq1,hq2,hx,hy⟩:=hg;obtain⟨a,b',hz,hTI,hTO,h1,h2⟩:=st;obtain⟨its1,rv1,p1,_⟩:=I.list hq1;obtain⟨its2,rv2,p2,_⟩:=I.list hq2;obtain⟨u1,hu1,ru1⟩:=rv1.get hx;obtain⟨u2,hu2,ru2⟩:=rv2.get hy;refine wpAny_pyNext_zip_item D hz hTI hTO h1 h2 p1.isList p2.isList (x:=u1) (y:=u2) (by simpa using hu1) (by simpa using hu2) fun h₁ z1 t1 j1 j2 pr sz kk=>⟨_,rfl,?_⟩
  refine wpAny_letOwnedTupleGo_zip z1 fun h₂ z2 sb=>?_;have lt:∀b∈[z,TI,TO,i1,i2],b≠s.heap.objs.size:=fun b hb e=>by
   have:∃o,s.heap.get? b=some o:=by
    simp only[List.mem_cons,List.not_mem_nil,or_false] at hb;rcases hb with rfl|rfl|rfl|rfl|rfl
    ·exact⟨_,hz⟩
    ·exact⟨_,hTI⟩
    ·exact⟨_,hTO⟩
    ·obtain⟨o,e,_⟩:=h1;exact⟨o,e⟩
    ·obtain⟨o,e,_⟩:=h2;exact⟨o,e⟩
   obtain⟨o,q⟩:=this;exact absurd (Heap.lt_size q) (by rw[e];exact Nat.lt_irrefl _)
  have nz:∀{b:Addr},b≠z->∀{o},h₁.get? b=some o->h₂.get? b=some o:=fun{b} hb{o} e=>(sb.2 b hb).trans e;have zT:s.heap.objs.size≠z:=(lt z (by simp)).symm
  have hnT:H s.heap.objs.size=none:=I.hok.fresh (Nat.le_refl _);have new:zcc X.prog X.w (upd H s.heap.objs.size (.tup [x,y])) h₂ s.heap.objs.size (.tup [x,y]):=
   ⟨by show 2<=sizeLine;decide,[u1,u2],.cons ru1 (.cons ru2 .nil),⟨_,nz zT pr,rfl,_,rfl⟩⟩
  have I1:=Inv.turnedNew (h':=h₂) (t':=s.toks) (ch:=[z,TI,TO,i1,i2]) I hf (fun b o hb e=>nz (by simp at hb;exact hb.1) (kk b o (by simp at hb;exact hb.1) (by simp at hb;exact hb.2.2.1) (by simp at hb;exact hb.2.2.2.1) (by simp at hb;exact hb.2.2.2.2) e)) (Nat.le_refl _) new
  refine⟨.ref s.heap.objs.size,_,I1,rfl,⟨_,x,y,hnT,rfl,rfl,fun ys' hy'=>by rw[I.list_inj hy' hq1];exact hx,fun ys' hy'=>by rw[I.list_inj hy' hq2];exact hy⟩,⟨u1,u2,z2,?_,?_,?_,?_⟩,fun b hb=>by rw[za7 (lt b hb)];exact(hf b hb).1⟩
  ·exact nz D.TIz (kk TI _ D.TIz D.TITO D.TIi1 D.TIi2 hTI)
  ·exact nz D.TOz t1
  ·exact j1.at fun o e=>nz D.i1z e
  ·exact j2.at fun o e=>nz D.i2z e
 done:=by
  intro X hP hw hK hc i pins s σ H E I hf st hg;subst hP hw hK;obtain⟨xs,ys,hq1,hq2,hl⟩:=hg;obtain⟨a,b',hz,hTI,hTO,h1,h2⟩:=st;obtain⟨its1,rv1,p1,_⟩:=I.list hq1;obtain⟨its2,rv2,p2,_⟩:=I.list hq2;have e1:=rv1.length;have e2:=rv2.length;refine wpAny_pyNext_zip_end (I.ok.hd hc) D hz hTI hTO h1 h2 p1.isList p2.isList ?_ fun h₁ kk=>⟨rfl,?_⟩
  ·rcases hl with hl|hl
   ·exact .inl (by simp;omega)
   ·exact .inr (by simp;omega)
  ·exact I.turnedL (t':=s.toks) (ch:=[z,TI,TO,i1,i2]) hf (fun b o hb e=>kk b o (by simp at hb;exact hb.1) (by simp at hb;exact hb.2.2.1) (by simp at hb;exact hb.2.2.2.1) (by simp at hb;exact hb.2.2.2.2) e)
 self:=fun _ _ _ _ _ st h=>by
  obtain⟨a,b',hz,_⟩:=st;exact wpAny_pyIter_zip hz h
section
variable{X:Cx}
def iZip(K:PySem.W.Frag)(ta:TA):TI:=fun σ H R=>ta σ H fun vs H1=>∃l1 l2 xs ys,vs=[.ref l1,.ref l2]/\SqL K H1 l1 xs/\SqL K H1 l2 ys/\R (Itz K l1 l2) H1
theorem bt_zip:bootBuiltins "zip"=some (.type "zip"):=by decide+kernel
theorem pi_zip{a b:Expr}{ta:TA}{p pos tpos:Pos}{elts:List Expr}{x1:Nat}(hg:Gl X "zip")(hm:X.mg "zip"=none)(ha:PA X [a,b] ta)(hs:starEach [a,b] X.env=[(false,eval a X.env),(false,eval b X.env)]:=by rfl)
  (hs2:starEach [b] X.env=[(false,eval b X.env)]:=by rfl):PI X (.Tuple elts x1 tpos) (.Call (.Name "zip" p) [a,b] [] pos) (iZip X.K ta):=by
 intro pins s σ H R I h;refine Call_ (zf8 I hg hm bt_zip (PyProof.Rows.callWith_type1 (thn (ha pos pins s σ H _ I h) fun us s1⟨vs,H1,I1,r1,q1⟩=>?_) (by rw[hs,hs2]) (by rw[hs2];rfl)))
 obtain⟨l1,l2,xs,ys,e,hq1,hq2,q⟩:=q1;subst e;obtain⟨u,w',rfl,ru,rw'⟩:=vals2 r1
 cases ru
 cases rw';obtain⟨its1,rv1,p1,_⟩:=I1.list hq1;obtain⟨its2,rv2,p2,_⟩:=I1.list hq2;refine call_zip_2 p1.isList p2.isList fun h' hz hTI hTO hi1 hi2 sz kk=>?_;refine wpAny_pyIter_zip hz ?_;have D:=zipApart_new (n:=s1.heap.objs.size) p1.lt p2.lt;have I2:Inv X pins σ H1 {s1 with heap:=h'}:=I1.kept (t':=s1.toks) kk;refine⟨_,_,_,_,H1,rfl,I2,turn_zip D,⟨_,_,hz,hTI,hTO,hi1,hi2⟩,fun b hb=>?_,q⟩;have hb':s1.heap.objs.size<=b:=by
  simp only[List.mem_cons,List.not_mem_nil,or_false] at hb;rcases hb with rfl|rfl|rfl|rfl|rfl
  ·exact Nat.le_add_right _ _
  ·exact Nat.le_add_right _ _
  ·exact Nat.le_add_right _ _
  ·exact Nat.le_refl _
  ·exact Nat.le_add_right _ _
 exact I1.fpOk hb' (I1.hok.fresh hb')
end
theorem for_zip{K:PySem.W.Frag}{l1 l2:Addr}{xs ys:List V}{g:TG}{tb:TS}{D:Ends}{σ:St}{H:Hp}(Pv:Nat->St->Hp->Prop)(h0:Pv 0 σ H)(hl:∀i σ H,Pv i σ H->SqL K H l1 xs/\SqL K H l2 ys)(he:xs.length=ys.length)
  (hs:∀i x y T σ H,xs[i]?=some x->ys[i]?=some y->Pv i σ H->H T=none->g (.ref T) σ (upd H T (.tup [x,y])) fun σ2 H2=>tb {D with nx:=Pv (i+1),ct:=Pv (i+1),bk:=D.nx} σ2 H2)(hd:∀σ H,Pv xs.length σ H->D.nx σ H):
  ∃W:Nat->Nat->St->Hp->Prop,(∃m,W 0 m σ H)/\∀i m σ H,W i m σ H->
   ((Itz K l1 l2).stop i H/\D.nx σ H)∨((Itz K l1 l2).go i H/\∃N:St->Hp->Prop,(∀σ' H',N σ' H'->∃m',m'<m/\W (i+1) m' σ' H')/\∀x H',(Itz K l1 l2).yld i H x H'->g x σ H' fun σ2 H2=>tb {D with nx:=N,ct:=N,bk:=D.nx} σ2 H2):=by
 refine⟨fun i m σ H=>m=xs.length-i/\i<=xs.length/\Pv i σ H,⟨xs.length,by simp,Nat.zero_le _,h0⟩,?_⟩
 rintro i m σ H ⟨rfl,hi,p⟩;obtain⟨q1,q2⟩:=hl i σ H p
 by_cases hlt:i<xs.length
 ·have hlt2:i<ys.length:=by omega
  refine .inr ⟨⟨xs,ys,xs[i],ys[i],q1,q2,by simp[hlt],by simp[hlt2]⟩,Pv (i+1),fun σ' H' p'=>⟨xs.length-(i+1),by omega,rfl,hlt,p'⟩,fun v H' y=>?_⟩
  obtain⟨T,x,y,hT,rfl,rfl,y1,y2⟩:=y;exact hs i x y T σ H (y1 xs q1) (y2 ys q2) p hT
 ·have e:i=xs.length:=by omega
  subst e;exact .inl ⟨⟨xs,ys,q1,q2,.inl (Nat.le_refl _)⟩,hd σ H p⟩
def tRaise(C:Addr)(E:XK)(ta:TA):TS:=fun _ σ H=>ta σ H fun vs H1=>vs.length<=sizeLine/\E (.ref C) none H1
theorem zfr{α β:Type}(g:α->β->β){f:α->β->Sem (ForInStep β)}:∀{l:List α}(c:β),(∀x∈l,∀c,f x c=pure (.yield (g x c)))->forIn l c f=pure (l.foldl (fun c x=>g x c) c)
 |[],c,_=>rfl
 |x::l,c,h=>by
  have hx:=h x List.mem_cons_self c;rw[List.forIn_cons,hx,pure_bind];exact zfr g (g x c) fun y hy=>h y (List.mem_cons_of_mem _ hy)
def zcs(env:Env)(x:Str×NameKind)(c:List (Str×Addr)):List (Str×Addr):=
 if x.2==NameKind.free then(match env.cells.lookup x.1 with|some a=>(x.1,a)::c|none=>c) else c
theorem zf5{env:Env}:∀(l:List (Str×NameKind))(acc:List (Str×Addr)),(∀n c,acc.lookup n=some c->env.cells.lookup n=some c)->
  ∀n c,(l.foldl (fun c x=>zcs env x c) acc).lookup n=some c->env.cells.lookup n=some c
 |[],acc,h,n,c,e=>h n c e
 |x::l,acc,h,n,c,e=>by
  refine zf5 l (zcs env x acc) (fun n c e=>?_) n c e;unfold zcs at e
  split at e
  ·split at e
   ·rename_i a ha
    rw[List.lookup_cons] at e
    split at e
    ·rename_i hb
     have hn:n=x.1:=by simpa using hb
     cases e;rw[hn];exact ha
    ·exact h n c e
   ·exact h n c e
  ·exact h n c e
theorem zf6{env:Env}:∀(l:List (Str×NameKind))(acc:List (Str×Addr))(n:Str),((∃c,acc.lookup n=some c)∨((n,NameKind.free)∈l/\∃c,env.cells.lookup n=some c))->
  ∃c,(l.foldl (fun c x=>zcs env x c) acc).lookup n=some c
 |[],acc,n,h=>by
  rcases h with h|⟨h,_⟩
  ·exact h
  ·cases h
 |x::l,acc,n,h=>by
  refine zf6 l (zcs env x acc) n ?_;rcases h with⟨c,h⟩|⟨h,c,hc⟩
  ·left;unfold zcs
   split
   ·split
    ·rw[List.lookup_cons]
     split
     ·exact⟨_,rfl⟩
     ·exact⟨c,h⟩
    ·exact⟨c,h⟩
   ·exact⟨c,h⟩
  ·rcases List.mem_cons.mp h with e|h
   ·left;subst e;unfold zcs;have ef:(NameKind.free==NameKind.free)=true:=rfl;have en:(n==n)=true:=by simp
    simp only[ef,if_true,hc,List.lookup_cons,en];exact⟨c,rfl⟩
   ·exact .inr ⟨h,c,hc⟩
theorem zki{scope:Scope}{env:Env}(hf:∀n,(n,NameKind.free)∈scope.names->∃c,env.cells.lookup n=some c):
  ∃cl,closureFor scope env=pure cl/\(∀n c,cl.lookup n=some c->env.cells.lookup n=some c)/\∀n,(n,NameKind.free)∈scope.names->∃c,cl.lookup n=some c:=by
 refine⟨scope.names.foldl (fun c x=>zcs env x c) [],?_,zf5 _ _ (fun n c e=>by simp at e),fun n h=>zf6 _ _ n (.inr ⟨h,hf n h⟩)⟩
 simp only[closureFor];rw[zfr (zcs env) [] (fun x hx c=>?_)]
 ·rfl
 ·obtain⟨n,kind⟩:=x
  by_cases hk:kind=.free
  ·subst hk;obtain⟨a,ha⟩:=hf n hx;have ef:(NameKind.free==NameKind.free)=true:=rfl
   simp[cellOf,ha,zcs,ef]
  ·have e:(kind==NameKind.free)=false:=by simpa using hk
   simp[e,zcs]
theorem zd2(env:Env)(x:Str):∀names:List (Str×NameKind),
  (names.map fun(n,k)=>if(k==NameKind.free&&env.scope.kind==.function&&env.kindOf n==some .cell) then(n,NameKind.cell) else(n,k)).lookup x=
  (names.lookup x).map fun k=>if(k==NameKind.free&&env.scope.kind==.function&&env.kindOf x==some .cell) then NameKind.cell else k
 |[]=>rfl
 |(n,k)::r=>by
  have ih:=zd2 env x r;rw[List.map_cons]
  by_cases e:x=n
  ·subst e;have ex:(x==x)=true:=by simp
   by_cases c:(k==NameKind.free&&env.scope.kind==.function&&env.kindOf x==some .cell)=true
   ·dsimp only;rw[if_pos c,List.lookup_cons,ex,List.lookup_cons,ex];exact congrArg some (if_pos c).symm
   ·dsimp only;rw[if_neg c,List.lookup_cons,ex,List.lookup_cons,ex];exact congrArg some (if_neg c).symm
  ·have e':(x==n)=false:=by simpa using e
   by_cases c:(k==NameKind.free&&env.scope.kind==.function&&env.kindOf n==some .cell)=true
   ·dsimp only;rw[if_pos c,List.lookup_cons,e',List.lookup_cons,e'];exact ih
   ·dsimp only;rw[if_neg c,List.lookup_cons,e',List.lookup_cons,e'];exact ih
structure zd4(dsc:Scope)(N:List Str)(scope:Scope)(own:List Str)(ix:List Nat):Prop where
 kind:scope.kind=.function
 nocell:∀y∈scope.names,y.2≠NameKind.cell
 names:∀y∈scope.names,y.2=NameKind.local->scope.names.lookup y.1=some .local
 free:∀y∈scope.names,y.2=NameKind.free->dsc.names.lookup y.1=some .cell∨dsc.names.lookup y.1=some .free
 ix:∀i∈ix,i<N.length/\scope.names.lookup (N.getD i "")=some .free
def Cx.comp(X:Cx)(scope:Scope)(own:List Str)(ix:List Nat)(cl:List (Str×Addr))(C:Addr)(fp:List Addr)(s:Shared)(H:Hp)(xe:Value->Shared->Prop):Cx:=
 {X with N:=own++ix.map (fun i=>X.N.getD i ""),s₀:=s,H₀:=H,env:=compEnvC scope cl C X.env,outer:=X.stack,ex:=fp,fn:=fun _=>false,pn:=[],xe:=xe}
theorem comp_K{X:Cx}{scope:Scope}{own:List Str}{ix:List Nat}{cl:List (Str×Addr)}{C:Addr}{fp:List Addr}{s:Shared}{H:Hp}{xe:Value->Shared->Prop}:(X.comp scope own ix cl C fp s H xe).K=X.K:=rfl
def selC(k:Nat)(ix:List Nat)(σ:St):St:=List.replicate k none++ix.map (fun i=>(σ[i]?).join)
section
variable{X:Cx}{pins:List (Addr×Obj)}{σ:St}{H H4:Hp}{s s4:Shared}{dsc scope:Scope}{own:List Str}{ix:List Nat}{cl:List (Str×Addr)}{C:Addr}{fp:List Addr}{xe:Value->Shared->Prop}
theorem comp_fp(I:Inv X pins σ H s)(hf:∀b∈fp,FpOk X pins H b){b:Addr}(hb:b∈fp):b∉frs X.stack:=fun hs=>by
 obtain⟨_,f1,f2,_⟩:=hf b hb;rcases List.mem_cons.mp (I.stkSub b hs) with e|e
 ·exact f1 e
 ·exact f2 e
theorem Inv.comp(I:Inv X pins σ H s)(hd:X.env.scope=dsc)(S:zd4 dsc X.N scope own ix)(cs:∀n c,cl.lookup n=some c->X.env.cells.lookup n=some c)(ch:∀n,(n,NameKind.free)∈scope.names->∃c,cl.lookup n=some c)
  (hf:∀b∈fp,FpOk X pins H b)(ho:∀b∈fp,∃o,s.heap.get? b=some o)(I4:Inv X pins σ H4 s4)(un:Un (frs X.stack) fp H H4 s.heap s4.heap)(hC:s.heap.objs.size<=C)(hn:∃m,s4.heap.Ns C m)(hC0:H4 C=none):
  Inv (X.comp scope own ix cl C fp s H xe) [] (selC own.length ix σ) H4 s4:=by
 have kfree:∀x,scope.names.lookup x=some .free->(compEnvC scope cl C X.env).kindOf x=some .cell∨(compEnvC scope cl C X.env).kindOf x=some .free:=fun x h=>by
  have e:(compEnvC scope cl C X.env).kindOf x=_:=zd2 X.env x scope.names;rw[e,h,Option.map_some]
  split
  ·exact .inl rfl
  ·exact .inr rfl
 have kback:∀x,((compEnvC scope cl C X.env).kindOf x=some .cell∨(compEnvC scope cl C X.env).kindOf x=some .free)->scope.names.lookup x=some .free:=fun x h=>by
  have e:(compEnvC scope cl C X.env).kindOf x=_:=zd2 X.env x scope.names;rw[e] at h
  cases q:scope.names.lookup x with
  |none=>rw[q] at h;rcases h with h|h<;>cases h
  |some k=>
   have nc:=S.nocell _ (PySem.mem_of_lookup q);rw[q,Option.map_some] at h
   cases k<;>first|rfl|exact absurd rfl nc|(rcases h with h|h<;>cases h)
 refine⟨⟨I.ok.mod,S.kind,I.ok.glob,I.ok.blt,hC,fun x y c h1 h2=>I.ok.inj x y c (cs x c h1) (cs y c h2),fun x hx=>ch x (PySem.mem_of_lookup (kback x hx)),fun x c h=>(nomatch h),I.ok.hd,I.ok.frames,.inl rfl,fun b hb=>⟨fun z=>?_,fun x c e=>(hf b hb).2.2.2.2.1 x c (cs x c e)⟩,
  I.bs,Nat.le_trans I.ok.bsz I.sz,fun b o e hb=>?_,fun b hb=>comp_fp I hf hb,I.stack,I.stkFree⟩,I4.os.trans I.os.symm,I4.bare,un,?_,fun x c e=>I4.cell x c (cs x c e),hC0,fun x c e=>I4.freeC x c (cs x c e),fun p hp=>(nomatch hp),I4.hok,?_⟩
 ·obtain⟨o,e⟩:=ho b hb;have z':b=C:=z;exact absurd (Nat.lt_of_lt_of_le (Heap.lt_size e) (by rw[z'];exact hC)) (Nat.lt_irrefl _)
 ·rcases(hf b hb).2.2.2.1 with z|z
  ·exact I.ok.noex b o e z
  ·exact absurd (Nat.lt_of_lt_of_le (Heap.lt_size e) (Nat.le_trans I.ok.bsz z)) (Nat.lt_irrefl _)
 ·obtain⟨m,hm⟩:=hn;refine⟨m,hm,fun i x v e1 e2 _=>?_⟩;have e1':(own++ix.map (fun i=>X.N.getD i ""))[i]?=some x:=e1;unfold selC at e2
  by_cases hi:i<own.length
  ·rw[List.getElem?_append_left (by rw[List.length_replicate];exact hi),List.getElem?_replicate,if_pos hi] at e2
   cases e2
  ·rw[List.getElem?_append_right (by rw[List.length_replicate];omega),List.length_replicate,List.getElem?_map] at e2
   rw[List.getElem?_append_right (by omega),List.getElem?_map] at e1'
   cases q:ix[i-own.length]? with
   |none=>rw[q] at e2;cases e2
   |some j=>
    rw[q] at e1' e2;rw[Option.map_some,Option.some.injEq] at e1' e2;obtain⟨hj,hfr⟩:=S.ix j (List.mem_of_getElem? q);rw[e1'] at hfr;have eN:X.N[j]?=some x:=by
     rw[List.getElem?_eq_getElem hj,←e1',List.getD_eq_getElem?_getD,List.getElem?_eq_getElem hj];rfl
    have es:σ[j]?=some (some v):=by
     cases w:σ[j]? with
     |none=>rw[w] at e2;cases e2
     |some o=>rw[w] at e2;exact congrArg some e2
    have kd:=S.free _ (PySem.mem_of_lookup hfr) rfl;rw[←hd] at kd;obtain⟨m4,hm4,hl⟩:=I4.loc;obtain⟨u,r,l⟩:=hl j x v eN es (.inr kd);refine⟨u,r,.inr ⟨kfree x hfr,?_⟩⟩;rcases l with⟨k,_⟩|⟨_,c,ec,cell⟩
    ·have k':X.env.scope.names.lookup x=some .local:=k;rcases kd with z|z<;>(rw[k'] at z;cases z)
    ·obtain⟨c',ec'⟩:=ch x (PySem.mem_of_lookup hfr);have z:=cs x c' ec';rw[ec] at z
     cases z;exact⟨c,ec',cell⟩
 ·show(selC own.length ix σ).length=(own++ix.map (fun i=>X.N.getD i "")).length
  unfold selC;rw[List.length_append,List.length_append,List.length_replicate,List.length_map,List.length_map]
theorem Inv.outOf{pins':List (Addr×Obj)}{σ':St}{H':Hp}{s':Shared}(I:Inv X pins σ H s)(hf:∀b∈fp,FpOk X pins H b)(J:Inv (X.comp scope own ix cl C fp s H xe) pins' σ' H' s'):Inv X pins σ H' s':=
 I.call' J.os J.base J.hok J.bare fun b hb=>by
  obtain⟨_,f1,_,f3,f4,f5⟩:=hf b hb;exact⟨f3,f1,f4,f5⟩
end
abbrev zl0(ifs:List Expr)(env:Env):Sem Bool:=forIn ifs true fun c r=>if r=true then do let ok ←isTrue c env (eval c env);pure (ForInStep.yield ok) else pure (ForInStep.yield r)
def PIf(X:Cx)(ifs:List Expr)(t:TT):Prop:=
 ∀(pins:List (Addr×Obj))(s:Shared)(σ:St)(H:Hp)(Q:Bool->Hp->Prop),Inv X pins σ H s->t σ H Q->wpAny (model X.prog X.w) X.A (zl0 ifs X.env) (TP X pins σ Q) X.xe s
def tYes:TT:=fun _ H Q=>Q true H
theorem zew{X:Cx}:PIf X [] tYes:=fun _ _ _ H _ I h=>wpAny_tests_nil ⟨H,I,h⟩
theorem znh{X:Cx}{c:Expr}{t:TT}(h:PT X c t):PIf X [c] t:=fun pins s σ H Q I q=>wpAny_tests_one (h pins s σ H Q I q)
section
variable{prog:Program}{w:World}{A:Around}{R:Result->Shared->Prop}{s:Shared}
abbrev nb(prog:Program)(w:World)(A:Around)(env:Env)(R:Result->Shared->Prop):Value->Shared->Prop:=notedBy (model prog w) A env fun e s'=>R (.error e) s'
theorem znb{elt target iter:Expr}{ifs:List Expr}{scope:Scope}{pos:Pos}{it acc:Value}{env:Env}(I:Nat->Shared->Prop)
  (turn:∀n s,I n s->wpAny (model prog w) A (pyNext it) (fun r s₁=>(r=none/\R (.ok .next) s₁)∨∃v,r=some v/\
   wpAny (model prog w) A (letOwnedTupleGo target it v) (fun _ s₂=>wpAny (model prog w) A (assign target env v) (fun _ s₃=>wpAny (model prog w) A (zl0 ifs env) (fun ok s₄=>
    if ok=true then wpAny (model prog w) A (eval elt env) (fun x s₅=>wpAny (model prog w) A (call (.builtin "list.append") [acc,x]) (fun _ s₆=>∃m,m<n/\I m s₆) (nb prog w A env R) s₅) (nb prog w A env R) s₄
    else ∃m,m<n/\I m s₄) (nb prog w A env R) s₃) (nb prog w A env R) s₂) (nb prog w A env R) s₁) (nb prog w A env R) s)
  (n:Nat) (h:I n s):codeAny (model prog w) A (.compLoop (.ListComp elt [⟨target,iter,ifs,0⟩] scope pos) 0 it acc env) R s:=by
 refine codeAny_loop rfl I (fun n s hI=>?_) n h;refine wpAny_noted ?_;have e:=compTurn_list elt target iter ifs scope pos it acc env;show wpAny (model prog w) A (compTurn (.ListComp elt [⟨target,iter,ifs,0⟩] scope pos) 0 it acc env) _ _ s;rw[e];refine wpAny_bind (wpAny_standAt (wpAny_bind (thn (turn n s hI) fun r s₁ h₁=>?_)));rcases h₁ with⟨rfl,h₁⟩|⟨v,rfl,h₁⟩
 ·exact wpAny_pure h₁
 ·refine wpAny_bind (thn h₁ fun _ s₂ h₂=>wpAny_bind (thn h₂ fun _ s₃ h₃=>wpAny_bind (thn h₃ fun ok s₄ h₄=>?_)))
  cases ok with
  |false=>exact wpAny_pure ⟨rfl,h₄⟩
  |true=>
   refine wpAny_bind (wpAny_bind (thn h₄ fun x s₅ h₅=>wpAny_bind (thn h₅ fun _ s₆ h₆=>?_)));exact wpAny_pure (wpAny_pure ⟨rfl,h₆⟩)
end
def tComp(k:Nat)(ix:List Nat)(wi:TI)(g:TG)(ti:TT)(te:TE):TE:=fun σ H Q=>wi σ H fun J H1=>∀D,H1 D=none->∃W:Nat->Nat->Hp->Prop,(∃m,W 0 m (upd H1 D (.lst [])))/\∀i m H2,W i m H2->
 (J.stop i H2/\Q (.ref D) H2)∨(J.go i H2/\∀x H3,J.yld i H2 x H3->g x (selC k ix σ) H3 fun σ4 H4=>ti σ4 H4 fun b H5=>if b=true then te σ4 H5 fun y H6=>∃ys,H6 D=some (.lst ys)/\ys.length<sizeLine/\∃m',m'<m/\W (i+1) m' (upd H6 D (.lst (ys++[y])))
  else ∃m',m'<m/\W (i+1) m' H5)
section
variable{X:Cx}{pins:List (Addr×Obj)}{σ:St}{H:Hp}{s:Shared}{dsc scope:Scope}{own:List Str}{ix:List Nat}{elt tg iter:Expr}{ifs:List Expr}{pos:Pos}{wi:TI}{g:TG}{ti:TT}{te:TE}
def CompBody(X:Cx)(scope:Scope)(own:List Str)(ix:List Nat)(tg:Expr)(ifs:List Expr)(elt:Expr)(g:TG)(ti:TT)(te:TE):Prop:=
 ∀cl C fp s H xe,PG (X.comp scope own ix cl C fp s H xe) tg g/\PIf (X.comp scope own ix cl C fp s H xe) ifs ti/\PE (X.comp scope own ix cl C fp s H xe) elt te
theorem zj2{use:Option (Value->Sem Unit)}{RQ:Value->Shared->Prop}{Q:VK}{p0:Pos}(hc:X.calm=true)(hd:X.env.scope=dsc)(S:zd4 dsc X.N scope own ix)(hi:PI X tg iter wi)(hb:CompBody X scope own ix tg ifs elt g ti te)
  (hs:∀x,foldedSetIterable iter X.env x=pure x)(I:Inv X pins σ H s)(h:tComp own.length ix wi g ti te σ H Q)
  (fin:∀D C H' s',Inv X pins σ H' s'->FpOk X pins H' C->(∃m,s'.heap.Ns C m)->Q (.ref D) H'->compPost (model X.prog X.w) X.A X.xe use RQ (.ref D) C (.ok .next) s'):
  wpAny (model X.prog X.w) X.A (comprehension (.ListComp elt [⟨tg,iter,ifs,0⟩] scope pos) scope X.env p0 (newList []) false (eval iter X.env) use) RQ X.xe s:=by
 obtain⟨cl,hcl,cs,ch⟩:=zki (scope:=scope) (env:=X.env) fun n hn=>I.ok.has n (by
  have z:=S.free _ hn rfl;rw[←hd] at z;exact z)
 refine wpAny_comprehension_free rfl hs hcl S.kind S.names (thn (hi pins s σ H _ I h) fun v s1 h1=>thn h1 fun itv s2 h2=>?_);obtain⟨it,fp,tn,J,H2,e,I2,T,st2,f2,W⟩:=h2;subst e;have hD0:H2 s2.heap.objs.size=none:=I2.fresh;obtain⟨W,⟨m0,w0⟩,turn⟩:=W _ hD0;have I3:=I2.lnew (ys:=[]) (its:=[]) (t':=s2.toks) .nil (Nat.zero_le _);refine wpAny_newObj_type (wpAny_newFunctionEnv S.nocell (by intro y hy;cases hy) (fun h₁ hns₁ hsb₁=>?_) S.kind)
 dsimp only at hns₁ hsb₁⊢;generalize hH3:s2.heap.push {cls:=.type "list",dict:=none,data:=.seq ([]:List Value).toArray}=g3 at hns₁ hsb₁⊢;have hC:g3.objs.size=s2.heap.objs.size+1:=by rw[←hH3,Heap.size_push]
 have old3:∀b o,g3.get? b=some o->h₁.get? b=some o:=fun b o e=>hsb₁.extBut b o (Nat.ne_of_lt (Heap.lt_size e)) (Heap.get?_push_of_some _ e);have old:∀b o,s2.heap.get? b=some o->h₁.get? b=some o:=fun b o e=>old3 b o (by rw[←hH3];exact Heap.get?_push_of_some _ e)
 have I4:Inv X pins σ (upd H2 s2.heap.objs.size (.lst [])) {s2 with heap:=h₁,toks:=s2.toks+0}:=I3.kept (t':=s2.toks+0) fun b o e=>old3 b o (by rw[←hH3];exact e)
 have fpo:∀b∈fp,∃o,s2.heap.get? b=some o:=fun b hb=>let⟨o,e,_⟩:=T.obj _ _ st2 b hb;⟨o,e⟩;have hC0:upd H2 s2.heap.objs.size (.lst []) g3.objs.size=none:=by
  rw[za7 (by rw[hC];exact Nat.succ_ne_self _)]
  exact I2.hok.fresh (by rw[hC];exact Nat.le_succ _)
 have hCs:s2.heap.objs.size<=g3.objs.size:=by rw[hC];exact Nat.le_succ _
 have into:∀{H':Hp}{s':Shared}{xe:Value->Shared->Prop},Inv X pins σ H' s'->Un (frs X.stack) fp H2 H' s2.heap s'.heap->(∃m,s'.heap.Ns g3.objs.size m)->H' g3.objs.size=none->Inv (X.comp scope own ix cl g3.objs.size fp s2 H2 xe) [] (selC own.length ix σ) H' s':=
  fun I' un hn h0=>I2.comp hd S cs ch f2 fpo I' un hCs hn h0
 have stat:∀{H':Hp}{xe:Value->Shared->Prop}{σ':St}{s':Shared},Inv (X.comp scope own ix cl g3.objs.size fp s2 H2 xe) [] σ' H' s'->(∀b∈fp,H' b=none)->∀b∈fp,FpOk (X.comp scope own ix cl g3.objs.size fp s2 H2 xe) [] H' b:=fun{H' xe σ' s'} K hn b hb=>
  ⟨hn b hb,(K.ok.exf b hb).1,K.ok.exfs b hb,.inl hb,(K.ok.exf b hb).2,fun p hp=>nomatch hp⟩
 have loop:∀s₃:Shared,s₃={s2 with heap:=h₁,toks:=s2.toks+0}->
   codeAny (model X.prog X.w) X.A (.compLoop (.ListComp elt [⟨tg,iter,ifs,0⟩] scope pos) 0 (.ref it) (.ref s2.heap.objs.size) (compEnvC scope cl g3.objs.size X.env)) (compPost (model X.prog X.w) X.A X.xe use RQ (.ref s2.heap.objs.size) g3.objs.size) s₃:=by
  rintro s₃ rfl;generalize hxe:nb X.prog X.w X.A (compEnvC scope cl g3.objs.size X.env) (compPost (model X.prog X.w) X.A X.xe use RQ (.ref s2.heap.objs.size) g3.objs.size)=xe;obtain⟨hg,hif,hel⟩:=hb cl g3.objs.size fp s2 H2 xe;refine znb (fun n s'=>∃i H',Inv (X.comp scope own ix cl g3.objs.size fp s2 H2 xe) [] (selC own.length ix σ) H' s'/\tn i s'.heap/\(∀b∈fp,H' b=none)/\W i n H') ?_ m0
   ⟨0,_,into I4 (Un.laid old (Nat.le_refl _) hD0) ⟨_,hns₁⟩ hC0,T.keep _ _ _ st2 fun b hb o e=>old b o e,fun b hb=>?_,w0⟩
  ·rintro n s3 ⟨i,H3,K3,st3,fr3,w3⟩;rw[hxe];rcases turn i n H3 w3 with⟨stop,qn⟩|⟨go,step⟩
   ·refine thn (T.done (X.comp scope own ix cl g3.objs.size fp s2 H2 xe) rfl rfl rfl hc i [] s3 _ H3 xe K3 (stat K3 fr3) st3 stop) fun r s4⟨hr,K4⟩=>.inl ⟨hr,?_⟩;obtain⟨m,hm,_⟩:=K4.loc;exact fin _ _ H3 s4 (I2.outOf f2 K4) (I2.fpOk hCs K4.free) ⟨m,hm⟩ qn
   ·refine thn (T.item (X.comp scope own ix cl g3.objs.size fp s2 H2 xe) rfl rfl rfl hc i [] s3 _ H3 xe K3 (stat K3 fr3) st3 go) fun r s4⟨u,hr,h4⟩=>.inr ⟨u,hr,?_⟩;refine thn h4 fun _ s5⟨x,H5,K5,r5,y5,st5,fr5⟩=>?_;have K5':=K5.pinned (stat K5 fr5) (T.obj _ _ st5);refine thn (hg _ s5 _ H5 x u _ K5' r5 (step x H5 y5)) fun _ s6⟨σ6,H6,K6,q6⟩=>?_;refine thn (hif _ s6 σ6 H6 _ K6 q6) fun b s7⟨H7,K7,q7⟩=>?_;have again:∀{σ8:St}{H8:Hp}{s8:Shared},Inv (X.comp scope own ix cl g3.objs.size fp s2 H2 xe) ([]++zi0 fp s5.heap) σ8 H8 s8->(∃m',m'<n/\W (i+1) m' H8)->∃m,m<n/\∃i H',Inv (X.comp scope own ix cl g3.objs.size fp s2 H2 xe) [] (selC own.length ix σ) H' s8/\tn i s8.heap/\(∀b∈fp,H' b=none)/\W i m H':=fun{σ8 H8 s8} K8⟨m',hm,w8⟩=>by
     obtain⟨m,hm8,_⟩:=K8.loc;refine⟨m',hm,i+1,H8,into (I2.outOf f2 K8) K8.base ⟨m,hm8⟩ K8.free,T.keep _ _ _ st5 fun b hb o e=>(K8.pin (b,o) (List.mem_append_right _ (List.mem_append_right _ (zds hb e)))).1,fun b hb=>?_,w8⟩;obtain⟨o,e,d⟩:=T.obj _ _ st5 b hb;exact(K8.pin (b,o) (List.mem_append_right _ (List.mem_append_right _ (zds hb e)))).2.1
    cases b with
    |false=>exact again K7 q7
    |true=>
     refine thn (hel _ s7 σ6 H7 _ K7 q7) fun v s8⟨y,H8,K8,r8,ys,e8,z8,q8⟩=>?_;refine thn (zbn (X:=X.comp scope own ix cl g3.objs.size fp s2 H2 xe) _ s8 σ6 H8 (.ref s2.heap.objs.size) [y] (.ref s2.heap.objs.size) [v] (fun _ H'=>∃m',m'<n/\W (i+1) m' H') K8 rfl (.cons r8 .nil) ⟨_,ys,y,rfl,rfl,e8,z8,q8⟩) ?_;rintro u9 s9 ⟨v9,H9,K9,r9,q9⟩;exact again K9 q9
  ·have z:=(f2 b hb).1;obtain⟨o,e⟩:=fpo b hb;rw[za7 (Nat.ne_of_lt (Heap.lt_size e))];exact z
 exact codeAny_compStart_list (loop _ rfl) (T.self _ 0 _ _ _ (T.keep _ _ _ st2 fun b hb o e=>old b o e) (loop _ rfl))
theorem ze8{N:List Str}(hc:X.calm=true)(hd:X.env.scope=dsc)(hN:X.N=N)(S':zd4 dsc N scope own ix)(hi:PI X tg iter wi)(hb:CompBody X scope own ix tg ifs elt g ti te)
  (hs:∀x,foldedSetIterable iter X.env x=pure x:=by intro _;rfl):PE X (.ListComp elt [⟨tg,iter,ifs,0⟩] scope pos) (tComp own.length ix wi g ti te):=by
 have S:zd4 dsc X.N scope own ix:=by rw[hN];exact S'
 intro pins s σ H Q I h;rw[eval_ListComp];refine zj2 (use:=none) hc hd S hi hb hs I h fun D C H' s' I' f' hn q=>?_;obtain⟨m,hm⟩:=hn;obtain⟨f0,f1,f2,f3,f4,f5⟩:=f';exact⟨m,hm,fun h' sb=>⟨.ref D,H',I'.turned (t':=s'.toks) (fun b o hb e=>(sb.2 b hb).trans e) f0 f1 f3 f4 f5,rfl,q⟩⟩
theorem zmq{i:Nat}{x:Str}{N:List Str}{pos' pos1:Pos}(hN:X.N.Nodup)(hx0:X.N[i]?=some x)(hx:Loc X.env.scope x)(hc:X.calm=true)(hd:X.env.scope=dsc)(hN':X.N=N)(S':zd4 dsc N scope own ix)(hi:PI X tg iter wi)(hb:CompBody X scope own ix tg ifs elt g ti te)
  (hsw:swapsWith (.ListComp elt [⟨tg,iter,ifs,0⟩] scope pos) (some (.Name x pos')) pos1.line X.env=pure true:=by rfl)(hf:X.fn x=true∨X.env.scope.names.lookup x=some .local:=by first|exact .inl rfl|exact .inr rfl|assumption)
  (hs:∀x,foldedSetIterable iter X.env x=pure x:=by intro _;rfl):PS X (.Assign [.Name x pos'] (.ListComp elt [⟨tg,iter,ifs,0⟩] scope pos) pos1) (tAsg (tComp own.length ix wi g ti te) (gName i)):=by
 have S:zd4 dsc X.N scope own ix:=by rw[hN'];exact S'
 intro pins s σ H D I h;rw[exec_Assign_Name_used _ _ _ _ hsw]
 have main:=zj2 (p0:=iter.pos) (pos:=pos) (use:=some (assign (.Name x pos') X.env)) (RQ:=fun _ s'=>SP X pins D .next s') hc hd S hi hb hs I h fun l C H' s' I' f' hn q=>by
  obtain⟨m,o,es,ep,ho,hdt,hr⟩:=hn;obtain⟨f0,f1,f2,f3,f4,f5⟩:=f';have Ip:Inv X (pins++[(C,o)]) σ H' s':=I'.pins_of fun p hp=>(List.mem_append.mp hp).elim (fun z=>I'.pin p (List.mem_append_right _ z)) fun z=>by
   have e:p=(C,o):=by simpa using z
   subst e;exact⟨ho,f0,f1,f2,fun v z=>by rw[hdt] at z;cases z⟩
  refine wpAny_assign_Name (zem (v:=.ref l) Ip hN hx0 hx rfl (fun s2 I2=>?_) hf);have pc:=I2.pin (C,o) (List.mem_append_right _ (List.mem_append_right _ (by simp)))
  refine⟨m,⟨o,es,ep,pc.1,hdt,hr⟩,fun h' sb=>⟨_,H',I2.unpinned.turned (t':=s2.toks) (fun b o hb e=>(sb.2 b hb).trans e) pc.2.1 f1 f3 f4 f5,q⟩⟩
 refine wpAny_bind (wpAny_standAt (wpAny_bind ?_));exact wpAny_bind (thn main fun _ s' hq=>wpAny_pure (wpAny_pure hq))
end
def CW(n:Nat)(Pv:Nat->List V->Hp->Prop):Nat->Nat->Hp->Prop:=fun i m H=>m=n-i/\i<=n/\∃ys,Pv i ys H
abbrev CPut(n:Nat)(Pv:Nat->List V->Hp->Prop)(D:Addr)(i:Nat)(y:V)(H:Hp):Prop:=∃ys,H D=some (.lst ys)/\ys.length<sizeLine/\∃m',m'<n-i/\CW n Pv (i+1) m' (upd H D (.lst (ys++[y])))
abbrev CSkip(n:Nat)(Pv:Nat->List V->Hp->Prop)(i:Nat)(H:Hp):Prop:=∃m',m'<n-i/\CW n Pv (i+1) m' H
theorem cw_put{n i:Nat}{Pv:Nat->List V->Hp->Prop}{D:Addr}{y:V}{ys:List V}{H:Hp}(hi:i<n)(hD:H D=some (.lst ys))(hz:ys.length<sizeLine)(p:Pv (i+1) (ys++[y]) (upd H D (.lst (ys++[y])))):CPut n Pv D i y H:=
 ⟨ys,hD,hz,n-(i+1),by omega,rfl,hi,_,p⟩
theorem cw_skip{n i:Nat}{Pv:Nat->List V->Hp->Prop}{ys:List V}{H:Hp}(hi:i<n)(p:Pv (i+1) ys H):CSkip n Pv i H:=⟨n-(i+1),by omega,rfl,hi,_,p⟩
def CompW(J:It)(D:Addr)(g:TG)(ti:TT)(te:TE)(σ':St)(H:Hp)(Q:VK):Prop:=
 ∃W:Nat->Nat->Hp->Prop,(∃m,W 0 m (upd H D (.lst [])))/\∀i m H2,W i m H2->
  (J.stop i H2/\Q (.ref D) H2)∨(J.go i H2/\∀x H3,J.yld i H2 x H3->g x σ' H3 fun σ4 H4=>ti σ4 H4 fun b H5=>if b=true then te σ4 H5 fun y H6=>∃ys,H6 D=some (.lst ys)/\ys.length<sizeLine/\∃m',m'<m/\W (i+1) m' (upd H6 D (.lst (ys++[y])))
   else ∃m',m'<m/\W (i+1) m' H5)
theorem zb3{k:Nat}{ix:List Nat}{wi:TI}{g:TG}{ti:TT}{te:TE}{σ:St}{H:Hp}{Q:VK}(h:wi σ H fun J H1=>∀D,H1 D=none->CompW J D g ti te (selC k ix σ) H1 Q):tComp k ix wi g ti te σ H Q:=h
theorem zm8{J:It}{D:Addr}{g:TG}{ti:TT}{te:TE}{σ':St}{H:Hp}{Q:VK}(n:Nat)(Pv:Nat->List V->Hp->Prop)(h0:Pv 0 [] (upd H D (.lst [])))(hgo:∀i ys H,i<n->Pv i ys H->J.go i H)(hst:∀ys H,Pv n ys H->J.stop n H)
  (hs:∀i ys H x H3,i<n->Pv i ys H->J.yld i H x H3->g x σ' H3 fun σ4 H4=>ti σ4 H4 fun b H5=>if b=true then te σ4 H5 fun y H6=>CPut n Pv D i y H6 else CSkip n Pv i H5)
  (hd:∀ys H,Pv n ys H->Q (.ref D) H):CompW J D g ti te σ' H Q:=by
 refine⟨CW n Pv,⟨n,rfl,Nat.zero_le _,[],h0⟩,?_⟩;rintro i m H2 ⟨rfl,hi,ys,p⟩
 by_cases hlt:i<n
 ·exact .inr ⟨hgo i ys H2 hlt p,fun x H3 y=>hs i ys H2 x H3 hlt p y⟩
 ·have e:i=n:=by omega
  subst e;exact .inl ⟨hst ys H2 p,hd ys H2 p⟩
theorem zb0{K:PySem.W.Frag}{a D:Addr}{xs:List V}{g:TG}{ti:TT}{te:TE}{σ':St}{H:Hp}{Q:VK}(Pv:Nat->List V->Hp->Prop)(h0:Pv 0 [] (upd H D (.lst [])))(hl:∀i ys H,Pv i ys H->SqL K H a xs)
  (hs:∀i ys H x,i<xs.length->xs[i]?=some x->Pv i ys H->g x σ' H fun σ4 H4=>ti σ4 H4 fun b H5=>if b=true then te σ4 H5 fun y H6=>CPut xs.length Pv D i y H6 else CSkip xs.length Pv i H5)
  (hd:∀ys H,Pv xs.length ys H->Q (.ref D) H):CompW (Itl K a) D g ti te σ' H Q:=by
 refine zm8 xs.length Pv h0 (fun i ys H hi p=>⟨xs,xs[i],hl i ys H p,by simp[hi]⟩) (fun ys H p=>⟨xs,hl _ ys H p,Nat.le_refl _⟩) (fun i ys H x H3 hi p y=>?_) hd
 obtain⟨e,y⟩:=y;subst e;exact hs i ys _ x hi (y xs (hl i ys _ p)) p
theorem zgd{D:Addr}{lo:Int}{n:Nat}{g:TG}{ti:TT}{te:TE}{σ':St}{H:Hp}{Q:VK}(Pv:Nat->List V->Hp->Prop)(h0:Pv 0 [] (upd H D (.lst [])))
  (hs:∀i ys H,i<n->Pv i ys H->g (.int (lo+i)) σ' H fun σ4 H4=>ti σ4 H4 fun b H5=>if b=true then te σ4 H5 fun y H6=>CPut n Pv D i y H6 else CSkip n Pv i H5)
  (hd:∀ys H,Pv n ys H->Q (.ref D) H):CompW (Itr lo n) D g ti te σ' H Q:=by
 refine zm8 n Pv h0 (fun i ys H hi p=>hi) (fun ys H p=>Nat.le_refl _) (fun i ys H x H3 hi p y=>?_) hd;obtain⟨e,y⟩:=y;subst e y;exact hs i ys _ hi p
mutual
def RdD(K:PySem.W.Frag)(H:Hp):PyData->V->Prop
 |.none,v=>v=.non
 |.bool b,v=>v=.bl b
 |.int i,v=>v=.int i
 |.str x,v=>v=.str x
 |.list ds,v=>∃p xs,v=.ref p/\SqL K H p xs/\RdDs K H ds xs
 |.tuple ds,v=>∃p xs,v=.ref p/\SqT K H p xs/\RdDs K H ds xs
 |.dict _,_=>False
def RdDs(K:PySem.W.Frag)(H:Hp):List PyData->List V->Prop
 |[],xs=>xs=[]
 |d::ds,xs=>∃x r,xs=x::r/\RdD K H d x/\RdDs K H ds r
end
section
variable{X:Cx}{pins:List (Addr×Obj)}{σ:St}{H:Hp}{s:Shared}
mutual
theorem zej(I:Inv X pins σ H s):∀(d:PyData)(v:V)(u:Value),RdD X.K H d v->RelV v u->∃as,Reads s.heap u d as
 |.none,v,u,h,r=>by
  rw[RdD] at h;subst h;cases r;exact⟨_,.none⟩
 |.bool b,v,u,h,r=>by
  rw[RdD] at h;subst h;cases r;exact⟨_,.bool b⟩
 |.int i,v,u,h,r=>by
  rw[RdD] at h;subst h;obtain⟨t,rfl⟩:=r;exact⟨_,.int i t⟩
 |.str x,v,u,h,r=>by
  rw[RdD] at h;subst h;obtain⟨t,rfl⟩:=r;exact⟨_,.str x t⟩
 |.list ds,v,u,h,r=>by
  rw[RdD] at h;obtain⟨p,xs,rfl,hq,hs⟩:=h
  cases r;obtain⟨its,rv,pl,hz⟩:=I.list hq;obtain⟨o,ho,hc,n,hd⟩:=pl.isList;obtain⟨as,ra⟩:=zfy I ds xs its hs rv;exact⟨_,reads_list_at ho hc hd (by simpa using ra)⟩
 |.tuple ds,v,u,h,r=>by
  rw[RdD] at h;obtain⟨p,xs,rfl,hq,hs⟩:=h
  cases r;obtain⟨its,rv,pl,hz⟩:=I.tuple hq;obtain⟨o,ho,hc,n,hd⟩:=pl;obtain⟨as,ra⟩:=zfy I ds xs its hs rv;exact⟨_,reads_tuple_at ho hc hd (by simpa using ra)⟩
 |.dict kvs,v,u,h,r=>by
  rw[RdD] at h;exact h.elim
theorem zfy(I:Inv X pins σ H s):∀(ds:List PyData)(xs:List V)(us:List Value),RdDs X.K H ds xs->Vals xs us->∃as,ReadsAll s.heap us ds as
 |[],xs,us,h,r=>by
  rw[RdDs] at h;subst h;cases r;exact⟨_,.nil⟩
 |d::ds,xs,us,h,r=>by
  rw[RdDs] at h;obtain⟨x,xr,rfl,hx,hr⟩:=h
  cases r with
  |cons r1 r2=>
   obtain⟨as,ra⟩:=zej I d _ _ hx r1;obtain⟨bs,rb⟩:=zfy I ds _ _ hr r2;exact⟨_,.cons ra rb⟩
end
end
def rEqD(K:PySem.W.Frag):R2:=fun x y H Q=>∃d e,RdD K H d x/\RdD K H e y/\SeqAt.shaped d=true/\SeqAt.shaped e=true/\Q (.bl (PyData.eqv d e)) H
def rNeD(K:PySem.W.Frag):R2:=fun x y H Q=>∃d e,RdD K H d x/\RdD K H e y/\SeqAt.shaped d=true/\SeqAt.shaped e=true/\Q (.bl (!PyData.eqv d e)) H
theorem hu64{A:Around}{k:Nat}(hr:Room k A):A.units+64<cLine:=by have:=hr.un;omega
section
variable{X:Cx}
theorem zk1(hu:X.A.units+64<cLine):OpR X (compareOp .Eq) (rEqD X.K):=by
 intro pins s σ H x y v u Q I rx ry h;obtain⟨d,e,hd,he,sd,se,q⟩:=h;obtain⟨as,ra⟩:=zej I d x v hd rx;obtain⟨bs,rb⟩:=zej I e y u he ry;exact eq_dataH ra rb sd se hu ⟨.bl (PyData.eqv d e),H,I,rfl,q⟩
theorem zl6(hu:X.A.units+64<cLine):OpR X (compareOp .NotEq) (rNeD X.K):=by
 intro pins s σ H x y v u Q I rx ry h;obtain⟨d,e,hd,he,sd,se,q⟩:=h;obtain⟨as,ra⟩:=zej I d x v hd rx;obtain⟨bs,rb⟩:=zej I e y u he ry;exact ne_dataH ra rb sd se hu ⟨.bl (!PyData.eqv d e),H,I,rfl,q⟩
end
def dPt(x y w:Int):PyData:=.tuple [.int x,.int y,.int w]
theorem rd_pt{K:PySem.W.Frag}{H:Hp}{p:Addr}{x y w:Int}(h:SqT K H p [.int x,.int y,.int w]):RdD K H (dPt x y w) (.ref p):=by
 unfold dPt;rw[RdD];exact⟨p,_,rfl,h,by simp[RdDs,RdD]⟩
theorem zdu(x y w:Int):SeqAt.shaped (dPt x y w)=true:=by
 simp[dPt,SeqAt.shaped,PyData.canLay0,PyData.canLayAll0,PyData.depth,PyData.depthAll]
theorem zme(x y w x' y' w':Int):PyData.eqv (dPt x y w) (dPt x' y' w')=decide (x=x'/\y=y'/\w=w'):=by
 simp only[dPt,PyData.eqv,PyData.eqvAll,Bool.and_true]
 by_cases h1:x=x'<;>by_cases h2:y=y'<;>by_cases h3:w=w'<;>simp[h1,h2,h3]
section
variable{X:Cx}
theorem IxR.imp{r r':R2}(h:IxR X r)(i:∀x y H Q,r' x y H Q->r x y H Q):IxR X r':=fun value slice pins s σ H x y v u Q I rx ry q hs=>h value slice pins s σ H x y v u Q I rx ry (i x y H Q q) hs
theorem zdg.imp{f:Value}{r r':List V->Hp->VK->Prop}(h:zdg X f r)(i:∀xs H Q,r' xs H Q->r xs H Q):zdg X f r':=fun pins s σ H xs us Q I rv q=>h pins s σ H xs us Q I rv (i xs H Q q)
def rIxTH:R2:=fun x y H Q=>∃p xs i v,x=.ref p/\y=.int i/\H p=some (.tup xs)/\atI xs i=some v/\Q v H
def rIxLH:R2:=fun x y H Q=>∃p xs i v,x=.ref p/\y=.int i/\H p=some (.lst xs)/\atI xs i=some v/\Q v H
theorem za5:IxR X rIxTH:=ix_tup.imp fun x y H Q⟨p,xs,i,v,e1,e2,h,e3,q⟩=>⟨p,xs,i,v,e1,e2,.of h,e3,q⟩
theorem zat:IxR X rIxLH:=zig.imp fun x y H Q⟨p,xs,i,v,e1,e2,h,e3,q⟩=>⟨p,xs,i,v,e1,e2,.of h,e3,q⟩
def rLenH:List V->Hp->VK->Prop:=fun xs H Q=>∃p ys,xs=[.ref p]/\(H p=some (.lst ys)∨H p=some (.tup ys))/\Q (.int ys.length) H
theorem zd7:zdg X (.builtin "len") rLenH:=zcx.imp fun xs H Q⟨p,ys,e,h,q⟩=>⟨p,ys,e,h.imp .of .of,q⟩
def tyF(H:Hp)(x:V):Option String:=match x with
 |.non=>some "NoneType"
 |.bl _=>some "bool"
 |.int _=>some "int"
 |.str _=>some "str"
 |.ref p=>match H p with
  |some (.lst _)=>some "list"
  |some (.tup _)=>some "tuple"
  |_=>none
 |_=>none
theorem tyF_tyN{K:PySem.W.Frag}{H:Hp}{x:V}{T:String}(h:tyF H x=some T):tyN K H x T:=by
 cases x with
 |non=>exact(Option.some.inj h).symm
 |bl b=>exact(Option.some.inj h).symm
 |int i=>exact(Option.some.inj h).symm
 |str z=>exact(Option.some.inj h).symm
 |ref p=>
  unfold tyF at h;dsimp only at h
  cases q:H p with
  |none=>rw[q] at h;cases h
  |some o=>
   rw[q] at h
   cases o with
   |lst xs=>exact .inl ⟨(Option.some.inj h).symm,xs,.of q⟩
   |tup xs=>exact .inr (.inl ⟨(Option.some.inj h).symm,xs,.of q⟩)
   |_=>cases h
 |_=>cases h
def rIsiF(T:String):List V->Hp->VK->Prop:=fun xs H Q=>∃x Tx,xs=[x,.ty T]/\tyF H x=some Tx/\Q (.bl (isiB Tx T)) H
theorem isiF{T:String}(h:zdg X (.builtin "isinstance") (rIsi X.K T)):zdg X (.builtin "isinstance") (rIsiF T):=h.imp fun xs H Q⟨x,Tx,e,t,q⟩=>⟨x,Tx,e,tyF_tyN t,q⟩
end
theorem tyF_non{H:Hp}:tyF H .non=some "NoneType":=rfl
theorem tyF_bl{H:Hp}{b:Bool}:tyF H (.bl b)=some "bool":=rfl
theorem tyF_int{H:Hp}{i:Int}:tyF H (.int i)=some "int":=rfl
theorem tyF_str{H:Hp}{z:Str}:tyF H (.str z)=some "str":=rfl
theorem at0{α:Type}{x:α}{r:List α}:atI (x::r) 0=some x:=zcq (j:=0) rfl
theorem at1{α:Type}{x y:α}{r:List α}:atI (x::y::r) 1=some y:=zcq (j:=1) rfl
theorem at2{α:Type}{x y z:α}{r:List α}:atI (x::y::z::r) 2=some z:=zcq (j:=2) rfl
theorem zao{H H':Hp}{D:Addr}{o:HO}(g:Same H H')(h:H D=none):Same H (upd H' D o):=fun b u q=>by
 rw[za7 (zag q h)];exact g b u q
section
variable{X:Cx}
theorem SlR.imp{r r':V->Option Int->Option Int->Hp->VK->Prop}(h:SlR X r)(i:∀x lo hi H Q,r' x lo hi H Q->r x lo hi H Q):SlR X r':=fun pins s σ H x v vl vu lo hi sl Q I rx hs pl pu q=>h pins s σ H x v vl vu lo hi sl Q I rx hs pl pu (i x lo hi H Q q)
def rSlH:V->Option Int->Option Int->Hp->VK->Prop:=fun x lo hi H Q=>∃a xs,x=.ref a/\H a=some (.lst xs)/\∀p,H p=none->Q (.ref p) (upd H p (.lst (cutV xs lo hi)))
theorem zc6:SlR X rSlH:=sl_list.imp fun x lo hi H Q⟨a,xs,e,h,q⟩=>⟨a,xs,e,.of h,q⟩
def rIntB:List V->Hp->VK->Prop:=fun xs H Q=>∃k,xs=[.bl k]/\Q (.int (if k=true then 1 else 0)) H
theorem zna:zdg X (.type "int") rIntB:=zni.imp fun xs H Q h=>.inr h
theorem zdp{K:PySem.W.Frag}{H:Hp}{p:Addr}{xs:List V}(h:H p=some (.lst xs)):tyV K "list" (.ref p) H:=.inl ⟨rfl,xs,.of h⟩
theorem bt_min:bootBuiltins "min"=some (.builtin "min"):=by decide+kernel
theorem bt_max:bootBuiltins "max"=some (.builtin "max"):=by decide+kernel
end
def ForW(J:It)(g:TG)(tb:TS)(D:Ends)(σ:St)(H:Hp):Prop:=∃W:Nat->Nat->St->Hp->Prop,(∃m,W 0 m σ H)/\∀i m σ H,W i m σ H->
 (J.stop i H/\D.nx σ H)∨(J.go i H/\∃N:St->Hp->Prop,(∀σ' H',N σ' H'->∃m',m'<m/\W (i+1) m' σ' H')/\∀x H',J.yld i H x H'->g x σ H' fun σ2 H2=>tb {D with nx:=N,ct:=N,bk:=D.nx} σ2 H2)
theorem zcf{wi:TI}{g:TG}{tb:TS}{D:Ends}{σ:St}{H:Hp}(h:wi σ H fun J H1=>ForW J g tb D σ H1):tFor wi g tb D σ H:=h
section
variable{X:Cx}{pos:Pos}
def gTupH(n:Nat)(t:TGs):TG:=fun v σ H Q=>∃a xs,v=.ref a/\H a=some (.tup xs)/\xs.length=n/\t xs σ H Q
theorem zgl{es:List Expr}{k:Nat}{t:TGs}{n:Nat}(hc:X.calm=true)(h:PGs X es t)(hn:(assignEach es X.env).length=n:=by rfl)(hst:(assignEach es X.env).findIdx? (·.1)=none:=by rfl):PG X (.Tuple es k pos) (gTupH n t):=
 fun pins s σ H v u Q I r hw=>pg_tup hc h hn hst pins s σ H v u Q I r (by
  obtain⟨a,xs,e,q,l,z⟩:=hw;exact⟨a,xs,e,.of q,l,z⟩)
end
open PySem.Builtin PySem.Builtin.Str
open PySem.W (KasT kas_asc kas_desc kas_rev kas_tail3 kas_descPart kas_count kas_place kas_bin kas_sort kas_ask kas_item)
def ansT{α:Type}(ans:Nat->Nat->Bool):KasT α->α
 |.ret a=>a
 |.ask i j k=>ansT ans (k (ans i j))
def Asks{α:Type}(n:Nat)(R:α->Prop):KasT α->Prop
 |.ret a=>R a
 |.ask i j k=>i<n/\j<n/\∀b,Asks n R (k b)
theorem Asks.bind{α β:Type}{n:Nat}{R:α->Prop}{S:β->Prop}{f:α->KasT β}:∀{t:KasT α},Asks n R t->(∀a,R a->Asks n S (f a))->Asks n S (t.bind f)
 |.ret a,h,k=>k a h
 |.ask i j g,h,k=>⟨h.1,h.2.1,fun b=>Asks.bind (h.2.2 b) k⟩
theorem Asks.ends{α:Type}{n:Nat}{R:α->Prop}{ans:Nat->Nat->Bool}:∀{t:KasT α},Asks n R t->R (ansT ans t)
 |.ret _,h=>h
 |.ask i j g,h=>Asks.ends (n:=n) (t:=g (ans i j)) (h.2.2 (ans i j))
theorem Asks.wp{α:Type}{n:Nat}{R:α->Prop}{ans:Nat->Nat->Bool}{cmp:Nat->Nat->(Bool->Shared->Prop)->Shared->Prop}{s:Shared}{Q:α->Shared->Prop}(hc:∀i j C,i<n->j<n->C (ans i j) s->cmp i j C s):
  ∀{t:KasT α},Asks n R t->Q (ansT ans t) s->t.kasWp cmp Q s
 |.ret _,_,q=>q
 |.ask i j g,h,q=>hc i j _ h.1 h.2.1 (Asks.wp (n:=n) (t:=g (ans i j)) hc (h.2.2 (ans i j)) q)
def Ord(n:Nat)(p:Array Nat):Prop:=p.toList.Perm (List.range n)
theorem Ord.get{n:Nat}{p:Array Nat}(h:Ord n p)(hn:0<n)(i:Nat):p.getD i 0<n:=by
 by_cases hi:i<p.size
 ·have e:p.getD i 0=p[i]:=by simp[Array.getD,hi]
  rw[e];exact List.mem_range.mp (h.mem_iff.mp (by simp))
 ·have e:p.getD i 0=0:=by simp[Array.getD,hi]
  rw[e];exact hn
theorem Ord.of{n:Nat}{p q:Array Nat}(h:Ord n p)(e:q.Perm p):Ord n q:=(Array.perm_iff_toList_perm.mp e).trans h
theorem Ord.rev{n:Nat}{p:Array Nat}(h:Ord n p)(i j:Nat):Ord n (kas_rev p i j):=h.of (mirror_perm _ _ _ _)
theorem zh0{n:Nat}{p:Array Nat}(h:Ord n p)(hn:0<n):∀(f m:Nat),Asks n (fun _=>True) (kas_asc p f m)
 |0,_=>trivial
 |f+1,m=>⟨h.get hn _,h.get hn _,fun b=>by
  cases b with
  |true=>dsimp only;rw[if_pos rfl];trivial
  |false=>dsimp only;rw[if_neg (by decide)];exact zh0 h hn f (m+1)⟩
theorem zec{n:Nat}(hn:0<n):∀(f:Nat){p:Array Nat}(m q:Nat),Ord n p->Asks n (fun r=>Ord n r.1) (kas_desc f p m q)
 |0,_,_,_,h=>h
 |f+1,p,m,q,h=>⟨h.get hn _,h.get hn _,fun b=>by
  cases b with
  |true=>
   dsimp only;rw[if_pos rfl]
   by_cases z:q>0
   ·rw[if_pos z];exact zec hn f _ _ (h.rev _ _)
   ·rw[if_neg z];exact zec hn f _ _ h
  |false=>
   dsimp only;rw[if_neg (by decide)]
   refine⟨h.get hn _,h.get hn _,fun d=>?_⟩
   cases d with
   |true=>dsimp only;rw[if_pos rfl];exact h
   |false=>dsimp only;rw[if_neg (by decide)];exact zec hn f _ _ h⟩
theorem zg8{n a b:Nat}{p:Array Nat}(hn:0<n)(h:Ord n p):Asks n (fun r=>Ord n r.2) (kas_tail3 a b p):=
 Asks.bind (zh0 (h.rev _ _) hn _ _) fun _ _=>h.rev _ _
theorem zer{n a b:Nat}{p:Array Nat}(hn:0<n)(h:Ord n p):Asks n (fun r=>Ord n r.2) (kas_descPart a b p):=
 Asks.bind (zec hn _ _ _ h) fun r hr=>by
  by_cases z:r.2.2>0
  ·rw[if_pos z];exact zg8 hn (hr.rev _ _)
  ·rw[if_neg z];exact zg8 hn hr
theorem zgf{n b:Nat}{p:Array Nat}(hn:0<n)(h:Ord n p):Asks n (fun r=>Ord n r.2) (kas_count b p):=
 Asks.bind (zh0 h hn _ _) fun m _=>by
  by_cases z:(m==b)=true
  ·rw[if_pos z];exact h
  ·rw[if_neg z]
   by_cases y:m>1
   ·rw[if_pos y];refine⟨h.get hn _,h.get hn _,fun c=>?_⟩
    cases c with
    |true=>dsimp only;rw[if_pos rfl];exact h
    |false=>dsimp only;rw[if_neg (by decide)];exact zer hn (h.rev _ _)
   ·rw[if_neg y];exact zer hn h
theorem zev{n:Nat}{p:Array Nat}(hn:0<n)(h:Ord n p)(k:Nat):∀(f l r:Nat),Asks n (fun _=>True) (kas_place p k f l r)
 |0,_,_=>trivial
 |f+1,l,r=>by
  unfold kas_place
  by_cases z:l≥r
  ·rw[if_pos z];trivial
  ·rw[if_neg z];refine⟨h.get hn _,h.get hn _,fun c=>?_⟩
   cases c with
   |true=>dsimp only;rw[if_pos rfl];exact zev hn h k f _ _
   |false=>dsimp only;rw[if_neg (by decide)];exact zev hn h k f _ _
theorem zjh{n:Nat}(hn:0<n):∀(f:Nat){p:Array Nat}(k:Nat),Ord n p->Asks n (Ord n) (kas_bin f p k)
 |0,_,_,h=>h
 |f+1,p,k,h=>Asks.bind (zev hn h k _ _ _) fun l _=>zjh hn f (k+1) (h.of (bubble_perm _ _ _))
theorem zel{n:Nat}(hn:0<n):Asks n (Ord n) (kas_sort n):=
 Asks.bind (zgf hn (by unfold Ord;simp)) fun r hr=>by
  by_cases z:r.1<n
  ·rw[if_pos z];exact zjh hn _ _ hr
  ·rw[if_neg z];exact hr
def Keeps(g h:Heap):Prop:=∀b o,g.get? b=some o->h.get? b=some o
theorem Keeps.push{g h:Heap}(k:Keeps g h)(o:Obj):Keeps g (h.push o):=fun b x e=>Heap.get?_push_of_some _ (k b x e)
theorem Keeps.upd{g h:Heap}{a:Addr}{f:Obj->Obj}(k:Keeps g h)(ha:g.objs.size<=a):Keeps g (h.update a f):=fun b x e=>by
 rw[Heap.get?_update_ne _ _ _ _ (Nat.ne_of_lt (Nat.lt_of_lt_of_le (Heap.lt_size e) ha))];exact k b x e
theorem zgc(vs:List Value):((List.range vs.length).map fun i=>vs.getD i Value.none)=vs:=by
 refine List.ext_getElem (by simp) fun i h1 h2=>?_
 have hi:i<vs.length:=h2
 simp[hi]
section
variable{prog:Program}{w:World}{A:Around}{E:Value->Shared->Prop}{s:Shared}{vs:List Value}{κ:SortKind}{ans:Nat->Nat->Bool}{g:Heap}
theorem sort_at{a:Addr}{n:Nat}{P:PySem.Fin->Shared->Prop}(hg:Keeps g s.heap)(ga:g.objs.size<=a)(ho:s.heap.get? a=some (seqObj "list" vs.toArray n))(h64:vs.length<64)
  (hk:2<=vs.length->∀h',Keeps g h'->∀Q',Q' κ {s with heap:=h'}->wpAny (model prog w) A (keyKind' vs.toArray) Q' (fun _ _=>False) {s with heap:=h'})
  (ha:2<=vs.length->∀h',Keeps g h'->∀i j C,i<vs.length->j<vs.length->C (ans i j) {s with heap:=h'}->kas_ask prog w A κ vs i j C {s with heap:=h'})
  (q:∀(p:Array Nat) h' c,Keeps g h'->Ord vs.length p->(2<=vs.length->p=ansT ans (kas_sort vs.length))->h'.get? a=some (seqObj "list" (List.toArray (p.toList.map fun i=>vs.getD i Value.none)) c)->P (.done (.ret .none)) {s with heap:=h'}):
  wpAny (model prog w) A (Builtin.«list.sort» ⟨[.ref a],[]⟩) P E s:=by
 have z0:vs.toArray.size=vs.length:=rfl;have zl:vs.length<=sizeLine:=Nat.le_trans (Nat.le_of_lt h64) (by decide)
 have k1:Keeps g (s.heap.update a (Obj.mapSeq fun _=>(#[]:Array Value))):=hg.upd ga;obtain⟨e1,o1⟩:∃e1,(s.heap.update a (Obj.mapSeq fun _=>(#[]:Array Value))).get? a=some (seqObj "list" #[] e1):=⟨_,get?_update_seq ho _⟩;have k3:=(k1.push (seqObj "tuple" vs.toArray 0)).push (seqObj "list" #[] 0);have o3:=Heap.get?_push_of_some (seqObj "list" #[] 0) (Heap.get?_push_of_some (seqObj "tuple" vs.toArray 0) o1);have fin:∀(p:Array Nat),p.size=vs.length->Ord vs.length p->(2<=vs.length->p=ansT ans (kas_sort vs.length))->∀(st:SortSt),(arrOf st).map (·.2)=List.toArray (p.toList.map fun i=>vs.getD i Value.none)->failedOf st=none->
   P (.done (.ret .none)) {s with heap:=(((s.heap.update a (Obj.mapSeq fun _=>(#[]:Array Value))).push (seqObj "tuple" vs.toArray 0)).push (seqObj "list" #[] 0)).update a (Obj.mapSeq fun _=>(arrOf st).map (·.2))}:=fun p hp or e st hs _=>by
  rw[hs];exact q p _ _ (k3.upd ga) or e (get?_update_seq o3 fun _=>List.toArray (p.toList.map fun i=>vs.getD i Value.none))
 rw[list_sort_plain];refine wpAny_bind (listItems_at ho rfl (wpAny_bind (listUpdate_at ho rfl (wpAny_bind (seqEpoch_at o1 rfl (wpAny_bind (wpAny_newTuple (wpAny_bind (wpAny_newList (wpAny_holding ?_) (Nat.zero_le _))) zl)))) zl (Nat.zero_le _))));dsimp only
 by_cases h2:vs.length<2
 ·rw[z0,if_pos h2,if_pos h2,pure_bind];have hs:(arrOf (SortSt.mk' general' (vs.toArray.zip vs.toArray) #[] 7 none)).map (·.2)=List.toArray ((List.toArray (List.range vs.length)).toList.map fun i=>vs.getD i Value.none):=by
   show(vs.toArray.zip vs.toArray).map (·.2)=_
   rw[show(List.toArray (List.range vs.length)).toList=List.range vs.length from rfl,zgc]
   apply Array.toList_inj.mp
   simp[List.map_snd_zip]
  rw[StateT.run_pure];refine wpAny_bind (wpAny_pure (wpAny_bind (seqEpoch_at o3 rfl (wpAny_bind (listUpdate_at o3 rfl ?_ (Nat.zero_le _) ?_)))))
  ·simp only[show failedOf (SortSt.mk' general' (vs.toArray.zip vs.toArray) #[] 7 none)=none from rfl,bne_self_eq_false,Bool.false_eq_true,if_false];exact wpAny_pure (fin (List.toArray (List.range vs.length)) (by simp) (by unfold Ord;simp) (fun z=>absurd h2 (Nat.not_lt.mpr z)) _ hs rfl)
  ·rw[hs]
   simp
   omega
 ·have h2':2<=vs.length:=by omega
  rw[z0,if_neg h2,if_neg h2];refine wpAny_bind (hk h2' _ k3 _ ?_|>fun x=>wpAny_mono x (fun _ _ y=>y) fun _ _ z=>z.elim);have run:=Asks.wp (R:=Ord vs.length) (Q:=fun p s'=>s'={s with heap:=((s.heap.update a (Obj.mapSeq fun _=>(#[]:Array Value))).push (seqObj "tuple" vs.toArray 0)).push (seqObj "list" #[] 0)}/\Ord vs.length p/\p=ansT ans (kas_sort vs.length)) (fun i j C hi hj=>ha h2' _ k3 i j C hi hj) (zel (by omega)) ⟨rfl,Asks.ends (zel (by omega)),rfl⟩
  refine wpAny_bind (wpAny_mono (PySem.W.kat_run (E:=E) (ks:=vs) (vs:=vs) (Q:=fun st s'=>∃p:Array Nat,p.size=vs.length/\arrOf st=p.map (kas_item (vs.toArray.zip vs.toArray))/\failedOf st=none/\s'={s with heap:=((s.heap.update a (Obj.mapSeq fun _=>(#[]:Array Value))).push (seqObj "tuple" vs.toArray 0)).push (seqObj "list" #[] 0)}/\Ord vs.length p/\p=ansT ans (kas_sort vs.length)) rfl h2' h64 (fun p st s' b1 b2 b3 b4=>⟨p,b1,b2,b3,b4⟩) run) ?_ fun _ _ e=>e);rintro⟨⟨⟩,st⟩ s' ⟨p,hp,har,hf,rfl,or,e⟩;have hs:=PySem.W.kat_snds (ks:=vs) (vs:=vs) rfl har;dsimp only;refine wpAny_bind (seqEpoch_at o3 rfl (wpAny_bind (listUpdate_at o3 rfl ?_ (Nat.zero_le _) ?_)))
  ·rw[hf];simp only[bne_self_eq_false,Bool.false_eq_true,if_false];exact wpAny_pure (fin p hp or (fun _=>e) st hs hf)
  ·rw[hs]
   simp[hp]
   omega
theorem zhp{l:Addr}{Q:Value->Shared->Prop}(hl:s.heap.IsList l vs.toArray)(h64:vs.length<64)
  (hk:2<=vs.length->∀h',Keeps s.heap h'->∀Q',Q' κ {s with heap:=h'}->wpAny (model prog w) A.in1.in1 (keyKind' vs.toArray) Q' (fun _ _=>False) {s with heap:=h'})
  (ha:2<=vs.length->∀h',Keeps s.heap h'->∀i j C,i<vs.length->j<vs.length->C (ans i j) {s with heap:=h'}->kas_ask prog w A.in1.in1 κ vs i j C {s with heap:=h'})
  (q:∀(p:Array Nat) h' c,Keeps s.heap h'->Ord vs.length p->(2<=vs.length->p=ansT ans (kas_sort vs.length))->h'.get? (s.heap.objs.size+1)=some (seqObj "list" (List.toArray (p.toList.map fun i=>vs.getD i Value.none)) c)->Q (.ref (s.heap.objs.size+1)) {s with heap:=h'}):
  wpAny (model prog w) A (call (.builtin "sorted") [.ref l]) Q E s:=by
 have zl:vs.length<=sizeLine:=Nat.le_trans (Nat.le_of_lt h64) (by decide)
 have k0:Keeps s.heap s.heap:=fun _ _ e=>e;have k2:=((k0.push (seqObj "list" #[] 0)).upd (a:=s.heap.objs.size) (f:=Obj.mapSeq (·++vs.toArray)) (Nat.le_refl _)).push (seqObj "list" vs.toArray 0);have z2:((s.heap.push (seqObj "list" #[] 0)).update s.heap.objs.size (Obj.mapSeq (·++vs.toArray))).objs.size=s.heap.objs.size+1:=by
  rw[Heap.size_update,size_push']
 have o2:(((s.heap.push (seqObj "list" #[] 0)).update s.heap.objs.size (Obj.mapSeq (·++vs.toArray))).push (seqObj "list" vs.toArray 0)).get? (s.heap.objs.size+1)=some (seqObj "list" vs.toArray 0):=
  z2▸Heap.get?_push_size _ rfl
 refine Calls.call_function_entry kind_sorted plain_sorted entry_sorted (args_sorted1 _) ?_;unfold Builtin.«sorted»;refine wpAny_bind (m:=checkCount _ _ _ _) (wpAny_pure (wpAny_bind (collect_list hl (wpAny_bind (wpAny_newList ?_ zl)) zl)));rw[show(({s with heap:=(s.heap.push (seqObj "list" #[] 0)).update s.heap.objs.size (Obj.mapSeq (·++vs.toArray))}:Shared).heap.objs.size)=s.heap.objs.size+1 from z2];refine wpAny_bind (wpAny_holding (wpAny_call_entry slot_list_sort ⟨_,o2,rfl⟩ entry_list_sort (sort_at (s:={s with heap:=_}) (κ:=κ) (ans:=ans) k2 (Nat.le_succ _) o2 h64 hk ha fun p h' c b1 b2 b3 b4=>⟨_,rfl,?_⟩) (args_list_sort _)));exact wpAny_pure ⟨_,rfl,q p h' c b1 b2 b3 b4⟩
end
open PySem.W (KasT kas_sort kas_ask)
section
open PySem.SeqAt
open PySem.AutoSeq1 (wpAny_loadPart')
open PySem.MeetsSeq PySem.MeetsSeq2 PySem.MeetsSeq3
theorem ltRc{A:Around}{s:Shared}{a c:Int}{t u:Tok}(prog:Program)(w:World)(E:Value->Shared->Prop)(Q:Value->Shared->Prop)(h:Q (.bool (decide (a<c))) s):wpAny (model prog w) A (richCompare .Lt (.int a t) (.int c u)) Q E s:=
 (PyProof.Rows.lt_int h:wpAny (model prog w) A (compareOp .Lt (.int a t) (.int c u)) Q E s)
theorem zm9(l b:Addr)(items items2:Array Value)(n n2:Nat)(dd dd2:Option Addr)(sl sl2:Array (Option Value))(ns ms:List Int)(hlen:ns.length=ms.length)(hi:IntsAre items.toList ns)(hj:IntsAre items2.toList ms):
  Meets (Builtin.«tuple.__lt__» ⟨[.ref l,.ref b],[]⟩)
   (fun _ R s=>s.heap.get? l=some {cls:=.type "tuple",dict:=dd,data:=.seq items n,slots:=sl}/\s.heap.get? b=some {cls:=.type "tuple",dict:=dd2,data:=.seq items2 n2,slots:=sl2}/\R (.ok (.ret (.bool (HT.lexLt ns ms)))) s):=
 .of_wp fun prog w A R s h=>by
  obtain⟨hp,g,d,tk,os⟩:=s;obtain⟨hl,hb,h⟩:=h;have f2:=AutoSeq1.sub_tuple_tuple;have z1:items.size=ns.length:=by rw[←hi.length];simp
  have z2:items2.size=ms.length:=by rw[←hj.length];simp
  wp_walk using wpAny_loadPart' hl,wpAny_loadPart' hb,wpAny_forIn_list _ (fun rest b s'=>b.1=none/\s'=⟨hp,g,d,tk,os⟩/\∃(vs ws:List Value)(ns' ms':List Int),rest=vs.zip ws/\IntsAre vs ns'/\IntsAre ws ms'/\ns'.length=ms'.length/\R (.ok (.ret (.bool (HT.lexLt ns' ms')))) ⟨hp,g,d,tk,os⟩) _
  case turn=>
   rintro⟨y,x⟩ rest b s' ⟨hb',rfl,vs,ws,ns',ms',hz,hvi,hwi,hln,hR⟩
   cases hvi with
   |nil=>rw[List.zip_nil_left] at hz;cases hz
   |cons a t hv=>
    cases hwi with
    |nil=>rw[List.zip_nil_right] at hz;cases hz
    |cons c u hw=>
     rw[List.zip_cons_cons] at hz
     injection hz with q1 q2
     injection q1 with q3 q4
     subst q3 q4;rw[HT.lexLt_cons] at hR;simp only[List.length_cons] at hln;obtain⟨e,he,hiff⟩:=HT.eqAt_int A.in1 ⟨hp,g,d,tk,os⟩ a t c u;refine wpAny_bind (he prog w _ _ ?_)
     cases e with
     |true=>
      rw[if_pos (hiff.mp rfl)] at hR
      wp_walk
      exact⟨rfl,rfl,_,_,_,_,q2,hv,hw,by omega,hR⟩
     |false=>
      rw[if_neg (fun q=>absurd (hiff.mpr q) Bool.false_ne_true)] at hR;have hri:=ltRc (A:=A.in1) (s:=⟨hp,g,d,tk,os⟩) (a:=a) (c:=c) (t:=t) (u:=u) prog w
      wp_walk using hri
      exact⟨_,rfl,by simpa using hR⟩
  case fin=>
   rintro⟨b1,b2⟩ s' ⟨hb',rfl,vs,ws,ns',ms',hz,hvi,hwi,hln,hR⟩
   simp only at hb'
   subst hb';have hv:HT.lexLt ns' ms'=decide (items.size<items2.size):=by
    rw[decide_eq_false (by omega)]
    cases hvi with
    |nil=>
     cases hwi with
     |nil=>rfl
     |cons c u hw=>cases hln
    |cons a t hv=>
     cases hwi with
     |nil=>cases hln
     |cons c u hw=>rw[List.zip_cons_cons] at hz;cases hz
   rw[hv] at hR
   wp_walk
   exact⟨_,rfl,by simpa[Builtin.Tuple.tupleCompareSizes] using hR⟩
  case h=>
   exact⟨rfl,rfl,items.toList,items2.toList,ns,ms,rfl,hi,hj,hlen,h⟩
end
def TupI(h:Heap)(v:Value)(ns:List Int):Prop:=∃(a:Addr)(its:Array Value)(n:Nat)(dd:Option Addr)(sl:Array (Option Value)),v=.ref a/\h.get? a=some {cls:=.type "tuple",dict:=dd,data:=.seq its n,slots:=sl}/\IntsAre its.toList ns
def TupP(h:Heap)(v:Value)(ns ms:List Int):Prop:=∃(a:Addr)(x y:Value)(n:Nat)(dd:Option Addr)(sl:Array (Option Value)),v=.ref a/\h.get? a=some {cls:=.type "tuple",dict:=dd,data:=.seq #[x,y] n,slots:=sl}/\TupI h x ns/\TupI h y ms
theorem TupI.keeps{g h:Heap}{v:Value}{ns:List Int}(t:TupI g v ns)(k:Keeps g h):TupI h v ns:=by
 obtain⟨a,its,n,dd,sl,e,o,i⟩:=t;exact⟨a,its,n,dd,sl,e,k _ _ o,i⟩
theorem TupP.keeps{g h:Heap}{v:Value}{ns ms:List Int}(t:TupP g v ns ms)(k:Keeps g h):TupP h v ns ms:=by
 obtain⟨a,x,y,n,dd,sl,e,o,i,j⟩:=t;exact⟨a,x,y,n,dd,sl,e,k _ _ o,i.keeps k,j.keeps k⟩
theorem zg9{h:Heap}:∀{us:List Value}{ns:List Int},IntsAre us ns->∃as,ReadsAll h us (ns.map PyData.int) as
 |_,_,.nil=>⟨_,.nil⟩
 |_,_,.cons n t r=>let⟨_,q⟩:=zg9 r;⟨_,.cons (.int n t) q⟩
theorem TupI.reads{h:Heap}{v:Value}{ns:List Int}(t:TupI h v ns):∃as,Reads h v (.tuple (ns.map PyData.int)) as:=by
 obtain⟨a,its,n,dd,sl,rfl,o,i⟩:=t;obtain⟨as,r⟩:=zg9 (h:=h) i;exact⟨_,reads_tuple_at o rfl rfl (by simpa using r)⟩
theorem zjt:∀ns:List Int,PyData.canLayAll0 (ns.map PyData.int)=true
 |[]=>rfl
 |n::ns=>by simp only[List.map_cons,PyData.canLayAll0,zjt ns,PyData.canLay0,Bool.and_self]
theorem zmg(ns:List Int):PyData.canLay0 (.tuple (ns.map PyData.int))=true:=by
 simp only[PyData.canLay0,zjt ns]
theorem zjv:∀ns:List Int,PyData.depthAll (ns.map PyData.int)<=1
 |[]=>by simp[PyData.depthAll]
 |n::ns=>by
  have:=zjv ns;simp only[List.map_cons,PyData.depthAll,PyData.depth];omega
theorem zjm:∀{ns ms:List Int},PyData.eqvAll (ns.map PyData.int) (ms.map PyData.int)=decide (ns=ms)
 |[],[]=>rfl
 |[],m::ms=>rfl
 |n::ns,[]=>rfl
 |n::ns,m::ms=>by
  simp only[List.map_cons,PyData.eqvAll,PyData.eqv,zjm]
  by_cases h1:n=m<;>by_cases h2:ns=ms<;>simp[h1,h2]
section
variable{prog:Program}{w:World}{A:Around}{E:Value->Shared->Prop}{s:Shared}{C:Bool->Shared->Prop}
theorem zgv{x y:Value}{ns ms:List Int}(hx:TupI s.heap x ns)(hy:TupI s.heap y ms)(hu:A.units+64<cLine)(q:C (decide (ns=ms)) s):wpAny (model prog w) A (eqBool x y) C E s:=by
 obtain⟨as,ra⟩:=hx.reads;obtain⟨bs,rb⟩:=hy.reads;refine PySem.SeqAt.eqBoolOverData prog w A E s x y _ _ as bs C ra rb (zmg ns) (zmg ms) ?_ ?_
 ·have:=zjv ns;have:(PyData.tuple (ns.map PyData.int)).depth<=2:=by simp only[PyData.depth];omega
  have:=Nat.min_le_left (PyData.tuple (ns.map PyData.int)).depth (PyData.tuple (ms.map PyData.int)).depth;omega
 ·simp only[PyData.eqv];rw[zjm];exact q
theorem zn4{x y:Value}{ns ms:List Int}(hx:TupI s.heap x ns)(hy:TupI s.heap y ms)(hl:ns.length=ms.length)(hu:A.units+64<cLine)(q:C (HT.lexLt ns ms) s):wpAny (model prog w) A (oneLt' false x y) C E s:=by
 obtain⟨a,its,n,dd,sl,rfl,o,i⟩:=hx;obtain⟨b,its2,n2,dd2,sl2,rfl,o2,i2⟩:=hy;refine PySem.W.kat_one _ _ ?_;exact richCompare_meets_room (op:=.Lt) ⟨_,o,rfl⟩ ⟨_,o2,rfl⟩ PySem.F.slot_tuple_lt PySem.F.entry_tuple_lt (PySem.F.args_tuple_lt_2 _ _) (zm9 a b its its2 n n2 dd dd2 sl sl2 ns ms hl i i2) ⟨o,o2,(fun z=>nomatch z),q⟩ (by omega)
def ltP(a b:List Int×List Int):Bool:=if a.1=b.1 then(if a.2=b.2 then false else HT.lexLt a.2 b.2) else HT.lexLt a.1 b.1
theorem lt_tupP{x y:Value}{a b:List Int×List Int}(hx:TupP s.heap x a.1 a.2)(hy:TupP s.heap y b.1 b.2)(l1:a.1.length=b.1.length)(l2:a.2.length=b.2.length)(hu:A.units+64<cLine)(q:C (ltP a b) s):wpAny (model prog w) A (keyLt' (tuples' false) x y) C E s:=by
 obtain⟨p,x1,x2,n,dd,sl,rfl,o,i1,i2⟩:=hx;obtain⟨p',y1,y2,n',dd',sl',rfl,o',j1,j2⟩:=hy;unfold ltP at q;refine PySem.W.kat_lt o rfl o' rfl (PySem.W.kat_cons (zgv i1 j1 hu ?_))
 by_cases c:a.1=b.1
 ·rw[if_pos c] at q;rw[decide_eq_true c];refine PySem.W.kat_yes (PySem.W.kat_cons (zgv i2 j2 hu ?_))
  by_cases c2:a.2=b.2
  ·rw[if_pos c2] at q;rw[decide_eq_true c2];exact PySem.W.kat_yes (PySem.W.kat_nil q)
  ·rw[if_neg c2] at q;rw[decide_eq_false c2];exact PySem.W.kat_no (zn4 i2 j2 l2 hu q)
 ·rw[if_neg c] at q;rw[decide_eq_false c];exact PySem.W.kat_no (zn4 i1 j1 l1 hu q)
end
open PySem.W (KatTups) in
theorem ktups{h:Heap}:∀vs:List Value,(∀v,v∈vs->∃a b,a≠[]/\TupP h v a b)->∃fs,fs.length=vs.length/\KatTups h vs fs/\∀f,f∈fs->∃ns,TupI h f ns
 |[],_=>⟨[],rfl,.nil,fun f hf=>by cases hf⟩
 |v::vs,hv=>by
  obtain⟨fs,l,t,r⟩:=ktups vs fun u hu=>hv u (List.mem_cons_of_mem _ hu);obtain⟨a,b,ne,p,x,y,n,dd,sl,rfl,o,i,j⟩:=hv v (List.mem_cons_self ..);refine⟨x::fs,by simp[l],.cons o rfl rfl rfl t,fun f hf=>?_⟩
  rcases List.mem_cons.mp hf with rfl|hf
  ·exact⟨_,i⟩
  ·exact r f hf
theorem zkm{M:Model}{A:Around}{E:Value->Shared->Prop}{s:Shared}{vs:List Value}{Q:SortKind->Shared->Prop}(hn:0<vs.length)(hv:∀v,v∈vs->∃a b,a≠[]/\TupP s.heap v a b)(q:Q (tuples' false) s):wpAny M A (keyKind' vs.toArray) Q E s:=by
 obtain⟨fs,l,t,r⟩:=ktups vs hv;refine PySem.W.kat_kind (T:=.type "tuple") t (by omega) (fun f hf=>?_) (by decide) ?_
 ·obtain⟨ns,a,its,n,dd,sl,rfl,o,_⟩:=r f hf;exact(PySem.W.Looks.ld o).andThen .now
 ·rw[show(Value.type "tuple"!=Value.type "tuple")=false from by decide]
  exact q
theorem zdr:∀{xs:List V}{us:List Value},Vals xs us->∀i,i<xs.length->RelV (xs.getD i .non) (us.getD i Value.none)
 |_,_,.nil,i,h=>by cases h
 |_,_,.cons r t,0,_=>r
 |_,_,.cons r t,i+1,h=>zdr t i (Nat.lt_of_succ_lt_succ h)
theorem zff{f:Nat->V}{g:Nat->Value}:∀l:List Nat,(∀i,i∈l->RelV (f i) (g i))->Vals (l.map f) (l.map g)
 |[],_=>.nil
 |i::l,h=>.cons (h i (List.mem_cons_self ..)) (zff l fun j hj=>h j (List.mem_cons_of_mem _ hj))
section
variable{X:Cx}{pins:List (Addr×Obj)}{σ:St}{H:Hp}{s:Shared}
theorem zez(I:Inv X pins σ H s){a:Addr}{ns:List Int}(h:H a=some (.tup (ns.map V.int))):TupI s.heap (.ref a) ns:=by
 obtain⟨its,r,⟨⟨cls,dd,data,sl⟩,ho,hc,n,hd⟩,_⟩:=I.tuple (.of h)
 simp only at hc hd
 subst hc hd;exact⟨a,_,n,dd,sl,rfl,ho,zg6 r⟩
theorem zfx:bootBuiltins "sorted"=some (.builtin "sorted"):=by decide+kernel
theorem hu100{A:Around}{k:Nat}(hr:Room k A):A.units+100<cLine:=by have:=hr.un;omega
end
structure OnlyT(ts:List Addr)(H:Hp):Prop where
 only:∀b,H b=none∨(∃o xs,H b=some (.frz o (.lst xs)))∨(b∈ts/\H b=some (.tbl #[]))
 tabs:∀b,b∈ts->H b=some (.tbl #[])
theorem zlr{P:Program}{w:World}{K:PySem.W.Frag}{mg mb:Str->Option Value}{CX:CXT}{k:Nat}{fa a:Addr}{fd:FuncData}{x:Str}{sp:Sp}{s₁:Shared}{vs:List Value}{ns:List Int}{ts:List Addr}
  (KX:K.In s₁.heap)(hns:s₁.heap.Ns mainGlobals mg)(hb:s₁.heap.Ns builtinsNs mb)(hbb:∀x:Str,x≠"__name__"->mb x=bootBuiltins x)(hlim:s₁.heap.NoLimit)(hg:s₁.gens=#[])
  (ha:s₁.heap.get? a=some {cls:=.type "list",data:=.seq vs.toArray})(hi:IntsAre vs ns)(hl:ns.length<=sizeLine)(hr:Room k callerA)
  (hT:∀b,b∈ts->s₁.heap.get? b=some (PySem.W.tabObj #[])/\K.lookup b=none/\isCodeTable s₁.heap b)
  (hbm:∃bm ob,mg "__builtins__"=some (.ref bm)/\bm≠builtinsNs/\s₁.heap.get? bm=some ob/\ob.cls=.type "module"/\ob.dict=some builtinsNs/\ob.data=.plain)
  (F:∀base:Heap,K.In base->base.Ns mainGlobals mg->(∀b,b∈ts->base.BuiltinsAt mg b)->FnOk P w K mg base CX k fa fd [x] sp) (hbind:∀(s:Shared)(u:Value),BindsTo s fd ⟨[u],[]⟩ [(x,u)])
  (hsp:∀H:Hp,OnlyT ts H->SqL K H a (ns.map V.int)->sp [.ref a] H (fun v _=>v=.bl true) fun _ _ _=>False)
  (hCX:∀H e s',CX [] H s₁ (fun _ _ _=>False) e s'->False):
  codeAny (model P w) callerA (.call (.ref fa) ⟨[.ref a],[]⟩) (fun r s'=>r=.ok (.ret (.bool true))/\OldK s₁.heap s'.heap/\s'.os=s₁.os/\AllBare s'.gens) s₁:=by
 have rv:=zh5 hi;have lenV:=hi.length;have naT:a∉ts:=fun z=>by
  have e:=(hT a z).1;rw[ha] at e
  cases e
 have core:∀H:Hp,OnlyT ts H->SqL K H a (ns.map V.int)->HOk P w H s₁.heap->(∀b,H b≠none->b=a∨b∈ts)->(H a≠none->K.lookup a=none)->
   codeAny (model P w) callerA (.call (.ref fa) ⟨[.ref a],[]⟩) (fun r s'=>r=.ok (.ret (.bool true))/\OldK s₁.heap s'.heap/\s'.os=s₁.os/\AllBare s'.gens) s₁:=by
  intro H hO hS hok hA hK;have base_of:∀{b:Addr}{o:Obj},s₁.heap.get? b=some o->H b=none->(hidT s₁.heap H).get? b=some o:=fun e n=>hidT_get e n;have noD:∀{b:Addr}{o:Obj},s₁.heap.get? b=some o->o.cls≠.none->o.cls≠.type "list"->H b=none:=fun{b o} e d1 d2=>by
   cases q:H b with
   |none=>rfl
   |some u=>
    rcases hA b (by rw[q];simp) with e'|e'
    ·subst e';rw[ha] at e;cases e;exact absurd rfl d2
    ·rw[(hT b e').1] at e;cases e;exact absurd rfl d1
  have noA:∀{b:Addr}{o:Obj}{es:Array DictEntry}{ep:Nat},s₁.heap.get? b=some o->o.data=.dict es ep->H b=none:=fun{b o es ep} e d=>by
   cases q:H b with
   |none=>rfl
   |some u=>
    rcases hA b (by rw[q];simp) with e'|e'
    ·subst e';rw[ha] at e;cases e;have d':Data.seq vs.toArray _=Data.dict es ep:=d
     cases d'
    ·rw[(hT b e').1] at e;cases e;have d':Data.fields #[]=Data.dict es ep:=d
     cases d'
  have nsK:∀{b:Addr}{m:Str->Option Value},s₁.heap.Ns b m->(hidT s₁.heap H).Ns b m:=fun{b m}⟨o,es,ep,e,d,r⟩=>⟨o,es,ep,base_of e (noA e d),d,r⟩;have hKb:K.In (hidT s₁.heap H):=fun b o e=>base_of (KX b o e) (by
   cases q:H b with
   |none=>rfl
   |some u=>
    rcases hA b (by rw[q];simp) with e'|e'
    ·subst e';rw[hK (by rw[q];simp)] at e;cases e
    ·rw[(hT b e').2.1] at e;cases e)
  have hM:Mod K mg (hidT s₁.heap H):=⟨hKb,nsK hns,⟨mb,nsK hb,hbb⟩,let⟨mc,h1,h2⟩:=hlim;⟨mc,nsK h1,h2⟩⟩;have hB:∀b,b∈ts->(hidT s₁.heap H).BuiltinsAt mg b:=fun b hb'=>by
   obtain⟨bm,ob,b1,b2,b3,b4,b5,b6⟩:=hbm;refine⟨bm,ob,b1,b2,fun q=>?_,fun q=>?_,base_of b3 (noD b3 (by rw[b4];simp) (by rw[b4];simp)),b4,b5,b6⟩
   ·obtain⟨o,es,ep,e,d,_⟩:=hns;rw[←q,b3] at e;cases e;rw[b6] at d;cases d
   ·rw[q,(hT b hb').1] at b3;cases b3;cases b4
  have e0:Env0 P w K mg (hidT s₁.heap H) callerA [] s₁ H:=⟨rfl,hM,fun b o e=>of_hidT e,Nat.le_of_eq (znf _ _),trivial,fun b hb=>absurd (show b∈([]:List Addr) from hb) (by simp),hok,.of_eq hg⟩
  refine codeAny_mono ((F _ hKb (nsK hns) hB).run callerA [] s₁ H ⟨[.ref a],[]⟩ [.ref a] [.ref a] _ _ hr e0 (hbind s₁ (.ref a)) (.cons rfl .nil) (hsp H hO hS)) fun r s' h=>?_
  cases r with
  |error e=>exact(hCX H e s' h).elim
  |ok fl=>
   cases fl with
   |next=>exact False.elim h
   |brk=>exact False.elim h
   |cont=>exact False.elim h
   |ret u=>
    obtain⟨v,H',os,bare,un,hok',r',q⟩:=h;have q':v=.bl true:=q;subst q';obtain rfl:u=Value.bool true:=r';have at':∀b o,s₁.heap.get? b=some o->asItWas s₁.heap s'.heap b o:=fun b o e=>by
     cases q:H b with
     |none=>exact .inl (un.keep b o e q (by intro z;exact absurd (show b∈([]:List Addr) from z) (by simp)) (by simp))
     |some u=>
      rcases hO.only b with z|⟨ob,xs,z⟩|⟨hbt,z⟩
      ·rw[q] at z;cases z
      ·have z2:=un.frzs b ob _ z;obtain⟨e1,_⟩:=hok b _ z;obtain⟨e2,_⟩:=hok' b _ z2;rw[e] at e1;cases e1;exact .inl e2
      ·obtain⟨more,z2⟩:=un.tbls b _ z;have e2:s'.heap.get? b=some {cls:=.none,data:=.fields (#[]++more)}:=hok' b _ z2;have e1:=(hT b hbt).1;rw[e] at e1;cases e1;exact .inr (.inl ⟨(hT b hbt).2.2,rfl,#[],more,rfl,e2⟩)
    exact⟨rfl,⟨at',fun b o e=>un.there b o e (by simp)⟩,os,bare⟩
 cases hk:K.lookup a with
 |some o=>
  have e:=KX a o hk;rw[ha] at e
  cases e;refine core (fun b=>if b∈ts then some (.tbl #[]) else none) ⟨fun b=>?_,fun b hb'=>if_pos hb'⟩ (.inr ⟨_,vs.toArray,_,hk,rfl,rfl,rfl,by rw[List.size_toArray,lenV];exact hl,by simpa using rv⟩) (fun b u z=>?_) (fun b z=>?_) fun z=>absurd (if_neg naT) z
  ·by_cases hbt:b∈ts
   ·exact .inr (.inr ⟨hbt,if_pos hbt⟩)
   ·exact .inl (if_neg hbt)
  ·by_cases hbt:b∈ts
   ·have z':=(if_pos hbt).symm.trans z
    cases z';exact(hT b hbt).1
   ·have z':=(if_neg hbt).symm.trans z
    cases z'
  ·by_cases hbt:b∈ts
   ·exact .inr hbt
   ·exact absurd (if_neg hbt) z
 |none=>
  refine core (fun b=>if b=a then some (.frz {cls:=.type "list",data:=.seq vs.toArray} (.lst (ns.map V.int))) else if b∈ts then some (.tbl #[]) else none) ⟨fun b=>?_,fun b hb'=>?_⟩ (.inl (.inr ⟨{cls:=.type "list",data:=.seq vs.toArray},if_pos rfl⟩)) (fun b u z=>?_) (fun b z=>?_) fun _=>hk
  ·by_cases hb:b=a
   ·exact .inr (.inl ⟨_,_,if_pos hb⟩)
   ·by_cases hbt:b∈ts
    ·exact .inr (.inr ⟨hbt,(if_neg hb).trans (if_pos hbt)⟩)
    ·exact .inl ((if_neg hb).trans (if_neg hbt))
  ·have hb:¬b=a:=fun z=>naT (z▸hb');exact(if_neg hb).trans (if_pos hb')
  ·by_cases hb:b=a
   ·have z':=(if_pos hb).symm.trans z
    cases z';subst hb;exact⟨ha,by rw[List.length_map];exact hl,vs,_,rv,ha⟩
   ·by_cases hbt:b∈ts
    ·have z':=((if_neg hb).trans (if_pos hbt)).symm.trans z
     cases z';exact(hT b hbt).1
    ·have z':=((if_neg hb).trans (if_neg hbt)).symm.trans z
     cases z'
  ·by_cases hb:b=a
   ·exact .inl hb
   ·by_cases hbt:b∈ts
    ·exact .inr hbt
    ·exact absurd ((if_neg hb).trans (if_neg hbt)) z
theorem walk_ofT{l:PySem.W.OpenLaw}{n k:Nat}{q:Program}{loose:List Str}{XP:(Str->Option Value)->Heap->Prop}{YP:World->Heap->Prop}{d:DefRec}{K:Params->PySem.W.Frag}{CX:World->CXT}{sp:World->List Addr->Sp}{x:Str}{ds:List Str}
  (hn:l.most=some n)(hn2:n<=sizeLine)(hdf:d.params.defaults=[])(hr:Room k callerA)
  (hY:∀(w:World)(h:Heap),YP w h->(K w.params).In h)
  (hD:∀y,y∈ds->∃e,(recsOf q).find? (fun e=>e.name==y)=some e)
  (F:∀(w:World)(mg:Str->Option Value)(fa:Addr)(h:Heap),(K w.params).In h->h.Ns mainGlobals mg->mg d.name=some (.ref fa)->
   ∃(fd:FuncData)(ts:List Addr),(∀b,b∈ts->(K w.params).lookup b=none/\∃y c,y∈ds/\PySem.W.tabIn (K w.params) y=some (c,b))/\(∀(s:Shared)(u:Value),BindsTo s fd ⟨[u],[]⟩ [(x,u)])/\
    ∀base:Heap,(K w.params).In base->base.Ns mainGlobals mg->(∀b,b∈ts->base.BuiltinsAt mg b)->FnOk l.prog w (K w.params) mg base (CX w) k fa fd [x] (sp w ts))
  (hsp:∀(w:World)(H:Hp)(a:Addr)(ns:List Int)(ts:List Addr),ns.length<=n->OnlyT ts H->SqL (K w.params) H a (ns.map V.int)->sp w ts [.ref a] H (fun v _=>v=.bl true) fun _ _ _=>False)
  (hCX:∀(w:World)(H:Hp)(s:Shared)(e:Value)(s':Shared),CX w [] H s (fun _ _ _=>False) e s'->False):
  PySem.W.WalkO q loose XP YP l.row.toRowW d [] (fun f vs=>PySem.call f vs):=by
 refine Att.attach_call hn hdf fun w s₀ s₁ mg mb fa o pm cd doc a vs ns G Y ho hd hcd hmg hobj hints hlen hg=>?_;have KX:=hY w _ Y;obtain⟨fd,ts,ht,hb,hF⟩:=F w mg fa _ KX G.T.g hmg;refine zlr (ts:=ts) KX G.T.g G.T.b G.T.builtins G.T.nolimit hg hobj hints (Nat.le_trans hlen hn2) hr (fun b hb'=>?_) G.T.bmain hF hb (fun H hO hS=>hsp w H a ns ts hlen hO hS) fun H e s'=>hCX w H s₁ e s';obtain⟨hk,y,c,hy,e⟩:=ht b hb';obtain⟨r,hr'⟩:=hD y hy;obtain⟨C,hP⟩:=PySem.W.tab_of G.T KX hr' e;exact⟨hP,hk,(C.tab hP).isCodeTable⟩
open PySem.W (kla_fn kla_obj envX tabObj CodeHd)
structure zfg(x y:Str)(sc:Scope):Prop where
 kind:sc.kind=.function
 co:sc.isCoroutine=false
 gen:sc.isGenerator=false
 par:sc.names.lookup x=some .local
 cap:sc.names.lookup y=some .free
 nocell:∀z,z∈sc.names->z.2≠.cell
 free:∀z,z∈sc.names->z.2=.free->z.1=y
def zmi(P:Program)(w:World)(K:PySem.W.Frag)(mg:Str->Option Value)(base:Heap)(x y:Str)(qual:Str)(sc:Scope)(f:Addr)(cd:Value)(c:Addr)(A:Around)(outer:List Env)(s:Shared)(H:Hp):Cx where
 prog:=P
 w:=w
 K:=K
 mg:=mg
 base:=base
 A:=A.deeper (envX qual sc s.heap.objs.size f cd [(y,c)])
 N:=[x,y]
 s₀:=s
 H₀:=H
 env:=envX qual sc s.heap.objs.size f cd [(y,c)]
 outer:=outer
 stack:=envX qual sc s.heap.objs.size f cd [(y,c)]::outer
 ex:=[]
 calm:=true
 fn:=fun _=>false
 pn:=[]
 xe:=fun _ _=>False
theorem zdt{y z:Str}{c d:Addr}(h:([(y,c)]:List (Str×Addr)).lookup z=some d):z=y/\d=c:=by
 rw[List.lookup_cons] at h
 by_cases e:z=y
 ·subst e;rw[beq_self_eq_true] at h
  cases h;exact⟨rfl,rfl⟩
 ·rw[beq_eq_false_iff_ne.mpr e] at h
  cases h
theorem zg1(y:Str)(c:Addr):([(y,c)]:List (Str×Addr)).lookup y=some c:=by rw[List.lookup_cons,beq_self_eq_true]
theorem inv_lam{P:Program}{w:World}{K:PySem.W.Frag}{mg:Str->Option Value}{base:Heap}{x y qual:Str}{sc:Scope}{f c:Addr}{cd:Value}{A:Around}{outer:List Env}{s:Shared}{H:Hp}{u uy:Value}{v vy:V}{h₁:Heap}{tk:Nat}
  (S:zfg x y sc)(hd:A.handled=none)(e0:Env0 P w K mg base A outer s H)(ru:RelV v u)(ry:RelV vy uy)(hc:s.heap.IsCell c (some uy))(hcn:H c=none)
  (hns:h₁.Ns s.heap.objs.size (fun z=>([(x,u)]:List (Str×Value)).reverse.lookup z))(hk:∀b o,s.heap.get? b=some o->h₁.get? b=some o):
  Inv (zmi P w K mg base x y qual sc f cd c A outer s H) [] [some v,some vy] H {s with heap:=h₁,toks:=tk}:=by
 have noA:∀b:Addr,b∉(zmi P w K mg base x y qual sc f cd c A outer s H).ex:=fun b z=>absurd (show b∈([]:List Addr) from z) (by simp)
 refine⟨⟨e0.mod,S.kind,rfl,rfl,Nat.le_refl _,fun y1 z1 d h1 h2=>?_,fun z hz=>?_,fun z d hf _=>?_,fun _=>hd,Around.frames_deeper e0.frames,.inr ⟨rfl,rfl⟩,fun b z=>absurd z (noA b),e0.bs,e0.bsz,fun b _ _=>noA b,fun b z=>absurd z (noA b),e0.funs,e0.frf⟩,
  rfl,e0.bare,Un.kept hk,⟨_,hns,fun i z v' h1 h2 h3=>?_⟩,fun z d h=>?_,e0.hok.fresh (Nat.le_refl _),fun z d h=>?_,fun p hp=>absurd (show p∈([]:List (Addr×Obj)) from hp) (by simp),e0.hok.kept hk,rfl⟩
 ·exact(zdt h1).1.trans (zdt h2).1.symm
 ·have hz:sc.names.lookup z=some .cell∨sc.names.lookup z=some .free:=hz;rcases hz with hz|hz
  ·exact absurd rfl (S.nocell _ (PySem.mem_of_lookup hz))
  ·have e:=S.free _ (PySem.mem_of_lookup hz) rfl;have e:z=y:=e;subst e;exact⟨c,zg1 _ _⟩
 ·cases hf
 ·match i,h1,h2 with
  |0,h1,h2=>
   cases h1
   cases h2;refine⟨u,ru,.inl ⟨S.par,?_⟩⟩;show([(x,u)]:List (Str×Value)).reverse.lookup x=some u
   simp
  |1,h1,h2=>
   cases h1
   cases h2;obtain⟨o,ho,hd'⟩:=hc;exact⟨uy,ry,.inr ⟨.inr S.cap,c,zg1 _ _,o,hk _ _ ho,hd'⟩⟩
 ·obtain⟨_,rfl⟩:=zdt h;obtain⟨o,ho,hd'⟩:=hc;exact⟨_,o,hk _ _ ho,hd'⟩
 ·obtain⟨_,rfl⟩:=zdt h;exact hcn
section
variable{X:Cx}{pins:List (Addr×Obj)}{σ:St}{H:Hp}{s:Shared}
theorem lam_run{A:Around}{k:Nat}{x y name qual:Str}{params:Arguments}{body:Expr}{sc:Scope}{fa c c':Addr}{pm ctv u uy:Value}{v vy:V}{te:TE}{Q:VK}(I:Inv X pins σ H s)
  (e0:Env0 X.prog X.w X.K X.mg X.base A X.stack s H)(hr:Room k A)(S:zfg x y sc)(ho:s.heap.get? fa=some (kla_obj name qual params body sc [(y,c)] pm c' ctv))(hcd:s.heap.CodeRec (.ref c') qual)
  (hb:bindArgs (kla_fn name qual params body sc [(y,c)] pm (.ref c') ctv) ⟨[u],[]⟩=pure [(x,u)])(ru:RelV v u)(ry:RelV vy uy)(hc:s.heap.IsCell c (some uy))(hcn:H c=none)
  (hbody:PE (zmi X.prog X.w X.K X.mg X.base x y qual sc fa (.ref c') c A X.stack s H) body te)(q:te [some v,some vy] H Q):
  wpAny (model X.prog X.w) A (call (.ref fa) [u]) (EP X pins σ Q) (fun _ _=>False) s:=by
 refine wpAny_call (codeAny_mono (R:=CR CX0 X.stack X.prog X.w H s Q E0) ?_ fun r s' hq=>?_)
 ·refine PySem.W.kla_callFunE hr.depth ho rfl S.co S.gen rfl hcd ?_;rw[hb];refine wpAny_pure (wpAny_newFunctionEnv S.nocell (fun z hz=>?_) (fun h₁ hns hsb=>⟨I.nolimit.fresh _ hsb,?_⟩) S.kind)
  ·rw[List.mem_singleton] at hz;rw[hz];exact S.par
  ·show codeAny _ _ (.expr body (envX qual sc s.heap.objs.size fa (.ref c') [(y,c)])) _ _
   have kp:∀d u,s.heap.get? d=some u->h₁.get? d=some u:=fun d u z=>hsb.extBut d u (Nat.ne_of_lt (Heap.lt_size z)) (Heap.get?_push_of_some _ z);have J:=inv_lam (tk:=s.toks+1) (f:=fa) (qual:=qual) (cd:=.ref c') S hr.hd e0 ru ry hc hcn hns kp;refine PySem.W.kla_codeExpr (wpAny_mono (hbody [] _ _ H Q J q) (fun r s' hs=>?_) fun e s' hs=>hs.elim);obtain⟨v',H',J',r',q'⟩:=hs;exact⟨v',H',J'.os,J'.bare,J'.base,J'.hok,r',q'⟩
 ·cases r with
  |error e=>exact hq.elim
  |ok fl=>
   cases fl with
   |ret u=>exact I.after hq
   |next=>exact False.elim hq
   |brk=>exact False.elim hq
   |cont=>exact False.elim hq
end
open PySem.W (kla_fn kla_obj envX tabObj CodeHd)
def zhd(c:Addr)(q:Str):HO:=.ext fun h=>h.CodeRec (.ref c) q
def zc3(H:Hp)(P:Addr)(pos:Pos)(q:Str):Prop:=∃ps,H P=some (.tbl ps)/\TriplesOk ps.toList/\(codeAmong pos ps.toList=none∨∃c,codeAmong pos ps.toList=some (.ref c)/\H c=some (zhd c q))
def zbb(P:Addr)(H H':Hp):Prop:=∀b o,b≠P->H b=some o->H' b=some o
theorem zbb.refl(P:Addr)(H:Hp):zbb P H H:=fun _ _ _ h=>h
theorem zbb.of{P:Addr}{H H':Hp}(g:Same H H'):zbb P H H':=fun b o _ h=>g b o h
theorem zbb.trans{P:Addr}{H H1 H2:Hp}(a:zbb P H H1)(b:zbb P H1 H2):zbb P H H2:=fun c o n h=>b c o n (a c o n h)
theorem zc3.same{H H':Hp}{P:Addr}{pos:Pos}{q:Str}(h:zc3 H P pos q)(g:Same H H'):zc3 H' P pos q:=by
 obtain⟨ps,e,t,z⟩:=h;refine⟨ps,g _ _ e,t,?_⟩;rcases z with z|⟨c,z,y⟩
 ·exact .inl z
 ·exact .inr ⟨c,z,g _ _ y⟩
section
variable{X:Cx}{pins:List (Addr×Obj)}{σ:St}{H:Hp}{s:Shared}
theorem lam_make{params:Arguments}{body:Expr}{sc:Scope}{pos:Pos}{c0 P:Addr}{clos:List (Str×Addr)}{Q:Value->Shared->Prop}(I:Inv X pins σ H s)(hcode:X.env.code=.ref c0)(C:CodeHd X.base c0 P)(hB:X.base.BuiltinsAt X.mg P)
  (hcl:closureFor sc X.env=pure clos)(hdef:defaultsOf params X.env=([],[]))(ht:zc3 H P pos (X.env.qual++"<lambda>"))
  (q:∀(fa c':Addr)(ctv:Value)(H':Hp)(s':Shared),Inv X pins σ H' s'->zbb P H H'->zc3 H' P pos (X.env.qual++"<lambda>")->s'.heap.get? fa=some (kla_obj "<lambda>" (X.env.qual++"<lambda>") params body sc clos ((X.mg "__name__").getD .none) c' ctv)->
   H' c'=some (zhd c' (X.env.qual++"<lambda>"))->FpOk X pins H' fa->Q (.ref fa) s'):
  wpAny (model X.prog X.w) X.A (eval (.Lambda params body sc pos) X.env) Q X.xe s:=by
 obtain⟨ps,hP,tr,alt⟩:=ht;have hPh:s.heap.get? P=some (tabObj ps):=I.hok P _ hP;have kb:=I.bk;have hg:s.heap.Ns mainGlobals X.mg:=I.ok.mod.glob.keeps kb;have Cs:=C.keeps kb;have Bs:s.heap.BuiltinsAt X.mg P:=by
  obtain⟨bm,o,b1,b2,b3,b4,b5,b6⟩:=hB;exact⟨bm,o,b1,b2,b3,b4,kb _ _ b5,b6⟩
 have neG:mainGlobals≠P:=fun z=>by
  obtain⟨o,es,ep,e,hd,_⟩:=hg;rw[z,hPh] at e;cases e;cases hd
 refine PySem.W.kla_eval hdef ?_;rcases alt with hn|⟨c',hf,hc'⟩
 ·refine PySem.W.kla_makeFunction hcl I.ok.glob hg hcode Cs hPh tr hn neG Bs fun c' ctv h' tk hx hge hlt hrec htb=>?_;have neC:∀b u,H b=some u->b≠c':=fun b u e z=>by
   rw[z,I.hok.fresh hge] at e;cases e
  have nP:∀b,H b=none->b≠P:=fun b n z=>by rw[z,hP] at n;cases n
  have cP:c'≠P:=fun z=>by rw[←z,I.hok.fresh hge] at hP;cases hP
  have keep:∀b o,b≠P->s.heap.get? b=some o->(h'.push (kla_obj "<lambda>" (X.env.qual++"<lambda>") params body sc clos ((X.mg "__name__").getD .none) c' ctv)).get? b=some o:=fun b o n e=>Heap.get?_push_of_some _ (hx b o n e);have hP':=Heap.get?_push_of_some (kla_obj "<lambda>" (X.env.qual++"<lambda>") params body sc clos ((X.mg "__name__").getD .none) c' ctv) htb;have upP:∀b u,b≠P->H b=some u->upd (upd H P (.tbl (ps++#[rawInt pos.line,rawInt pos.col,.ref c']))) c' (zhd c' (X.env.qual++"<lambda>")) b=some u:=fun b u n e=>by rw[za7 (neC b u e),za7 n];exact e
  have up0:upd (upd H P (.tbl (ps++#[rawInt pos.line,rawInt pos.col,.ref c']))) c' (zhd c' (X.env.qual++"<lambda>")) P=some (.tbl (ps++#[rawInt pos.line,rawInt pos.col,.ref c'])):=by rw[za7 cP.symm,upd_same]
  have J:Inv X pins σ (upd (upd H P (.tbl (ps++#[rawInt pos.line,rawInt pos.col,.ref c']))) c' (zhd c' (X.env.qual++"<lambda>"))) {s with heap:=h'.push (kla_obj "<lambda>" (X.env.qual++"<lambda>") params body sc clos ((X.mg "__name__").getD .none) c' ctv),toks:=tk}:=by
   refine I.step (g':=s.gens) (d':=s.drawn) (ch:=[]) (fun _ z=>nomatch z) (fun b o _ _ _ e n=>keep b o (nP b n) e) (fun b o _ _ _ e n=>⟨o.slots,keep b o (nP b n) e⟩) (fun b o _ e n=>?_) (fun b o _ e=>?_) (fun b xs e=>?_) (fun b o u e=>?_) (fun b qs e=>?_) (fun m hm=>?_) (fun b u e=>?_) I.bare
   ·rw[za7 (Nat.ne_of_lt (Nat.lt_of_lt_of_le (Heap.lt_size e) hge)),za7 (nP b n)];exact n
   ·by_cases z:b=P
    ·exact⟨_,z▸hP'⟩
    ·exact⟨o,keep b o z e⟩
   ·exact upP b _ (fun z=>by rw[z,hP] at e;cases e) e
   ·exact upP b _ (fun z=>by rw[z,hP] at e;cases e) e
   ·by_cases z:b=P
    ·subst z;rw[hP] at e
     cases e;exact⟨_,up0⟩
    ·exact⟨#[],by rw[upP b _ z e];simp⟩
   ·obtain⟨o,es,ep,ho,r⟩:=hm;exact⟨o,es,ep,keep _ o (nP _ I.free) ho,r⟩
   ·by_cases z:b=c'
    ·subst z;rw[upd_same] at e
     cases e;have hr2:=hrec.push (kla_obj "<lambda>" (X.env.qual++"<lambda>") params body sc clos ((X.mg "__name__").getD .none) b ctv);obtain⟨c2,oc,vs,t,e2,hoc,hd,hv⟩:=id hr2
     cases e2;refine⟨hr2,⟨oc,hoc⟩,fun h1 h2 ph k=>?_⟩;obtain⟨c3,oc3,vs3,t3,e3,hoc3,hd3,hv3⟩:=ph
     cases e3;exact⟨_,oc3,vs3,t3,rfl,k _ hoc3,hd3,hv3⟩
    ·rw[za7 z] at e
     by_cases y:b=P
     ·subst y;rw[upd_same] at e
      cases e;exact hP'
     ·rw[za7 y] at e;refine(I.hok b u e).stay (fun d v hd hv=>keep d v ?_ hv) (fun d hd=>?_) fun d xs hd=>?_
      ·rcases hd with rfl|hd
       ·exact y
       ·intro z';rw[z',hP] at hd;cases hd
      ·exact upP d _ (fun z'=>by rw[z',hP] at hd;cases hd) hd
      ·exact upP d _ (fun z'=>by rw[z',hP] at hd;cases hd) hd
  refine q h'.objs.size c' ctv _ _ J (fun b o n e=>upP b o n e) ⟨_,up0,?_,.inr ⟨c',?_,upd_same⟩⟩ (Heap.get?_push_size _ rfl) upd_same ?_
  ·rw[Array.toList_append];exact TriplesOk_snoc _ _ _ _ tr
  ·rw[Array.toList_append];exact codeAmong_snoc _ tr hn
  ·have hsz:s.heap.objs.size<=h'.objs.size:=Nat.le_trans hge (Nat.le_of_lt hlt);have nf:upd (upd H P (.tbl (ps++#[rawInt pos.line,rawInt pos.col,.ref c']))) c' (zhd c' (X.env.qual++"<lambda>")) h'.objs.size=none:=by
    rw[za7 (Nat.ne_of_gt hlt),za7]
    ·exact I.hok.fresh hsz
    ·intro z;rw[←z,I.hok.fresh hsz] at hP
     cases hP
   exact I.fpOk hsz nf
 ·have hrec:s.heap.CodeRec (.ref c') (X.env.qual++"<lambda>"):=(I.hok c' _ hc').1;refine PySem.W.kla_makeFunctionHit hcl I.ok.glob hg hcode Cs hPh tr hf Bs fun ctv h' tk hk hsz=>?_;have J:Inv X pins σ H {s with heap:=h'.push {cls:=.type "function",data:=.func (kla_fn "<lambda>" (X.env.qual++"<lambda>") params body sc clos ((X.mg "__name__").getD .none) (.ref c') ctv)},toks:=tk}:=I.kept fun b o e=>Heap.get?_push_of_some _ (hk b o e);exact q h'.objs.size c' ctv H _ J (.refl P H) ⟨ps,hP,tr,.inr ⟨c',hf,hc'⟩⟩ (Heap.get?_push_size _ rfl) hc' (I.fpOk hsz (I.hok.fresh hsz))
end
open PySem.W (KasT kas_sort kas_ask kas_item)
section
variable{prog:Program}{w:World}{A:Around}{E:Value->Shared->Prop}{s:Shared}{vs ks:List Value}{g:Heap}{a kS:Addr}{e e1:Nat}{f:Value}
def KeyFin(prog:Program)(w:World)(A:Around)(a kS:Addr)(e1:Nat)(vs ks:List Value)(P:PySem.Fin->Shared->Prop)(s:Shared):Prop:=
 s.heap.get? a=some (seqObj "list" #[] e1)/\∃(κ:SortKind)(ans:Nat->Nat->Bool),
  (2<=vs.length->∀Q':SortKind->Shared->Prop,Q' κ s->wpAny (model prog w) A (keyKind' ks.toArray) Q' (fun _ _=>False) s)/\
  (2<=vs.length->∀i j C,i<vs.length->j<vs.length->C (ans i j) s->kas_ask prog w A κ ks i j C s)/\
  ∀p:Array Nat,Ord vs.length p->(2<=vs.length->p=ansT ans (kas_sort vs.length))->P (.done (.ret .none)) {s with heap:=(s.heap.update kS (Obj.mapSeq fun _=>(#[]:Array Value))).update a (Obj.mapSeq fun _=>List.toArray (p.toList.map fun i=>vs.getD i Value.none))}
theorem zg4{st:SortSt}{p:Array Nat}{P:PySem.Fin->Shared->Prop}(hs:(arrOf st).map (·.2)=List.toArray (p.toList.map fun i=>vs.getD i Value.none))(hf:failedOf st=none)(hz:p.size=vs.length)(h64:vs.length<64)(hkl:ks.length<64)(nak:a≠kS)
  (hk:s.heap.get? kS=some (seqObj "list" ks.toArray e))(ha:s.heap.get? a=some (seqObj "list" #[] e1))
  (q:P (.done (.ret .none)) {s with heap:=(s.heap.update kS (Obj.mapSeq fun _=>(#[]:Array Value))).update a (Obj.mapSeq fun _=>List.toArray (p.toList.map fun i=>vs.getD i Value.none))}):
  wpAny (model prog w) A (ksk_tail a false e1 (.ref kS) st) P E s:=by
 have ha2:(s.heap.update kS (Obj.mapSeq fun _=>(#[]:Array Value))).get? a=some (seqObj "list" #[] e1):=by rw[Heap.get?_update_ne _ _ _ _ nak];exact ha
 have hsz:(List.toArray (p.toList.map fun i=>vs.getD i Value.none)).size=vs.length:=by simp[hz]
 unfold ksk_tail;dsimp only;rw[hs];refine wpAny_bind (listUpdate_at hk rfl ?_ (by rw[List.size_toArray,sizeLine_eq];omega) (Nat.zero_le _))
 refine wpAny_bind (wpAny_letGo ?_);refine wpAny_bind (seqEpoch_at ha2 rfl ?_);refine wpAny_bind (listUpdate_at ha2 rfl ?_ (Nat.zero_le _) (by simp only[Bool.false_eq_true,if_false];rw[hsz,sizeLine_eq];omega))
 rw[hf];simp only[bne_self_eq_false,Bool.false_eq_true,if_false];exact wpAny_pure q
theorem zm6{P:PySem.Fin->Shared->Prop}(hl:ks.length=vs.length)(h64:vs.length<64)(nak:a≠kS)(hk:s.heap.get? kS=some (seqObj "list" ks.toArray e))(h:KeyFin prog w A a kS e1 vs ks P s):
  wpAny (model prog w) A (ksk_end a false vs.toArray e1 (.ref kS) ks.toArray) P E s:=by
 obtain⟨ha,κ,ans,hkind,hask,q⟩:=h;have z0:vs.toArray.size=vs.length:=rfl;unfold ksk_end;dsimp only;simp only[Bool.false_eq_true,if_false]
 by_cases h2:vs.length<2
 ·rw[z0,if_pos h2,if_pos h2,pure_bind];rw[StateT.run_pure];refine wpAny_bind (wpAny_pure ?_);refine zg4 (p:=List.toArray (List.range vs.length)) ?_ rfl (by simp) h64 (by omega) nak hk ha (q _ (by unfold Ord;simp) fun z=>absurd h2 (Nat.not_lt.mpr z))
  show(ks.toArray.zip vs.toArray).map (·.2)=_
  rw[show(List.toArray (List.range vs.length)).toList=List.range vs.length from rfl,zgc]
  apply Array.toList_inj.mp
  simp[List.map_snd_zip,hl]
 ·have h2':2<=vs.length:=by omega
  rw[z0,if_neg h2,if_neg h2];refine wpAny_bind (wpAny_mono (hkind h2' (fun κ' s'=>κ'=κ/\s'=s) ⟨rfl,rfl⟩) (fun κ' s' hs=>?_) fun _ _ z=>z.elim);obtain⟨rfl,rfl⟩:=hs;have run:=Asks.wp (R:=Ord vs.length) (Q:=fun p s''=>s''=s'/\Ord vs.length p/\p=ansT ans (kas_sort vs.length)) (fun i j C hi hj=>hask h2' i j C hi hj) (zel (by omega)) ⟨rfl,Asks.ends (zel (by omega)),rfl⟩
  refine wpAny_bind (wpAny_mono (PySem.W.kat_run (E:=E) (ks:=ks) (vs:=vs) (Q:=fun st s''=>∃p:Array Nat,p.size=vs.length/\arrOf st=p.map (kas_item (ks.toArray.zip vs.toArray))/\failedOf st=none/\s''=s'/\Ord vs.length p/\p=ansT ans (kas_sort vs.length)) hl h2' h64 (fun p st s'' b1 b2 b3 b4=>⟨p,b1,b2,b3,b4⟩) run) ?_ fun _ _ z=>z);rintro⟨⟨⟩,st⟩ s'' ⟨p,hp,har,hf,rfl,or,ep⟩;exact zg4 (PySem.W.kat_snds hl har) hf hp h64 (by omega) nak hk ha (q p or fun _=>ep)
structure zjy(prog:Program)(w:World)(A:Around)(a kS:Addr)(e1:Nat)(f:Value)(vs:List Value)(P:PySem.Fin->Shared->Prop)(J:Nat->List Value->Nat->Shared->Prop):Prop where
 store:∀i ks e s,J i ks e s->s.heap.get? kS=some (seqObj "list" ks.toArray e)/\ks.length=i
 turn:∀i x ks e s,vs[i]?=some x->J i ks e s->wpAny (model prog w) A (call f [x]) (fun k s'=>s'.heap.get? kS=some (seqObj "list" ks.toArray e)/\
  ∀c,(s'.heap.update kS (Obj.mapSeq (·.push k))).get? kS=some (seqObj "list" (ks++[k]).toArray c)->J (i+1) (ks++[k]) c {s' with heap:=s'.heap.update kS (Obj.mapSeq (·.push k))}) (fun _ _=>False) s
 fin:∀ks e s,J vs.length ks e s->KeyFin prog w A a kS e1 vs ks P s
theorem zg5{P:PySem.Fin->Shared->Prop}{J:Nat->List Value->Nat->Shared->Prop}{body:Value->PUnit->Sem (ForInStep PUnit)}(R:zjy prog w A a kS e1 f vs P J)
  (hb:∀i x ks e(s:Shared),vs[i]?=some x->J i ks e s->wpAny (model prog w) A (body x ⟨⟩) (fun r s'=>r=.yield ⟨⟩/\∃k c,J (i+1) (ks++[k]) c s') E s):
  ∀(r:List Value)(i:Nat)(ks:List Value)(e:Nat)(s:Shared),i<=vs.length->vs.drop i=r->J i ks e s->wpAny (model prog w) A (forIn r PUnit.unit body) (fun _ s'=>∃ks e,J vs.length ks e s') E s
 |[],i,ks,e,s,hi,hr,h=>by
  rw[List.forIn_nil];have e0:i=vs.length:=Nat.le_antisymm hi (List.drop_eq_nil_iff.mp hr);subst e0;exact wpAny_pure ⟨ks,e,h⟩
 |x::r,i,ks,e,s,hi,hr,h=>by
  rw[List.forIn_cons];have hx:vs[i]?=some x:=by
   have z:=congrArg (fun l=>l[0]?) hr
   simpa[List.getElem?_drop] using z
  have hr2:vs.drop (i+1)=r:=by
   have z:=congrArg (List.drop 1) hr
   simpa[List.drop_drop,Nat.add_comm] using z
  refine wpAny_bind (wpAny_mono (hb i x ks e s hx h) (fun q s' hq=>?_) fun _ _ z=>z);obtain⟨rfl,k,c,h2⟩:=hq;exact zg5 R hb r (i+1) (ks++[k]) c s' (List.getElem?_eq_some_iff.mp hx).1 hr2 h2
theorem zkp{P:PySem.Fin->Shared->Prop}{J:Nat->List Value->Nat->Shared->Prop}(R:zjy prog w A a kS e1 f vs P J)(h64:vs.length<64)(nak:a≠kS)(h0:J 0 [] 0 s):
  wpAny (model prog w) A (ksk_rest a f false vs.toArray e1 (.ref kS)) P E s:=by
 unfold ksk_rest;refine wpAny_bind (wpAny_rule ?_);rw[List.forIn_toArray];refine wpAny_bind (wpAny_mono (zg5 R (fun i x ks e s' hx hJ=>?_) vs 0 [] 0 s (Nat.zero_le _) List.drop_zero h0) (fun _ s' hd=>?_) fun _ _ z=>z)
 ·have hi:=(List.getElem?_eq_some_iff.mp hx).1;have hl:=(R.store i ks e s' hJ).2;refine wpAny_bind (wpAny_attempt (wpAny_mono (R.turn i x ks e s' hx hJ) (fun k s'' hk=>?_) fun _ _ hF=>hF.elim));obtain⟨hk1,hk2⟩:=hk;have pk:(List.toArray ks).push k=List.toArray (ks++[k]):=by rw[List.push_toArray]
  obtain⟨c2,hc2⟩:∃c2,(s''.heap.update kS (Obj.mapSeq (·.push k))).get? kS=some (seqObj "list" (List.toArray (ks++[k])) c2):=⟨_,by rw[←pk];exact get?_update_seq hk1 (·.push k)⟩
  try dsimp only
  refine wpAny_bind (listUpdate_at hk1 rfl ?_ (by rw[List.size_toArray,sizeLine_eq];omega) (Nat.le_trans (Nat.le_of_eq (Array.size_push ..)) (by rw[List.size_toArray,sizeLine_eq];omega)))
  exact wpAny_pure ⟨rfl,k,c2,hk2 c2 hc2⟩
 ·obtain⟨ks,e,hJ⟩:=hd;obtain⟨hk,hl⟩:=R.store _ _ _ _ hJ
  try dsimp only
  refine wpAny_bind (listItems_at hk rfl ?_);exact zm6 hl h64 nak hk (R.fin ks e s' hJ)
theorem zks{n:Nat}{P:PySem.Fin->Shared->Prop}(hg:Keeps g s.heap)(ga:g.objs.size<=a)(ho:s.heap.get? a=some (seqObj "list" vs.toArray n))(h64:vs.length<64)
  (h:∀kS e1 h',Keeps g h'->a<kS->h'.get? a=some (seqObj "list" #[] e1)->h'.get? kS=some (seqObj "list" #[] 0)->∃J,zjy prog w A a kS e1 f vs P J/\J 0 [] 0 {s with heap:=h'}):
  wpAny (model prog w) A (ksk_tree a f false) P E s:=by
 have zl:vs.length<=sizeLine:=Nat.le_trans (Nat.le_of_lt h64) (by decide)
 have k1:Keeps g (s.heap.update a (Obj.mapSeq fun _=>(#[]:Array Value))):=hg.upd ga;obtain⟨c1,o1⟩:∃c1,(s.heap.update a (Obj.mapSeq fun _=>(#[]:Array Value))).get? a=some (seqObj "list" #[] c1):=⟨_,get?_update_seq ho _⟩;have k3:=(k1.push (seqObj "tuple" vs.toArray 0)).push (seqObj "list" #[] 0);have o3:=Heap.get?_push_of_some (seqObj "list" #[] 0) (Heap.get?_push_of_some (seqObj "tuple" vs.toArray 0) o1);have lt:a<((s.heap.update a (Obj.mapSeq fun _=>(#[]:Array Value))).push (seqObj "tuple" vs.toArray 0)).objs.size:=Heap.lt_size (Heap.get?_push_of_some _ o1);obtain⟨J,R,h0⟩:=h _ c1 _ k3 lt o3 (Heap.get?_push_size _ rfl);unfold ksk_tree;refine wpAny_bind (listItems_at ho rfl (wpAny_bind (listUpdate_at ho rfl (wpAny_bind (seqEpoch_at o1 rfl (wpAny_bind (wpAny_newTuple (wpAny_bind (wpAny_newList (wpAny_holding ?_) (Nat.zero_le _))) zl)))) zl (Nat.zero_le _))));exact zkp (s:={s with heap:=((s.heap.update a (Obj.mapSeq fun _=>(#[]:Array Value))).push (seqObj "tuple" vs.toArray 0)).push (seqObj "list" #[] 0)}) R h64 (Nat.ne_of_lt lt) h0
theorem zk5{l fa:Addr}{Q:Value->Shared->Prop}(hl:s.heap.IsList l vs.toArray)(h64:vs.length<64)
  (h:∀D kS e1 h',D=s.heap.objs.size+1->Keeps s.heap h'->D<kS->h'.get? D=some (seqObj "list" #[] e1)->h'.get? kS=some (seqObj "list" #[] 0)->∃J,zjy prog w A.in1.in1 D kS e1 (.ref fa) vs (fun r s'=>r=.done (.ret .none)->Q (.ref D) s') J/\J 0 [] 0 {s with heap:=h'}):
  wpAny (model prog w) A (call (.builtin "sorted") [.ref l] [(Str.ofString "key",.ref fa)]) Q E s:=by
 have zl:vs.length<=sizeLine:=Nat.le_trans (Nat.le_of_lt h64) (by decide)
 have k0:Keeps s.heap s.heap:=fun _ _ e=>e;have k2:=((k0.push (seqObj "list" #[] 0)).upd (a:=s.heap.objs.size) (f:=Obj.mapSeq (·++vs.toArray)) (Nat.le_refl _)).push (seqObj "list" vs.toArray 0);have z2:((s.heap.push (seqObj "list" #[] 0)).update s.heap.objs.size (Obj.mapSeq (·++vs.toArray))).objs.size=s.heap.objs.size+1:=by
  rw[Heap.size_update,size_push']
 have o2:(((s.heap.push (seqObj "list" #[] 0)).update s.heap.objs.size (Obj.mapSeq (·++vs.toArray))).push (seqObj "list" vs.toArray 0)).get? (s.heap.objs.size+1)=some (seqObj "list" vs.toArray 0):=
  z2▸Heap.get?_push_size _ rfl
 refine call_function_entry_kw kind_sorted plain_sorted entry_sorted (ksk_s1 _ _) ?_;unfold Builtin.«sorted»;refine wpAny_bind (m:=checkCount _ _ _ _) (wpAny_pure (wpAny_bind (collect_list hl (wpAny_bind (wpAny_newList ?_ zl)) zl)));rw[show(({s with heap:=(s.heap.push (seqObj "list" #[] 0)).update s.heap.objs.size (Obj.mapSeq (·++vs.toArray))}:Shared).heap.objs.size)=s.heap.objs.size+1 from z2];refine wpAny_bind (wpAny_holding (wpAny_call_entry_kw slot_list_sort ⟨_,o2,rfl⟩ entry_list_sort ?body (ksk_l1 _ _)))
 case body=>
  show wpAny (model prog w) A.in1.in1 (Builtin.«list.sort» ⟨[.ref (s.heap.objs.size+1)],[(Str.ofString "key",.ref fa)]⟩) _ _ _
  rw[ksk_t1];refine wpAny_mono (zks (s:={s with heap:=((s.heap.push (seqObj "list" #[] 0)).update s.heap.objs.size (Obj.mapSeq (·++vs.toArray))).push (seqObj "list" vs.toArray 0)}) (P:=fun r s'=>r=.done (.ret .none)/\(r=.done (.ret .none)->Q (.ref (s.heap.objs.size+1)) s')) k2 (Nat.le_succ _) o2 h64 fun kS e1 h' kk lt ha hk=>?_) (fun r s' hq=>?_) fun _ _ z=>z
  ·obtain⟨J,R,h0⟩:=h _ kS e1 h' rfl kk lt ha hk;refine⟨J,⟨R.store,R.turn,fun ks e s' hJ=>?_⟩,h0⟩;obtain⟨f1,κ,ans,f2,f3,f4⟩:=R.fin ks e s' hJ;exact⟨f1,κ,ans,f2,f3,fun p or ep=>⟨rfl,f4 p or ep⟩⟩
  ·obtain⟨rfl,hq⟩:=hq;exact⟨_,rfl,wpAny_pure ⟨_,rfl,hq rfl⟩⟩
end
open PySem.W (kla_fn kla_obj envX tabObj CodeHd KasT kas_sort kas_ask)
open PySem.W (KatTups) in
theorem ktupsI{h:Heap}:∀vs:List Value,(∀v,v∈vs->∃a:Int×Int,TupI h v [a.1,a.2])->∃fs,fs.length=vs.length/\KatTups h vs fs/\∀f,f∈fs->∃n t,f=.int n t
 |[],_=>⟨[],rfl,.nil,fun f hf=>by cases hf⟩
 |v::vs,hv=>by
  obtain⟨fs,l,t,r⟩:=ktupsI vs fun u hu=>hv u (List.mem_cons_of_mem _ hu);obtain⟨a,p,its,n,dd,sl,rfl,o,i⟩:=hv v (List.mem_cons_self ..);obtain⟨u1,t1,e⟩:∃u1 t,its[0]?=some u1/\u1=.int a.1 t:=by
   rw[←Array.getElem?_toList]
   revert i
   generalize its.toList=l;intro i
   cases i with
   |cons k t r=>exact⟨_,t,rfl,rfl⟩
  refine⟨u1::fs,by simp[l],.cons o rfl rfl e.1 t,fun f hf=>?_⟩
  rcases List.mem_cons.mp hf with rfl|hf
  ·exact⟨_,t1,e.2⟩
  ·exact r f hf
section
variable{X:Cx}{pins:List (Addr×Obj)}{σ:St}{H:Hp}{s:Shared}
theorem Inv.track{D:Addr}{h':Heap}{xs:List V}{its:List Value}{n:Nat}{t':Nat}(I:Inv X pins σ H s)(hf:FpOk X pins H D)(k:∀b o,b≠D->s.heap.get? b=some o->h'.get? b=some o)
  (hz:xs.length<=sizeLine)(r:Vals xs its)(ho:h'.get? D=some {cls:=.type "list",data:=.seq its.toArray n}):Inv X pins σ (upd H D (.lst xs)) {s with heap:=h',toks:=t'}:=by
 obtain⟨f0,f1,f2,f3,f4,f5⟩:=hf;have nD:∀b u,H b=some u->b≠D:=fun b u e z=>by rw[z,f0] at e;cases e
 refine I.step (g':=s.gens) (d':=s.drawn) (ch:=[D]) (fun b hb=>?_) (fun b o _ _ hc e _=>k b o (fun z=>hc (by simp[z])) e) (fun b o _ _ hc e _=>⟨o.slots,k b o (fun z=>hc (by simp[z])) e⟩) (fun b o hc _ n=>by rw[za7 fun z=>hc (by simp[z])];exact n)
  (fun b o hc e=>⟨o,k b o (fun z=>hc (by simp[z])) e⟩) (fun b xs e=>by rw[za7 (nD b _ e)];exact e) (fun b o u e=>by rw[za7 (nD b _ e)];exact e) (fun b ps e=>⟨#[],by rw[za7 (nD b _ e),e];simp⟩) (fun m hm=>?_) (fun b u e=>?_) I.bare
 ·have e:b=D:=by simpa using hb
  subst e;exact⟨f3,f1,f4,f5⟩
 ·obtain⟨o,es,ep,ho,r⟩:=hm;exact⟨o,es,ep,k _ o f1.symm ho,r⟩
 ·by_cases z:b=D
  ·subst z;rw[upd_same] at e
   cases e;exact⟨hz,its,n,r,ho⟩
  ·rw[za7 z] at e;refine(I.hok b u e).stay (fun c v hc q=>k c v ?_ q) (fun c q=>by rw[za7 (nD c _ q)];exact q) fun c xs q=>by rw[za7 (nD c _ q)];exact q
   rcases hc with rfl|hc
   ·exact z
   ·exact nD c _ hc
theorem cell_of{y:Str}{c:Addr}{i:Nat}{vy:V}(I:Inv X pins σ H s)(hN:X.N[i]?=some y)(hσ:σ[i]?=some (some vy))(hk:X.env.scope.names.lookup y=some .cell)(hc:X.env.cells.lookup y=some c):∃u,RelV vy u/\s.heap.IsCell c (some u):=by
 obtain⟨m,hn,hl⟩:=I.loc;obtain⟨u,r,l⟩:=hl i y vy hN hσ (.inr (.inl hk));refine⟨u,r,?_⟩;rcases l with⟨l,_⟩|⟨_,c',e,z⟩
 ·have l:X.env.scope.names.lookup y=some .local:=l;rw[hk] at l
  cases l
 ·rw[hc] at e
  cases e;exact z
end
open PySem.W (kla_fn kla_obj envX tabObj CodeHd KasT kas_sort kas_ask)
abbrev KPT:=Hp->List V->(Nat->Nat->Bool)->Prop
def KeyKP(X:Cx)(KP:KPT):Prop:=∀(pins:List (Addr×Obj))(σ:St)(H:Hp)(s:Shared)(zs:List V)(ks:List Value)(ans:Nat->Nat->Bool),Inv X pins σ H s->Vals zs ks->KP H zs ans->∃κ:SortKind,
 (2<=ks.length->∀Q':SortKind->Shared->Prop,Q' κ s->wpAny (model X.prog X.w) X.A.in1.in1 (keyKind' ks.toArray) Q' (fun _ _=>False) s)/\(2<=ks.length->∀i j C,i<ks.length->j<ks.length->C (ans i j) s->kas_ask X.prog X.w X.A.in1.in1 κ ks i j C s)
structure KeyR(KP:KPT)(te:TE)(vy:V)(c':Addr)(q:Str)(vs:List V)(H:Hp)(Q:VK)(Pv:Nat->List V->Hp->Prop):Prop where
 start:Pv 0 [] H
 code:∀i zs H',Pv i zs H'->H' c'=some (zhd c' q)
 len:∀i zs H',Pv i zs H'->zs.length=i
 turn:∀i zs H' v,vs[i]?=some v->Pv i zs H'->te [some v,some vy] H' fun k H''=>Pv (i+1) (zs++[k]) H''
 fin:∀zs H',Pv vs.length zs H'->∃ans,KP H' zs ans/\∀D p,H' D=none->Ord vs.length p->(2<=vs.length->p=ansT ans (kas_sort vs.length))->Q (.ref D) (upd H' D (.lst (p.toList.map fun i=>vs.getD i .non)))
section
variable{X:Cx}{pins:List (Addr×Obj)}{σ:St}{H:Hp}{s:Shared}
theorem vals_get?{xs:List V}{us:List Value}(r:Vals xs us){i:Nat}{u:Value}(h:us[i]?=some u):∃v,xs[i]?=some v/\RelV v u:=by
 have hi:i<us.length:=(List.getElem?_eq_some_iff.mp h).1;have hx:i<xs.length:=by rw[r.length];exact hi
 refine⟨xs[i],List.getElem?_eq_getElem hx,?_⟩;have z:=zdr r i hx;have e1:xs.getD i .non=xs[i]:=by simp[hx]
 have e2:us.getD i Value.none=u:=by rw[List.getD_eq_getElem?_getD,h];rfl
 rw[e1,e2] at z;exact z
theorem zhf:∀{xs:List V}{us:List Value}{v:V}{u:Value},Vals xs us->RelV v u->Vals (xs++[v]) (us++[u])
 |_,_,_,_,.nil,r=>.cons r .nil
 |_,_,_,_,.cons a t,r=>.cons a (zhf t r)
theorem zm1{KP:KPT}{k i0:Nat}{x y ql:Str}{params:Arguments}{body:Expr}{sc:Scope}{fa c c' l:Addr}{pm ctv:Value}{vy:V}{vs:List V}{te:TE}{Q:VK}{Pv:Nat->List V->Hp->Prop}(I:Inv X pins σ H s)(hKP:KeyKP X KP)(hr:Room (k+2) X.A)(S:zfg x y sc)
  (hN:X.N[i0]?=some y)(hσ:σ[i0]?=some (some vy))(hk:X.env.scope.names.lookup y=some .cell)(hcl:X.env.cells.lookup y=some c)(hfa:FpOk X pins H fa)(hfo:s.heap.get? fa=some (kla_obj "<lambda>" ql params body sc [(y,c)] pm c' ctv))
  (hbind:∀u,bindArgs (kla_fn "<lambda>" ql params body sc [(y,c)] pm (.ref c') ctv) ⟨[u],[]⟩=pure [(x,u)])(hbody:∀(A:Around)(s:Shared)(H:Hp),A.units+64<cLine->PE (zmi X.prog X.w X.K X.mg X.base x y ql sc fa (.ref c') c A X.stack s H) body te)
  (hl:H l=some (.lst vs))(h64:vs.length<64)(R:KeyR KP te vy c' ql vs H Q Pv):wpAny (model X.prog X.w) X.A (call (.builtin "sorted") [.ref l] [(Str.ofString "key",.ref fa)]) (EP X pins σ Q) X.xe s:=by
 obtain⟨its,rv,pl,hz⟩:=I.list (.of hl);have len:vs.length=its.length:=rv.length;have un:=hr.un;refine zk5 (vs:=its) pl.isList (by omega) fun D kS e1 h' eD kk lt hD hkS=>?_
 have sD:s.heap.objs.size<=D:=by omega
 have sK:s.heap.objs.size<=kS:=by omega
 have fD:=I.fpOk sD (I.hok.fresh sD);have fK:=I.fpOk sK (I.hok.fresh sK);have faD:fa≠D:=Nat.ne_of_lt (Nat.lt_of_lt_of_le (Heap.lt_size hfo) sD);have faK:fa≠kS:=Nat.ne_of_lt (Nat.lt_of_lt_of_le (Heap.lt_size hfo) sK);have DK:D≠kS:=Nat.ne_of_lt lt;have nseq:∀(b:Array Value)(m:Nat)(v:Option Value),(seqObj "list" b m).data≠.cell v:=fun b m v z=>nomatch (show Data.seq b m=Data.cell v from z);have nfun:∀v,(kla_obj "<lambda>" ql params body sc [(y,c)] pm c' ctv).data≠.cell v:=fun v z=>nomatch (show Data.func _=Data.cell v from z);have pin3:∀{ks:List Value}{e:Nat}{H':Hp}{s':Shared},Inv X pins σ H' s'->H' fa=none->H' D=none->H' kS=none->s'.heap.get? fa=some (kla_obj "<lambda>" ql params body sc [(y,c)] pm c' ctv)->s'.heap.get? D=some (seqObj "list" #[] e1)->s'.heap.get? kS=some (seqObj "list" ks.toArray e)->
   Inv X (pins++[(fa,kla_obj "<lambda>" ql params body sc [(y,c)] pm c' ctv),(D,seqObj "list" #[] e1),(kS,seqObj "list" ks.toArray e)]) σ H' s':=fun{ks e H' s'} J n1 n2 n3 o1 o2 o3=>by
  refine J.pins_of fun p hp=>?_;rcases List.mem_append.mp hp with hp|hp
  ·exact J.pin p (List.mem_append_right _ hp)
  ·simp only[List.mem_cons,List.not_mem_nil,or_false] at hp;rcases hp with rfl|rfl|rfl
   ·exact⟨o1,n1,hfa.2.1,hfa.2.2.1,nfun⟩
   ·exact⟨o2,n2,fD.2.1,fD.2.2.1,nseq _ _⟩
   ·exact⟨o3,n3,fK.2.1,fK.2.2.1,nseq _ _⟩
 have of3:∀{ks:List Value}{e:Nat}{H':Hp}{s':Shared},Inv X (pins++[(fa,kla_obj "<lambda>" ql params body sc [(y,c)] pm c' ctv),(D,seqObj "list" #[] e1),(kS,seqObj "list" ks.toArray e)]) σ H' s'->
   Inv X pins σ H' s'/\(H' fa=none/\H' D=none/\H' kS=none)/\s'.heap.get? fa=some (kla_obj "<lambda>" ql params body sc [(y,c)] pm c' ctv)/\s'.heap.get? D=some (seqObj "list" #[] e1)/\s'.heap.get? kS=some (seqObj "list" ks.toArray e):=fun{ks e H' s'} J=>by
  have p1:=J.pin (fa,kla_obj "<lambda>" ql params body sc [(y,c)] pm c' ctv) (List.mem_append_right _ (List.mem_append_right _ (by simp)))
  have p2:=J.pin (D,seqObj "list" #[] e1) (List.mem_append_right _ (List.mem_append_right _ (by simp)))
  have p3:=J.pin (kS,seqObj "list" ks.toArray e) (List.mem_append_right _ (List.mem_append_right _ (by simp)))
  exact⟨J.unpinned,⟨p1.2.1,p2.2.1,p3.2.1⟩,p1.1,p2.1,p3.1⟩
 refine⟨fun i ks e s'=>∃H' zs,Inv X (pins++[(fa,kla_obj "<lambda>" ql params body sc [(y,c)] pm c' ctv),(D,seqObj "list" #[] e1),(kS,seqObj "list" ks.toArray e)]) σ H' s'/\Vals zs ks/\Pv i zs H',⟨fun i ks e s' hJ=>?_,fun i u ks e s' hu hJ=>?_,fun ks e s' hJ=>?_⟩,H,[],?_,.nil,R.start⟩
 ·obtain⟨H',zs,J,r,p⟩:=hJ;exact⟨(of3 J).2.2.2.2,by rw[←r.length];exact R.len _ _ _ p⟩
 ·obtain⟨H',zs,J,r,p⟩:=hJ;obtain⟨J0,⟨n1,n2,n3⟩,o1,o2,o3⟩:=of3 J;obtain⟨v,hv,ru⟩:=vals_get? rv hu;obtain⟨uy,ry,hcell⟩:=cell_of J hN hσ hk hcl;have hcd:s'.heap.CodeRec (.ref c') ql:=(J.hok c' _ (R.code _ _ _ p)).1;refine wpAny_mono (lam_run J J.env0.in1.in1 (hr.in1.in1) S o1 hcd (hbind u) ru ry hcell (J.freeC _ _ hcl) (hbody _ s' H' (by show X.A.units+1+1+64<cLine;omega)) (R.turn i zs H' v hv p)) (fun u' s'' hs=>?_) fun _ _ z=>z
  obtain⟨kv,H'',J',rk,p'⟩:=hs;obtain⟨J1,⟨m1,m2,m3⟩,q1,q2,q3⟩:=of3 J';refine⟨q3,fun c2 hc2=>⟨H'',zs++[kv],?_,zhf r rk,p'⟩⟩;have J2:Inv X pins σ H'' {s'' with heap:=s''.heap.update kS (Obj.mapSeq (·.push u')),toks:=s''.toks}:=J1.turned (it:=kS) (fun b o hb e=>by rw[Heap.get?_update_ne _ _ _ _ hb];exact e) m3 fK.2.1 fK.2.2.2.1 fK.2.2.2.2.1 fK.2.2.2.2.2
  exact pin3 J2 m1 m2 m3 (by show(s''.heap.update kS _).get? fa=_;rw[Heap.get?_update_ne _ _ _ _ faK];exact q1) (by show(s''.heap.update kS _).get? D=_;rw[Heap.get?_update_ne _ _ _ _ DK];exact q2) hc2
 ·obtain⟨H',zs,J,r,p⟩:=hJ;obtain⟨J0,⟨n1,n2,n3⟩,o1,o2,o3⟩:=of3 J;rw[←len] at p;obtain⟨ans,ok,q⟩:=R.fin zs H' p;have zl:=R.len _ _ _ p;have kl:ks.length=its.length:=by rw[←r.length,zl,len]
  obtain⟨κ,k1,k2⟩:=hKP _ _ _ _ _ _ _ J0 r ok;rw[kl] at k1 k2;refine⟨o2,κ,ans,k1,k2,fun pm' or ep _=>?_⟩
  ·have J2:Inv X pins σ H' {s' with heap:=s'.heap.update kS (Obj.mapSeq fun _=>(#[]:Array Value)),toks:=s'.toks}:=J0.turned (it:=kS) (fun b o hb e=>by rw[Heap.get?_update_ne _ _ _ _ hb];exact e) n3 fK.2.1 fK.2.2.2.1 fK.2.2.2.2.1 fK.2.2.2.2.2
   have o4:(s'.heap.update kS (Obj.mapSeq fun _=>(#[]:Array Value))).get? D=some (seqObj "list" #[] e1):=by rw[Heap.get?_update_ne _ _ _ _ DK];exact o2
   rw[←len] at or ep;have lo:pm'.toList.length=vs.length:=by rw[or.length_eq,List.length_range]
   obtain⟨c5,o5⟩:∃c5,((s'.heap.update kS (Obj.mapSeq fun _=>(#[]:Array Value))).update D (Obj.mapSeq fun _=>List.toArray (pm'.toList.map fun i=>its.getD i Value.none))).get? D=some (seqObj "list" (List.toArray (pm'.toList.map fun i=>its.getD i Value.none)) c5):=⟨_,get?_update_seq o4 _⟩;refine⟨.ref D,upd H' D (.lst (pm'.toList.map fun i=>vs.getD i .non)),J2.track (t':=s'.toks) ⟨n2,fD.2⟩ (fun b o hb e=>by rw[Heap.get?_update_ne _ _ _ _ hb];exact e) ?_ (zff _ fun i hi=>zdr rv i ?_) o5,rfl,q D pm' n2 or ep⟩
   ·rw[List.length_map,lo];exact Nat.le_trans (Nat.le_of_lt h64) (by decide)
   ·exact List.mem_range.mp (or.mem_iff.mp hi)
 ·have J0:Inv X pins σ H {s with heap:=h',toks:=s.toks}:=I.kept kk;exact pin3 J0 hfa.1 (I.hok.fresh sD) (I.hok.fresh sK) (kk _ _ hfo) hD hkS
end
open PySem.W (kla_fn kla_obj envX tabObj CodeHd KasT kas_sort kas_ask)
section
variable{X:Cx}{p pos lpos kpos:Pos}{e body:Expr}{params:Arguments}{sc:Scope}{x y:Str}{c c0 P:Addr}{i0 k:Nat}{te tl:TE}
def tSortK(KP:KPT)(P:Addr)(lpos:Pos)(ql:Str)(i0:Nat)(te tl:TE):TE:=fun σ H Q=>zc7 tl tNil σ H fun xs H1=>∃l vs vy,xs=[.ref l]/\H1 l=some (.lst vs)/\vs.length<64/\σ[i0]?=some (some vy)/\zc3 H1 P lpos ql/\
 ∀c' H2,zbb P H1 H2->zc3 H2 P lpos ql->H2 c'=some (zhd c' ql)->∃Pv,KeyR KP te vy c' ql vs H2 Q Pv
theorem pe_sortK{KP:KPT}(hKP:KeyKP X KP)(hr:Room (k+2) X.A)(hg:Gl X "sorted")(hm:X.mg "sorted"=none)(ha:PA X [e] (zc7 tl tNil))(S:zfg x y sc)(hN:X.N[i0]?=some y)(hk:X.env.scope.names.lookup y=some .cell)(hcl:X.env.cells.lookup y=some c)
  (hclos:closureFor sc X.env=pure [(y,c)])(hdef:defaultsOf params X.env=([],[]))(hcode:X.env.code=.ref c0)(C:CodeHd X.base c0 P)(hB:X.base.BuiltinsAt X.mg P)
  (hbind:∀(pm cd ctv u:Value),bindArgs (kla_fn "<lambda>" (X.env.qual++"<lambda>") params body sc [(y,c)] pm cd ctv) ⟨[u],[]⟩=pure [(x,u)])
  (hbody:∀(fa c':Addr)(A:Around)(s:Shared)(H:Hp),A.units+64<cLine->PE (zmi X.prog X.w X.K X.mg X.base x y (X.env.qual++"<lambda>") sc fa (.ref c') c A X.stack s H) body te)
  (he:backTo pos (starEach [e] X.env)=(false,eval e X.env)::backTo pos (starEach [] X.env):=by rfl)(hpl:(backTo pos (starEach [e] X.env)).any (·.1)=false:=by rfl):
  PE X (.Call (.Name "sorted" p) [e] [⟨some "key",.Lambda params body sc lpos,kpos⟩] pos) (tSortK KP P lpos (X.env.qual++"<lambda>") i0 te tl):=by
 intro pins s σ H Q I h;refine wpAny_Call_Name_kw (zf8 I hg hm zfx ?_);refine callWith_kw (thn (ha pos pins s σ H _ I h) fun us s1⟨vs',H1,I1,r1,q1⟩=>?_) he hpl rfl rfl;obtain⟨l,vs,vy,ev,hl,h64,hσ,ht,q⟩:=q1;subst ev;obtain⟨u,rfl,ru⟩:=vals1 r1
 cases ru;refine kws_cons (lam_make (C:=C) I1 hcode hB hclos hdef ht fun fa c' ctv H2 s2 I2 st lt hfo hc' ffa=>kws_nil ?_);obtain⟨Pv,R⟩:=q c' H2 st lt hc';have nl:l≠P:=fun z=>by
  obtain⟨ps,hP,_⟩:=ht;rw[z,hP] at hl
  cases hl
 exact zm1 I2 hKP hr S hN hσ hk hcl ffa hfo (fun u=>hbind _ _ _ u) (hbody fa c') (st l _ nl hl) h64 R
end
section
variable{κ:Type}[DecidableEq κ]
def valV(kvs:List (κ×V))(k:κ):Option V:=(kvs.find? fun kv=>decide (kv.1=k)).map (·.2)
def putK(kvs:List (κ×V))(k:κ)(v:V):List (κ×V):=
 if(kvs.any fun kv=>decide (kv.1=k))=true then kvs.map (fun kv=>if kv.1=k then(kv.1,v) else kv) else kvs++[(k,v)]
theorem zbx{p:κ×V}{r:List (κ×V)}{k:κ}(e:p.1=k):valV (p::r) k=some p.2:=by simp[valV,List.find?_cons,e]
theorem zc2{p:κ×V}{r:List (κ×V)}{k:κ}(e:¬p.1=k):valV (p::r) k=valV r k:=by simp[valV,List.find?_cons,e]
theorem zeh(k:κ):∀kvs:List (κ×V),(kvs.any fun kv=>decide (kv.1=k))=(valV kvs k).isSome
 |[]=>rfl
 |p::r=>by
  rw[List.any_cons]
  by_cases e:p.1=k
  ·simp only[zbx e,decide_eq_true e,Bool.true_or,Option.isSome_some]
  ·rw[zc2 e,decide_eq_false e,Bool.false_or];exact zeh k r
theorem zj8(k j:κ)(y:V):∀kvs:List (κ×V),valV (kvs.map fun kv=>if kv.1=k then(kv.1,y) else kv) j=(valV kvs j).map fun x=>if j=k then y else x
 |[]=>rfl
 |p::r=>by
  have ih:=zj8 k j y r;rw[List.map_cons]
  by_cases h:p.1=k
  ·rw[if_pos h]
   by_cases e:p.1=j
   ·rw[zbx (p:=(p.1,y)) e,zbx e,Option.map_some,if_pos (e.symm.trans h)]
   ·rw[zc2 (p:=(p.1,y)) e,zc2 e,ih]
  ·rw[if_neg h]
   by_cases e:p.1=j
   ·rw[zbx (p:=p) e,zbx e,Option.map_some,if_neg (fun z=>h (e.trans z))]
   ·rw[zc2 (p:=p) e,zc2 e,ih]
theorem zi1(k j:κ)(y:V):∀kvs:List (κ×V),valV kvs k=none->valV (kvs++[(k,y)]) j=if j=k then some y else valV kvs j
 |[],_=>by
  by_cases e:k=j
  ·rw[if_pos e.symm];exact zbx (p:=(k,y)) e
  ·rw[if_neg (fun z=>e z.symm)];exact zc2 (p:=(k,y)) e
 |p::r,hn=>by
  rw[List.cons_append];have hk:¬p.1=k:=fun z=>by rw[zbx z] at hn;cases hn
  rw[zc2 hk] at hn;have ih:=zi1 k j y r hn
  by_cases e:p.1=j
  ·rw[zbx e,zbx e,if_neg (fun z=>hk (e.trans z))]
  ·rw[zc2 e,zc2 e,ih]
theorem zdv(kvs:List (κ×V))(k j:κ)(y:V):valV (putK kvs k y) j=if j=k then some y else valV kvs j:=by
 unfold putK
 by_cases a:(kvs.any fun kv=>decide (kv.1=k))=true
 ·rw[if_pos a,zj8];rw[zeh] at a
  by_cases e:j=k
  ·obtain⟨x,hx⟩:=Option.isSome_iff_exists.mp a;rw[if_pos e,e,hx,Option.map_some,if_pos rfl]
  ·rw[if_neg e]
   cases valV kvs j with
   |none=>rfl
   |some x=>rw[Option.map_some,if_neg e]
 ·rw[if_neg a];refine zi1 k j y kvs ?_;rw[zeh] at a
  cases q:valV kvs k with
  |none=>rfl
  |some x=>rw[q] at a;exact(a rfl).elim
theorem zbr(kvs:List (κ×V))(k:κ)(v:V):(putK kvs k v).length<=kvs.length+1:=by
 unfold putK
 split
 ·rw[List.length_map];omega
 ·rw[List.length_append,List.length_cons,List.length_nil];omega
theorem putK_new{kvs:List (κ×V)}{k:κ}(v:V)(h:valV kvs k=none):putK kvs k v=kvs++[(k,v)]:=by
 unfold putK;rw[zeh,h];exact if_neg (by decide)
theorem RelO.isSome_eq{o:Option V}{u:Option Value}(r:RelO o u):o.isSome=u.isSome:=by
 cases o with
 |none=>cases u with
  |none=>rfl
  |some _=>exact(show False from r).elim
 |some _=>cases u with
  |none=>exact(show False from r).elim
  |some _=>rfl
theorem KV.val{kvs:List (κ×V)}{vs:List (κ×Value)}(r:KV kvs vs)(k:κ):RelO (valV kvs k) (valueAt vs k):=by
 unfold KV at r
 induction r with
 |nil=>exact True.intro
 |@cons p q ps qs h t ih=>
  obtain⟨h1,h2⟩:=h
  by_cases e:p.1=k
  ·have e':q.1=k:=h1.symm.trans e;have b:valueAt (q::qs) k=some q.2:=by simp[valueAt,List.find?_cons,e']
   rw[zbx e,b];exact h2
  ·have e':¬q.1=k:=fun z=>e (h1.trans z);have b:valueAt (q::qs) k=valueAt qs k:=by simp[valueAt,List.find?_cons,e']
   rw[zc2 e,b];exact ih
theorem KV.any{kvs:List (κ×V)}{vs:List (κ×Value)}(r:KV kvs vs)(k:κ):(kvs.any fun kv=>decide (kv.1=k))=vs.any fun kv=>decide (kv.1=k):=by
 unfold KV at r
 induction r with
 |nil=>rfl
 |cons h t ih=>rw[List.any_cons,List.any_cons,ih,h.1]
theorem KV.repl{kvs:List (κ×V)}{vs:List (κ×Value)}(r:KV kvs vs)(k:κ){y:V}{u:Value}(ry:RelV y u):
  KV (kvs.map fun kv=>if kv.1=k then(kv.1,y) else kv) (vs.map fun kv=>if kv.1=k then(kv.1,u) else kv):=by
 unfold KV at r⊢
 induction r with
 |nil=>exact .nil
 |@cons p q ps qs h t ih=>
  rw[List.map_cons,List.map_cons];refine .cons ?_ ih;obtain⟨h1,h2⟩:=h
  by_cases e:p.1=k
  ·rw[if_pos e,if_pos (h1.symm.trans e)];exact⟨h1,ry⟩
  ·rw[if_neg e,if_neg (fun z=>e (h1.trans z))];exact⟨h1,h2⟩
theorem KV.put{kvs:List (κ×V)}{vs:List (κ×Value)}(r:KV kvs vs)(k:κ){y:V}{u:Value}(ry:RelV y u):KV (putK kvs k y) (stored vs k u):=by
 unfold putK stored;rw[r.any k]
 by_cases e:(vs.any fun kv=>decide (kv.1=k))=true
 ·rw[if_pos e,if_pos e];exact r.repl k ry
 ·rw[if_neg e,if_neg e];exact Paired.snoc r ⟨rfl,ry⟩
theorem KV.length{kvs:List (κ×V)}{vs:List (κ×Value)}(r:KV kvs vs):kvs.length=vs.length:=Paired.length r
end
theorem zlh{P:Program}{w:World}{k:Key}{u:Value}(r:RelV (kV k) u):(za9 P w).is k u=true:=by
 cases k with
 |inl i=>obtain⟨t,e⟩:=(show ∃t,u=Value.int i t from r);subst e;exact zih P w i t
 |inr x=>obtain⟨t,e⟩:=(show ∃t,u=Value.str x t from r);subst e;exact ziz P w x t
theorem zhv{P:Program}{w:World}:∀{ks:List Key}{us:List Value},Vals (ks.map kV) us->ItemsAre (za9 P w) ks us
 |[],_,r=>by rw[List.map_nil] at r;cases r;exact .nil
 |k::ks,_,r=>by
  rw[List.map_cons] at r
  cases r with
  |cons h t=>exact .cons (zlh h) (zhv t)
abbrev KT(H:Hp):List (List Key×V)->List (List Key×Addr×Value)->Prop:=Paired fun p q=>p.1=q.1/\H q.2.1=some (.tup (p.1.map kV))/\RelV p.2 q.2.2
theorem KT.val{H:Hp}{kvs:List (List Key×V)}{xs:List (List Key×Addr×Value)}(r:KT H kvs xs)(k:List Key):RelO (valV kvs k) ((atKey xs k).map (·.2)):=by
 induction r with
 |nil=>exact True.intro
 |@cons p q ps qs h t ih=>
  obtain⟨h1,_,h2⟩:=h
  by_cases e:p.1=k
  ·have e':q.1=k:=h1.symm.trans e;have b:atKey (q::qs) k=some q.2:=by simp[atKey,List.find?_cons,e']
   rw[zbx e,b];exact h2
  ·have e':¬q.1=k:=fun z=>e (h1.trans z);have b:atKey (q::qs) k=atKey qs k:=by simp[atKey,List.find?_cons,e']
   rw[zc2 e,b];exact ih
theorem KT.repl{H:Hp}{kvs:List (List Key×V)}{xs:List (List Key×Addr×Value)}(r:KT H kvs xs)(k:List Key){y:V}{u:Value}(ry:RelV y u):
  KT H (kvs.map fun kv=>if kv.1=k then(kv.1,y) else kv) (xs.map (putAt k u)):=by
 induction r with
 |nil=>exact .nil
 |@cons p q ps qs h t ih=>
  rw[List.map_cons,List.map_cons];refine .cons ?_ ih;obtain⟨h1,h2,h3⟩:=h;unfold putAt
  by_cases e:p.1=k
  ·rw[if_pos e,if_pos (h1.symm.trans e)];exact⟨h1,h2,ry⟩
  ·rw[if_neg e,if_neg (fun z=>e (h1.trans z))];exact⟨h1,h2,h3⟩
theorem KT.put{H:Hp}{kvs:List (List Key×V)}{xs:List (List Key×Addr×Value)}(r:KT H kvs xs)(k:List Key){b:Addr}{y:V}{u:Value}(hb:H b=some (.tup (k.map kV)))(ry:RelV y u):
  KT H (putK kvs k y) (storedH xs k b u):=by
 have e:(kvs.any fun kv=>decide (kv.1=k))=(atKey xs k).isSome:=by
  rw[zeh,(r.val k).isSome_eq,Option.isSome_map]
 unfold putK storedH;rw[e]
 by_cases q:(atKey xs k).isSome=true
 ·rw[if_pos q,if_pos q];exact r.repl k ry
 ·rw[if_neg q,if_neg q];exact Paired.snoc r ⟨rfl,hb,ry⟩
theorem KT.keeps{H H':Hp}{kvs:List (List Key×V)}{xs:List (List Key×Addr×Value)}(r:KT H kvs xs)(ht:∀b ys,H b=some (.tup ys)->H' b=some (.tup ys)):KT H' kvs xs:=
 Paired.mapP r fun _ _ z=>⟨z.1,ht _ _ z.2.1,z.2.2⟩
section
variable{P:Program}{w:World}{H:Hp}{h:Heap}{a:Addr}
theorem rd_of{u:HO}(ok:HOk P w H h)(e:Rd H a u):zcc P w H h a u:=e.ok ok
theorem zk8{kvs:List (Key×V)}(ok:HOk P w H h)(e:Rd H a (.dK kvs)):kvs.length<=sizeLine/\(a==sysModules)=false/\∃vs,KV kvs vs/\h.DictOf (za9 P w) a vs:=
 show zcc P w H h a (.dK kvs) from rd_of ok e
theorem dk_of{kvs:List (Key×V)}(ok:HOk P w H h)(e:H a=some (.dK kvs)):kvs.length<=sizeLine/\(a==sysModules)=false/\∃vs,KV kvs vs/\h.DictOf (za9 P w) a vs:=zk8 ok (.inl e)
theorem zf7{ks:List Key}(ok:HOk P w H h)(e:H a=some (.tup (ks.map kV))):(tupleKind (za9 P w)).is h ks a:=by
 obtain⟨_,its,r,o,h1,h2,n,h3⟩:=(show zcc P w H h a (.tup (ks.map kV)) from ok a _ e);exact⟨o,its.toArray,n,h1,h2,h3,by simpa using zhv r⟩
theorem zkx{kvs:List (List Key×V)}(ok:HOk P w H h)(e:Rd H a (.dT kvs)):kvs.length<=sizeLine/\(a==sysModules)=false/\
  ∃xs,KT H kvs xs/\h.DictOfH (tupleKind (za9 P w)) a xs:=by
 obtain⟨z,y,xs,r,o,es,ep,h1,h2,h3,h4,h5⟩:=(show zcc P w H h a (.dT kvs) from rd_of ok e);refine⟨z,y,xs,r,o,es,ep,h1,h2,h3,h4,fun x hx=>?_,h5⟩;have all:∀{l:List (List Key×V)}{m:List (List Key×Addr×Value)},KT H l m->∀x∈m,(tupleKind (za9 P w)).is h x.1 x.2.1:=by
  intro l m q
  induction q with
  |nil=>intro x hx;exact nomatch hx
  |@cons p q ps qs hq t ih=>
   intro x hx;rcases List.mem_cons.mp hx with e|hx
   ·subst e;exact zf7 ok (by rw[←hq.1];exact hq.2.1)
   ·exact ih x hx
 exact all r x hx
theorem dt_of{kvs:List (List Key×V)}(ok:HOk P w H h)(e:H a=some (.dT kvs)):kvs.length<=sizeLine/\(a==sysModules)=false/\
  ∃xs,KT H kvs xs/\h.DictOfH (tupleKind (za9 P w)) a xs:=zkx ok (.inl e)
end
def DGet(H:Hp)(a:Addr)(y:V)(r:Option V):Prop:=
 (∃kvs k,Rd H a (.dK kvs)/\y=kV k/\r=valV kvs k)∨∃kvs k b,Rd H a (.dT kvs)/\y=.ref b/\H b=some (.tup (k.map kV))/\r=valV kvs k
def DPut(H:Hp)(a:Addr)(y v:V)(H':Hp):Prop:=
 (∃kvs k,H a=some (.dK kvs)/\y=kV k/\kvs.length<sizeLine/\H'=upd H a (.dK (putK kvs k v)))∨
 ∃kvs k b,H a=some (.dT kvs)/\y=.ref b/\H b=some (.tup (k.map kV))/\kvs.length<sizeLine/\H'=upd H a (.dT (putK kvs k v))
theorem DGet.t{H:Hp}{a b:Addr}{kvs:List (List Key×V)}{k:List Key}(e:H a=some (.dT kvs))(eb:H b=some (.tup (k.map kV))):DGet H a (.ref b) (valV kvs k):=.inr ⟨kvs,k,b,.inl e,rfl,eb,rfl⟩
theorem DPut.t{H:Hp}{a b:Addr}{kvs:List (List Key×V)}{k:List Key}{v:V}(e:H a=some (.dT kvs))(eb:H b=some (.tup (k.map kV)))(hl:kvs.length<sizeLine):
  DPut H a (.ref b) v (upd H a (.dT (putK kvs k v))):=.inr ⟨kvs,k,b,e,rfl,eb,hl,rfl⟩
section
variable{X:Cx}{pins:List (Addr×Obj)}{σ:St}{H:Hp}{s:Shared}{a:Addr}{y v:V}{u r:Value}{o:Option V}{A:Around}{E:Value->Shared->Prop}
theorem Inv.big(I:Inv X pins σ H s):sysModules<s.heap.objs.size:=by
 have h:mainGlobals<s.heap.objs.size:=(I.mod.glob.keeps I.bk).lt;exact Nat.lt_trans (by decide) h
theorem zn5{Q:Value->Shared->Prop}(hu:A.units+1<cLine)(I:Inv X pins σ H s)(g:DGet H a y (some v))(ry:RelV y u)(h:∀w' s',Inv X pins σ H s'->RelV v w'->Q w' s'):
  wpAny (model X.prog X.w) A (getItem (.ref a) u) Q E s:=by
 rcases g with⟨kvs,k,e,ey,l⟩|⟨kvs,k,b,e,ey,eb,l⟩
 ·subst ey;obtain⟨z,hd,vs,rel,dd⟩:=zk8 I.hok e;obtain⟨w',hw,rw'⟩:=RelO.some_of (v:=v) (o:=valueAt vs k) (by rw[l];exact rel.val k)
  exact wpAny_getItem_of (zlh ry) dd.mapOf hw (h w' _ (I.tok _) rw')
 ·subst ey
  cases(show u=Value.ref b from ry);obtain⟨z,hd,xs,rel,dd⟩:=zkx I.hok e;obtain⟨w',hw,rw'⟩:=RelO.some_of (v:=v) (o:=(atKey xs k).map (·.2)) (by rw[l];exact rel.val k)
  obtain⟨p,hp,hp2⟩:=Option.map_eq_some_iff.mp hw;refine wpAny_getItem_heap (tupleKind_room_in1 hu) (zf7 I.hok eb) dd hp ?_;rw[hp2];exact h w' _ (I.tok _) rw'
theorem d_in{Q:Value->Shared->Prop}(hu:A.units+1<cLine)(I:Inv X pins σ H s)(g:DGet H a y o)(ry:RelV y u)(h:∀s',Inv X pins σ H s'->Q (.bool o.isSome) s'):
  wpAny (model X.prog X.w) A (compareOp .In u (.ref a)) Q E s:=by
 rcases g with⟨kvs,k,e,ey,l⟩|⟨kvs,k,b,e,ey,eb,l⟩
 ·subst ey;obtain⟨z,hd,vs,rel,dd⟩:=zk8 I.hok e;refine wpAny_in_of (zlh ry) hd dd.mapOf ?_;rw[←(rel.val k).isSome_eq,←l];exact h _ (I.tok _)
 ·subst ey
  cases(show u=Value.ref b from ry);obtain⟨z,hd,xs,rel,dd⟩:=zkx I.hok e;refine wpAny_in_heap (tupleKind_room_in1 hu) (zf7 I.hok eb) hd dd ?_;have q:=(rel.val k).isSome_eq;rw[Option.isSome_map] at q;rw[←q,←l];exact h _ (I.tok _)
theorem d_notIn{Q:Value->Shared->Prop}(hu:A.units+1<cLine)(I:Inv X pins σ H s)(g:DGet H a y o)(ry:RelV y u)(h:∀s',Inv X pins σ H s'->Q (.bool (!o.isSome)) s'):
  wpAny (model X.prog X.w) A (compareOp .NotIn u (.ref a)) Q E s:=by
 rcases g with⟨kvs,k,e,ey,l⟩|⟨kvs,k,b,e,ey,eb,l⟩
 ·subst ey;obtain⟨z,hd,vs,rel,dd⟩:=zk8 I.hok e;refine wpAny_notIn_of (zlh ry) hd dd.mapOf ?_;rw[←(rel.val k).isSome_eq,←l];exact h _ (I.tok _)
 ·subst ey
  cases(show u=Value.ref b from ry);obtain⟨z,hd,xs,rel,dd⟩:=zkx I.hok e;refine wpAny_notIn_heap (tupleKind_room_in1 hu) (zf7 I.hok eb) hd dd ?_;have q:=(rel.val k).isSome_eq;rw[Option.isSome_map] at q;rw[←q,←l];exact h _ (I.tok _)
theorem zft{h':Heap}{t':Nat}{ob:HO}(I:Inv X pins σ H s)(mu:Mut (H a))(hs:Heap.SameBut a s.heap h')(he:∃q,h'.get? a=some q)(new:zcc X.prog X.w (upd H a ob) h' a ob):
  Inv X pins σ (upd H a ob) {s with heap:=h',toks:=t'}:=
 I.write (x:=a) (e:=a) mu (.inl rfl) (fun b q hb z=>(hs.2 b hb).trans z) he new
theorem dk_new{P:Program}{w:World}{H':Hp}{h':Heap}{kvs:List (Key×V)}{vs:List (Key×Value)}(z:kvs.length<=sizeLine)(hd:(a==sysModules)=false)(rel:KV kvs vs)(dd:h'.DictOf (za9 P w) a vs):
  zcc P w H' h' a (.dK kvs):=⟨z,hd,vs,rel,dd⟩
theorem zl8{H':Hp}{Q:Unit->Shared->Prop}(hu:A.units+1<cLine)(I:Inv X pins σ H s)(g:DPut H a y v H')(ry:RelV y u)(rv:RelV v r)(h:∀s',Inv X pins σ H' s'->Q () s'):
  wpAny (model X.prog X.w) A (setItem (.ref a) u r) Q E s:=by
 rcases g with⟨kvs,k,e,ey,l,eH⟩|⟨kvs,k,b,e,ey,eb,l,eH⟩
 ·subst ey eH;obtain⟨z,hd,vs,rel,dd⟩:=dk_of I.hok e;have hz:vs.length<=sizeLine:=by rw[←rel.length];exact z
  have hl:(putK kvs k v).length<=sizeLine:=by have:=zbr kvs k v;omega
  refine wpAny_setItem_pairs (hsz:=hz) (zlh ry) dd fun h' dd' hs=>h _ ?_;have he:∃q,h'.get? a=some q:=let⟨q,_,_,hq,_⟩:=dd';⟨q,hq⟩;exact zft I (by rw[e];exact True.intro) hs he (dk_new hl hd (rel.put k rv) dd')
 ·subst ey eH
  cases(show u=Value.ref b from ry);obtain⟨z,hd,xs,rel,dd⟩:=dt_of I.hok e;have hz:xs.length<=sizeLine:=by rw[←Paired.length rel];exact z
  have hl:(putK kvs k v).length<=sizeLine:=by have:=zbr kvs k v;omega
  refine wpAny_setItem_heap (hsz:=hz) (tupleKind_room_in1 hu) (zf7 I.hok eb) dd fun h' dd' hs=>h _ ?_;obtain⟨q,es,ep,hq,h2,h3,h4,_,h5⟩:=dd';refine zft I (by rw[e];exact True.intro) hs ⟨q,hq⟩ ⟨hl,hd,_,(rel.put k eb rv).keeps fun c ys ec=>?_,q,es,ep,hq,h2,h3,h4,h5⟩
  rw[za7 (ne_of ec e (fun z=>nomatch z))];exact ec
end
def NoSl(i:Expr):Prop:=∀ov iv,subscripted i false ov iv=operate [ov,iv] (getItem ov iv)
theorem subD_of{prog:Program}{w:World}{A:Around}{E:Value->Shared->Prop}{s:Shared}{env:Env}{value slice:Expr}{pos:Pos}{T id:String}{Q:Value->Shared->Prop}
  (hl:typeLookup (.type T) "__getitem__"=pure (some (.builtin id)))(hs:NoSl slice)
  (h:wpAny (model prog w) A (eval value env) (fun o s₁=>wpAny (model prog w) A (eval slice env) (fun i s₂=>s₂.TypeIs o T/\wpAny (model prog w) A (getItem o i) Q E s₂) E s₁) E s):
  wpAny (model prog w) A (eval (.Subscript value slice pos) env) Q E s:=by
 refine Subscript_ (wpAny_mono h (fun o s₁ h₁=>wpAny_mono h₁ (fun i s₂ h₂=>?_) fun _ _ x=>x) fun _ _ x=>x);obtain⟨hT,h₂⟩:=h₂;unfold subscriptTail;refine wpAny_bind ?_;rw[getitemInPython_of_ne hT.not_modules];refine wpAny_bind (wpAny_specialOf hT hl ?_);have fin:wpAny (model prog w) A (subscripted slice false o i) (fun r s₃=>wpAny (model prog w) A (letTemporaryGo value o r>>=fun _=>pure r) Q E s₃) E s₂:=by
  rw[hs o i];exact wpAny_operating (wpAny_mono h₂ (fun r s₃ h₃=>wpAny_bind (wpAny_letTemporaryGo (wpAny_pure h₃))) fun _ _ x=>x)
 first
  |exact wpAny_pure (wpAny_bind fin)
  |exact wpAny_bind (wpAny_pure (wpAny_bind fin))
  |exact wpAny_bind fin
theorem zie{X:Cx}{pins:List (Addr×Obj)}{σ:St}{H:Hp}{s:Shared}{a:Addr}{y:V}{o:Option V}(I:Inv X pins σ H s)(g:DGet H a y o):s.TypeIs (.ref a) "dict":=by
 rcases g with⟨kvs,k,e,_,_⟩|⟨kvs,k,b,e,_,_,_⟩
 ·obtain⟨_,_,vs,_,dd⟩:=zk8 I.hok e;exact dd.typeIs
 ·obtain⟨_,_,xs,_,dd⟩:=zkx I.hok e;exact dd.typeIs
def tDGet(td ty:TE):TE:=fun σ H Q=>td σ H fun x H1=>ty σ H1 fun y H2=>∃a v,x=.ref a/\DGet H2 a y (some v)/\Q v H2
def tDIn(ty td:TE):TE:=fun σ H Q=>ty σ H fun y H1=>td σ H1 fun x H2=>∃a o,x=.ref a/\DGet H2 a y o/\Q (.bl o.isSome) H2
def zo1(ty td:TE):TE:=fun σ H Q=>ty σ H fun y H1=>td σ H1 fun x H2=>∃a o,x=.ref a/\DGet H2 a y o/\Q (.bl (!o.isSome)) H2
def sDPut(td ty tv:TE):TS:=fun D σ H=>tv σ H fun v H1=>td σ H1 fun x H2=>ty σ H2 fun y H3=>∃a H4,x=.ref a/\DPut H3 a y v H4/\D.nx σ H4
section
variable{X:Cx}{o i e value:Expr}{pos pos' tpos:Pos}{td ty tv:TE}
theorem zo3(hu:X.A.units+1<cLine)(ho:PE X o td)(hi:PE X i ty)(hs:NoSl i):PE X (.Subscript o i pos) (tDGet td ty):=by
 intro pins s σ H Q I h;refine subD_of PySem.F.slot_dict_getitem.lookup hs (thn (ho pins s σ H _ I h) fun u s1⟨x,H1,I1,rx,q1⟩=>thn (hi pins s1 σ H1 _ I1 q1) fun iv s2⟨y,H2,I2,ry,a,v,ex,g,q2⟩=>?_);subst ex;obtain rfl:u=Value.ref a:=rx;exact⟨zie I2 g,zn5 hu I2 g ry fun w' s3 I3 rw'=>⟨v,H2,I3,rw',q2⟩⟩
theorem pc_din(hu:X.A.units+1<cLine)(hi:PE X i ty)(ho:PE X o td):PC X .In i o (tDIn ty td):=by
 intro pins s σ H Q I h;refine thn (hi pins s σ H _ I h) fun iv s1⟨y,H1,I1,ry,q1⟩=>thn (ho pins s1 σ H1 _ I1 q1) fun u s2⟨x,H2,I2,rx,a,ov,ex,g,q2⟩=>?_;subst ex;obtain rfl:u=Value.ref a:=rx;exact d_in hu I2 g ry fun s3 I3=>⟨.bl ov.isSome,H2,I3,rfl,q2⟩
theorem zny(hu:X.A.units+1<cLine)(hi:PE X i ty)(ho:PE X o td):PC X .NotIn i o (zo1 ty td):=by
 intro pins s σ H Q I h;refine thn (hi pins s σ H _ I h) fun iv s1⟨y,H1,I1,ry,q1⟩=>thn (ho pins s1 σ H1 _ I1 q1) fun u s2⟨x,H2,I2,rx,a,ov,ex,g,q2⟩=>?_;subst ex;obtain rfl:u=Value.ref a:=rx;exact d_notIn hu I2 g ry fun s3 I3=>⟨.bl (!ov.isSome),H2,I3,rfl,q2⟩
theorem zno(hu:X.A.units+1<cLine)(ho:PE X o td)(hi:PE X i ty)(hv:PE X value tv)(hs:swapsWith value (some (.Subscript o i pos')) pos.line X.env=pure false):
  PS X (.Assign [.Subscript o i pos'] value pos) (sDPut td ty tv):=by
 intro pins s σ H D I h;refine wpAny_Assign_Subscript (thn (hv pins s σ H _ I h) fun r s1⟨v,H1,I1,rv,q1⟩=>thn (ho pins s1 σ H1 _ I1 q1) fun u s2⟨x,H2,I2,rx,q2⟩=>thn (hi pins s2 σ H2 _ I2 q2) fun iv s3⟨y,H3,I3,ry,a,H4,ex,g,q3⟩=>?_) hs;subst ex;obtain rfl:u=Value.ref a:=rx;exact zl8 hu I3 g ry rv fun s4 I4=>⟨σ,H4,I4,q3⟩
end
theorem zj7{P:Program}{w:World}{H:Hp}(h:Heap)(hb:sysModules<h.objs.size):zcc P w H (h.push {cls:=.type "dict",data:=.dict #[]}) h.objs.size (.dT []):=
 ⟨Nat.zero_le _,beq_eq_false_iff_ne.mpr (Ne.symm (Nat.ne_of_lt hb)),[],.nil,_,#[],0,Heap.get?_push_size _ rfl,⟨rfl,rfl,rfl⟩,rfl,rfl,List.nodup_nil⟩
def tDNewT:TE:=fun _ H Q=>∀p,H p=none->Q (.ref p) (upd H p (.dT []))
section
variable{X:Cx}{pos:Pos}
theorem zjj:PE X (.Dict [] [] pos) tDNewT:=fun pins s σ H Q I h=>
 wpAny_Dict_empty ⟨.ref s.heap.objs.size,_,I.laid (a:=s.heap.objs.size) (o:=.dT []) (t':=s.toks) (fun _ _ q=>Heap.get?_push_of_some _ q) (Nat.le_refl _) (zj7 s.heap I.big),rfl,h _ (I.hok.fresh (Nat.le_refl _))⟩
end
structure M2(X:Cx)(o:Expr)(m:Str)(apos:Pos)(e f:Expr)(cpos:Pos):Prop where
 base:attributeBase o m X.env (eval o X.env)=eval o X.env
 few:((backTo cpos (starEach [e,f] X.env)).all (fun x=> !x.1)&&(backToKw cpos (keywordEach [] X.env)).all (fun x=>x.1.isSome)
  &&decide (([e,f]:List Expr).length+([]:List Keyword).length+(if([]:List Keyword).isEmpty then 0 else 1)<30))=true
 line:(apos.endLine==cpos.line)=true
 trees:backTo cpos (starEach [e,f] X.env)=[(false,eval e X.env),(false,eval f X.env)]
def IsD(H:Hp)(a:Addr):Prop:=(∃kvs,Rd H a (.dK kvs))∨∃kvs,Rd H a (.dT kvs)
theorem isD_at{X:Cx}{pins:List (Addr×Obj)}{σ:St}{H:Hp}{s:Shared}{a:Addr}(I:Inv X pins σ H s)(d:IsD H a):
  s.TypeIs (.ref a) "dict"/\(∀b,Value.ref a=.ref b->∃ob,s.heap.get? b=some ob/\ob.dict=none)/\(a==sysModules)=false:=by
 rcases d with⟨kvs,e⟩|⟨kvs,e⟩
 ·obtain⟨_,hd,vs,_,dd⟩:=zk8 I.hok e;refine⟨dd.typeIs,fun b q=>?_,hd⟩
  cases q;obtain⟨ob,_,_,h1,h2,_⟩:=dd;exact⟨ob,h1,h2.2.1⟩
 ·obtain⟨_,hd,xs,_,dd⟩:=zkx I.hok e;refine⟨dd.typeIs,fun b q=>?_,hd⟩
  cases q;obtain⟨ob,_,_,h1,h2,_⟩:=dd;exact⟨ob,h1,h2.2.1⟩
section
variable{X:Cx}{x:Str}{p pos:Pos}{e:Expr}{es:List Expr}{kws:List Keyword}{ks:List Str}{t tk:TA}{id:String}{r:List V->List V->Hp->VK->Prop}
def CallKR(X:Cx)(f:Value)(ks:List Str)(r:List V->List V->Hp->VK->Prop):Prop:=
 ∀(pins:List (Addr×Obj))(s:Shared)(σ:St)(H:Hp)(xs zs:List V)(us ws:List Value)(Q:VK),Inv X pins σ H s->Vals xs us->Vals zs ws->r xs zs H Q->wpAny (model X.prog X.w) X.A (call f us (ks.zip ws)) (EP X pins σ Q) X.xe s
def tCBK(r:List V->List V->Hp->VK->Prop)(t tk:TA):TE:=fun σ H Q=>t σ H fun xs H1=>tk σ H1 fun zs H2=>r xs zs H2 Q
theorem znv(hc:CallKR X (.builtin id) ks r)(hg:Gl X x)(hm:X.mg x=none)(hv:bootBuiltins x=some (.builtin id))(ha:PA X (e::es) t)(hkw:PK X kws tk)(hks:(backToKw pos (keywordEach kws X.env)).filterMap (·.1)=ks:=by rfl)
  (hn:x≠"__name__":=by decide) (hdb:(x==("__debug__":Str))=false:=by decide) (he:backTo pos (starEach (e::es) X.env)=(false,eval e X.env)::backTo pos (starEach es X.env):=by rfl) (hpl:(backTo pos (starEach (e::es) X.env)).any (·.1)=false:=by rfl)
  (hall:(backToKw pos (keywordEach kws X.env)).all (·.1.isSome)=true:=by rfl) (hno:(backToKw pos (keywordEach kws X.env)).any (·.1.isNone)=false:=by rfl):PE X (.Call (.Name x p) (e::es) kws pos) (tCBK r t tk):=by
 intro pins s σ H Q I h;refine wpAny_Call_Name_kw (zf8 I hg hm hv ?_ hn hdb);refine callWith_kw (thn (ha pos pins s σ H _ I h) fun us s1⟨vs,H1,I1,r1,q1⟩=>thn (hkw pos pins s1 σ H1 _ I1 q1) fun ws s2⟨zs,H2,I2,r2,q2⟩=>?_) he hpl hall hno;rw[hks];exact hc pins s2 σ H2 vs zs us ws Q I2 r1 r2 q2
end
section
variable{prog:Program}{w:World}{A:Around}{R:Result->Shared->Prop}{I:Addr}{fp wr:List Addr}{n:Nat}{P:Nat->Value->Prop}{St:Nat->Heap->Prop}
theorem maxD_on(W:Walks prog w A.in1 I fp wr n P St)(bt:Nat->Nat->Bool)(hc:CmpOf prog w A.in1 .Gt P bt)(S:Addr)(nS:S∉fp)(kw:List (Str×Value)):∀(k j:Nat)(s:Shared)(vb:Value)(c:Nat),n-(j+1)=k->j+1<=n->St (j+1) s.heap->P (argBest bt j) vb->
  s.heap.get? S=some {cls:=.type "list",dict:=none,data:=.seq #[vb,vb] c,slots:=#[]}->(∀v h' tk,P (argBest bt (n-1)) v->(∀b o,b∉wr->b≠S->s.heap.get? b=some o->h'.get? b=some o)->R (.ok (.ret v)) {s with heap:=h',toks:=tk})->
  codeAny (model prog w) A (.builtin "max.loop" ⟨[.ref I,.none,.ref S],kw⟩) R s:=by
 have nw:S∉wr:=fun z=>nS (W.sub _ z);have nm:(toString "max"++toString ".loop":String)="max.loop":=by decide
 intro k
 induction k with
 |zero=>
  intro j s vb c hk hj st hb oS q;have ej:j+1=n:=by omega
  refine codeAny_builtin F.entry_max_loop ?_;rw[Around.under_plainId F.plain_max_loop _];refine wpAny_bind (m:=seqItems? (.ref S)) (wpAny_seqItems oS rfl (wpAny_bind (wpAny_tryCatch (W.done s _ _ (ej▸st) fun h' tk kp=>?_))));refine wpAny_bind (wpAny_updateSeq (kp S _ nw oS) rfl (wpAny_bind (wpAny_letGo (wpAny_pure ?_))));exact q vb _ tk (by rw[←ej];exact hb) fun b o b1 b2 e=>(Heap.get?_update_other _ _ (Ne.symm b2)).trans (kp b o b1 e)
 |succ k ih=>
  intro j s vb c hk hj st hb oS q;refine codeAny_builtin F.entry_max_loop ?_;rw[Around.under_plainId F.plain_max_loop _];refine wpAny_bind (m:=seqItems? (.ref S)) (wpAny_seqItems oS rfl (wpAny_bind (wpAny_tryCatch (W.item (j+1) s _ _ (by omega) st fun v h' tk hP st' kp=>?_))))
  have oS':=kp S _ nw oS;refine wpAny_bind (wpAny_pure ?_);refine wpAny_bind (m:=tryCatch (holding [v,v] (richCompare CmpOp.Gt v vb>>=_)) _) (wpAny_tryCatch (wpAny_holding (wpAny_bind (hc (j+1) (argBest bt j) v vb _ _ _ hP hb (wpAny_bind (wpAny_holding (wpAny_truthy_bool (wpAny_bind (wpAny_letGo (wpAny_pure ?_))))))))))
  cases bb:bt (j+1) (argBest bt j) with
  |true=>
   simp only[if_true];refine wpAny_bind (wpAny_updateSeq oS' rfl (wpAny_bind (wpAny_letGo ?_)));rw[nm];refine wpAny_pure ⟨plainId_quiet F.plain_max_loop _,ih (j+1) _ v _ (by omega) (by omega) (W.frame _ _ _ st' fun b hf o e=>(Heap.get?_update_other _ _ (fun z:S=b=>nS (by rw[z];exact hf))).trans e) (by simp only[argBest,bb,if_true];exact hP) (Heap.get?_update_self _ oS' rfl) fun v' h'' tk'' hP' kp'=>?_⟩
   exact q v' h'' tk'' hP' fun b o b1 b2 e=>kp' b o b1 b2 ((Heap.get?_update_other _ _ (Ne.symm b2)).trans (kp b o b1 e))
  |false=>
   simp only[Bool.false_eq_true,if_false];refine wpAny_bind (wpAny_letGo ?_);rw[nm];exact wpAny_pure ⟨plainId_quiet F.plain_max_loop _,ih (j+1) _ vb c (by omega) (by omega) st' (by simp only[argBest,bb,Bool.false_eq_true,if_false];exact hb) oS' fun v' h'' tk'' hP' kp'=>q v' h'' tk'' hP' fun b o b1 b2 e=>kp' b o b1 b2 (kp b o b1 e)⟩
theorem zkt(W:Walks prog w A.in1 I fp wr n P St)(bt:Nat->Nat->Bool)(hc:CmpOf prog w A.in1 .Gt P bt)(S:Addr)(nS:S∉fp){k:Str}{d:Value}{s:Shared}{c:Nat}(st:St 0 s.heap)
  (oS:s.heap.get? S=some {cls:=.type "list",dict:=none,data:=.seq #[] c,slots:=#[]})
  (q:∀v h' tk,((0<n/\P (argBest bt (n-1)) v)∨(n=0/\v=d))->(∀b o,b∉wr->b≠S->s.heap.get? b=some o->h'.get? b=some o)->R (.ok (.ret v)) {s with heap:=h',toks:=tk}):
  codeAny (model prog w) A (.builtin "max.loop" ⟨[.ref I,.none,.ref S],[(k,d)]⟩) R s:=by
 have nw:S∉wr:=fun z=>nS (W.sub _ z);have nm:(toString "max"++toString ".loop":String)="max.loop":=by decide
 refine codeAny_builtin F.entry_max_loop ?_;rw[Around.under_plainId F.plain_max_loop _]
 by_cases h0:n=0
 ·subst h0;refine wpAny_bind (m:=seqItems? (.ref S)) (wpAny_seqItems oS rfl (wpAny_bind (wpAny_tryCatch (W.done s _ _ st fun h' tk kp=>?_))));exact wpAny_bind (wpAny_rule (wpAny_pure (q d h' tk (.inr ⟨rfl,rfl⟩) fun b o b1 _ e=>kp b o b1 e)))
 ·refine wpAny_bind (m:=seqItems? (.ref S)) (wpAny_seqItems oS rfl (wpAny_bind (wpAny_tryCatch (W.item 0 s _ _ (by omega) st fun v h' tk hP st' kp=>?_))))
  refine wpAny_bind (wpAny_pure ?_);refine wpAny_bind (wpAny_updateSeq (kp S _ nw oS) rfl ?_);rw[nm];refine wpAny_pure ⟨plainId_quiet F.plain_max_loop _,maxD_on W bt hc S nS _ _ 0 _ v _ rfl (by omega) (W.frame _ _ _ st' fun b hf o e=>(Heap.get?_update_other _ _ (fun z:S=b=>nS (by rw[z];exact hf))).trans e) hP (Heap.get?_update_self _ (kp S _ nw oS) rfl) fun v' h'' tk'' hP' kp'=>?_⟩
  exact q v' h'' tk'' (.inl ⟨by omega,hP'⟩) fun b o b1 b2 e=>kp' b o b1 b2 ((Heap.get?_update_other _ _ (Ne.symm b2)).trans (kp b o b1 e))
end
theorem zln(a v:Value):argsOk "max" ⟨[a],[(Str.ofString "default",v)]⟩:=by unfold argsOk;kernel_rfl
theorem zjf(val:Nat->Int):∀k,argBest (fun i j=>decide (val i>val j)) k<=k/\∀i,i<=k->val i<=val (argBest (fun i j=>decide (val i>val j)) k)
 |0=>⟨Nat.le_refl _,fun i hi=>by rw[Nat.le_zero.mp hi];exact Int.le_refl _⟩
 |k+1=>by
  obtain⟨h1,h2⟩:=zjf val k;unfold argBest
  by_cases c:val (k+1)>val (argBest (fun i j=>decide (val i>val j)) k)
  ·rw[if_pos (decide_eq_true c)];refine⟨Nat.le_refl _,fun i hi=>?_⟩
   by_cases e:i=k+1
   ·rw[e];exact Int.le_refl _
   ·have:=h2 i (by omega)
    omega
  ·rw[if_neg (by rw[decide_eq_false c];decide)]
   refine⟨by omega,fun i hi=>?_⟩
   by_cases e:i=k+1
   ·rw[e];omega
   ·exact h2 i (by omega)
def rMaxD:List V->List V->Hp->VK->Prop:=fun xs zs H Q=>∃p ns d,xs=[.ref p]/\zs=[.int d]/\H p=some (.lst (ns.map V.int))/\∀g,(∀n,n∈ns->n<=g)->(g∈ns∨(ns=[]/\g=d))->Q (.int g) H
section
variable{X:Cx}
theorem zm3(hc:X.calm=true):CallKR X (.builtin "max") [Str.ofString "default"] rMaxD:=by
 intro pins s σ H xs zs us ws Q I r rz h;obtain⟨p,ns,d,rfl,rfl,hp,q⟩:=h;obtain⟨u,rfl,ru⟩:=vals1 r;obtain⟨u',rfl,t,rfl⟩:=vals1 rz
 cases ru;obtain⟨its,rv,pl,hz⟩:=I.list (.of hp);have ia:IntsAre its ns:=by
  have:=zg6 rv
  simpa using this
 have len:=ia.length;have ne:p≠s.heap.objs.size:=Nat.ne_of_lt pl.lt;have nm:(toString "max"++toString ".loop":String)="max.loop":=by decide
 refine kmk_tree PySem.F.kind_max PySem.F.plain_max PySem.F.entry_max (zln _ _) ?_;refine wpAny_bind (m:=Builtin.Builtins.bindParams "max" ["key","default"] 0 ⟨[],[(Str.ofString "default",.int d t)]⟩) (wpAny_of_eq (show Builtin.Builtins.bindParams "max" ["key","default"] 0 ⟨[],[(Str.ofString "default",.int d t)]⟩=pure [none,some (.int d t)] from rfl) (wpAny_bind (wpAny_pure (wpAny_bind (wpAny_pyIter_list pl.isList (wpAny_bind (wpAny_newList ?_ (Nat.zero_le _))))))));rw[nm];have W:=Walks.list (prog:=X.prog) (w:=X.w) (A:=X.A.in1) (show X.A.in1.handled=none from I.ok.hd hc) s.heap.objs.size p ne its.toArray;have it:∀i v,its.toArray[i]?=some v->∃t,v=Value.int (ns.getD i 0) t:=fun i v hv=>IntsAre.int_at ia i v (by simpa using hv)
 have sz:(s.heap.push {cls:=.type "list_iterator",data:=.fields #[.ref p,.int 0 0]}).objs.size=s.heap.objs.size+1:=by rw[Heap.size_push]
 refine wpAny_pure ⟨plainId_quiet PySem.F.plain_max_loop _,zkt W (fun i j=>decide (ns.getD i 0>ns.getD j 0)) (CmpOf.ints_gt (fun i=>ns.getD i 0) it) _ (fun z=>?_) (st:=W.frame 0 _ _ ⟨⟨_,Heap.get?_push_size _ rfl,rfl,rfl⟩,pl.isList.push _⟩ fun b _ o e=>Heap.get?_push_of_some _ e) (Heap.get?_push_size _ rfl) fun v h' tk hv kp=>?_⟩
 ·rw[sz] at z;have l2:p<s.heap.objs.size:=pl.lt;rcases List.mem_cons.mp z with z|z
  ·exact absurd z (Nat.ne_of_gt (Nat.lt_succ_self _))
  ·exact absurd (List.mem_singleton.mp z) (Nat.ne_of_gt (Nat.lt_succ_of_lt l2))
 ·have keep:∀b o,s.heap.get? b=some o->h'.get? b=some o:=fun b o e=>by
   have lt:=Heap.lt_size e;refine kp b o (fun z=>?_) (fun z=>?_) (Heap.get?_push_of_some _ (Heap.get?_push_of_some _ e))
   ·exact absurd (show b=s.heap.objs.size by simpa using z) (Nat.ne_of_lt lt)
   ·rw[sz] at z;exact absurd z (Nat.ne_of_lt (Nat.lt_succ_of_lt lt))
  obtain⟨b1,b2⟩:=zjf (fun i=>ns.getD i 0) (its.toArray.size-1);have J:Inv X pins σ H {s with heap:=h',toks:=tk}:=I.kept keep;rcases hv with⟨h0,hv⟩|⟨h0,rfl⟩
  ·obtain⟨t',rfl⟩:=it _ _ hv;have h0:0<its.length:=by simpa using h0
   have zi:its.toArray.size=its.length:=rfl;rw[zi] at b1 b2⊢;refine⟨.int _,H,J,⟨t',rfl⟩,q _ (fun n hn=>?_) (.inl ?_)⟩
   ·obtain⟨i,hi,e⟩:=List.mem_iff_getElem.mp hn;have:=b2 i (by omega)
    have e':ns.getD i 0=n:=by simp[hi,e]
    rw[e'] at this;exact this
   ·have hb:argBest (fun i j=>decide (ns.getD i 0>ns.getD j 0)) (its.length-1)<ns.length:=by omega
    rw[List.getD_eq_getElem?_getD,List.getElem?_eq_getElem hb];exact List.getElem_mem _
  ·have h0:its.length=0:=by simpa using h0
   have n0:ns=[]:=List.eq_nil_of_length_eq_zero (by omega)
   exact⟨.int d,H,J,⟨t,rfl⟩,q d (fun n hn=>by rw[n0] at hn;cases hn) (.inr ⟨n0,rfl⟩)⟩
end
section
variable{prog:Program}{w:World}{A:Around}{E:Value->Shared->Prop}{s:Shared}
theorem sd_heap{d a:Addr}{xs:List (List Key×Addr×Value)}{k:List Key}{v:Value}{Q:Value->Shared->Prop}(hu:(tupleKind (za9 prog w)).room A)(hkey:(tupleKind (za9 prog w)).is s.heap k a)(hm:s.heap.DictOfH (tupleKind (za9 prog w)) d xs)(hz:xs.length<=sizeLine)
  (q1:∀p,atKey xs k=some p->Q p.2 {s with toks:=s.toks+(tupleKind (za9 prog w)).draws k})
  (q2:atKey xs k=none->∀h',h'.DictOfH (tupleKind (za9 prog w)) d (storedH xs k a v)->Heap.SameBut d s.heap h'->Q v {s with heap:=h',toks:=s.toks+(tupleKind (za9 prog w)).draws k}):
  wpAny (model prog w) A (dictSetDefault d (.ref a) v) Q E s:=by
 obtain⟨o,es,ep,ho,hc,hd,he,his,hn⟩:=hm;unfold dictSetDefault;refine wpAny_holding (wpAny_bind ((tupleKind (za9 prog w)).pyHash hu hkey (wpAny_bind (wpAny_dictFind_heap (s:={s with toks:=s.toks+(tupleKind (za9 prog w)).draws k}) hu hkey ho hd he his hn (fun hno=>?_) fun j p hj=>?_))))
 ·have an:=atKey_none_of_get hno;have hnot:k∉xs.map (·.1):=not_mem_keys_of_get hno;refine wpAny_bind (wpAny_rule (wpAny_bind (wpAny_updateDictKeys (hz:=by have e:=size_of_entries he;omega) (s:={s with toks:=s.toks+(tupleKind (za9 prog w)).draws k}) ho hd (wpAny_pure (q2 an _ ⟨_,_,ep+1,Heap.get?_update_self _ ho (Obj.isFreed_of_dict (Obj.data_mapDictKeys hd _)),hc.mapDictKeys _,Obj.data_mapDictKeys hd _,?_,?_,?_⟩ (Heap.SameBut.update ..))))))
  ·rw[storedH_new an]
   simp[he,entryOfKey]
  ·rw[storedH_new an];intro x hx;rcases List.mem_append.mp hx with y|y
   ·exact(tupleKind (za9 prog w)).keeps (his x y) ho hd (Heap.SameBut.update ..)
   ·rw[List.mem_singleton.mp y];exact(tupleKind (za9 prog w)).keeps hkey ho hd (Heap.SameBut.update ..)
  ·rw[storedH_new an,List.map_append,List.nodup_append];refine⟨hn,by simp,fun x hx y hy e=>hnot ?_⟩
   have y':y=k:=by simpa using hy
   rw[←y',←e];exact hx
 ·refine wpAny_bind (wpAny_dictEntries (s:={s with toks:=s.toks+(tupleKind (za9 prog w)).draws k}) ho hd ?_);rw[entry_at he j,hj];exact wpAny_bind (wpAny_rule (wpAny_pure (q1 p (atKey_of_get hn hj))))
theorem sd_meets{d a:Addr}(hd:(d==sysModules)=false)(v:Value):MeetsIn prog w (Builtin.«dict.setdefault» ⟨[.ref d,.ref a,v],[]⟩) (fun A R s=>(tupleKind (za9 prog w)).room A.in1/\∃k xs,(tupleKind (za9 prog w)).is s.heap k a/\s.heap.DictOfH (tupleKind (za9 prog w)) d xs/\xs.length<=sizeLine/\
  (∀p,atKey xs k=some p->R (.ok (.ret p.2)) {s with toks:=s.toks+(tupleKind (za9 prog w)).draws k})/\
  (atKey xs k=none->∀h',h'.DictOfH (tupleKind (za9 prog w)) d (storedH xs k a v)->Heap.SameBut d s.heap h'->R (.ok (.ret v)) {s with heap:=h',toks:=s.toks+(tupleKind (za9 prog w)).draws k})):=
 .of_wp fun A R s⟨hu,k,xs,hkey,hm,hz,h1,h2⟩=>by
  unfold Builtin.«dict.setdefault» Builtin.Dict.keyAndDefault;refine wpAny_bind (wpAny_bind (wpAny_notOrdered_dict hm.typeIs ?_));show wpAny _ _ (pure (d,Value.ref a,some v)) _ _ s;refine wpAny_pure ?_;show wpAny _ _ (if(d==sysModules)=true then _ else(dictSetDefault d (Value.ref a) v>>=_)) _ _ s;rw[if_neg (by rw[hd];decide)]
  exact wpAny_bind (sd_heap hu hkey hm hz (fun p hp=>wpAny_pure ⟨p.2,rfl,h1 p hp⟩) fun hn h' hm' hs'=>wpAny_pure ⟨v,rfl,h2 hn h' hm' hs'⟩)
end
section
variable{X:Cx}{pins:List (Addr×Obj)}{σ:St}{H:Hp}{s:Shared}
def rSD(a:Addr)(y z:V)(H:Hp)(Q:VK):Prop:=∃kvs k b,H a=some (.dT kvs)/\y=.ref b/\H b=some (.tup (k.map kV))/\kvs.length<sizeLine/\(∀v,valV kvs k=some v->Q v H)/\(valV kvs k=none->Q z (upd H a (.dT (putK kvs k z))))
theorem zhe{A:Around}{E:Value->Shared->Prop}{a:Addr}{y z:V}{u r:Value}{Q:VK}(hu:A.units+1<cLine)(I:Inv X pins σ H s)(g:rSD a y z H Q)(ry:RelV y u)(rz:RelV z r):
  wpAny (model X.prog X.w) A (call (.builtin "dict.setdefault") [.ref a,u,r]) (EP X pins σ Q) E s:=by
 obtain⟨kvs,k,b,e,rfl,eb,l,q1,q2⟩:=g
 cases(show u=Value.ref b from ry);obtain⟨zz,hd,xs,rel,dd⟩:=dt_of I.hok e;have hz:xs.length<=sizeLine:=by rw[←Paired.length rel];exact zz
 have hl:(putK kvs k z).length<=sizeLine:=by have:=zbr kvs k z;omega
 refine call_meetsIn PySem.F.slot_dict_setdefault dd.typeIs PySem.F.entry_dict_setdefault (PySem.F.args_dict_setdefault_3 _ _ _) (sd_meets hd r) ⟨tupleKind_room_in1 hu,k,xs,zf7 I.hok eb,dd,hz,fun p hp=>?_,fun hn h' dd' hs=>?_⟩
 ·have rv:=rel.val k;rw[hp] at rv
  cases hv:valV kvs k with
  |none=>rw[hv] at rv;exact rv.elim
  |some v=>
   rw[hv] at rv;exact⟨v,H,I.tok _,rv,q1 v hv⟩
 ·have hv:valV kvs k=none:=by
   have rv:=rel.val k;rw[hn] at rv
   cases hv:valV kvs k with
   |none=>rfl
   |some v=>rw[hv] at rv;exact rv.elim
  obtain⟨o,es,ep,ho,h2,h3,h4,_,h5⟩:=dd';refine⟨z,upd H a (.dT (putK kvs k z)),zft I (by rw[e];exact True.intro) hs ⟨o,ho⟩ ⟨hl,hd,_,(rel.put k eb rz).keeps fun c ys ec=>?_,o,es,ep,ho,h2,h3,h4,h5⟩,rz,q2 hv⟩
  rw[za7 (ne_of ec e (fun z=>nomatch z))];exact ec
variable{o e f:Expr}{td ty tx:TE}{apos cpos:Pos}
def tDSd(td ty tx:TE):TE:=fun σ H Q=>td σ H fun x H1=>∃a,x=.ref a/\IsD H1 a/\ty σ H1 fun y H2=>tx σ H2 fun z H3=>rSD a y z H3 Q
theorem pe_dsd(hu:X.A.units+1<cLine)(ho:PE X o td)(he:PE X e ty)(hf:PE X f tx)(m:M2 X o "setdefault" apos e f cpos):PE X (.Call (.Attribute o "setdefault" apos) [e,f] [] cpos) (tDSd td ty tx):=by
 intro pins s σ H Q I h;refine wpAny_Call_method m.base m.few m.line PySem.F.plainAttrs_dict PySem.F.slot_dict_setdefault PySem.F.type_dict_setdefault (thn (ho pins s σ H _ I h) fun u s1⟨x,H1,I1,rx,a,ex,d,q1⟩=>?_);subst ex;obtain rfl:u=Value.ref a:=rx;obtain⟨t1,t2,_⟩:=isD_at I1 d;refine⟨t1,t2,?_⟩;rw[m.trees];exact Calls.callWith_builtin rfl (Calls.evalArgs_plain (Calls.spliced_cons (thn (he pins s1 σ H1 _ I1 q1) fun iv s2⟨y,H2,I2,ry,q2⟩=>Calls.spliced_cons (thn (hf pins s2 σ H2 _ I2 q2) fun fv s3⟨z,H3,I3,rz,g⟩=>Calls.spliced_nil (zhe hu I3 g ry rz)))))
end
open PySem.W (kas_sort kas_ask)
def ltL:List (Int×Int)->List (Int×Int)->Bool
 |[],ys=>decide (0<ys.length)
 |_::_,[]=>false
 |x::xs,y::ys=>if x=y then ltL xs ys else HT.lexLt [x.1,x.2] [y.1,y.2]
def LstI(h:Heap)(v:Value)(ns:List (Int×Int)):Prop:=∃(a:Addr)(its:List Value)(n:Nat),v=.ref a/\h.get? a=some (seqObj "list" its.toArray n)/\its.length=ns.length/\∀(i:Nat)(u:Value)(k:Int×Int),its[i]?=some u->ns[i]?=some k->TupI h u [k.1,k.2]
section
variable{prog:Program}{w:World}{A:Around}{E:Value->Shared->Prop}{s:Shared}{R:Result->Shared->Prop}
theorem znp{x y:Value}{k l:Int×Int}{Q:Value->Shared->Prop}(hx:TupI s.heap x [k.1,k.2])(hy:TupI s.heap y [l.1,l.2])(hu:A.units+64<cLine)(q:Q (.bool (HT.lexLt [k.1,k.2] [l.1,l.2])) s):wpAny (model prog w) A (richCompare .Lt x y) Q E s:=by
 obtain⟨a,its,n,dd,sl,rfl,o,i⟩:=hx;obtain⟨b,its2,n2,dd2,sl2,rfl,o2,i2⟩:=hy;exact richCompare_meets_room (op:=.Lt) ⟨_,o,rfl⟩ ⟨_,o2,rfl⟩ PySem.F.slot_tuple_lt PySem.F.entry_tuple_lt (PySem.F.args_tuple_lt_2 _ _) (zm9 a b its its2 n n2 dd dd2 sl sl2 [k.1,k.2] [l.1,l.2] rfl i i2) ⟨o,o2,(fun z=>nomatch z),q⟩ (by omega)
theorem ll_loop{a b:Addr}{xs ys:List Value}{n m:Nat}{ns ms:List (Int×Int)}(hu:A.units+70<cLine)(ha:s.heap.get? a=some (seqObj "list" xs.toArray n))(hb:s.heap.get? b=some (seqObj "list" ys.toArray m))(lx:xs.length=ns.length)(ly:ys.length=ms.length)
  (tx:∀(i:Nat)(u:Value)(k:Int×Int),xs[i]?=some u->ns[i]?=some k->TupI s.heap u [k.1,k.2])(ty:∀(i:Nat)(u:Value)(k:Int×Int),ys[i]?=some u->ms[i]?=some k->TupI s.heap u [k.1,k.2]):
  ∀(f i:Nat),ns.length-i=f->i<=ns.length->i<=ms.length->R (.ok (.ret (.bool (ltL (ns.drop i) (ms.drop i))))) s->codeAny (model prog w) A (.builtin "list.__eq__.loop" ⟨[.ref a,.ref b,rawInt (i:Int),rawInt 0],[]⟩) R s:=by
 have fin:∀i:Nat,i<=ns.length->i<=ms.length->(ns.length=i∨ms.length=i)->ltL (ns.drop i) (ms.drop i)=decide (xs.length<ys.length):=fun i h1 h2 h3=>by
  rcases h3 with h3|h3
  ·rw[List.drop_of_length_le (by omega),ltL,List.length_drop]
   exact decide_eq_decide.mpr (by omega)
  ·rw[List.drop_of_length_le (l:=ms) (by omega)]
   cases e:ns.drop i with
   |nil=>
    have:=List.drop_eq_nil_iff.mp e;rw[ltL];exact decide_eq_decide.mpr (by simp;omega)
   |cons k r=>
    rw[ltL];have:i<ns.length:=by
     rcases Nat.lt_or_ge i ns.length with z|z
     ·exact z
     ·rw[List.drop_of_length_le z] at e;cases e
    exact(decide_eq_false (by omega)).symm
 intro f
 induction f with
 |zero=>
  intro i hf h1 h2 q;have e:ns.length=i:=by omega
  refine codeAny_builtin MeetsSeq3.entry_eq_loop ?_;rw[Around.under_plainId MeetsSeq3.plain_eq_loop _];rw[fin i h1 h2 (.inl e)] at q;have gx:xs[i]?=none:=List.getElem?_eq_none (by omega)
  refine wpAny_bind (listItems_at ha rfl (wpAny_bind (listItems_at hb rfl ?_)));simp only[rawInt,Int.toNat_natCast,List.getElem?_toArray,gx];exact wpAny_bind (listItems_at ha rfl (wpAny_bind (listItems_at hb rfl (wpAny_pure q))))
 |succ f ih=>
  intro i hf h1 h2 q;refine codeAny_builtin MeetsSeq3.entry_eq_loop ?_;rw[Around.under_plainId MeetsSeq3.plain_eq_loop _];have li:i<xs.length:=by omega
  have gx:xs[i]?=some xs[i]:=List.getElem?_eq_getElem li;refine wpAny_bind (listItems_at ha rfl (wpAny_bind (listItems_at hb rfl ?_)))
  by_cases hy:ms.length=i
  ·rw[fin i h1 h2 (.inr hy)] at q;have gy:ys[i]?=none:=List.getElem?_eq_none (by omega)
   simp only[rawInt,Int.toNat_natCast,List.getElem?_toArray,gx,gy];exact wpAny_bind (listItems_at ha rfl (wpAny_bind (listItems_at hb rfl (wpAny_pure q))))
  ·have lj:i<ys.length:=by omega
   have gy:ys[i]?=some ys[i]:=List.getElem?_eq_getElem lj;have gn:ns[i]?=some ns[i]:=List.getElem?_eq_getElem (by omega)
   have gm:ms[i]?=some ms[i]:=List.getElem?_eq_getElem (by omega)
   have dx:ns.drop i=ns[i]::ns.drop (i+1):=List.drop_eq_getElem_cons (by omega)
   have dy:ms.drop i=ms[i]::ms.drop (i+1):=List.drop_eq_getElem_cons (by omega)
   rw[dx,dy,ltL] at q;have t1:=tx i _ _ gx gn;have t2:=ty i _ _ gy gm;simp only[rawInt,Int.toNat_natCast,List.getElem?_toArray,gx,gy];refine wpAny_bind (zgv t1 t2 (by show A.units+1+64<_;omega) ?_)
   by_cases e:ns[i]=ms[i]
   ·rw[if_pos e] at q;rw[decide_eq_true (by rw[e])]
    simp only[if_true];have z:=ih (i+1) (by omega) (by omega) (by omega) q
    exact wpAny_pure ⟨plainId_quiet MeetsSeq3.plain_eq_loop _,by simpa[rawInt] using z⟩
   ·rw[if_neg e] at q;have ne:¬[ns[i].1,ns[i].2]=[ms[i].1,ms[i].2]:=fun z=>by
     simp only[List.cons.injEq,and_true] at z;exact e (Prod.ext z.1 z.2)
    rw[decide_eq_false ne];simp only[Bool.false_eq_true,if_false];refine wpAny_bind (listItems_at ha rfl (wpAny_bind (listItems_at hb rfl ?_)));simp only[List.getElem?_toArray,gx,gy];exact wpAny_bind (znp t1 t2 (by show A.units+1+64<_;omega) (wpAny_pure q))
end
open PySem.W (kas_sort kas_ask)
theorem listLt(a b:Addr):Meets (Builtin.«list.__lt__» ⟨[.ref a,.ref b],[]⟩) (fun A R s=>A.units+70<cLine/\∃(xs ys:List Value)(n m:Nat)(ns ms:List (Int×Int)),s.heap.get? a=some (seqObj "list" xs.toArray n)/\s.heap.get? b=some (seqObj "list" ys.toArray m)/\xs.length=ns.length/\ys.length=ms.length/\
  (∀(i:Nat)(u:Value)(k:Int×Int),xs[i]?=some u->ns[i]?=some k->TupI s.heap u [k.1,k.2])/\(∀(i:Nat)(u:Value)(k:Int×Int),ys[i]?=some u->ms[i]?=some k->TupI s.heap u [k.1,k.2])/\R (.ok (.ret (.bool (ltL ns ms)))) s):=by
 intro prog w A R s h;obtain⟨hu,xs,ys,n,m,ns,ms,ha,hb,lx,ly,tx,ty,q⟩:=h;refine wpAny_bind (m:=isInstance (.ref b) (.type "list")) (wpAny_isInstance (T:="list") (b:=true) ⟨_,hb,rfl⟩ AutoSeq1.sub_list_list ?_);exact wpAny_pure ⟨plainId_quiet MeetsSeq3.plain_eq_loop _,ll_loop (i:=0) hu ha hb lx ly tx ty _ rfl (Nat.zero_le _) (Nat.zero_le _) q⟩
section
variable{prog:Program}{w:World}{A:Around}{E:Value->Shared->Prop}{s:Shared}{C:Bool->Shared->Prop}
theorem lt_lst{x y:Value}{ns ms:List (Int×Int)}(hx:LstI s.heap x ns)(hy:LstI s.heap y ms)(hu:A.units+70<cLine)(q:C (ltL ns ms) s):wpAny (model prog w) A (keyLt' oneType' x y) C E s:=by
 obtain⟨a,xs,n,rfl,ha,lx,tx⟩:=hx;obtain⟨b,ys,m,rfl,hb,ly,ty⟩:=hy;rw[keyLt'_oneType,oneLt'_eq];simp only[if_true];refine wpAny_bind (wpAny_cRoomFor (by omega) (wpAny_bind (wpAny_callSpecialIfBound?_slot ⟨_,ha,rfl⟩ PySem.F.slot_list_lt (call_meets PySem.F.slot_list_lt ⟨_,ha,rfl⟩ PySem.F.entry_list_lt (PySem.F.args_list_lt_2 _ _) (listLt a b) ⟨hu,xs,ys,n,m,ns,ms,ha,hb,lx,ly,tx,ty,?_⟩))))
 exact wpAny_truthy_bool q
theorem zhs{M:Model}{vs:List Value}{Q:SortKind->Shared->Prop}(h2:2<=vs.length)(hv:∀v,v∈vs->∃ns,LstI s.heap v ns)(q:Q oneType' s):wpAny M A (keyKind' vs.toArray) Q E s:=by
 refine PySem.W.kas_kind (T:=.type "list") h2 (fun v h=>?_) (by decide) (by decide) q
 obtain⟨ns,a,its,n,rfl,o,_⟩:=hv v h;exact(PySem.W.Looks.ld o).andThen .now
end
open PySem.W (KasT kas_asc kas_desc kas_rev kas_tail3 kas_descPart kas_count kas_place kas_bin kas_sort)
structure Tot(n:Nat)(ans:Nat->Nat->Bool):Prop where
 irr:∀i,ans i i=false
 tr:∀i j k,ans i j=true->ans j k=true->ans i k=true
 tot:∀i j,i<n->j<n->i≠j->ans i j=true∨ans j i=true
def Up(ans:Nat->Nat->Bool)(p:Array Nat)(m:Nat):Prop:=∀i j,i<j->j<m->ans (p.getD i 0) (p.getD j 0)=true
def Down(ans:Nat->Nat->Bool)(p:Array Nat)(m:Nat):Prop:=∀i j,i<j->j<m->ans (p.getD j 0) (p.getD i 0)=true
theorem zd6{α β:Type}{ans:Nat->Nat->Bool}{f:α->KasT β}:∀t:KasT α,ansT ans (t.bind f)=ansT ans (f (ansT ans t))
 |.ret _=>rfl
 |.ask i j k=>zd6 (k (ans i j))
section
variable{n:Nat}{ans:Nat->Nat->Bool}
theorem Ord.ne{p:Array Nat}(h:Ord n p){i j:Nat}(hij:i<j)(hj:j<n):p.getD i 0≠p.getD j 0:=by
 have z:p.size=n:=by have:=h.length_eq;simpa using this
 have nd:p.toList.Nodup:=h.nodup_iff.mpr List.nodup_range;have e1:p.getD i 0=p.toList[i]'(by simp;omega):=by simp[Array.getD,show i<p.size by omega]
 have e2:p.getD j 0=p.toList[j]'(by simp;omega):=by simp[Array.getD,show j<p.size by omega]
 rw[e1,e2];exact(List.pairwise_iff_getElem.mp nd) i j _ _ hij
theorem Tot.fl(T:Tot n ans){p:Array Nat}(h:Ord n p){i j:Nat}(hij:i<j)(hj:j<n)(hf:ans (p.getD j 0) (p.getD i 0)=false):ans (p.getD i 0) (p.getD j 0)=true:=by
 rcases T.tot _ _ (h.get (by omega) i) (h.get (by omega) j) (h.ne hij hj) with z|z
 ·exact z
 ·rw[hf] at z;cases z
theorem Up.step(T:Tot n ans){p:Array Nat}{m:Nat}(u:Up ans p m)(h:∀i,i+1=m->ans (p.getD i 0) (p.getD m 0)=true):Up ans p (m+1):=fun i j hij hj=>by
 by_cases z:j<m
 ·exact u i j hij z
 ·have e:j=m:=by omega
  subst e
  by_cases y:i+1=j
  ·exact h i y
  ·exact T.tr _ _ _ (u i (j-1) (by omega) (by omega)) (h (j-1) (by omega))
theorem Down.step(T:Tot n ans){p:Array Nat}{m:Nat}(u:Down ans p m)(h:∀i,i+1=m->ans (p.getD m 0) (p.getD i 0)=true):Down ans p (m+1):=fun i j hij hj=>by
 by_cases z:j<m
 ·exact u i j hij z
 ·have e:j=m:=by omega
  subst e
  by_cases y:i+1=j
  ·exact h i y
  ·exact T.tr _ _ _ (h (j-1) (by omega)) (u i (j-1) (by omega) (by omega))
theorem zmw(T:Tot n ans){p:Array Nat}(h:Ord n p):∀f m,1<=m->m+f=n->Up ans p m->m<=ansT ans (kas_asc p f m)/\ansT ans (kas_asc p f m)<=n/\Up ans p (ansT ans (kas_asc p f m))/\(ansT ans (kas_asc p f m)<n->ans (p.getD (ansT ans (kas_asc p f m)) 0) (p.getD (ansT ans (kas_asc p f m)-1) 0)=true)
 |0,m,h1,hm,u=>⟨Nat.le_refl _,by show m<=n;omega,u,fun z=>by have:m<n:=z;omega⟩
 |f+1,m,h1,hm,u=>by
  have e:ansT ans (kas_asc p (f+1) m)=ansT ans (if ans (p.getD m 0) (p.getD (m-1) 0)=true then .ret m else kas_asc p f (m+1)):=rfl;rw[e]
  cases c:ans (p.getD m 0) (p.getD (m-1) 0) with
  |true=>rw[if_pos rfl];exact⟨Nat.le_refl _,by show m<=n;omega,u,fun _=>c⟩
  |false=>
   rw[if_neg (by decide)]
   obtain⟨a1,a2,a3⟩:=zmw T h f (m+1) (by omega) (by omega) (u.step T fun i hi=>by
    have e:m-1=i:=by omega
    rw[e] at c;exact T.fl h (by omega) (by omega) c)
   exact⟨by omega,a2,a3⟩
theorem zhl(T:Tot n ans){p:Array Nat}(h:Ord n p):∀f m,1<=m->m+f=n->Down ans p m->∃m',ansT ans (kas_desc f p m 0)=(p,m',0)/\m<=m'/\m'<=n/\Down ans p m'
 |0,m,h1,hm,u=>⟨m,rfl,Nat.le_refl _,by omega,u⟩
 |f+1,m,h1,hm,u=>by
  have e:ansT ans (kas_desc (f+1) p m 0)=ansT ans (if ans (p.getD m 0) (p.getD (m-1) 0)=true then(if 0>0 then kas_desc f (kas_rev p (m-(0+1)) m) (m+1) 0 else kas_desc f p (m+1) 0)
   else .ask (p.getD (m-1) 0) (p.getD m 0) fun d=>if d=true then .ret (p,m,0) else kas_desc f p (m+1) (0+1)):=rfl
  rw[e]
  cases c:ans (p.getD m 0) (p.getD (m-1) 0) with
  |true=>
   rw[if_pos rfl,if_neg (by decide)]
   obtain⟨m',a1,a2,a3⟩:=zhl T h f (m+1) (by omega) (by omega) (u.step T fun i hi=>by
    have e:m-1=i:=by omega
    rw[e] at c;exact c)
   exact⟨m',a1,by omega,a3⟩
  |false=>
   rw[if_neg (by decide)]
   have y:=T.fl h (i:=m-1) (j:=m) (by omega) (by omega) c
   show ∃m',ansT ans (if ans (p.getD (m-1) 0) (p.getD m 0)=true then .ret (p,m,0) else kas_desc f p (m+1) (0+1))=_/\_
   rw[y,if_pos rfl];exact⟨m,rfl,Nat.le_refl _,by omega,u⟩
theorem zj9{p:Array Nat}{m:Nat}(hm:m<=p.size){k:Nat}(hk:k<m):(kas_rev p 0 m).getD k 0=p.getD (m-1-k) 0:=by
 have e:(kas_rev p 0 m)[k]?=p[m-1-k]?:=by
  unfold kas_rev;rw[getElem?_mirror_all hm,if_pos (by omega)]
  congr 1
  omega
 rw[Array.getD_eq_getD_getElem?,Array.getD_eq_getD_getElem?,e]
theorem up_count(T:Tot n ans)(hn:0<n){p:Array Nat}(h:Ord n p):∃m p',ansT ans (kas_count n p)=(m,p')/\1<=m/\m<=n/\Up ans p' m:=by
 have u1:Up ans p 1:=fun i j hij hj=>by omega
 have z:p.size=n:=by have:=h.length_eq;simpa using this
 obtain⟨a1,a2,a3,a4⟩:=zmw T h (n-1) 1 (Nat.le_refl _) (by omega) u1
 unfold kas_count;rw[zd6];generalize ansT ans (kas_asc p (n-1) 1)=m at a1 a2 a3 a4⊢
 by_cases c1:m=n
 ·subst c1;simp only[beq_self_eq_true,if_true];exact⟨m,p,rfl,a1,a2,a3⟩
 ·have c1':(m==n)=false:=beq_eq_false_iff_ne.mpr c1;simp only[c1',Bool.false_eq_true,if_false]
  by_cases c2:m>1
  ·rw[if_pos c2];have y:=a3 0 (m-1) (by omega) (by omega)
   show ∃m' p',ansT ans (if ans (p.getD 0 0) (p.getD (m-1) 0)=true then .ret (m,p) else kas_descPart m n (kas_rev p 0 m))=_/\_
   rw[y,if_pos rfl];exact⟨m,p,rfl,a1,a2,a3⟩
  ·have e:m=1:=by omega
   subst e;rw[if_neg c2];have y:=a4 (by omega)
   have d2:Down ans p (1+1):=fun i j hij hj=>by
    have e1:i=0:=by omega
    have e2:j=1:=by omega
    subst e1 e2;exact y
   obtain⟨m',b1,b2,b3,b4⟩:=zhl T h (n-(1+1)) (1+1) (by omega) (by omega) d2
   unfold kas_descPart;rw[zd6,b1];simp only[gt_iff_lt,Nat.lt_irrefl,if_false];unfold kas_tail3;rw[zd6];have o2:Ord n (kas_rev p 0 m'):=h.rev _ _;have u2:Up ans (kas_rev p 0 m') m':=fun i j hij hj=>by
    rw[zj9 (by omega) (by omega),zj9 (by omega) (by omega)]
    exact b4 _ _ (by omega) (by omega)
   obtain⟨g1,g2,g3,g4⟩:=zmw T o2 (n-m') m' (by omega) (by omega) u2
   exact⟨_,_,rfl,by omega,g2,g3⟩
theorem zgw(T:Tot n ans){p:Array Nat}(h:Ord n p){k:Nat}(hk:k<n)(u:Up ans p k):∀f l r,l<=r->r<=k->r-l<=f->(∀i,i<l->ans (p.getD i 0) (p.getD k 0)=true)->(∀i,r<=i->i<k->ans (p.getD k 0) (p.getD i 0)=true)->
  ∃l',ansT ans (kas_place p k f l r)=l'/\l'<=k/\(∀i,i<l'->ans (p.getD i 0) (p.getD k 0)=true)/\(∀i,l'<=i->i<k->ans (p.getD k 0) (p.getD i 0)=true)
 |0,l,r,h1,h2,h3,hl,hr=>⟨l,rfl,by omega,hl,fun i a b=>hr i (by omega) b⟩
 |f+1,l,r,h1,h2,h3,hl,hr=>by
  unfold kas_place
  by_cases c:l≥r
  ·rw[if_pos c];exact⟨l,rfl,by omega,hl,fun i a b=>hr i (by omega) b⟩
  ·rw[if_neg c];show ∃l',ansT ans (if ans (p.getD k 0) (p.getD ((l+r)/2) 0)=true then kas_place p k f l ((l+r)/2) else kas_place p k f ((l+r)/2+1) r)=l'/\_;have m1:l<=(l+r)/2:=by omega
   have m2:(l+r)/2<r:=by omega
   cases e:ans (p.getD k 0) (p.getD ((l+r)/2) 0) with
   |true=>
    rw[if_pos rfl];refine zgw T h hk u f l _ m1 (by omega) (by omega) hl fun i a b=>?_
    by_cases y:i=(l+r)/2
    ·rw[y];exact e
    ·exact T.tr _ _ _ e (u _ _ (by omega) b)
   |false=>
    rw[if_neg (by decide)]
    have y:=T.fl h (i:=(l+r)/2) (j:=k) (by omega) hk e
    refine zgw T h hk u f _ r (by omega) h2 (by omega) (fun i a=>?_) hr
    by_cases x:i=(l+r)/2
    ·rw[x];exact y
    ·exact T.tr _ _ _ (u i ((l+r)/2) (by omega) (by omega)) y
theorem zja{p:Array Nat}{k l:Nat}(hk:k<p.size)(hl:l<=k)(i:Nat):(bubble p k (k-l)).getD i 0=if i=l then p.getD k 0 else if l<i/\i<=k then p.getD (i-1) 0 else p.getD i 0:=by
 have e:=getElem?_bubble hk (k-l) (by omega) i
 have x:k-(k-l)=l:=by omega
 rw[x] at e;rw[Array.getD_eq_getD_getElem?,e]
 by_cases c1:i=l
 ·rw[if_pos c1,if_pos c1,Array.getD_eq_getD_getElem?]
 ·rw[if_neg c1,if_neg c1]
  by_cases c2:l<i/\i<=k
  ·rw[if_pos c2,if_pos c2,Array.getD_eq_getD_getElem?]
  ·rw[if_neg c2,if_neg c2,Array.getD_eq_getD_getElem?]
theorem up_bin(T:Tot n ans):∀f(p:Array Nat) k,Ord n p->1<=k->k+f=n->Up ans p k->Up ans (ansT ans (kas_bin f p k)) n
 |0,p,k,h,h1,hk,u=>by
  have e:k=n:=by omega
  subst e;exact u
 |f+1,p,k,h,h1,hk,u=>by
  have z:p.size=n:=by have:=h.length_eq;simpa using this
  unfold kas_bin;rw[zd6];obtain⟨l,e,a1,a2,a3⟩:=zgw T h (k:=k) (by omega) u k 0 k (Nat.zero_le _) (Nat.le_refl _) (by omega) (fun i hi=>by omega) (fun i a b=>by omega)
  rw[e];refine up_bin T f _ (k+1) (h.of (bubble_perm _ _ _)) (by omega) (by omega) fun i j hij hj=>?_
  rw[zja (by omega) a1,zja (by omega) a1]
  by_cases c1:i=l
  ·rw[if_pos c1,if_neg (by omega),if_pos (by omega)]
   exact a3 _ (by omega) (by omega)
  ·rw[if_neg c1]
   by_cases c2:l<i/\i<=k
   ·rw[if_pos c2,if_neg (by omega),if_pos (by omega)]
    exact u _ _ (by omega) (by omega)
   ·rw[if_neg c2]
    by_cases c3:j=l
    ·rw[if_pos c3];exact a2 _ (by omega)
    ·rw[if_neg c3]
     by_cases c4:l<j/\j<=k
     ·rw[if_pos c4];exact u _ _ (by omega) (by omega)
     ·rw[if_neg c4];exact u _ _ (by omega) (by omega)
theorem up_sort(T:Tot n ans)(hn:0<n):Up ans (ansT ans (kas_sort n)) n:=by
 have o0:Ord n (List.toArray (List.range n)):=by unfold Ord;simp
 obtain⟨m,p,e,m1,m2,u⟩:=up_count T hn o0;have o1:Ord n (m,p).2:=by
  rw[←e];exact Asks.ends (zgf hn o0)
 unfold kas_sort;rw[zd6,e]
 by_cases c:m<n
 ·simp only[c,if_true];have x:max m 1=m:=by omega
  rw[x];exact up_bin T (n-m) p m o1 m1 (by omega) u
 ·simp only[c,if_false];have x:m=n:=by omega
  subst x;exact u
end
open PySem.W (kas_sort kas_ask)
def LsI(H:Hp)(v:V)(ns:List (Int×Int)):Prop:=∃(q:Addr)(qs:List V),v=.ref q/\H q=some (.lst qs)/\qs.length=ns.length/\∀(j:Nat)(k:Int×Int),ns[j]?=some k->∃b,qs[j]?=some (.ref b)/\H b=some (.tup [.int k.1,.int k.2])
def KPl:KPT:=fun H zs ans=>∃kp:Nat->List (Int×Int),(∀i,i<zs.length->LsI H (zs.getD i .non) (kp i))/\ans=fun i j=>ltL (kp i) (kp j)
section
variable{X:Cx}{pins:List (Addr×Obj)}{σ:St}{H:Hp}{s:Shared}
theorem zmo(I:Inv X pins σ H s){v:V}{u:Value}{ns:List (Int×Int)}(h:LsI H v ns)(r:RelV v u):LstI s.heap u ns:=by
 obtain⟨q,qs,rfl,hq,hl,he⟩:=h
 cases(show u=Value.ref q from r);obtain⟨z,its,n,rv,hlen,e⟩:=I.lstM hq;refine⟨q,its,n,rfl,e,by rw[←rv.length];exact hl,fun i u k hu hk=>?_⟩
 obtain⟨b,hb,hH⟩:=he i k hk;obtain⟨v,hv,rr⟩:=vals_get? rv hu;rw[hb] at hv
 cases hv
 cases(show u=Value.ref b from rr);exact zez I (ns:=[k.1,k.2]) hH
theorem zkl(hu:X.A.units+80<cLine):KeyKP X KPl:=by
 intro pins σ H s zs ks ans I r h;obtain⟨kp,ok,rfl⟩:=h;have len:=r.length;have lst:∀i,i<ks.length->LstI s.heap (ks.getD i Value.none) (kp i):=fun i hi=>zmo I (ok i (by omega)) (zdr r i (by omega))
 refine⟨oneType',fun h2 Q' q'=>zhs h2 (fun v hv=>?_) q',fun h2 i j C hi hj cc=>lt_lst (lst i hi) (lst j hj) (by show X.A.units+1+1+70<_;omega) cc⟩
 obtain⟨i,hi,e⟩:=List.mem_iff_getElem.mp hv;refine⟨kp i,?_⟩;have t:=lst i hi;have e':ks.getD i Value.none=v:=by simp[hi,e]
 rw[e'] at t;exact t
end
def TupR(h:Heap)(v:Value)(ns ms:List Int)(l r:Bool):Prop:=∃(a:Addr)(x y:Value)(n:Nat)(dd:Option Addr)(sl:Array (Option Value)),v=.ref a/\h.get? a=some {cls:=.type "tuple",dict:=dd,data:=.seq #[x,y,.bool l,.bool r] n,slots:=sl}/\TupI h x ns/\TupI h y ms
open PySem.W (KatTups) in
theorem ktupsR{h:Heap}:∀vs:List Value,(∀v,v∈vs->∃a b l r,a≠[]/\TupR h v a b l r)->∃fs,fs.length=vs.length/\KatTups h vs fs/\∀f,f∈fs->∃ns,TupI h f ns
 |[],_=>⟨[],rfl,.nil,fun f hf=>by cases hf⟩
 |v::vs,hv=>by
  obtain⟨fs,l,t,r⟩:=ktupsR vs fun u hu=>hv u (List.mem_cons_of_mem _ hu);obtain⟨a,b,l',r',ne,p,x,y,n,dd,sl,rfl,o,i,j⟩:=hv v (List.mem_cons_self ..);refine⟨x::fs,by simp[l],.cons o rfl rfl rfl t,fun f hf=>?_⟩
  rcases List.mem_cons.mp hf with rfl|hf
  ·exact⟨_,i⟩
  ·exact r f hf
open PySem.W (CodeHd codeHdIn tabIn)
structure FunC(K:PySem.W.Frag)(x qual:Str)(st:Stmt)(f:Addr)(fd:FuncData)(c P:Addr):Prop where
 ex:∃(oc:Value)(od:Option Addr)(kV doc pm:Value)(an:Option Addr)(ct:Value)(osl:Array (Option Value)),
  fd=PySem.W.fnOf x qual (za4 st) (za3 st) (za0 st) .none kV doc pm an (.ref c) ct/\K.lookup f=some ⟨oc,od,.func fd,osl⟩/\PySem.W.codeIn K (.ref c) qual=true
 hd:codeHdIn K c P=true
section
variable{P:Program}{w:World}{K:PySem.W.Frag}{mg:Str->Option Value}{base:Heap}
theorem FunC.ok{x qual:Str}{st:Stmt}{f c tb:Addr}{fd:FuncData}{N ps:List Str}{k:Nat}{sp:Sp}(F:FunC K x qual st f fd c tb)(S:zaa N ps (za0 st))(len:∀vs H Q E,sp vs H Q E->vs.length=ps.length)
  (hbody:∀(A:Around)(outer:List Env)(s:Shared)(H:Hp)(vs:List V)(Q:VK)(E:XK),Room k (A.deeper (envOfC qual (za0 st) s.heap.objs.size f (.ref c)))->sp vs H Q E->
   ∃t,PSs (cxOf CX0 P w K mg base N qual (za0 st) f (.ref c) A outer s H E).nox (za3 st) t/\t {nx:=fun _ H'=>Q .non H',rt:=Q} (start N vs) H):FnOk P w K mg base CX0 (k+1) f fd ps sp:=by
 obtain⟨oc,od,kV,doc,pm,an,ct,osl,rfl,lk,hcd⟩:=F.ex;refine fn_of lk hcd S len fun A outer s H vs Q E hr hsp=>?_;obtain⟨t,h,q⟩:=hbody A outer s H vs Q E hr hsp;exact⟨t,h.nox,q⟩
end
theorem zc3.ne{H:Hp}{P:Addr}{pos:Pos}{q:Str}(t:zc3 H P pos q){a:Addr}{o:HO}(h:H a=some o)(n:∀ps,o≠.tbl ps):a≠P:=fun z=>by
 obtain⟨ps,e,_⟩:=t;rw[z,e] at h
 cases h;exact n ps rfl
theorem zbb.tup{P:Addr}{pos:Pos}{q:Str}{H H':Hp}(g:zbb P H H')(t:zc3 H P pos q){a:Addr}{xs:List V}(h:H a=some (.tup xs)):H' a=some (.tup xs):=g a _ (t.ne h fun _ z=>nomatch z) h
theorem zbb.lst{P:Addr}{pos:Pos}{q:Str}{H H':Hp}(g:zbb P H H')(t:zc3 H P pos q){a:Addr}{xs:List V}(h:H a=some (.lst xs)):H' a=some (.lst xs):=g a _ (t.ne h fun _ z=>nomatch z) h
open PySem.W (kas_sort)
structure STO{α:Type}(lt:α->α->Bool):Prop where
 irr:∀a,lt a a=false
 tr:∀a b c,lt a b=true->lt b c=true->lt a c=true
 tot:∀a b,a≠b->lt a b=true∨lt b a=true
def lexB{α β:Type}[DecidableEq α](r:α->α->Bool)(s:β->β->Bool)(a b:α×β):Bool:=if a.1=b.1 then s a.2 b.2 else r a.1 b.1
theorem STO.lex{α β:Type}[DecidableEq α]{r:α->α->Bool}{s:β->β->Bool}(R:STO r)(S:STO s):STO (lexB r s) where
 irr a:=by unfold lexB;rw[if_pos rfl];exact S.irr _
 tr a b c h1 h2:=by
  unfold lexB at*
  by_cases e1:a.1=b.1
  ·rw[if_pos e1] at h1
   by_cases e2:b.1=c.1
   ·rw[if_pos e2] at h2;rw[if_pos (e1.trans e2)];exact S.tr _ _ _ h1 h2
   ·rw[if_neg e2] at h2;rw[if_neg (fun z=>e2 (e1.symm.trans z)),e1];exact h2
  ·rw[if_neg e1] at h1
   by_cases e2:b.1=c.1
   ·rw[if_neg (fun z=>e1 (z.trans e2.symm)),←e2];exact h1
   ·rw[if_neg e2] at h2;have n:a.1≠c.1:=fun z=>by
     rw[←z] at h2;have:=R.tr _ _ _ h1 h2;rw[R.irr] at this
     cases this
    rw[if_neg n];exact R.tr _ _ _ h1 h2
 tot a b h:=by
  unfold lexB
  by_cases e:a.1=b.1
  ·rw[if_pos e,if_pos e.symm];exact S.tot _ _ fun z=>h (Prod.ext e z)
  ·rw[if_neg e,if_neg fun z=>e z.symm];exact R.tot _ _ e
theorem STO.int:STO (fun a b:Int=>decide (a<b)) where
 irr a:=decide_eq_false (by omega)
 tr a b c h1 h2:=decide_eq_true (by have:=of_decide_eq_true h1;have:=of_decide_eq_true h2;omega)
 tot a b h:=by
  rcases Int.lt_or_gt_of_ne h with h|h
  ·exact .inl (decide_eq_true h)
  ·exact .inr (decide_eq_true h)
abbrev lt2:Int×Int->Int×Int->Bool:=lexB (fun a b=>decide (a<b)) (fun a b=>decide (a<b))
theorem sto2:STO lt2:=STO.int.lex STO.int
theorem lex1(a b:Int):HT.lexLt [a] [b]=decide (a<b):=by
 rw[HT.lexLt_cons,HT.lexLt_nil_nil]
 by_cases e:a=b
 ·rw[if_pos e];exact(decide_eq_false (by omega)).symm
 ·rw[if_neg e]
theorem lex2(a b c d:Int):HT.lexLt [a,b] [c,d]=lt2 (a,b) (c,d):=by
 rw[HT.lexLt_cons,lex1];rfl
theorem zi8{α β:Type}{lt:β->β->Bool}(S:STO lt)(k:α->β)(z:α){fs:List α}(nd:(fs.map k).Nodup){p:Array Nat}(or:Ord fs.length p)(ep:2<=fs.length->p=ansT (fun i j=>lt (k (fs.getD i z)) (k (fs.getD j z))) (kas_sort fs.length)):
  (p.toList.map fun i=>fs.getD i z).Perm fs/\(p.toList.map fun i=>fs.getD i z).Pairwise fun a b=>lt (k a) (k b)=true:=by
 have rg:((List.range fs.length).map fun i=>fs.getD i z)=fs:=by
  refine List.ext_getElem (by simp) fun i h1 h2=>?_
  have hi:i<fs.length:=h2
  simp[hi]
 have lo:p.toList.length=fs.length:=by rw[or.length_eq,List.length_range]
 refine⟨?_,?_⟩
 ·have:=or.map fun i=>fs.getD i z;rw[rg] at this;exact this
 ·by_cases h2:2<=fs.length
  ·have nd':=List.pairwise_map.mp nd;have T:Tot fs.length (fun i j=>lt (k (fs.getD i z)) (k (fs.getD j z))):=⟨fun i=>S.irr _,fun i j l=>S.tr _ _ _,fun i j hi hj hn=>S.tot _ _ fun e=>hn (by
    have e1:fs.getD i z=fs[i]:=by simp[hi]
    have e2:fs.getD j z=fs[j]:=by simp[hj]
    rw[e1,e2] at e;rcases Nat.lt_trichotomy i j with h|h|h
    ·exact absurd e ((List.pairwise_iff_getElem.mp nd') i j hi hj h)
    ·exact h
    ·exact absurd e.symm ((List.pairwise_iff_getElem.mp nd') j i hj hi h))⟩
   have u:=up_sort T (by omega)
   rw[←ep h2] at u;refine List.pairwise_iff_getElem.mpr fun i j hi hj hij=>?_;have hi':i<p.size:=by simpa using hi
   have hj':j<p.size:=by simpa using hj
   have hn:p.size=fs.length:=by simpa using lo
   have:=u i j hij (by omega)
   have e1:p.getD i 0=p[i]:=by simp[Array.getD,hi']
   have e2:p.getD j 0=p[j]:=by simp[Array.getD,hj']
   rw[e1,e2] at this
   simpa using this
  ·have l1:(p.toList.map fun i=>fs.getD i z).length<=1:=by rw[List.length_map,lo];omega
   revert l1
   generalize (p.toList.map fun i=>fs.getD i z)=ws;intro l1
   match ws,l1 with
   |[],_=>exact .nil
   |[a],_=>exact List.pairwise_singleton _ _
end L2
namespace L2
open PySem
theorem hu80{A:Around}{k:Nat}(hr:Room k A):A.units+80<cLine:=by have:=hu100 hr;omega
def lamAt(st:Stmt):Scope×Pos:=match(za3 st).getLast? with
 |some (.Return (some (.Call _ _ (⟨_,.Lambda _ _ sc lp,_⟩::_) _)) _)=>(sc,lp)
 |_=>(za0 st,⟨0,0,0,0⟩)
end L2
namespace L2
open PySem PySem.Spec PyProof.Rows
namespace RV
end RV
section
variable{prog:Program}{w:World}{K:Type}[DecidableEq K](knd:KeyKind prog w K)
inductive zdf(h:Heap):List (List K)->List Value->Prop
 |nil:zdf h [] []
 |cons {k:List K} {b:Addr} {ks:List (List K)} {vs:List Value}:IsTupleKey knd h k b->zdf h ks vs->zdf h (k::ks) (.ref b::vs)
def zco(h:Heap)(ks:List (List K))(a:Addr):Prop:=∃o items n,h.get? a=some o/\o.cls=.type "tuple"/\o.data=.seq items n/\zdf knd h ks items.toList
variable{knd}
theorem zdf.inj{h:Heap}{x y:List (List K)}{vs:List Value}(hx:zdf knd h x vs)(hy:zdf knd h y vs):x=y:=by
 induction hx generalizing y with
 |nil=>cases hy;rfl
 |cons h1 _ ih=>
  cases hy with
  |cons h2 t2=>rw[h1.inj h2,ih t2]
theorem zco.typeIs{s:Shared}{ks:List (List K)}{a:Addr}(x:zco knd s.heap ks a):s.TypeIs (.ref a) "tuple":=let⟨o,_,_,ho,hc,_⟩:=x;⟨o,ho,hc⟩
theorem zco.inj{h:Heap}{a:Addr}{x y:List (List K)}(hx:zco knd h x a)(hy:zco knd h y a):x=y:=by
 obtain⟨o,items,n,ho,_,hd,hi⟩:=hx;obtain⟨o',items',n',ho',_,hd',hi'⟩:=hy;obtain rfl:o=o':=Option.some.inj (ho.symm.trans ho');rw[hd] at hd'
 injection hd' with h1 _
 subst h1;exact hi.inj hi'
theorem zco.keeps{h h':Heap}{ks:List (List K)}{a d:Addr}{o:Obj}{es ep}(x:zco knd h ks a)(ho:h.get? d=some o)(hd:o.data=.dict es ep)(hs:Heap.SameBut d h h'):zco knd h' ks a:=by
 obtain⟨o',items,n,ho',hc,hd',hi⟩:=x;have hne:a≠d:=by
  rintro rfl;obtain rfl:o'=o:=Option.some.inj (ho'.symm.trans ho);rw[hd] at hd';exact nomatch hd'
 refine⟨o',items,n,(hs.2 a hne).trans ho',hc,hd',?_⟩;generalize items.toList=vs at hi
 induction hi with
 |nil=>exact .nil
 |cons h1 _ ih=>exact .cons (h1.keeps ho hd hs) ih
def zgu(knd:KeyKind prog w K)(ks:List (List K)):Int:=reduceHash (Builtin.Tuple.tupleHashOf (ks.map (tupleKeyHash knd)))
def zcr(ks:List (List K)):Nat:=(ks.map fun k=>k.length+1).sum
variable{A:Around}{E:Value->Shared->Prop}{s:Shared}
theorem zis{ks:List (List K)}{a:Addr}{Q:Int->Shared->Prop}(hu:A.units+2<cLine)(hk:zco knd s.heap ks a)(h:Q (zgu knd ks) {s with toks:=s.toks+(zcr ks+1)}):
  wpAny (model prog w) A (pyHash (.ref a)) Q E s:=by
 have hT:=hk.typeIs;obtain⟨o,items,n,ho,_,hd,hi⟩:=hk;unfold pyHash
 first|unfold pyHashByItsType|skip
 first|refine wpAny_bind (wpAny_cRoomFor_or (.inr (by omega)) ?_)|skip
 refine wpAny_bind (wpAny_specialOf hT PySem.F.slot_tuple_hash.lookup ?_);show wpAny _ _ (if(some (Value.builtin "tuple.__hash__")==some Value.none)=true then _ else _) Q E s;rw[if_neg (by rw[beq_builtin_none];exact Bool.false_ne_true)]
 refine wpAny_bind (wpAny_specialOf hT PySem.F.slot_tuple_hash.lookup ?_);show wpAny _ _ (callSpecialIfBoundUnlessNone? (.ref a) "__hash__" _>>=_) Q E s;refine wpAny_bind (wpAny_callSpecialIfBoundUnlessNone?_slot hT PySem.F.slot_tuple_hash (wpAny_call_entry PySem.F.slot_tuple_hash hT PySem.F.entry_tuple_hash ?_ (PySem.F.args_tuple_hash_1 _)));show wpAny _ _ (Builtin.Tuple.tupleItemsOf (.ref a)>>=_) _ _ s;refine wpAny_bind (wpAny_tupleItemsOf ho hd ?_);refine wpAny_bind ?_;rw[←Array.forIn_toList];refine wpAny_forIn_list _
  (fun rest(b:Array Int) s'=>∃done left,ks=done++left/\zdf knd s.heap left rest/\b.toList=done.map (tupleKeyHash knd)/\s'={s with toks:=s.toks+zcr done})
  _ ?_ ?_ _ _ ⟨[],ks,rfl,hi,rfl,rfl⟩
 ·rintro x rest b s' ⟨done,left,rfl,hl,hb,rfl⟩
  cases hl with
  |@cons k b' ks' _ h1 hl'=>
   refine wpAny_bind ((tupleKind knd).pyHash (k:=k) (tupleKind_room_in1 (by omega)) h1 ?_)
   have e:zcr (done++[k])=zcr done+(k.length+1):=by simp[zcr]
   have eh:∀t,({({s with toks:=s.toks+zcr done}:Shared) with toks:=t}:Shared)={s with toks:=t}:=fun _=>rfl
   first
    |exact wpAny_pure ⟨done++[k],ks',by simp,hl',by simp[hb,tupleKind],by rw[e,←Nat.add_assoc];rfl⟩
    |exact wpAny_bind (wpAny_pure (wpAny_pure ⟨done++[k],ks',by simp,hl',by simp[hb,tupleKind],by rw[e,←Nat.add_assoc];rfl⟩))
 ·rintro b s' ⟨done,left,rfl,hl,hb,rfl⟩
  cases hl;rw[List.append_nil] at h;show wpAny _ _ (retInt (Builtin.Tuple.tupleHashOf b.toList)) _ _ _;rw[hb];refine wpAny_ret_mkInt ?_;show wpAny _ _ (if(decide (-(2:Int)^63<=Builtin.Tuple.tupleHashOf (done.map (tupleKeyHash knd)))&&decide (Builtin.Tuple.tupleHashOf (done.map (tupleKeyHash knd))<2^63))=true then _ else _) Q E _;unfold zgu reduceHash at h
  by_cases hr:(decide (-(2:Int)^63<=Builtin.Tuple.tupleHashOf (done.map (tupleKeyHash knd)))&&decide (Builtin.Tuple.tupleHashOf (done.map (tupleKeyHash knd))<2^63))=true
  ·rw[if_pos hr];rw[if_pos hr] at h;exact wpAny_pure (by simpa[Nat.add_assoc] using h)
  ·rw[if_neg hr];rw[if_neg hr] at h;exact wpAny_bind (wpAny_rule (wpAny_pure (by simpa[Nat.add_assoc] using h)))
theorem zh7{x y:List (List K)}{a b:Addr}{P:PySem.Fin->Shared->Prop}(hu:A.units<cLine)(hx:zco knd s.heap x a)(hy:zco knd s.heap y b)(h:P (.done (.ret (.bool (decide (x=y))))) s):
  wpAny (model prog w) A (Builtin.«tuple.__eq__» ⟨[.ref a,.ref b],[]⟩) P E s:=by
 have hTb:=hy.typeIs;obtain⟨oa,xs,na,hoa,_,hda,hia⟩:=hx;obtain⟨ob,ys,nb,hob,_,hdb,hib⟩:=hy;show wpAny _ _ (isInstance (.ref b) (.type "tuple")>>=_) _ _ s;refine wpAny_bind (wpAny_isInstance hTb isSubtype_tuple_tuple ?_);simp only[Bool.not_true,Bool.false_eq_true,if_false];refine wpAny_bind (wpAny_tupleItemsOf hoa hda ?_);refine wpAny_bind (wpAny_tupleItemsOf hob hdb ?_);refine wpAny_bind ?_;refine wpAny_forIn_list _
  (fun rest r s'=>r.1=none/\s'=s/\∃x' y' xs' ys',rest=List.zip xs' ys'/\zdf knd s.heap x' xs'/\zdf knd s.heap y' ys'/\decide (x'=y')=decide (x=y)/\(xs'.length==ys'.length)=(xs.size==ys.size))
  _ ?_ ?_ _ _ ⟨rfl,rfl,x,y,xs.toList,ys.toList,rfl,hia,hib,rfl,by simp⟩
 ·rintro⟨u,v⟩ rest r s' ⟨hr,rfl,x',y',xs',ys',hz,hx',hy',hdec,hlen⟩
  cases hx' with
  |nil=>simp at hz
  |@cons k1 u' x'' xs'' h1 hx''=>
   cases hy' with
   |nil=>simp at hz
   |@cons k2 v' y'' ys'' h2 hy''=>
    simp only[List.zip_cons_cons,List.cons.injEq,Prod.mk.injEq] at hz;obtain⟨⟨rfl,rfl⟩,rfl⟩:=hz;refine wpAny_bind ((tupleKind knd).eqBool (x:=k1) (y:=k2) hu h1 h2 ?_)
    by_cases hk:k1=k2
    ·subst hk;rw[decide_eq_true rfl];simp only[Bool.not_true,Bool.false_eq_true,if_false];refine wpAny_pure ⟨rfl,rfl,x'',y'',xs'',ys'',rfl,hx'',hy'',?_,by simpa using hlen⟩
     rw[←hdec]
     by_cases hxy:x''=y''
     ·simp[hxy]
     ·simp[hxy]
    ·rw[decide_eq_false hk];simp only[Bool.not_false,if_true];have hf:decide (x=y)=false:=by rw[←hdec];simp[hk]
     rw[hf] at h;exact wpAny_bind (wpAny_pure (wpAny_pure (wpAny_pure h)))
 ·rintro⟨r1,r2⟩ s' ⟨hr,rfl,x',y',xs',ys',hz,hx',hy',hdec,hlen⟩
  simp only at hr
  subst hr;refine wpAny_pure ?_;have hfin:(xs.size==ys.size)=decide (x=y):=by
   rw[←hdec,←hlen]
   cases hx' with
   |nil=>
    cases hy' with
    |nil=>simp
    |cons _ _=>simp
   |cons _ _=>
    cases hy' with
    |nil=>simp
    |cons _ _=>simp at hz
  show P (.done (.ret (.bool (xs.size==ys.size)))) s'
  rw[hfin];exact h
theorem zik{x y:List (List K)}{a b:Addr}{Q:Bool->Shared->Prop}(hu:A.units+2<cLine)(hx:zco knd s.heap x a)(hy:zco knd s.heap y b)(h:Q (decide (x=y)) s):
  wpAny (model prog w) A (eqBool (.ref a) (.ref b)) Q E s:=by
 unfold eqBool
 try with_reducible refine wpAny_holding ?_
 show wpAny _ _ (if(Value.ref a==Value.ref b)=true then _ else _) Q E s
 by_cases hab:(Value.ref a==Value.ref b)=true
 ·rw[if_pos hab];have e:a=b:=by have:=eq_of_beq hab;injection this
  subst e;obtain rfl:=hx.inj hy;exact wpAny_bind (wpAny_rule (wpAny_pure (by simpa using h)))
 ·rw[if_neg hab];exact wpAny_bind (wpAny_richCompare_same_room (op:=.Eq) hx.typeIs hy.typeIs PySem.F.slot_tuple_eq
   (wpAny_call_entry PySem.F.slot_tuple_eq hx.typeIs PySem.F.entry_tuple_eq (zh7 (tupleKind_room_in1 (knd:=knd) (by omega)) hx hy ⟨_,rfl,(fun e=>nomatch e),wpAny_truthy_bool h⟩) (PySem.F.args_tuple_eq_2 _ _)) (by omega))
theorem zkv(n:Nat){ks:List K}{a:Addr}{Q:Bool->Shared->Prop}(hk:IsTupleKey knd s.heap ks a)(h:Q true s):wpAny (model prog w) A (eqIsQuiet (n+1) (.ref a)) Q E s:=by
 have hT:=hk.typeIs;obtain⟨o,items,m,ho,_,hd,hi⟩:=hk;unfold eqIsQuiet;refine wpAny_bind (wpAny_specialOf hT PySem.F.slot_tuple_eq.lookup ?_);show wpAny _ _ (isInstance (.ref a) (.type "tuple")>>=_) _ _ s;refine wpAny_bind (wpAny_isInstance hT isSubtype_tuple_tuple ?_);simp only[Bool.not_true,Bool.false_eq_true,if_false];refine wpAny_bind (wpAny_seqItems ho hd ?_);refine wpAny_bind ?_;show wpAny _ _ (forIn items _ _) _ _ s;rw[←Array.forIn_toList];refine wpAny_forIn_list _ (fun rest r s'=>r.1=none/\s'=s/\∀v∈rest,carriedByValue v=true) _ ?_ ?_ _ _ ⟨rfl,rfl,hi.byValue⟩
 ·rintro v rest r s' ⟨hr,rfl,hall⟩;rw[eqIsQuiet_byValue _ (hall v List.mem_cons_self)];refine wpAny_bind (wpAny_pure ?_);simp only[Bool.not_true,Bool.false_eq_true,if_false];exact wpAny_pure ⟨rfl,rfl,fun u hu'=>hall u (List.mem_cons_of_mem _ hu')⟩
 ·rintro⟨r1,r2⟩ s' ⟨hr,rfl,_⟩
  simp only at hr
  subst hr;exact wpAny_pure h
theorem zkh{ks:List (List K)}{a:Addr}{Q:Bool->Shared->Prop}(hk:zco knd s.heap ks a)(h:Q true s):wpAny (model prog w) A (eqIsQuiet 8 (.ref a)) Q E s:=by
 have hT:=hk.typeIs;obtain⟨o,items,n,ho,_,hd,hi⟩:=hk;unfold eqIsQuiet;refine wpAny_bind (wpAny_specialOf hT PySem.F.slot_tuple_eq.lookup ?_);show wpAny _ _ (isInstance (.ref a) (.type "tuple")>>=_) _ _ s;refine wpAny_bind (wpAny_isInstance hT isSubtype_tuple_tuple ?_);simp only[Bool.not_true,Bool.false_eq_true,if_false];refine wpAny_bind (wpAny_seqItems ho hd ?_);refine wpAny_bind ?_;show wpAny _ _ (forIn items _ _) _ _ s;rw[←Array.forIn_toList];refine wpAny_forIn_list _ (fun rest r s'=>r.1=none/\s'=s/\∃left,zdf knd s.heap left rest) _ ?_ ?_ _ _ ⟨rfl,rfl,ks,hi⟩
 ·rintro v rest r s' ⟨hr,rfl,left,hl⟩
  cases hl with
  |@cons k b ks' _ h1 hl'=>
   refine wpAny_bind (zkv 6 h1 ?_);simp only[Bool.not_true,Bool.false_eq_true,if_false];exact wpAny_pure ⟨rfl,rfl,ks',hl'⟩
 ·rintro⟨r1,r2⟩ s' ⟨hr,rfl,_⟩
  simp only at hr
  subst hr;exact wpAny_pure h
end
def zdw{prog:Program}{w:World}{K:Type}[DecidableEq K](knd:KeyKind prog w K):HeapKind prog w (List (List K)) where
 is:=zco knd
 hash:=zgu knd
 draws:=fun ks=>zcr ks+1
 room:=fun A=>A.units+2<cLine
 inj:=fun hx hy=>hx.inj hy
 keeps:=fun x ho hd hs=>x.keeps ho hd hs
 pyHash:=fun hu hk h=>zis hu hk h
 eqBool:=fun hu hx hy h=>zik hu hx hy h
 quiet:=fun hk h=>zkh hk h
theorem zh8{prog:Program}{w:World}{K:Type}[DecidableEq K]{knd:KeyKind prog w K}{A:Around}(hu:A.units+3<cLine):(zdw knd).room A.in1:=by
 show A.in1.units+2<cLine
 simp
 omega
abbrev K2:=List (List Key)
def NK(H:Hp)(b:Addr)(ks:K2):Prop:=∃cs:List Addr,H b=some (.tup (cs.map V.ref))/\Paired (fun(c:Addr)(k:List Key)=>H c=some (.tup (k.map kV))) cs ks
theorem NK.two{H:Hp}{b c d:Addr}{k l:List Key}(h:H b=some (.tup [.ref c,.ref d]))(h1:H c=some (.tup (k.map kV)))(h2:H d=some (.tup (l.map kV))):NK H b [k,l]:=⟨[c,d],h,.cons h1 (.cons h2 .nil)⟩
section
variable{P:Program}{w:World}{H:Hp}{h:Heap}{a b:Addr}
theorem zk7{cs:List Addr}{its:List Value}{ks:K2}(ok:HOk P w H h)(r:Vals (cs.map V.ref) its)(p:Paired (fun(c:Addr)(k:List Key)=>H c=some (.tup (k.map kV))) cs ks):zdf (za9 P w) h ks its:=by
 induction p generalizing its with
 |nil=>cases r;exact .nil
 |@cons c k cs ks h1 _ ih=>
  rw[List.map_cons] at r
  cases r with
  |cons r1 r2=>
   cases r1;exact .cons (zf7 ok h1) (ih r2)
theorem zgy{ks:K2}(ok:HOk P w H h)(e:NK H b ks):(zdw (za9 P w)).is h ks b:=by
 obtain⟨cs,e1,e2⟩:=e;obtain⟨_,its,r,o,h1,h2,n,h3⟩:=(show zcc P w H h b (.tup (cs.map V.ref)) from ok b _ e1);exact⟨o,its.toArray,n,h1,h2,h3,by simpa using zk7 ok r e2⟩
end
abbrev N3:=K2×Addr×V
def KNp:List N3->List (K2×Addr×Value)->Prop:=Paired fun p q=>p.1=q.1/\p.2.1=q.2.1/\RelV p.2.2 q.2.2
def nD(P:Program)(w:World)(a:Addr)(kvs:List N3):HO:=.ext fun h=>(a==sysModules)=false/\kvs.length<=sizeLine/\(kvs.map (·.1)).Nodup/\∃xs,KNp kvs xs/\∃o es ep,h.get? a=some o/\o.ExactDict/\o.data=.dict es ep/\es.toList=xs.map (entryOfKey (zdw (za9 P w)))
def KN(H:Hp)(kvs:List N3):Prop:=∀p,p∈kvs->NK H p.2.1 p.1
def valN(kvs:List N3)(k:K2):Option V:=(kvs.find? fun kv=>decide (kv.1=k)).map (·.2.2)
def putN(kvs:List N3)(k:K2)(b:Addr)(v:V):List N3:=if(valN kvs k).isSome=true then kvs.map (fun kv=>if kv.1=k then(kv.1,kv.2.1,v) else kv) else kvs++[(k,b,v)]
theorem zk0{p:N3}{r:List N3}{k:K2}(e:p.1=k):valN (p::r) k=some p.2.2:=by simp[valN,List.find?_cons,e]
theorem zj1{p:N3}{r:List N3}{k:K2}(e:¬p.1=k):valN (p::r) k=valN r k:=by simp[valN,List.find?_cons,e]
theorem zeb{kvs:List N3}{k:K2}:(valN kvs k).isSome=true↔k∈kvs.map (·.1):=by
 induction kvs with
 |nil=>simp[valN]
 |cons p r ih=>
  by_cases e:p.1=k
  ·rw[zk0 e];simp[e]
  ·rw[zj1 e,ih,List.map_cons,List.mem_cons];exact⟨.inr,fun h=>h.elim (fun z=>absurd z.symm e) id⟩
theorem zjk(kvs:List N3)(k:K2)(b:Addr)(v:V):(putN kvs k b v).length<=kvs.length+1:=by
 unfold putN
 split
 ·rw[List.length_map];omega
 ·simp
theorem zi3(kvs:List N3)(k:K2)(b:Addr)(v:V):(putN kvs k b v).map (·.1)=if(valN kvs k).isSome=true then kvs.map (·.1) else kvs.map (·.1)++[k]:=by
 unfold putN
 split
 ·rw[List.map_map];refine List.map_congr_left fun kv _=>?_;show(if kv.1=k then(kv.1,kv.2.1,v) else kv).1=kv.1
  split<;>rfl
 ·simp
theorem zky{kvs:List N3}{k:K2}{b:Addr}{v:V}(h:(kvs.map (·.1)).Nodup):((putN kvs k b v).map (·.1)).Nodup:=by
 rw[zi3]
 split
 ·exact h
 ·rename_i n
  refine List.nodup_append.mpr ⟨h,List.pairwise_singleton _ _,fun x hx y hy e=>?_⟩;rw[List.mem_singleton.mp hy] at e;subst e;exact n (zeb.mpr hx)
theorem KNp.val{kvs:List N3}{xs:List (K2×Addr×Value)}(r:KNp kvs xs)(k:K2):RelO (valN kvs k) ((atKey xs k).map (·.2)):=by
 unfold KNp at r
 induction r with
 |nil=>exact True.intro
 |@cons p q ps qs h t ih=>
  obtain⟨h1,_,h2⟩:=h
  by_cases e:p.1=k
  ·have e':q.1=k:=h1.symm.trans e;have b:atKey (q::qs) k=some q.2:=by simp[atKey,List.find?_cons,e']
   rw[zk0 e,b];exact h2
  ·have e':¬q.1=k:=fun z=>e (h1.trans z);have b:atKey (q::qs) k=atKey qs k:=by simp[atKey,List.find?_cons,e']
   rw[zj1 e,b];exact ih
theorem KNp.put{kvs:List N3}{xs:List (K2×Addr×Value)}(r:KNp kvs xs)(k:K2){b:Addr}{y:V}{u:Value}(ry:RelV y u):KNp (putN kvs k b y) (storedH xs k b u):=by
 have e:(valN kvs k).isSome=(atKey xs k).isSome:=by rw[(r.val k).isSome_eq,Option.isSome_map]
 unfold putN storedH;rw[e]
 by_cases q:(atKey xs k).isSome=true
 ·rw[if_pos q,if_pos q];unfold KNp at*;clear e q
  induction r with
  |nil=>exact .nil
  |@cons p q ps qs h t ih=>
   rw[List.map_cons,List.map_cons];refine .cons ?_ ih;obtain⟨h1,h2,h3⟩:=h;unfold putAt
   by_cases e:p.1=k
   ·rw[if_pos e,if_pos (h1.symm.trans e)];exact⟨h1,h2,ry⟩
   ·rw[if_neg e,if_neg (fun z=>e (h1.trans z))];exact⟨h1,h2,h3⟩
 ·rw[if_neg q,if_neg q];exact Paired.snoc r ⟨rfl,rfl,ry⟩
theorem KNp.keys{kvs:List N3}{xs:List (K2×Addr×Value)}(r:KNp kvs xs):xs.map (·.1)=kvs.map (·.1)/\xs.map (fun q=>q.2.1)=kvs.map (fun p=>p.2.1):=by
 unfold KNp at r
 induction r with
 |nil=>exact⟨rfl,rfl⟩
 |cons h _ ih=>rw[List.map_cons,List.map_cons,List.map_cons,List.map_cons,ih.1,ih.2,h.1,h.2.1];exact⟨rfl,rfl⟩
section
variable{P:Program}{w:World}{H:Hp}{h:Heap}{a:Addr}{kvs:List N3}
theorem nd_rd(ok:HOk P w H h)(e:Rd H a (nD P w a kvs))(kn:KN H kvs):kvs.length<=sizeLine/\(a==sysModules)=false/\∃xs,KNp kvs xs/\h.DictOfH (zdw (za9 P w)) a xs:=by
 obtain⟨⟨hd,z,nd,xs,r,o,es,ep,h1,h2,h3,h4⟩,_⟩:=(show zcc P w H h a (nD P w a kvs) from e.ok ok);refine⟨z,hd,xs,r,o,es,ep,h1,h2,h3,h4,fun x hx=>?_,by rw[r.keys.1];exact nd⟩
 have all:∀{l:List N3}{m:List (K2×Addr×Value)},KNp l m->(∀p,p∈l->NK H p.2.1 p.1)->∀x∈m,(zdw (za9 P w)).is h x.1 x.2.1:=by
  intro l m q;unfold KNp at q
  induction q with
  |nil=>intro _ x hx;exact nomatch hx
  |@cons p q ps qs hq t ih=>
   intro hl x hx;rcases List.mem_cons.mp hx with e|hx
   ·subst e;rw[←hq.1,←hq.2.1];exact zgy ok (hl p (by simp))
   ·exact ih (fun p hp=>hl p (List.mem_cons_of_mem _ hp)) x hx
 exact all r kn x hx
theorem nd_ok{H':Hp}{h':Heap}{xs:List (K2×Addr×Value)}(z:kvs.length<=sizeLine)(hd:(a==sysModules)=false)(nd:(kvs.map (·.1)).Nodup)(r:KNp kvs xs)(dd:h'.DictOfH (zdw (za9 P w)) a xs):zcc P w H' h' a (nD P w a kvs):=by
 obtain⟨o,es,ep,h1,h2,h3,h4,_⟩:=dd;refine⟨⟨hd,z,nd,xs,r,o,es,ep,h1,h2,h3,h4⟩,⟨o,h1⟩,?_⟩;rintro k1 k2 ⟨hd,z,nd,xs,r,o,es,ep,h1,h2,h3,h4⟩ k;exact⟨hd,z,nd,xs,r,o,es,ep,k _ h1,h2,h3,h4⟩
end
def zlm(P:Program)(w:World)(ty td:TE):TE:=fun σ H Q=>ty σ H fun y H1=>td σ H1 fun x H2=>∃a kvs b k,x=.ref a/\y=.ref b/\Rd H2 a (nD P w a kvs)/\KN H2 kvs/\NK H2 b k/\Q (.bl (!(valN kvs k).isSome)) H2
def sNPut(P:Program)(w:World)(td ty tv:TE):TS:=fun D σ H=>tv σ H fun v H1=>td σ H1 fun x H2=>ty σ H2 fun y H3=>∃a kvs b k,x=.ref a/\y=.ref b/\H3 a=some (nD P w a kvs)/\KN H3 kvs/\NK H3 b k/\kvs.length<sizeLine/\D.nx σ (upd H3 a (nD P w a (putN kvs k b v)))
def tNNew(P:Program)(w:World):TE:=fun _ H Q=>∀p,H p=none->Q (.ref p) (upd H p (nD P w p []))
section
variable{X:Cx}{P:Program}{w:World}{o i e value:Expr}{pos pos' tpos:Pos}{td ty tv:TE}
theorem pe_nnew(hP:X.prog=P)(hw:X.w=w):PE X (.Dict [] [] pos) (tNNew P w):=fun pins s σ H Q I h=>by
 subst hP hw;exact wpAny_Dict_empty ⟨.ref s.heap.objs.size,_,I.laid (a:=s.heap.objs.size) (o:=nD X.prog X.w s.heap.objs.size []) (t':=s.toks) (fun _ _ q=>Heap.get?_push_of_some _ q) (Nat.le_refl _)
  (nd_ok (Nat.zero_le _) (beq_eq_false_iff_ne.mpr (Ne.symm (Nat.ne_of_lt I.big))) List.nodup_nil .nil (Heap.DictOfH.new s.heap)),rfl,h _ (I.hok.fresh (Nat.le_refl _))⟩
theorem zmk(hP:X.prog=P)(hw:X.w=w)(hu:X.A.units+64<cLine)(hi:PE X i ty)(ho:PE X o td):PC X .NotIn i o (zlm P w ty td):=by
 subst hP hw;intro pins s σ H Q I h;refine thn (hi pins s σ H _ I h) fun iv s1⟨y,H1,I1,ry,q1⟩=>thn (ho pins s1 σ H1 _ I1 q1) fun u s2⟨x,H2,I2,rx,a,kvs,b,k,ex,ey,e,kn,nk,q2⟩=>?_;subst ex ey;obtain rfl:u=Value.ref a:=rx;obtain rfl:iv=Value.ref b:=ry;obtain⟨z,hd,xs,rel,dd⟩:=nd_rd I2.hok e kn;refine wpAny_notIn_heap (zh8 (by omega)) (zgy I2.hok nk) hd dd ?_
 have q:=(rel.val k).isSome_eq;rw[Option.isSome_map] at q;rw[←q];exact⟨.bl _,H2,I2.tok _,rfl,q2⟩
theorem ps_nput(hP:X.prog=P)(hw:X.w=w)(hu:X.A.units+64<cLine)(ho:PE X o td)(hi:PE X i ty)(hv:PE X value tv)(hs:swapsWith value (some (.Subscript o i pos')) pos.line X.env=pure false):
  PS X (.Assign [.Subscript o i pos'] value pos) (sNPut P w td ty tv):=by
 subst hP hw;intro pins s σ H D I h;refine wpAny_Assign_Subscript (thn (hv pins s σ H _ I h) fun r s1⟨v,H1,I1,rv,q1⟩=>thn (ho pins s1 σ H1 _ I1 q1) fun u s2⟨x,H2,I2,rx,q2⟩=>thn (hi pins s2 σ H2 _ I2 q2) fun iv s3⟨y,H3,I3,ry,a,kvs,b,k,ex,ey,e,kn,nk,l,q3⟩=>?_) hs;subst ex ey;obtain rfl:u=Value.ref a:=rx;obtain rfl:iv=Value.ref b:=ry;obtain⟨z,hd,xs,rel,dd⟩:=nd_rd I3.hok (.inl e) kn;have hz:xs.length<=sizeLine:=by rw[←Paired.length rel];exact z
 have hl:(putN kvs k b v).length<=sizeLine:=by have:=zjk kvs k b v;omega
 obtain⟨⟨_,_,nd,_⟩,_⟩:=I3.hok a _ e;refine wpAny_setItem_heap (hsz:=hz) (zh8 (by omega)) (zgy I3.hok nk) dd fun h' dd' hs=>⟨σ,_,?_,q3⟩
 have he:∃q,h'.get? a=some q:=let⟨q,_,_,hq,_⟩:=dd';⟨q,hq⟩;exact zft I3 (by rw[e];exact True.intro) hs he (nd_ok hl hd (zky nd) (rel.put k rv) dd')
end
def F22(H:Hp)(v:V):Prop:=∃(p a b:Addr)(x1 y1 x2 y2:Int),v=.ref p/\H p=some (.tup [.ref a,.ref b])/\H a=some (.tup [.int x1,.int y1])/\H b=some (.tup [.int x2,.int y2])
section
variable{X:Cx}{pins:List (Addr×Obj)}{σ:St}{H:Hp}{s:Shared}
theorem tup22_of(I:Inv X pins σ H s){v:V}{u:Value}(h:F22 H v)(r:RelV v u):∃d:List Int×List Int,TupP s.heap u d.1 d.2/\d.1.length=2/\d.2.length=2:=by
 obtain⟨p,a,b,x1,y1,x2,y2,rfl,hp,ha,hb⟩:=h
 cases r;have ta:=zez I (ns:=[x1,y1]) ha;have tb:=zez I (ns:=[x2,y2]) hb;obtain⟨its,r,⟨⟨cls,dd,data,sl⟩,ho,hc,n,hd⟩,_⟩:=I.tuple (.of hp)
 simp only at hc hd
 subst hc hd;obtain⟨u1,u2,rfl,r1,r2⟩:=vals2 r
 cases r1
 cases r2;exact⟨([x1,y1],[x2,y2]),⟨p,_,_,n,dd,sl,rfl,ho,ta,tb⟩,rfl,rfl⟩
end
open PySem.W (kas_sort kas_ask)
open PySem.W (KasT kas_asc kas_desc kas_rev kas_tail3 kas_descPart kas_count kas_place kas_bin kas_sort)
open PySem.W (kla_fn kla_obj envX tabObj CodeHd)
open PySem.W (kla_fn kla_obj envX tabObj CodeHd KasT kas_sort kas_ask)
open PySem.W (kla_fn kla_obj envX tabObj CodeHd KasT kas_sort kas_ask kas_item)
def Ite(K:PySem.W.Frag)(l:Addr):It:=
 ⟨fun i H=>∃xs x,SqL K H l xs/\xs[i]?=some x,
  fun i H v H'=>∃T x,H T=none/\v=.ref T/\H'=upd H T (.tup [.int (i:Int),x])/\(∀xs,SqL K H l xs->xs[i]?=some x),
  fun i H=>∃xs,SqL K H l xs/\xs.length<=i⟩
def EnuSt(e it l:Addr)(i:Nat)(h:Heap):Prop:=∃old,IsEnum h e it (i:Int) old/\h.IsListIter it l i
theorem turn_enu{P:Program}{w:World}{K:PySem.W.Frag}{elts:List Expr}{x1:Nat}{pos:Pos}{e it l:Addr}(ne:e≠it):
  Turn P w K (.Tuple elts x1 pos) (Ite K l) [e,it] e (EnuSt e it l) where
 mem:=by simp
 obj:=fun i h st b hb=>by
  obtain⟨old,he,h1⟩:=st;simp only[List.mem_cons,List.not_mem_nil,or_false] at hb;rcases hb with rfl|rfl
  ·exact⟨_,he,fun v q=>by cases q⟩
  ·obtain⟨o,q,c,d⟩:=h1;exact⟨o,q,fun v r=>by rw[d] at r;cases r⟩
 keep:=fun i h h' st k=>by
  obtain⟨old,he,h1⟩:=st;exact⟨old,k e (by simp) _ he,h1.at fun o q=>k it (by simp) o q⟩
 item:=by
  intro X hP hw hK hc i pins s σ H E I hf st hg;subst hP hw hK;obtain⟨xs,x,hq1,hx⟩:=hg;obtain⟨old,he,h1⟩:=st;obtain⟨its1,rv1,p1,_⟩:=I.list hq1;obtain⟨u1,hu1,ru1⟩:=rv1.get hx;refine wpAny_pyNext_enum_item he h1 p1.isList (x:=u1) (by simpa using hu1) ne fun h₁ z1 j1 pr sz kk=>⟨_,rfl,?_⟩
  refine wpAny_letOwnedTupleGo_enum z1 fun h₂ z2 sb=>?_;have lt:∀b∈[e,it],b≠s.heap.objs.size:=fun b hb z=>by
   have:∃o,s.heap.get? b=some o:=by
    simp only[List.mem_cons,List.not_mem_nil,or_false] at hb;rcases hb with rfl|rfl
    ·exact⟨_,he⟩
    ·obtain⟨o,q,_⟩:=h1;exact⟨o,q⟩
   obtain⟨o,q⟩:=this;exact absurd (Heap.lt_size q) (by rw[z];exact Nat.lt_irrefl _)
  have nz:∀{b:Addr},b≠e->∀{o},h₁.get? b=some o->h₂.get? b=some o:=fun{b} hb{o} q=>(sb.2 b hb).trans q;have zT:s.heap.objs.size≠e:=(lt e (by simp)).symm
  have hnT:H s.heap.objs.size=none:=I.hok.fresh (Nat.le_refl _);have new:zcc X.prog X.w (upd H s.heap.objs.size (.tup [.int (i:Int),x])) h₂ s.heap.objs.size (.tup [.int (i:Int),x]):=
   ⟨by show 2<=sizeLine;decide,[.int i s.toks,u1],.cons ⟨_,rfl⟩ (.cons ru1 .nil),⟨_,nz zT pr,rfl,_,rfl⟩⟩
  have I1:=Inv.turnedNew (h':=h₂) (t':=s.toks+1) (ch:=[e,it]) I hf (fun b o hb q=>nz (by simp at hb;exact hb.1) (kk b o (by simp at hb;exact hb.1) (by simp at hb;exact hb.2) q)) (Nat.le_refl _) new
  refine⟨.ref s.heap.objs.size,_,I1,rfl,⟨_,x,hnT,rfl,rfl,fun ys' hy'=>by rw[I.list_inj hy' hq1];exact hx⟩,⟨u1,?_,?_⟩,fun b hb=>by rw[za7 (lt b hb)];exact(hf b hb).1⟩
  ·exact z2
  ·exact j1.at fun o q=>nz (Ne.symm ne) q
 done:=by
  intro X hP hw hK hc i pins s σ H E I hf st hg;subst hP hw hK;obtain⟨xs,hq1,hl⟩:=hg;obtain⟨old,he,h1⟩:=st;obtain⟨its1,rv1,p1,_⟩:=I.list hq1;have e1:=rv1.length;refine wpAny_pyNext_enum_end (I.ok.hd hc) he h1 p1.isList (by simp;omega) fun h₁ kk=>⟨rfl,?_⟩
  exact I.turnedL (t':=s.toks) (ch:=[e,it]) hf (fun b o hb q=>kk b o (by simp at hb;exact hb.2) q)
 self:=fun _ _ _ _ _ st h=>by
  obtain⟨old,he,_⟩:=st;exact wpAny_pyIter_enum he h
section
variable{X:Cx}
def iEnu(ta:TA):TI:=fun σ H R=>ta σ H fun vs H1=>∃l xs,vs=[.ref l]/\H1 l=some (.lst xs)/\∀K,R (Ite K l) H1
theorem zhk:bootBuiltins "enumerate"=some (.type "enumerate"):=by decide+kernel
theorem pi_enu{a:Expr}{ta:TA}{p pos tpos:Pos}{elts:List Expr}{x1:Nat}(hg:Gl X "enumerate")(hm:X.mg "enumerate"=none)(ha:PA X [a] ta)(hs:starEach [a] X.env=[(false,eval a X.env)]:=by rfl):PI X (.Tuple elts x1 tpos) (.Call (.Name "enumerate" p) [a] [] pos) (iEnu ta):=by
 intro pins s σ H R I h;refine Call_ (zf8 I hg hm zhk (PyProof.Rows.callWith_type1 (thn (ha pos pins s σ H _ I h) fun us s1⟨vs,H1,I1,r1,q1⟩=>?_) (by rw[hs];rfl) rfl))
 obtain⟨l,xs,e,e1,q⟩:=q1;subst e;obtain⟨u,rfl,ru⟩:=vals1 r1
 cases ru;obtain⟨its1,rv1,p1,_⟩:=I1.list (.of e1);refine call_enumerate_list p1.isList fun h' he hi sz kk=>?_;refine wpAny_pyIter_enum he ?_;have I2:Inv X pins σ H1 {s1 with heap:=h'}:=I1.kept (t':=s1.toks) kk;refine⟨_,_,_,_,H1,rfl,I2,turn_enu (l:=l) (by show s1.heap.objs.size+1≠s1.heap.objs.size;omega),⟨_,he,hi⟩,fun b hb=>?_,q _⟩
 have hb':s1.heap.objs.size<=b:=by
  simp only[List.mem_cons,List.not_mem_nil,or_false] at hb;rcases hb with rfl|rfl
  ·exact Nat.le_add_right _ _
  ·exact Nat.le_refl _
 exact I1.fpOk hb' (I1.hok.fresh hb')
end
theorem for_enu{K:PySem.W.Frag}{l:Addr}{xs:List V}{g:TG}{tb:TS}{D:Ends}{σ:St}{H:Hp}(Pv:Nat->St->Hp->Prop)(h0:Pv 0 σ H)(hl:∀i σ H,Pv i σ H->H l=some (.lst xs))
  (hs:∀i x T σ H,xs[i]?=some x->Pv i σ H->H T=none->g (.ref T) σ (upd H T (.tup [.int (i:Int),x])) fun σ2 H2=>tb {D with nx:=Pv (i+1),ct:=Pv (i+1),bk:=D.nx} σ2 H2)(hd:∀σ H,Pv xs.length σ H->D.nx σ H):
  ∃W:Nat->Nat->St->Hp->Prop,(∃m,W 0 m σ H)/\∀i m σ H,W i m σ H->
   ((Ite K l).stop i H/\D.nx σ H)∨((Ite K l).go i H/\∃N:St->Hp->Prop,(∀σ' H',N σ' H'->∃m',m'<m/\W (i+1) m' σ' H')/\∀x H',(Ite K l).yld i H x H'->g x σ H' fun σ2 H2=>tb {D with nx:=N,ct:=N,bk:=D.nx} σ2 H2):=by
 refine⟨fun i m σ H=>m=xs.length-i/\i<=xs.length/\Pv i σ H,⟨xs.length,by simp,Nat.zero_le _,h0⟩,?_⟩
 rintro i m σ H ⟨rfl,hi,p⟩;have q1:=hl i σ H p
 by_cases hlt:i<xs.length
 ·refine .inr ⟨⟨xs,xs[i],.of q1,by simp[hlt]⟩,Pv (i+1),fun σ' H' p'=>⟨xs.length-(i+1),by omega,rfl,hlt,p'⟩,fun v H' y=>?_⟩
  obtain⟨T,x,hT,rfl,rfl,y1⟩:=y;exact hs i x T σ H (y1 xs (.of q1)) p hT
 ·have e:i=xs.length:=by omega
  subst e;exact .inl ⟨⟨xs,.of q1,Nat.le_refl _⟩,hd σ H p⟩
open PySem.W (kla_fn kla_obj envX tabObj CodeHd KasT kas_sort kas_ask kas_item)
section
variable{prog:Program}{w:World}{A:Around}{E:Value->Shared->Prop}{s:Shared}{vs ks:List Value}{g:Heap}{a kS:Addr}{e e1:Nat}{f:Value}
open Classical in
noncomputable def kIdx(ks:List Value)(u:Value):Nat:=if h:∃i,i<ks.length/\ks[i]?=some u then Classical.choose h else 0
end
open PySem.W (kla_fn kla_obj envX tabObj CodeHd KasT kas_sort kas_ask kas_item)
theorem zeq(x y:Int×Int)(xs ys:List (Int×Int)):ltL (x::xs) (y::ys)=if x=y then ltL xs ys else lt2 x y:=by rw[ltL,lex2]
theorem zmm:∀(a b c:List (Int×Int)),ltL a b=true->ltL b c=true->ltL a c=true
 |[],[],[],_,h2=>h2
 |[],_::_,[],_,h2=>by rw[ltL] at h2;cases h2
 |[],_,_::_,_,_=>by rw[ltL];exact decide_eq_true (Nat.succ_pos _)
 |_::_,[],_,h1,_=>by rw[ltL] at h1;cases h1
 |_::_,_::_,[],_,h2=>by rw[ltL] at h2;cases h2
 |x::xs,y::ys,z::zs,h1,h2=>by
  rw[zeq] at*
  by_cases e1:x=y
  ·rw[if_pos e1] at h1
   by_cases e2:y=z
   ·rw[if_pos e2] at h2;rw[if_pos (e1.trans e2)];exact zmm xs ys zs h1 h2
   ·rw[if_neg e2] at h2;rw[e1,if_neg e2];exact h2
  ·rw[if_neg e1] at h1
   by_cases e2:y=z
   ·rw[←e2,if_neg e1];exact h1
   ·rw[if_neg e2] at h2;have t:=sto2.tr _ _ _ h1 h2;rw[if_neg (fun e=>by rw[e,sto2.irr] at t;cases t)]
    exact t
theorem znc:∀(a b:List (Int×Int)),a≠b->ltL a b=true∨ltL b a=true
 |[],[],n=>absurd rfl n
 |[],_::_,_=>.inl (by rw[ltL];exact decide_eq_true (Nat.succ_pos _))
 |_::_,[],_=>.inr (by rw[ltL];exact decide_eq_true (Nat.succ_pos _))
 |x::xs,y::ys,n=>by
  rw[zeq,zeq]
  by_cases e:x=y
  ·rw[if_pos e,if_pos e.symm];exact znc xs ys fun z=>n (by rw[e,z])
  ·rw[if_neg e,if_neg (fun z=>e z.symm)];exact sto2.tot _ _ e
theorem zfk:∀a:List (Int×Int),ltL a a=false
 |[]=>rfl
 |x::xs=>by rw[zeq,if_pos rfl];exact zfk xs
open PySem.W (kas_sort kas_ask)
def rSortL:List V->Hp->VK->Prop:=fun xs H Q=>∃(l:Addr)(vs:List V)(d:Nat->List (Int×Int)),xs=[.ref l]/\H l=some (.lst vs)/\vs.length<64/\(∀i,i<vs.length->LsI H (vs.getD i .non) (d i))/\
 ∀D p,H D=none->Ord vs.length p->(2<=vs.length->p=ansT (fun i j=>ltL (d i) (d j)) (kas_sort vs.length))->Q (.ref D) (upd H D (.lst (p.toList.map fun i=>vs.getD i .non)))
theorem LstI.keeps{g h:Heap}{v:Value}{ns:List (Int×Int)}(t:LstI g v ns)(k:Keeps g h):LstI h v ns:=by
 obtain⟨a,its,n,e,o,l,r⟩:=t;exact⟨a,its,n,e,k _ _ o,l,fun i u q h1 h2=>(r i u q h1 h2).keeps k⟩
section
variable{X:Cx}{pins:List (Addr×Obj)}{σ:St}{H:Hp}{s:Shared}
theorem zk4(hu:X.A.units+100<cLine):zdg X (.builtin "sorted") rSortL:=by
 intro pins s σ H xs us Q I r h;obtain⟨l,vs,d,rfl,hl,h64,hf,q⟩:=h;obtain⟨u,rfl,ru⟩:=vals1 r
 cases ru;obtain⟨its,rv,pl,hz⟩:=I.list (.of hl);have len:vs.length=its.length:=rv.length;have hd:∀i,i<its.length->LstI s.heap (its.getD i Value.none) (d i):=fun i hi=>zmo I (hf i (by omega)) (zdr rv i (by omega))
 refine zhp (κ:=oneType') (ans:=fun i j=>ltL (d i) (d j)) pl.isList (by omega) (fun h2 h' k Q' q'=>?_) (fun h2 h' k i j C hi hj c=>?_) fun p h' c k or ep ho=>?_
 ·refine zhs (by omega) (fun v hv=>?_) q'
  obtain⟨i,hi,e⟩:=List.mem_iff_getElem.mp hv;have t:=hd i hi;have e':its.getD i Value.none=v:=by simp[hi,e]
  rw[e'] at t;exact⟨_,t.keeps k⟩
 ·exact lt_lst ((hd i hi).keeps k) ((hd j hj).keeps k) (by show X.A.units+1+1+70<_;omega) c
 ·have lo:p.toList.length=its.length:=by rw[or.length_eq,List.length_range]
  refine⟨.ref _,upd H (s.heap.objs.size+1) (.lst (p.toList.map fun i=>vs.getD i .non)),I.laid (t':=s.toks) k (Nat.le_succ _) ⟨?_,_,c,zff _ (fun i hi=>zdr rv i ?_),ho⟩,rfl,q _ _ (I.hok.fresh (Nat.le_succ _)) (by rw[len];exact or) (by rw[len];exact ep)⟩
  ·rw[List.length_map,lo];exact Nat.le_trans (Nat.le_of_lt (by omega:its.length<64)) (by decide)
  ·have:=List.mem_range.mp (or.mem_iff.mp hi);omega
end
def rSort22:List V->Hp->VK->Prop:=fun xs H Q=>∃l vs,xs=[.ref l]/\H l=some (.lst vs)/\vs.length<64/\(∀v,v∈vs->F22 H v)/\∀D(p:List Nat),H D=none->p.Perm (List.range vs.length)->Q (.ref D) (upd H D (.lst (p.map fun i=>vs.getD i .non)))
section
variable{X:Cx}
theorem ziq(hu:X.A.units+100<cLine):zdg X (.builtin "sorted") rSort22:=by
 intro pins s σ H xs us Q I r h;obtain⟨l,vs,rfl,hl,h64,hf,q⟩:=h;obtain⟨u,rfl,ru⟩:=vals1 r
 cases ru;obtain⟨its,rv,pl,hz⟩:=I.list (.of hl);have len:vs.length=its.length:=rv.length;have hd:∀i,i<its.length->∃d:List Int×List Int,TupP s.heap (its.getD i Value.none) d.1 d.2/\d.1.length=2/\d.2.length=2:=fun i hi=>by
  have e:vs.getD i .non∈vs:=by rw[List.getD_eq_getElem?_getD,List.getElem?_eq_getElem (by omega)];exact List.getElem_mem _
  exact tup22_of I (hf _ e) (zdr rv i (by omega))
 classical
 let d:Nat->List Int×List Int:=fun i=>if h:i<its.length then Classical.choose (hd i h) else([],[])
 have dd:∀i,i<its.length->TupP s.heap (its.getD i Value.none) (d i).1 (d i).2/\(d i).1.length=2/\(d i).2.length=2:=fun i hi=>by
  show TupP s.heap (its.getD i Value.none) (if h:i<its.length then Classical.choose (hd i h) else([],[])).1 (if h:i<its.length then Classical.choose (hd i h) else([],[])).2/\(if h:i<its.length then Classical.choose (hd i h) else([],[])).1.length=2/\(if h:i<its.length then Classical.choose (hd i h) else([],[])).2.length=2
  rw[dif_pos hi];exact Classical.choose_spec (hd i hi)
 refine zhp (κ:=tuples' false) (ans:=fun i j=>ltP (d i) (d j)) pl.isList (by omega) (fun h2 h' k Q' q'=>?_) (fun h2 h' k i j C hi hj c=>?_) fun p h' c k or ep ho=>?_
 ·refine zkm (by omega) (fun v hv=>?_) q'
  obtain⟨i,hi,e⟩:=List.mem_iff_getElem.mp hv;have t:=dd i hi;have e':its.getD i Value.none=v:=by simp[hi,e]
  rw[e'] at t;exact⟨_,_,fun z=>by rw[z] at t;exact absurd t.2.1 (by decide),t.1.keeps k⟩
 ·exact lt_tupP ((dd i hi).1.keeps k) ((dd j hj).1.keeps k) ((dd i hi).2.1.trans (dd j hj).2.1.symm) ((dd i hi).2.2.trans (dd j hj).2.2.symm) (by show X.A.units+1+1+64<_;omega) c
 ·have lo:p.toList.length=its.length:=by rw[or.length_eq,List.length_range]
  refine⟨.ref _,upd H (s.heap.objs.size+1) (.lst (p.toList.map fun i=>vs.getD i .non)),I.laid (t':=s.toks) k (Nat.le_succ _) ⟨?_,_,c,zff _ (fun i hi=>zdr rv i ?_),ho⟩,rfl,q _ _ (I.hok.fresh (Nat.le_succ _)) (by rw[len];exact or)⟩
  ·rw[List.length_map,lo];exact Nat.le_trans (Nat.le_of_lt (by omega:its.length<64)) (by decide)
  ·have:=List.mem_range.mp (or.mem_iff.mp hi);omega
end
theorem zjd{X:Cx}{tg l:Expr}{tl:TE}{K':PySem.W.Frag}(hK:X.K=K')(hl:PE X l tl):PI X tg l (zd1 K' tl):=by
 subst hK;exact zc4 hl
section
variable{prog:Program}{w:World}{A:Around}{R:Result->Shared->Prop}{I:Addr}{fp wr:List Addr}{n:Nat}{P:Nat->Value->Prop}{St:Nat->Heap->Prop}{g:Heap}
def CmpK(prog:Program)(w:World)(A:Around)(g:Heap)(P:Nat->Value->Prop)(bt:Nat->Nat->Bool):Prop:=
 ∀i j vi vj(s:Shared)(Q:Value->Shared->Prop)(E:Value->Shared->Prop),Keeps g s.heap->P i vi->P j vj->Q (.bool (bt i j)) s->wpAny (model prog w) A (richCompare .Lt vi vj) Q E s
theorem minK_on(W:Walks prog w A.in1 I fp wr n P St)(bt:Nat->Nat->Bool)(hc:CmpK prog w A.in1 g P bt)(S:Addr)(nS:S∉fp)(gS:g.objs.size<=S)(gw:∀b,b∈wr->g.objs.size<=b):∀(k j:Nat)(s:Shared)(vb:Value)(c:Nat),n-(j+1)=k->j+1<=n->Keeps g s.heap->St (j+1) s.heap->P (argBest bt j) vb->
  s.heap.get? S=some {cls:=.type "list",dict:=none,data:=.seq #[vb,vb] c,slots:=#[]}->(∀v h' tk,P (argBest bt (n-1)) v->Keeps g h'->R (.ok (.ret v)) {s with heap:=h',toks:=tk})->
  codeAny (model prog w) A (.builtin "min.loop" ⟨[.ref I,.none,.ref S],[]⟩) R s:=by
 have nw:S∉wr:=fun z=>nS (W.sub _ z);have nm:(toString "min"++toString ".loop":String)="min.loop":=by decide
 have kw:∀{h h':Heap},Keeps g h->(∀b o,b∉wr->h.get? b=some o->h'.get? b=some o)->Keeps g h':=fun k0 kp b o e=>kp b o (fun z=>Nat.not_lt.mpr (gw b z) (Heap.lt_size e)) (k0 b o e);intro k
 induction k with
 |zero=>
  intro j s vb c hk hj kg st hb oS q;have ej:j+1=n:=by omega
  refine codeAny_builtin F.entry_min_loop ?_;rw[Around.under_plainId F.plain_min_loop _];refine wpAny_bind (m:=seqItems? (.ref S)) (wpAny_seqItems oS rfl (wpAny_bind (wpAny_tryCatch (W.done s _ _ (ej▸st) fun h' tk kp=>?_))));refine wpAny_bind (wpAny_updateSeq (kp S _ nw oS) rfl (wpAny_bind (wpAny_letGo (wpAny_pure ?_))));exact q vb _ tk (by rw[←ej];exact hb) ((kw kg kp).upd gS)
 |succ k ih=>
  intro j s vb c hk hj kg st hb oS q;refine codeAny_builtin F.entry_min_loop ?_;rw[Around.under_plainId F.plain_min_loop _];refine wpAny_bind (m:=seqItems? (.ref S)) (wpAny_seqItems oS rfl (wpAny_bind (wpAny_tryCatch (W.item (j+1) s _ _ (by omega) st fun v h' tk hP st' kp=>?_))))
  have oS':=kp S _ nw oS;have kg':=kw kg kp;refine wpAny_bind (wpAny_pure ?_);refine wpAny_bind (m:=tryCatch (holding [v,v] (richCompare CmpOp.Lt v vb>>=_)) _) (wpAny_tryCatch (wpAny_holding (wpAny_bind (hc (j+1) (argBest bt j) v vb _ _ _ kg' hP hb (wpAny_bind (wpAny_holding (wpAny_truthy_bool (wpAny_bind (wpAny_letGo (wpAny_pure ?_))))))))))
  cases bb:bt (j+1) (argBest bt j) with
  |true=>
   simp only[if_true];refine wpAny_bind (wpAny_updateSeq oS' rfl (wpAny_bind (wpAny_letGo ?_)));rw[nm];exact wpAny_pure ⟨plainId_quiet F.plain_min_loop _,ih (j+1) _ v _ (by omega) (by omega) (kg'.upd gS) (W.frame _ _ _ st' fun b hf o e=>(Heap.get?_update_other _ _ (fun z:S=b=>nS (by rw[z];exact hf))).trans e) (by simp only[argBest,bb,if_true];exact hP) (Heap.get?_update_self _ oS' rfl) fun v' h'' tk'' hP' kp'=>q v' h'' tk'' hP' kp'⟩
  |false=>
   simp only[Bool.false_eq_true,if_false];refine wpAny_bind (wpAny_letGo ?_);rw[nm];exact wpAny_pure ⟨plainId_quiet F.plain_min_loop _,ih (j+1) _ vb c (by omega) (by omega) kg' st' (by simp only[argBest,bb,Bool.false_eq_true,if_false];exact hb) oS' fun v' h'' tk'' hP' kp'=>q v' h'' tk'' hP' kp'⟩
theorem zkw(W:Walks prog w A.in1 I fp wr n P St)(bt:Nat->Nat->Bool)(hc:CmpK prog w A.in1 g P bt)(S:Addr)(nS:S∉fp)(gS:g.objs.size<=S)(gw:∀b,b∈wr->g.objs.size<=b){s:Shared}{c:Nat}(hn:0<n)(kg:Keeps g s.heap)(st:St 0 s.heap)
  (oS:s.heap.get? S=some {cls:=.type "list",dict:=none,data:=.seq #[] c,slots:=#[]})
  (q:∀v h' tk,P (argBest bt (n-1)) v->Keeps g h'->R (.ok (.ret v)) {s with heap:=h',toks:=tk}):
  codeAny (model prog w) A (.builtin "min.loop" ⟨[.ref I,.none,.ref S],[]⟩) R s:=by
 have nw:S∉wr:=fun z=>nS (W.sub _ z);have nm:(toString "min"++toString ".loop":String)="min.loop":=by decide
 have kw:∀{h h':Heap},Keeps g h->(∀b o,b∉wr->h.get? b=some o->h'.get? b=some o)->Keeps g h':=fun k0 kp b o e=>kp b o (fun z=>Nat.not_lt.mpr (gw b z) (Heap.lt_size e)) (k0 b o e);refine codeAny_builtin F.entry_min_loop ?_;rw[Around.under_plainId F.plain_min_loop _];refine wpAny_bind (m:=seqItems? (.ref S)) (wpAny_seqItems oS rfl (wpAny_bind (wpAny_tryCatch (W.item 0 s _ _ (by omega) st fun v h' tk hP st' kp=>?_))))
 refine wpAny_bind (wpAny_pure ?_);refine wpAny_bind (wpAny_updateSeq (kp S _ nw oS) rfl ?_);rw[nm];exact wpAny_pure ⟨plainId_quiet F.plain_min_loop _,minK_on W bt hc S nS gS gw _ 0 _ v _ rfl (by omega) ((kw kg kp).upd gS) (W.frame _ _ _ st' fun b hf o e=>(Heap.get?_update_other _ _ (fun z:S=b=>nS (by rw[z];exact hf))).trans e) hP (Heap.get?_update_self _ (kp S _ nw oS) rfl) fun v' h'' tk'' hP' kp'=>q v' h'' tk'' hP' kp'⟩
end
theorem znk(val:Nat->Int×Int):∀k,argBest (fun i j=>lt2 (val i) (val j)) k<=k/\∀i,i<=k->lt2 (val i) (val (argBest (fun i j=>lt2 (val i) (val j)) k))=false
 |0=>⟨Nat.le_refl _,fun i hi=>by rw[Nat.le_zero.mp hi];exact sto2.irr _⟩
 |k+1=>by
  obtain⟨h1,h2⟩:=znk val k;unfold argBest
  cases c:lt2 (val (k+1)) (val (argBest (fun i j=>lt2 (val i) (val j)) k)) with
  |true=>
   rw[if_pos rfl];refine⟨Nat.le_refl _,fun i hi=>?_⟩
   by_cases e:i=k+1
   ·rw[e];exact sto2.irr _
   ·have:=h2 i (by omega)
    cases d:lt2 (val i) (val (k+1)) with
    |false=>rfl
    |true=>rw[sto2.tr _ _ _ d c] at this;cases this
  |false=>
   rw[if_neg (by decide)]
   refine⟨by omega,fun i hi=>?_⟩
   by_cases e:i=k+1
   ·rw[e];exact c
   ·exact h2 i (by omega)
def rMinP:List V->Hp->VK->Prop:=fun xs H Q=>∃(v:V)(ks:List (Int×Int)),xs=[v]/\LsI H v ks/\0<ks.length/\∀(b:Addr)(j:Nat)(k:Int×Int),ks[j]?=some k->H b=some (.tup [.int k.1,.int k.2])->(∀x,x∈ks->lt2 x k=false)->Q (.ref b) H
section
variable{X:Cx}
theorem zl9(hcalm:X.calm=true)(hu:X.A.units+100<cLine):zdg X (.builtin "min") rMinP:=by
 intro pins s σ H xs us Q I r h;obtain⟨v,ks,rfl,⟨p,vs,rfl,hp,hl,he⟩,hn,q⟩:=h;obtain⟨u,rfl,ru⟩:=vals1 r
 cases ru;obtain⟨its,rv,pl,hz⟩:=I.list (.of hp);have len:vs.length=its.length:=rv.length;have ne:p≠s.heap.objs.size:=Nat.ne_of_lt pl.lt;have nm:(toString "min"++toString ".loop":String)="min.loop":=by decide
 have it:∀i v,its.toArray[i]?=some v->∃b,v=Value.ref b/\H b=some (.tup [.int (ks.getD i (0,0)).1,.int (ks.getD i (0,0)).2])/\TupI s.heap v [(ks.getD i (0,0)).1,(ks.getD i (0,0)).2]:=fun i v hv=>by
  have hv:its[i]?=some v:=by simpa using hv
  obtain⟨z,z1,z2⟩:=vals_get? rv hv;have hi:i<ks.length:=by have:=(List.getElem?_eq_some_iff.mp hv).1;omega
  obtain⟨b,b1,b2⟩:=he i _ (List.getElem?_eq_getElem hi);rw[b1] at z1
  cases z1
  cases(show v=Value.ref b from z2);have e:ks.getD i (0,0)=ks[i]:=by simp[hi]
  rw[e];exact⟨b,rfl,b2,zez I (ns:=[ks[i].1,ks[i].2]) b2⟩
 refine call_function_tree F.kind_min F.plain_min F.entry_min (F.args_min1 _) ?_;refine wpAny_bind (m:=Builtin.Builtins.bindParams "min" ["key","default"] 0 ⟨[],[]⟩) (wpAny_of_eq (show Builtin.Builtins.bindParams "min" ["key","default"] 0 ⟨[],[]⟩=pure [none,none] from rfl) (wpAny_bind (wpAny_pure (wpAny_bind (wpAny_pyIter_list pl.isList (wpAny_bind (wpAny_newList ?_ (Nat.zero_le _))))))));rw[nm];have W:=Walks.list (prog:=X.prog) (w:=X.w) (A:=X.A.in1) (show X.A.in1.handled=none from I.ok.hd hcalm) s.heap.objs.size p ne its.toArray;have sz:(s.heap.push {cls:=.type "list_iterator",data:=.fields #[.ref p,.int 0 0]}).objs.size=s.heap.objs.size+1:=by rw[Heap.size_push]
 have kg:Keeps s.heap ((s.heap.push {cls:=.type "list_iterator",data:=.fields #[.ref p,.int 0 0]}).push (seqObj "list" #[] 0)):=fun b o e=>Heap.get?_push_of_some _ (Heap.get?_push_of_some _ e);refine wpAny_pure ⟨plainId_quiet PySem.F.plain_min_loop _,zkw (g:=s.heap) W (fun i j=>lt2 (ks.getD i (0,0)) (ks.getD j (0,0))) (fun i j vi vj s' Q' E' k hi hj q'=>?_) _ (fun z=>?_) ?_ (fun b hb=>?_) (by show 0<its.length;omega) kg (st:=W.frame 0 _ _ ⟨⟨_,Heap.get?_push_size _ rfl,rfl,rfl⟩,pl.isList.push _⟩ fun b _ o e=>Heap.get?_push_of_some _ e) (Heap.get?_push_size _ rfl) fun v h' tk hv kp=>?_⟩
 ·obtain⟨_,_,_,t1⟩:=it i vi hi;obtain⟨_,_,_,t2⟩:=it j vj hj;exact znp (t1.keeps k) (t2.keeps k) (by show X.A.units+1+64<_;omega) (by rw[lex2];exact q')
 ·rw[sz] at z;have l2:p<s.heap.objs.size:=pl.lt;rcases List.mem_cons.mp z with z|z
  ·exact absurd z (Nat.ne_of_gt (Nat.lt_succ_self _))
  ·exact absurd (List.mem_singleton.mp z) (Nat.ne_of_gt (Nat.lt_succ_of_lt l2))
 ·rw[sz];exact Nat.le_succ _
 ·rw[List.mem_singleton.mp hb];exact Nat.le_refl _
 ·obtain⟨b,rfl,hb,_⟩:=it _ _ hv;obtain⟨b1,b2⟩:=znk (fun i=>ks.getD i (0,0)) (its.toArray.size-1);have zi:its.toArray.size=its.length:=rfl;rw[zi] at b1 b2 hb;have lt:argBest (fun i j=>lt2 (ks.getD i (0,0)) (ks.getD j (0,0))) (its.length-1)<ks.length:=by omega
  have J:Inv X pins σ H {s with heap:=h',toks:=tk}:=I.kept kp;refine⟨.ref b,H,J,rfl,q b (argBest (fun i j=>lt2 (ks.getD i (0,0)) (ks.getD j (0,0))) (its.length-1)) (ks.getD (argBest (fun i j=>lt2 (ks.getD i (0,0)) (ks.getD j (0,0))) (its.length-1)) (0,0)) ?_ hb fun x hx=>?_⟩
  ·rw[List.getD_eq_getElem?_getD,List.getElem?_eq_getElem lt];rfl
  ·obtain⟨i,hi,e⟩:=List.mem_iff_getElem.mp hx;have:=b2 i (by omega)
   have e':ks.getD i (0,0)=x:=by simp[hi,e]
   rw[e'] at this;exact this
theorem TupI.uniq{h:Heap}{v:Value}{ns ms:List Int}(a:TupI h v ns)(b:TupI h v ms):ns=ms:=by
 obtain⟨p,its,n,dd,sl,rfl,o,i⟩:=a;obtain⟨p',its',n',dd',sl',e,o',i'⟩:=b
 cases e;rw[o] at o'
 cases o';have:∀{vs:List Value}{xs ys:List Int},IntsAre vs xs->IntsAre vs ys->xs=ys:=by
  intro vs xs ys h1
  induction h1 generalizing ys with
  |nil=>intro h2;cases h2;rfl
  |cons n t _ ih=>intro h2;cases h2 with|cons m u r=>rw[ih r]
 exact this i i'
def rIndex:V->List V->Hp->VK->Prop:=fun x vs H Q=>∃(b:Addr)(k:Int×Int)(ks:List (Int×Int))(j:Nat),vs=[.ref b]/\LsI H x ks/\H b=some (.tup [.int k.1,.int k.2])/\ks[j]?=some k/\(∀i,i<j->ks[i]?≠some k)/\Q (.int j) H
theorem mt_index(hu:X.A.units+100<cLine):MtM X "list.index" rIndex:=by
 intro pins s σ H x vs v us Q I rx rv h;obtain⟨b,k,ks,j,rfl,⟨l,xs,rfl,hH,hlen,he⟩,hb,hj,hno,q⟩:=h
 cases rx;obtain⟨u,rfl,ru⟩:=rv.one
 cases(show u=Value.ref b from ru);obtain⟨z,its,n,r,hl,e⟩:=I.lstM hH;have len:xs.length=its.length:=r.length;have tb:=zez I (ns:=[k.1,k.2]) hb;have ti:∀i(hi:i<its.length) k',ks[i]?=some k'->TupI s.heap its[i] [k'.1,k'.2]:=fun i hi k' hk=>by
  obtain⟨c,c1,c2⟩:=he i k' hk;obtain⟨z,z1,z2⟩:=vals_get? r (List.getElem?_eq_getElem hi);rw[c1] at z1
  cases z1;rw[show its[i]=Value.ref c from z2];exact zez I (ns:=[k'.1,k'.2]) c2
 have hjk:j<ks.length:=(List.getElem?_eq_some_iff.mp hj).1;have hji:j<its.length:=by omega
 classical
 have small:(j:Int)<2^63-1:=by
  have:sizeLine<=2^60:=by decide
  have:its.length<=sizeLine:=by rw[←len];exact z
  omega
 refine call_meets F.slot_list_index ⟨_,e,rfl⟩ F.entry_list_index (F.args_list_index_2 _ _) (PySem.SeqAt.list_indexAt l its.toArray n none #[] (.ref b) (fun y=>decide (TupI s.heap y [k.1,k.2])) j (by simpa using hji) small ?_ ?_) ⟨e,fun y hy prog w E' Q' q'=>?_,?_⟩
 ·exact decide_eq_true (ti j hji k hj)
 ·intro m hm hlt;have hm:m<its.length:=by simpa using hm
  have hmk:m<ks.length:=by omega
  refine decide_eq_false fun t=>hno m hlt ?_;have:=TupI.uniq (ti m hm _ (List.getElem?_eq_getElem hmk)) t
  injection this with a1 a2
  injection a2 with a2
  rw[List.getElem?_eq_getElem hmk];exact congrArg some (Prod.ext a1 a2)
 ·have hy:y∈its:=by simpa using hy
  obtain⟨i,hi,rfl⟩:=List.mem_iff_getElem.mp hy;have hik:i<ks.length:=by omega
  have t:=ti i hi _ (List.getElem?_eq_getElem hik);refine zgv t tb (by show X.A.units+1+64<_;omega) ?_
  have:decide ([ks[i].1,ks[i].2]=[k.1,k.2])=decide (TupI s.heap its[i] [k.1,k.2]):=by
   rw[decide_eq_decide];exact⟨fun z=>z▸t,fun z=>TupI.uniq t z⟩
  rw[this];exact q'
 ·exact⟨.int j,H,I.tok _,⟨_,rfl⟩,q⟩
def rMulL:R2:=fun x y H Q=>∃(l:Addr)(vs:List V)(n:Int),x=.ref l/\y=.int n/\H l=some (.lst vs)/\0<=n/\n<=1000/\vs.length<=1000/\∀D,H D=none->Q (.ref D) (upd H D (.lst (List.replicate n.toNat vs).flatten))
theorem zj6{xs:List V}{us:List Value}(r:Vals xs us):∀n:Nat,Vals (List.replicate n xs).flatten (List.replicate n us).flatten
 |0=>.nil
 |n+1=>by
  rw[List.replicate_succ,List.replicate_succ,List.flatten_cons,List.flatten_cons];exact r.append (zj6 r n)
theorem op_mulL:OpR X (binaryOp .Mult) rMulL:=by
 intro pins s σ H x y v u Q I rx ry h;obtain⟨l,vs,n,rfl,rfl,hl,n0,n1,lv,q⟩:=h
 cases rx;obtain⟨t,rfl⟩:=ry;obtain⟨z,its,k,r,hz,ho⟩:=I.lstM hl;have len:vs.length=its.length:=r.length;have hb:its.length*n.toNat<=1000*1000:=Nat.mul_le_mul (by omega) (by omega)
 have hb':its.toArray.size*n.toNat<=1000*1000:=by simpa using hb
 have l1:(List.replicate n.toNat vs).flatten.length<=1000*1000:=by
  rw[List.length_flatten,List.map_replicate,List.sum_replicate_nat,Nat.mul_comm,len];exact hb
 refine wpAny_binaryOp_repeat_ref (T:="list") (U:="int") (by decide) ⟨_,ho,rfl⟩ (fun s'=>typeIs_int s' n t) noFill_list_mul F.fills_int_mul F.slot_int_rmul repeat_list F.slot_int_index.lookup
  (call_meets F.slot_int_rmul (typeIs_int s n t) F.entry_int_rmul (F.args_int_rmul_2 _ _) (lm_int_rmul_list_any n t l its.toArray k none #[])
   ⟨ho,rfl,⟨_,ho,rfl⟩,call_meets F.slot_list_mul ⟨_,ho,rfl⟩ F.entry_list_mul (F.args_list_mul_2 _ _)
    (lm_list_mul_any l its.toArray k none #[] n t (by simp[Builtin.List.listFitsIndex];omega) (by omega) (by simp[Builtin.List.listTooLong,sizeLine];omega))
    ⟨ho,?_⟩⟩)
 refine⟨.ref _,upd H s.heap.objs.size (.lst (List.replicate n.toNat vs).flatten),I.laid (a:=s.heap.objs.size) (t':=s.toks) (fun b o e=>Heap.get?_push_of_some _ e) (Nat.le_refl _) ⟨?_,_,0,zj6 r _,?_⟩,rfl,q _ (I.hok.fresh (Nat.le_refl _))⟩
 ·exact Nat.le_trans l1 (by decide)
 ·rw[Heap.get?_push_size _ rfl,listMul_foldl_if]
end
def tDisp1(tk tv:TE):TE:=fun σ H Q=>∀p,H p=none->tk σ (upd H p (.dT [])) fun x H1=>tv σ H1 fun y H2=>∃k b,x=.ref b/\H2 b=some (.tup (k.map kV))/\H2 p=some (.dT [])/\Q (.ref p) (upd H2 p (.dT (putK [] k y)))
theorem pe_disp1{X:Cx}{pos:Pos}{e f:Expr}{tk tv:TE}(hu:X.A.units+1<cLine)(hk:PE X e tk)(hv:PE X f tv):PE X (.Dict [some e] [f] pos) (tDisp1 tk tv):=by
 intro pins s σ H Q I q;have hn:=I.hok.fresh (Nat.le_refl s.heap.objs.size);have I1:=I.laid (a:=s.heap.objs.size) (o:=.dT []) (h':=s.heap.push {cls:=.type "dict",data:=.dict #[]}) (t':=s.toks) (fun _ _ q=>Heap.get?_push_of_some _ q) (Nat.le_refl _) (zj7 s.heap I.big);rw[arm_eval_Dict,zip_pairTrees [some e] [f] X.env pos rfl rfl,dictDisplay_pairs (pairTrees [some e] [f] X.env pos) (by intro z;cases z) (by rw[pairTrees_length _ _ _ _ rfl rfl];show 1<17;decide)]
 refine wpAny_bind (wpAny_standAt (wpAny_bind ?_));unfold subDict;refine wpAny_bind (wpAny_alloc ?_);refine wpAny_bind (wpAny_holding ?_);rw[if_pos (by rw[pairTrees_length _ _ _ _ rfl rfl];show 1<=15;decide)]
 refine wpAny_bind (pairTrees_cons_walk (thn (hk pins _ σ _ _ I1 (q _ hn)) fun u s1⟨x,H1,I2,rx,q1⟩=>thn (hv pins s1 σ H1 _ I2 q1) fun w2 s2⟨y,H2,I3,ry,k,b,ex,hb,hp,q2⟩=>pairTrees_nil_walk ?_));subst ex
 cases(show u=Value.ref b from rx);refine wpAny_holding ?_;rw[List.forIn_cons];obtain⟨z,hd,xs,rel,dd⟩:=dt_of I3.hok hp;have hz:xs.length<=sizeLine:=by rw[←Paired.length rel];exact z
 have hl:(putK ([]:List (List Key×V)) k y).length<=sizeLine:=by have:=zbr ([]:List (List Key×V)) k y;exact Nat.le_trans this (by decide)
 refine wpAny_bind (wpAny_bind (wpAny_bind (m:=dictSet s.heap.objs.size (Value.ref b) w2) (wpAny_dictSet_heap (hsz:=hz) (show X.A.units<cLine by omega) (zf7 I3.hok hb) dd fun h' dd' hs=>wpAny_pure ?_)))
 show wpAny _ _ (forIn [] PUnit.unit _) _ _ _
 rw[List.forIn_nil];refine wpAny_pure (wpAny_pure (wpAny_pure (wpAny_pure ?_)));obtain⟨o,es,ep,ho,h2,h3,h4,_,h5⟩:=dd';refine⟨.ref s.heap.objs.size,upd H2 s.heap.objs.size (.dT (putK [] k y)),zft I3 (by rw[hp];exact True.intro) hs ⟨o,ho⟩ ⟨hl,hd,_,(rel.put k hb ry).keeps fun c ys ec=>?_,o,es,ep,ho,h2,h3,h4,h5⟩,rfl,q2⟩
 rw[za7 (ne_of ec hp (fun z=>nomatch z))];exact ec
section
variable{t u:TS}{te ta tb:TE}{c c':TT}{D:Ends}{σ:St}{H:Hp}{Q:VK}{g:TG}{gs:TGs}{a:TA}{v w x y:V}{xs l:List V}{p:Addr}{i j k:Int}{b:Bool}
def yB(v:V)(Q:Bool->Prop):Prop:=∃k,v=.bl k/\Q k
def yI(v:V)(Q:Int->Prop):Prop:=∃k,v=.int k/\Q k
def yTw(vs:List V)(Q:V->V->Prop):Prop:=∃v w,vs=[v,w]/\Q v w
def yX(xs:List V)(i:Int)(Q:V->Prop):Prop:=∃v,atI xs i=some v/\Q v
def yJ(o:Option Nat)(Q:Nat->Prop):Prop:=∃j,o=some j/\Q j
theorem yB_bl{Q:Bool->Prop}:yB (.bl b) Q=Q b:=propext ⟨fun⟨k,e,q⟩=>by cases e;exact q,fun q=>⟨_,rfl,q⟩⟩
theorem yI_int{Q:Int->Prop}:yI (.int i) Q=Q i:=propext ⟨fun⟨k,e,q⟩=>by cases e;exact q,fun q=>⟨_,rfl,q⟩⟩
theorem yTw_two{Q:V->V->Prop}:yTw [v,w] Q=Q v w:=propext ⟨fun⟨k,e,f,q⟩=>by cases f;exact q,fun q=>⟨_,_,rfl,q⟩⟩
theorem yX_of{Q:V->Prop}{v:V}(h:atI xs i=some v):yX xs i Q=Q v:=propext ⟨fun⟨k,e,q⟩=>by rw[h] at e;cases e;exact q,fun q=>⟨_,h,q⟩⟩
theorem yX_0{Q:V->Prop}{x0:V}:yX (x0::l) 0 Q=Q x0:=yX_of at0
theorem yX_1{Q:V->Prop}{x0 x1:V}:yX (x0::x1::l) 1 Q=Q x1:=yX_of at1
theorem yX_2{Q:V->Prop}{x0 x1 x2:V}:yX (x0::x1::x2::l) 2 Q=Q x2:=yX_of at2
theorem y_next:zm7 D σ H=D.nx σ H:=rfl
theorem y_seq:tSeq t u D σ H=t {D with nx:=u D} σ H:=rfl
theorem y_ret:tRet te D σ H=te σ H D.rt:=rfl
theorem y_ifS:tIfS c t u D σ H=c σ H fun b H1=>if b=true then t D σ H1 else u D σ H1:=rfl
theorem y_asg:tAsg te g D σ H=te σ H fun x H1=>g x σ H1 D.nx:=rfl
theorem y_drop:znd te D σ H=te σ H fun _ H1=>D.nx σ H1:=rfl
theorem y_par{i j:Nat}:tPar i j a D σ H=a σ H fun vs H1=>yTw vs fun v w=>gName i v σ H1 fun σ' H'=>gName j w σ' H' D.nx:=rfl
theorem y_c:tC v σ H Q=Q v H:=rfl
theorem y_op{r:R2}:tOp r ta tb σ H Q=ta σ H fun x H1=>tb σ H1 fun y H2=>r x y H2 Q:=rfl
theorem y_un{r:V->Hp->VK->Prop}:tUn r ta σ H Q=ta σ H fun x H1=>r x H1 Q:=rfl
theorem y_rI{C:Int->Int->Prop}{g:Int->Int->V}:rI C g (.int i) (.int j) H Q=(C i j/\Q (g i j) H):=propext ⟨fun⟨a,b,e,f,q⟩=>by cases e;cases f;exact q,fun q=>⟨_,_,rfl,rfl,q⟩⟩
theorem y_rI0{g:Int->Int->V}:rI0 g (.int i) (.int j) H Q=Q (g i j) H:=propext ⟨fun⟨a,b,e,f,q⟩=>by cases e;cases f;exact q,fun q=>⟨_,_,rfl,rfl,q⟩⟩
theorem y_rU{g:Int->V}:rU g (.int i) H Q=Q (g i) H:=propext ⟨fun⟨a,e,q⟩=>by cases e;exact q,fun q=>⟨_,rfl,q⟩⟩
theorem y_eq:rEq x y H Q=(scal x y=true/\Q (.bl (decide (x=y))) H):=rfl
theorem y_ne:rNe x y H Q=(scal x y=true/\Q (.bl (!decide (x=y))) H):=rfl
section
variable{Q:Bool->Hp->Prop}
theorem y_test:zm2 te σ H Q=te σ H fun x H'=>yB x fun k=>Q k H':=rfl
theorem y_B:tB te σ H Q=te σ H fun x H'=>yB x fun k=>Q k H':=rfl
theorem y_not:tNot c σ H Q=c σ H fun c H1=>Q (!c) H1:=rfl
theorem y_and:tAnd c c' σ H Q=c σ H fun b H1=>if b=true then c' σ H1 Q else Q false H1:=rfl
theorem y_or:tOr c c' σ H Q=c σ H fun b H1=>if b=true then Q true H1 else c' σ H1 Q:=rfl
theorem y_yes:tYes σ H Q=Q true H:=rfl
end
theorem y_andV:zmy ta tb σ H Q=ta σ H fun x H1=>yB x fun c=>if c=true then tb σ H1 Q else Q (.bl false) H1:=rfl
theorem y_notV:zn6 ta σ H Q=ta σ H fun x H1=>yB x fun c=>Q (.bl (!c)) H1:=rfl
theorem y_cb{r:List V->Hp->VK->Prop}:tCB r a σ H Q=a σ H fun vs H1=>r vs H1 Q:=rfl
theorem y_call{sp:Sp}{dvs:List V}{E:XK}:zng sp dvs E a σ H Q=a σ H fun vs H1=>sp (vs++dvs) H1 Q E:=rfl
section
variable{Q:List V->Hp->Prop}
theorem y_nil:tNil σ H Q=Q [] H:=rfl
theorem y_cons:zc7 te a σ H Q=te σ H fun x H1=>a σ H1 fun xs H2=>Q (x::xs) H2:=rfl
end
theorem y_tup:tTup a σ H Q=a σ H fun xs H1=>xs.length<=sizeLine/\∀p,H1 p=none->Q (.ref p) (upd H1 p (.tup xs)):=rfl
theorem y_lst:tLst a σ H Q=a σ H fun xs H1=>xs.length<=sizeLine/\∀p,H1 p=none->Q (.ref p) (upd H1 p (.lst xs)):=rfl
section
variable{Q:St->Hp->Prop}
theorem y_gnil:gNil [] σ H Q=Q σ H:=propext ⟨fun h=>h.2,fun h=>⟨rfl,h⟩⟩
theorem y_gcons:gCons g gs (v::l) σ H Q=g v σ H fun σ' H'=>gs l σ' H' Q:=propext ⟨fun⟨a,b,e,q⟩=>by cases e;exact q,fun q=>⟨_,_,rfl,q⟩⟩
theorem y_gtup{n:Nat}:gTupH n gs (.ref p) σ H Q=match H p with|some (.tup xs)=>(xs.length=n/\gs xs σ H Q)|_=>False:=by
 refine propext ⟨fun⟨a,xs,e,h,q⟩=>?_,fun q=>?_⟩
 ·cases e;rw[h];exact q
 ·split at q
  ·exact⟨_,_,rfl,‹_›,q⟩
  ·exact q.elim
end
theorem y_ixT:rIxTH (.ref p) (.int i) H Q=match H p with|some (.tup xs)=>yX xs i fun v=>Q v H|_=>False:=by
 refine propext ⟨fun⟨a,xs,k,v,e,f,h,g,q⟩=>?_,fun q=>?_⟩
 ·cases e;cases f;rw[h];exact⟨v,g,q⟩
 ·split at q
  ·obtain⟨v,g,q⟩:=q;exact⟨_,_,_,v,rfl,rfl,‹_›,g,q⟩
  ·exact q.elim
theorem y_ixL:rIxLH (.ref p) (.int i) H Q=match H p with|some (.lst xs)=>yX xs i fun v=>Q v H|_=>False:=by
 refine propext ⟨fun⟨a,xs,k,v,e,f,h,g,q⟩=>?_,fun q=>?_⟩
 ·cases e;cases f;rw[h];exact⟨v,g,q⟩
 ·split at q
  ·obtain⟨v,g,q⟩:=q;exact⟨_,_,_,v,rfl,rfl,‹_›,g,q⟩
  ·exact q.elim
theorem y_len:rLenH [.ref p] H Q=match H p with|some (.lst ys)=>Q (.int ys.length) H|some (.tup ys)=>Q (.int ys.length) H|_=>False:=by
 refine propext ⟨fun⟨a,xs,e,h,q⟩=>?_,fun q=>?_⟩
 ·cases e;rcases h with h|h<;>(rw[h];exact q)
 ·split at q
  ·exact⟨_,_,rfl,.inl ‹_›,q⟩
  ·exact⟨_,_,rfl,.inr ‹_›,q⟩
  ·exact q.elim
theorem y_slH{lo hi:Option Int}:rSlH (.ref p) lo hi H Q=match H p with|some (.lst xs)=>(∀q,H q=none->Q (.ref q) (upd H q (.lst (cutV xs lo hi))))|_=>False:=by
 refine propext ⟨fun⟨a,xs,e,h,q⟩=>?_,fun q=>?_⟩
 ·cases e;rw[h];exact q
 ·split at q
  ·exact⟨_,_,rfl,‹_›,q⟩
  ·exact q.elim
theorem y_isi{T:String}:rIsiF T [x,.ty T] H Q=match tyF H x with|some S=>Q (.bl (isiB S T)) H|none=>False:=by
 refine propext ⟨fun⟨a,S,e,h,q⟩=>?_,fun q=>?_⟩
 ·cases e;rw[h];exact q
 ·split at q
  ·exact⟨_,_,rfl,‹_›,q⟩
  ·exact q.elim
theorem y_intB:rIntB [.bl b] H Q=Q (.int (if b=true then 1 else 0)) H:=propext ⟨fun⟨k,e,q⟩=>by cases e;exact q,fun q=>⟨_,rfl,q⟩⟩
theorem y_append:rAppend (.ref p) [y] H Q=match H p with|some (.lst xs)=>(xs.length<sizeLine/\Q .non (upd H p (.lst (xs++[y]))))|_=>False:=by
 refine propext ⟨fun⟨a,xs,z,e,f,h,q⟩=>?_,fun q=>?_⟩
 ·cases e;cases f;rw[h];exact q
 ·split at q
  ·exact⟨_,_,_,rfl,rfl,‹_›,q⟩
  ·exact q.elim
theorem ym_tup{o:Option HO}{Q:List V->Prop}:(match o with|some (.tup xs)=>Q xs|_=>False)=∃xs,o=some (.tup xs)/\Q xs:=by
 refine propext ⟨fun q=>?_,fun⟨xs,e,q⟩=>by subst e;exact q⟩
 split at q
 ·exact⟨_,rfl,q⟩
 ·exact q.elim
theorem ym_lst{o:Option HO}{Q:List V->Prop}:(match o with|some (.lst xs)=>Q xs|_=>False)=∃xs,o=some (.lst xs)/\Q xs:=by
 refine propext ⟨fun q=>?_,fun⟨xs,e,q⟩=>by subst e;exact q⟩
 split at q
 ·exact⟨_,rfl,q⟩
 ·exact q.elim
theorem ym_two{o:Option HO}{Q:List V->Prop}:(match o with|some (.lst xs)=>Q xs|some (.tup xs)=>Q xs|_=>False)=∃xs,(o=some (.lst xs)∨o=some (.tup xs))/\Q xs:=by
 refine propext ⟨fun q=>?_,fun⟨xs,e,q⟩=>by rcases e with e|e<;>(subst e;exact q)⟩
 split at q
 ·exact⟨_,.inl rfl,q⟩
 ·exact⟨_,.inr rfl,q⟩
 ·exact q.elim
section
variable{Q:Option Int->Hp->Prop}
theorem y_nopart:zlp σ H Q=Q none H:=rfl
theorem y_part:tPart te σ H Q=te σ H fun x H1=>yI x fun i=>Q (some i) H1:=rfl
end
theorem y_sl{r:V->Option Int->Option Int->Hp->VK->Prop}{tl th:TO}:tSl r te tl th σ H Q=te σ H fun x H1=>tl σ H1 fun l H2=>th σ H2 fun u H3=>r x l u H3 Q:=rfl
theorem y_bm{K:PySem.W.Frag}{T:String}{r:V->List V->Hp->VK->Prop}:tBM K T r te a σ H Q=te σ H fun x H1=>tyV K T x H1/\a σ H1 fun xs H2=>r x xs H2 Q:=rfl
theorem y_v0:tVar 0 (some v::σ) H Q=Q v H:=propext ⟨fun⟨_,e,q⟩=>by cases e;exact q,fun q=>⟨v,rfl,q⟩⟩
theorem y_n0{a0:Option V}{Q:St->Hp->Prop}:gName 0 v (a0::σ) H Q=Q (some v::σ) H:=rfl
theorem y_v1{a0:Option V}:tVar 1 (a0::some v::σ) H Q=Q v H:=propext ⟨fun⟨_,e,q⟩=>by cases e;exact q,fun q=>⟨v,rfl,q⟩⟩
theorem y_n1{a0 a1:Option V}{Q:St->Hp->Prop}:gName 1 v (a0::a1::σ) H Q=Q (a0::some v::σ) H:=rfl
theorem y_v2{a0 a1:Option V}:tVar 2 (a0::a1::some v::σ) H Q=Q v H:=propext ⟨fun⟨_,e,q⟩=>by cases e;exact q,fun q=>⟨v,rfl,q⟩⟩
theorem y_n2{a0 a1 a2:Option V}{Q:St->Hp->Prop}:gName 2 v (a0::a1::a2::σ) H Q=Q (a0::a1::some v::σ) H:=rfl
theorem y_v3{a0 a1 a2:Option V}:tVar 3 (a0::a1::a2::some v::σ) H Q=Q v H:=propext ⟨fun⟨_,e,q⟩=>by cases e;exact q,fun q=>⟨v,rfl,q⟩⟩
theorem y_n3{a0 a1 a2 a3:Option V}{Q:St->Hp->Prop}:gName 3 v (a0::a1::a2::a3::σ) H Q=Q (a0::a1::a2::some v::σ) H:=rfl
theorem y_v4{a0 a1 a2 a3:Option V}:tVar 4 (a0::a1::a2::a3::some v::σ) H Q=Q v H:=propext ⟨fun⟨_,e,q⟩=>by cases e;exact q,fun q=>⟨v,rfl,q⟩⟩
theorem y_n4{a0 a1 a2 a3 a4:Option V}{Q:St->Hp->Prop}:gName 4 v (a0::a1::a2::a3::a4::σ) H Q=Q (a0::a1::a2::a3::some v::σ) H:=rfl
theorem y_v5{a0 a1 a2 a3 a4:Option V}:tVar 5 (a0::a1::a2::a3::a4::some v::σ) H Q=Q v H:=propext ⟨fun⟨_,e,q⟩=>by cases e;exact q,fun q=>⟨v,rfl,q⟩⟩
theorem y_n5{a0 a1 a2 a3 a4 a5:Option V}{Q:St->Hp->Prop}:gName 5 v (a0::a1::a2::a3::a4::a5::σ) H Q=Q (a0::a1::a2::a3::a4::some v::σ) H:=rfl
theorem y_v6{a0 a1 a2 a3 a4 a5:Option V}:tVar 6 (a0::a1::a2::a3::a4::a5::some v::σ) H Q=Q v H:=propext ⟨fun⟨_,e,q⟩=>by cases e;exact q,fun q=>⟨v,rfl,q⟩⟩
theorem y_n6{a0 a1 a2 a3 a4 a5 a6:Option V}{Q:St->Hp->Prop}:gName 6 v (a0::a1::a2::a3::a4::a5::a6::σ) H Q=Q (a0::a1::a2::a3::a4::a5::some v::σ) H:=rfl
theorem y_v7{a0 a1 a2 a3 a4 a5 a6:Option V}:tVar 7 (a0::a1::a2::a3::a4::a5::a6::some v::σ) H Q=Q v H:=propext ⟨fun⟨_,e,q⟩=>by cases e;exact q,fun q=>⟨v,rfl,q⟩⟩
theorem y_n7{a0 a1 a2 a3 a4 a5 a6 a7:Option V}{Q:St->Hp->Prop}:gName 7 v (a0::a1::a2::a3::a4::a5::a6::a7::σ) H Q=Q (a0::a1::a2::a3::a4::a5::a6::some v::σ) H:=rfl
theorem y_v8{a0 a1 a2 a3 a4 a5 a6 a7:Option V}:tVar 8 (a0::a1::a2::a3::a4::a5::a6::a7::some v::σ) H Q=Q v H:=propext ⟨fun⟨_,e,q⟩=>by cases e;exact q,fun q=>⟨v,rfl,q⟩⟩
theorem y_n8{a0 a1 a2 a3 a4 a5 a6 a7 a8:Option V}{Q:St->Hp->Prop}:gName 8 v (a0::a1::a2::a3::a4::a5::a6::a7::a8::σ) H Q=Q (a0::a1::a2::a3::a4::a5::a6::a7::some v::σ) H:=rfl
theorem y_v9{a0 a1 a2 a3 a4 a5 a6 a7 a8:Option V}:tVar 9 (a0::a1::a2::a3::a4::a5::a6::a7::a8::some v::σ) H Q=Q v H:=propext ⟨fun⟨_,e,q⟩=>by cases e;exact q,fun q=>⟨v,rfl,q⟩⟩
theorem y_n9{a0 a1 a2 a3 a4 a5 a6 a7 a8 a9:Option V}{Q:St->Hp->Prop}:gName 9 v (a0::a1::a2::a3::a4::a5::a6::a7::a8::a9::σ) H Q=Q (a0::a1::a2::a3::a4::a5::a6::a7::a8::some v::σ) H:=rfl
theorem y_n10{a0 a1 a2 a3 a4 a5 a6 a7 a8 a9 a10:Option V}{Q:St->Hp->Prop}:gName 10 v (a0::a1::a2::a3::a4::a5::a6::a7::a8::a9::a10::σ) H Q=Q (a0::a1::a2::a3::a4::a5::a6::a7::a8::a9::some v::σ) H:=rfl
theorem y_n11{a0 a1 a2 a3 a4 a5 a6 a7 a8 a9 a10 a11:Option V}{Q:St->Hp->Prop}:gName 11 v (a0::a1::a2::a3::a4::a5::a6::a7::a8::a9::a10::a11::σ) H Q=Q (a0::a1::a2::a3::a4::a5::a6::a7::a8::a9::a10::some v::σ) H:=rfl
theorem y_n12{a0 a1 a2 a3 a4 a5 a6 a7 a8 a9 a10 a11 a12:Option V}{Q:St->Hp->Prop}:gName 12 v (a0::a1::a2::a3::a4::a5::a6::a7::a8::a9::a10::a11::a12::σ) H Q=Q (a0::a1::a2::a3::a4::a5::a6::a7::a8::a9::a10::a11::some v::σ) H:=rfl
theorem y_n13{a0 a1 a2 a3 a4 a5 a6 a7 a8 a9 a10 a11 a12 a13:Option V}{Q:St->Hp->Prop}:gName 13 v (a0::a1::a2::a3::a4::a5::a6::a7::a8::a9::a10::a11::a12::a13::σ) H Q=Q (a0::a1::a2::a3::a4::a5::a6::a7::a8::a9::a10::a11::a12::some v::σ) H:=rfl
end
section
variable{K:PySem.W.Frag}{a l l1 l2:Addr}{xs ys:List V}{lo:Int}{n:Nat}{g:TG}{tb:TS}{D:Ends}{σ:St}{H:Hp}
theorem zc8(Pv:Nat->St->Hp->Prop)(h0:Pv 0 σ H)(hl:∀i σ H,i<=xs.length->Pv i σ H->SqL K H a xs)(hs:∀bk ct i x σ H,xs[i]?=some x->Pv i σ H->g x σ H fun σ2 H2=>tb {D with nx:=Pv (i+1),ct:=ct,bk:=bk} σ2 H2)(hd:∀σ H,Pv xs.length σ H->D.nx σ H):ForW (Itl K a) g tb D σ H:=for_list Pv h0 hl (fun i=>hs D.nx (Pv (i+1)) i) hd
theorem zf0(Pv:Nat->St->Hp->Prop)(h0:Pv 0 σ H)(hs:∀bk ct i σ H,i<n->Pv i σ H->g (.int (lo+i)) σ H fun σ2 H2=>tb {D with nx:=Pv (i+1),ct:=ct,bk:=bk} σ2 H2)(hd:∀σ H,Pv n σ H->D.nx σ H):ForW (Itr lo n) g tb D σ H:=zlb Pv h0 (fun i=>hs D.nx (Pv (i+1)) i) hd
theorem for_enuO(Pv:Nat->St->Hp->Prop)(h0:Pv 0 σ H)(hl:∀i σ H,Pv i σ H->H l=some (.lst xs))(hs:∀bk ct i x T σ H,xs[i]?=some x->Pv i σ H->H T=none->g (.ref T) σ (upd H T (.tup [.int (i:Int),x])) fun σ2 H2=>tb {D with nx:=Pv (i+1),ct:=ct,bk:=bk} σ2 H2)(hd:∀σ H,Pv xs.length σ H->D.nx σ H):ForW (Ite K l) g tb D σ H:=for_enu Pv h0 hl (fun i=>hs D.nx (Pv (i+1)) i) hd
end
end L2
namespace My
def G(a b:Int):Int:=(Int.gcd a b:Nat)
theorem G_nonneg(a b:Int):0<=G a b:=Int.natCast_nonneg _
theorem G_abs(a b:Int):G (if a<0 then-a else a) (if b<0 then-b else b)=G a b:=by
 unfold G
 split<;>split<;>simp[Int.gcd_neg,Int.neg_gcd]
theorem G_zero{a b:Int}(h:0<=a)(hb:b=0):a=G a b:=by
 subst hb;unfold G;rw[Int.gcd_zero_right];omega
theorem G_mod(a b:Int)(hb:0<b):G b (Int.fmod a b)=G a b:=by
 unfold G;rw[Int.fmod_eq_emod_of_nonneg a (Int.le_of_lt hb),Int.gcd_comm a b];have e:a%b+a/b*b=a:=by rw[Int.mul_comm];exact Int.emod_add_mul_ediv a b
 rw[←Int.gcd_add_mul_right_right b (a%b) (a/b),e]
theorem turn{c a b:Int}(h:G a b=c)(hb:0<b):0<=b/\0<=Int.fmod a b/\G b (Int.fmod a b)=c:=
 ⟨Int.le_of_lt hb,Int.fmod_nonneg_of_pos a hb,by rw[G_mod a b hb,h]⟩
theorem less{a b:Int}(hb:0<b):(Int.fmod a b).toNat<b.toNat:=by
 have h0:=Int.fmod_nonneg_of_pos a hb;have h1:=Int.fmod_lt_of_pos a hb;omega
end My
namespace My
theorem zb4{a b:Int}(h:b ∣ a):a.fdiv b*b=a:=by
 have e:=Int.fmod_add_mul_fdiv a b;have z:a.fmod b=0:=Int.fmod_eq_zero_of_dvd h;rw[z] at e;rw[Int.mul_comm];omega
theorem zcb{x f y:Int}(e:x*f=y)(hf:f≠0):x.natAbs<=y.natAbs:=by
 rw[←e,Int.natAbs_mul];exact Nat.le_mul_of_pos_right _ (by omega)
theorem zf1{x f y:Int}(e:x*f=y)(h:(0<f/\0<y)∨(f<0/\y<0)):0<x:=by
 rcases(by omega:0<x∨x=0∨x<0) with hx|hx|hx
 ·exact hx
 ·rw[hx,Int.zero_mul] at e;omega
 ·exfalso
  rcases h with⟨h1,h2⟩|⟨h1,h2⟩
  ·have:=Int.mul_neg_of_neg_of_pos hx h1;omega
  ·have:=Int.mul_pos_of_neg_of_neg hx h1;omega
theorem zcy{a b:Int}{m n:Nat}(h1:a.natAbs<2^m)(h2:b.natAbs<2^n):(a*b).natAbs<2^(m+n):=by
 rw[Int.natAbs_mul,Nat.pow_add];exact Nat.mul_lt_mul'' h1 h2
theorem add_lt{a b:Int}{m:Nat}(h1:a.natAbs<2^m)(h2:b.natAbs<2^m):(a+b).natAbs<2^(m+1):=by
 rw[Nat.pow_succ];omega
theorem zls{a b:Int}{m:Nat}(h1:a.natAbs<2^m)(h2:b.natAbs<2^m):(a-b).natAbs<2^(m+1):=by
 rw[Nat.pow_succ];omega
theorem zbm{a:Int}{m n:Nat}(h:a.natAbs<2^m)(hm:m<=n):a.natAbs<2^n:=Nat.lt_of_lt_of_le h (Nat.pow_le_pow_right (by decide) hm)
end My
namespace My
end My
namespace My
end My
namespace My
def g3(a b c:Int):Nat:=Nat.gcd (Nat.gcd a.natAbs b.natAbs) c.natAbs
theorem G_nat(a b:Int):(G a b).natAbs=Nat.gcd a.natAbs b.natAbs:=by unfold G;rw[Int.natAbs_natCast];rfl
theorem G3(a b c:Int):G (G a b) c=(g3 a b c:Int):=by
 have h:(G (G a b) c).natAbs=g3 a b c:=by rw[G_nat,G_nat];rfl
 have h0:=G_nonneg (G a b) c;omega
theorem zn9(a b c:Int):g3 c a b=g3 a b c:=by
 unfold g3;rw[Nat.gcd_assoc,Nat.gcd_comm]
theorem zlu(a b c f:Int):g3 (a*f) (b*f) (c*f)=g3 a b c*f.natAbs:=by
 unfold g3;rw[Int.natAbs_mul,Int.natAbs_mul,Int.natAbs_mul,Nat.gcd_mul_right,Nat.gcd_mul_right]
theorem zma{a b c:Int}(h:c≠0):0<g3 a b c:=by
 unfold g3;exact Nat.gcd_pos_of_pos_right _ (by omega)
theorem g3_da(a b c:Int):((g3 a b c:Nat):Int) ∣ a:=Int.ofNat_dvd_left.mpr (Nat.dvd_trans (Nat.gcd_dvd_left _ _) (Nat.gcd_dvd_left _ _))
theorem g3_db(a b c:Int):((g3 a b c:Nat):Int) ∣ b:=Int.ofNat_dvd_left.mpr (Nat.dvd_trans (Nat.gcd_dvd_left _ _) (Nat.gcd_dvd_right _ _))
theorem g3_dc(a b c:Int):((g3 a b c:Nat):Int) ∣ c:=Int.ofNat_dvd_left.mpr (Nat.gcd_dvd_right _ _)
structure Pt(n:Nat)(x y w:Int):Prop where
 pos:0<w
 one:g3 x y w=1
 lx:x.natAbs<2^n
 ly:y.natAbs<2^n
 lw:w.natAbs<2^n
theorem Pt.ne{n:Nat}{x y w:Int}(h:Pt n x y w):w≠0:=by have:=h.pos;omega
theorem Pt.mono{m n:Nat}{x y w:Int}(h:Pt m x y w)(hm:m<=n):Pt n x y w:=⟨h.pos,h.one,zbm h.lx hm,zbm h.ly hm,zbm h.lw hm⟩
theorem pt_of{n:Nat}{x y w f:Int}(hf:f.natAbs=g3 x y w)(hs:(0<f/\0<w)∨(f<0/\w<0))(lx:x.natAbs<2^n)(ly:y.natAbs<2^n)(lw:w.natAbs<2^n):Pt n (x.fdiv f) (y.fdiv f) (w.fdiv f):=by
 have hd:∀z:Int,((g3 x y w:Nat):Int) ∣ z->f ∣ z:=fun z h=>by
  rw[←hf] at h;exact Int.natAbs_dvd.mp h
 have ex:=zb4 (hd x (g3_da x y w));have ey:=zb4 (hd y (g3_db x y w));have ew:=zb4 (hd w (g3_dc x y w));have hw:w≠0:=by omega
 have fn:f≠0:=by omega
 refine⟨zf1 ew hs,?_,Nat.lt_of_le_of_lt (zcb ex fn) lx,Nat.lt_of_le_of_lt (zcb ey fn) ly,Nat.lt_of_le_of_lt (zcb ew fn) lw⟩;have e:=zlu (x.fdiv f) (y.fdiv f) (w.fdiv f) f;rw[ex,ey,ew,hf] at e;have hp:=zma (a:=x) (b:=y) hw;have e':1*g3 x y w=g3 (x.fdiv f) (y.fdiv f) (w.fdiv f)*g3 x y w:=by omega
 exact(Nat.eq_of_mul_eq_mul_right hp e').symm
def fac3(x y w:Int):Int:=if w<0 then-G (G w x) y else G (G w x) y
theorem zgm(x y w:Int):(fac3 x y w).natAbs=g3 x y w:=by
 unfold fac3;rw[G3,zn9]
 split<;>simp
theorem zfw{x y w:Int}(h:w≠0):(0<fac3 x y w/\0<w)∨(fac3 x y w<0/\w<0):=by
 unfold fac3;have hp:=zma (a:=x) (b:=y) h;rw[G3,zn9]
 split
 ·exact .inr ⟨by omega,by omega⟩
 ·exact .inl ⟨by omega,by omega⟩
theorem fac3_ne{x y w:Int}(h:w≠0):fac3 x y w≠0:=by rcases zfw (x:=x) (y:=y) h with z|z<;>omega
theorem zgs(x y w z:Int)(h:((g3 x y w:Nat):Int) ∣ z):fac3 x y w ∣ z:=by
 rw[←zgm] at h;exact Int.natAbs_dvd.mp h
theorem fac3_le{x y w:Int}(h:w≠0):(fac3 x y w).natAbs<=w.natAbs:=by
 rw[zgm];exact Nat.le_of_dvd (by omega) (Nat.gcd_dvd_right _ _)
def ptX(x y w:Int):Int:=x.fdiv (fac3 x y w)
def ptY(x y w:Int):Int:=y.fdiv (fac3 x y w)
def ptW(x y w:Int):Int:=w.fdiv (fac3 x y w)
theorem pt_mk{n:Nat}{x y w:Int}(h:w≠0)(lx:x.natAbs<2^n)(ly:y.natAbs<2^n)(lw:w.natAbs<2^n):Pt n (ptX x y w) (ptY x y w) (ptW x y w):=pt_of (zgm x y w) (zfw h) lx ly lw
theorem ptX_mul(x y w:Int):ptX x y w*fac3 x y w=x:=zb4 (zgs _ _ _ _ (g3_da x y w))
theorem ptY_mul(x y w:Int):ptY x y w*fac3 x y w=y:=zb4 (zgs _ _ _ _ (g3_db x y w))
theorem ptW_mul(x y w:Int):ptW x y w*fac3 x y w=w:=zb4 (zgs _ _ _ _ (g3_dc x y w))
end My
namespace My
theorem g3_gt{x y w:Int}(hw:0<w):0<G (G x y) w:=by
 rw[G3];have:=zma (a:=x) (b:=y) (c:=w) (by omega)
 omega
theorem g3_ne{x y w:Int}(hw:0<w):G (G x y) w≠0:=by have:=g3_gt (x:=x) (y:=y) hw;omega
theorem g3_abs(x y w:Int):(G (G x y) w).natAbs=g3 x y w:=by rw[G3];simp
theorem g3_lt{n:Nat}{x y w:Int}(hw:0<w)(lw:w.natAbs<2^n):(G (G x y) w).natAbs<2^n:=by
 rw[g3_abs];exact Nat.lt_of_le_of_lt (Nat.le_of_dvd (by omega) (Nat.gcd_dvd_right _ _)) lw
theorem g3_pt{n:Nat}{x y w:Int}(hw:0<w)(lx:x.natAbs<2^n)(ly:y.natAbs<2^n)(lw:w.natAbs<2^n):Pt n (x.fdiv (G (G x y) w)) (y.fdiv (G (G x y) w)) (w.fdiv (G (G x y) w)):=
 pt_of (g3_abs x y w) (.inl ⟨g3_gt hw,hw⟩) lx ly lw
end My
namespace My
end My
namespace My
def sgn(z:Int):Int:=if 0<z then 1 else if z<0 then-1 else 0
theorem sgn_pos{z:Int}(h:0<z):sgn z=1:=if_pos h
theorem sgn_neg{z:Int}(h:z<0):sgn z= -1:=by unfold sgn;rw[if_neg (by omega),if_pos h]
theorem zla(z:Int):(0<z/\sgn z=1)∨(z<0/\sgn z= -1)∨(z=0/\sgn z=0):=by
 rcases(by omega:0<z∨z<0∨z=0) with h|h|h
 ·exact .inl ⟨h,sgn_pos h⟩
 ·exact .inr (.inl ⟨h,sgn_neg h⟩)
 ·exact .inr (.inr ⟨h,by rw[h];rfl⟩)
def bef(x1 y1 w1 x2 y2 w2:Int):Bool:=if x1*w2=x2*w1 then decide (y1*w2<y2*w1) else decide (x1*w2<x2*w1)
theorem zir{a b c u v w:Int}(hu:0<u)(hv:0<v)(hw:0<w)(h1:a*v<=b*u)(h2:b*w<=c*v):a*w<=c*u/\((a*v<b*u∨b*w<c*v)->a*w<c*u):=by
 have e1:(a*v)*w<=(b*u)*w:=Int.mul_le_mul_of_nonneg_right h1 (Int.le_of_lt hw);have e2:(b*w)*u<=(c*v)*u:=Int.mul_le_mul_of_nonneg_right h2 (Int.le_of_lt hu);have i1:v*(a*w)=(a*v)*w:=by grind
 have i2:v*(c*u)=(c*v)*u:=by grind
 have i3:(b*u)*w=(b*w)*u:=by grind
 refine⟨Int.le_of_mul_le_mul_left (by omega) hv,fun h=>Int.lt_of_mul_lt_mul_left (a:=v) ?_ (Int.le_of_lt hv)⟩
 rcases h with h|h
 ·have:=Int.mul_lt_mul_of_pos_right h hw;omega
 ·have:=Int.mul_lt_mul_of_pos_right h hu;omega
theorem bef_irr(x y w:Int):bef x y w x y w=false:=by
 unfold bef;rw[if_pos rfl];exact decide_eq_false (by omega)
theorem zen{x1 y1 w1 x2 y2 w2:Int}:bef x1 y1 w1 x2 y2 w2=true↔(x1*w2<x2*w1∨(x1*w2=x2*w1/\y1*w2<y2*w1)):=by
 unfold bef
 split
 ·rename_i h
  rw[decide_eq_true_iff];omega
 ·rename_i h
  rw[decide_eq_true_iff];omega
theorem zl1{x1 y1 w1 x2 y2 w2:Int}:bef x1 y1 w1 x2 y2 w2=false↔(x2*w1<x1*w2∨(x1*w2=x2*w1/\y2*w1<=y1*w2)):=by
 rw[←Bool.not_eq_true,zen];omega
theorem zlf{x1 y1 w1 x2 y2 w2 x3 y3 w3:Int}(h1:0<w1)(h2:0<w2)(h3:0<w3)(a:bef x1 y1 w1 x2 y2 w2=true)(b:bef x2 y2 w2 x3 y3 w3=true):bef x1 y1 w1 x3 y3 w3=true:=by
 rw[zen] at a b⊢;have X:=zir (a:=x1) (b:=x2) (c:=x3) h1 h2 h3 (by omega) (by omega)
 rcases a with a|⟨a,a'⟩
 ·exact .inl (X.2 (.inl a))
 ·rcases b with b|⟨b,b'⟩
  ·exact .inl (X.2 (.inr b))
  ·have X':=zir (a:=x3) (b:=x2) (c:=x1) h3 h2 h1 (by omega) (by omega)
   have Y:=zir (a:=y1) (b:=y2) (c:=y3) h1 h2 h3 (by omega) (by omega)
   exact .inr ⟨Int.le_antisymm X.1 X'.1,Y.2 (.inl a')⟩
theorem pt_uniq{n:Nat}{x1 y1 w1 x2 y2 w2:Int}(p:Pt n x1 y1 w1)(q:Pt n x2 y2 w2)(ex:x1*w2=x2*w1)(ey:y1*w2=y2*w1):x1=x2/\y1=y2/\w1=w2:=by
 have a:=zlu x1 y1 w1 w2;have b:=zlu x2 y2 w2 w1;rw[p.one,Nat.one_mul] at a;rw[q.one,Nat.one_mul] at b;rw[ex,ey,Int.mul_comm w1 w2] at a;have hw:w1=w2:=by
  have:=p.pos;have:=q.pos;omega
 subst hw;exact⟨Int.eq_of_mul_eq_mul_right p.ne ex,Int.eq_of_mul_eq_mul_right p.ne ey,rfl⟩
theorem bef_tri{n:Nat}{x1 y1 w1 x2 y2 w2:Int}(p:Pt n x1 y1 w1)(q:Pt n x2 y2 w2)(h:bef x1 y1 w1 x2 y2 w2=bef x2 y2 w2 x1 y1 w1):x1=x2/\y1=y2/\w1=w2:=by
 cases e:bef x1 y1 w1 x2 y2 w2 with
 |true=>
  have e':=h.symm.trans e;rw[zen] at e e';omega
 |false=>
  have e':=h.symm.trans e;rw[zl1] at e e';exact pt_uniq p q (by omega) (by omega)
def lnA(x1 y1 w1 x2 y2 w2:Int):Int:=y1*w2-w1*y2
def lnB(x1 y1 w1 x2 y2 w2:Int):Int:=w1*x2-x1*w2
def lnC(x1 y1 w1 x2 y2 w2:Int):Int:=x1*y2-y1*x2
def det3(x1 y1 w1 x2 y2 w2 x3 y3 w3:Int):Int:=lnA x1 y1 w1 x2 y2 w2*x3+lnB x1 y1 w1 x2 y2 w2*y3+lnC x1 y1 w1 x2 y2 w2*w3
end My
namespace My
end My
namespace My
structure S6 where
 x1:Int
 y1:Int
 w1:Int
 x2:Int
 y2:Int
 w2:Int
def zje(d:S6)(x w:Int):Bool:=if x*d.w1<d.x1*w then false else decide (x*d.w2<d.x2*w)
def abv(x y w:Int)(d:S6):Bool:=zje d x w&&decide (det3 d.x1 d.y1 d.w1 d.x2 d.y2 d.w2 x y w<0)
def cntAb(ds:List S6)(x y w:Int):Nat:=(ds.filter (abv x y w)).length
theorem cnt_take{ds:List S6}{i:Nat}{d:S6}(x y w:Int)(h:ds[i]?=some d):cntAb (ds.take (i+1)) x y w=cntAb (ds.take i) x y w+if abv x y w d=true then 1 else 0:=by
 unfold cntAb;rw[List.take_add_one,h,List.filter_append,List.length_append]
 cases e:abv x y w d<;>simp[e]
theorem cnt_snoc(ds:List S6)(d:S6)(x y w:Int):cntAb (ds++[d]) x y w=cntAb ds x y w+if abv x y w d=true then 1 else 0:=by
 unfold cntAb;rw[List.filter_append,List.length_append]
 cases e:abv x y w d<;>simp[e]
theorem sgn_lt{l:Int}:sgn l<0↔l<0:=by
 rcases zla l with⟨h,e⟩|⟨h,e⟩|⟨h,e⟩<;>rw[e]<;>omega
end My
namespace My
theorem abv_iff{x y w:Int}{d:S6}:abv x y w d=true↔(¬x*d.w1<d.x1*w/\x*d.w2<d.x2*w/\det3 d.x1 d.y1 d.w1 d.x2 d.y2 d.w2 x y w<0):=by
 unfold abv zje
 by_cases h:x*d.w1<d.x1*w
 ·rw[if_pos h]
  simp[h]
 ·rw[if_neg h]
  simp[h]
end My
namespace My
theorem G_fmod(x y:Int):G y (x.fmod y)=G x y:=by
 unfold G;rw[Int.gcd_comm x y];have e:x.fmod y+x.fdiv y*y=x:=by rw[Int.mul_comm];exact Int.fmod_add_mul_fdiv x y
 rw[←Int.gcd_add_mul_right_right y (x.fmod y) (x.fdiv y),e]
theorem zke{x y:Int}(h:y≠0):(x.fmod y).natAbs<y.natAbs:=by
 have h0:=Int.emod_nonneg x h;have h1:=Int.emod_lt x h;rw[Int.fmod_eq_emod]
 split
 ·omega
 ·rename_i c
  have hn:x%y≠0:=fun z=>c (.inr (Int.dvd_of_emod_eq_zero z));have hy:¬0<=y:=fun z=>c (.inl z);omega
theorem G_end(x:Int):(if x<0 then-x else x)=G x 0:=by
 unfold G;rw[Int.gcd_zero_right]
 split<;>omega
end My
namespace My
structure Q3 where
 x:Int
 y:Int
 w:Int
deriving DecidableEq
def dt(a b c:Q3):Int:=det3 a.x a.y a.w b.x b.y b.w c.x c.y c.w
theorem sc{s A B C u v w:Int}(e:A*u=B*v+C*w):A*(s*u)=B*(s*v)+C*(s*w):=by
 have:A*(s*u)=s*(A*u):=by grind
 rw[this,e]
 grind
end My
namespace My
structure Ring(os F:List Q3):Prop where
 edge:∀k a b,k<F.length->F[(k+F.length-1)%F.length]?=some a->F[k]?=some b->∀q,q∈os->0<=dt a b q
 tri:∀k a b c,k<F.length->F[(k+F.length-1)%F.length]?=some a->F[k]?=some b->F[(k+1)%F.length]?=some c->0<dt a b c
theorem fl_lt{a b c d G:Int}(hb:0<b)(hd:0<d)(h:a*d<c*b)(hG:b*d<=G):a*G/b<c*G/d:=by
 have g0:0<=G:=Int.le_trans (Int.le_of_lt (Int.mul_pos hb hd)) hG;have h0:a*G/b*b<=a*G:=Int.ediv_mul_le _ (by omega)
 have h1:=Int.mul_le_mul_of_nonneg_right h0 (Int.le_of_lt hd);have h2:G*(a*d+1)<=G*(c*b):=Int.mul_le_mul_of_nonneg_left (by omega) g0
 refine Int.lt_of_lt_of_le (Int.lt_succ _) (Int.le_ediv_of_mul_le hd (Int.le_of_mul_le_mul_right ?_ hb));generalize a*G/b=A at*
 calc (A+1)*d*b=A*b*d+b*d:=by grind
  _<=a*G*d+G:=Int.add_le_add h1 hG
  _=G*(a*d+1):=by grind
  _<=G*(c*b):=h2
  _=c*G*b:=by grind
theorem fl_eq{a b c d G:Int}(hb:0<b)(hd:0<d)(h:a*d=c*b):a*G/b=c*G/d:=by
 have e1:a*G/b=(a*G*d)/(b*d):=(Int.mul_ediv_mul_of_pos_left (a*G) b hd).symm;have e2:c*G/d=(c*G*b)/(d*b):=(Int.mul_ediv_mul_of_pos_left (c*G) d hb).symm;rw[e1,e2,Int.mul_comm d b]
 congr 1
 have:a*G*d=G*(a*d):=by grind
 rw[this,h]
 grind
def bq(a b:Q3):Bool:=bef a.x a.y a.w b.x b.y b.w
def PQ(n:Nat)(a:Q3):Prop:=Pt n a.x a.y a.w
theorem pq_tri{n:Nat}{a b:Q3}(ha:PQ n a)(hb:PQ n b)(h1:bq a b=false)(h2:bq b a=false):a=b:=by
 obtain⟨e1,e2,e3⟩:=bef_tri ha hb (h1.trans h2.symm);obtain⟨x,y,w⟩:=a;obtain⟨x',y',w'⟩:=b
 simp only at e1 e2 e3
 rw[e1,e2,e3]
def kyQ(g:Int)(r:Q3):Int×Int:=(r.x*(g*g)/r.w,r.y*(g*g)/r.w)
theorem ky_lt{a b:Q3}{g:Int}(ha:0<a.w)(hb:0<b.w)(ga:a.w<=g)(gb:b.w<=g)(h:bq a b=true):L2.lt2 (kyQ g a) (kyQ g b)=true:=by
 have hG:a.w*b.w<=g*g:=Int.mul_le_mul ga gb (Int.le_of_lt hb) (Int.le_trans (Int.le_of_lt ha) ga);unfold bq at h;rw[zen] at h;unfold L2.lt2 L2.lexB kyQ;rcases h with h|⟨h,h'⟩
 ·have:=fl_lt ha hb h hG;rw[if_neg (by omega)]
  exact decide_eq_true this
 ·rw[if_pos (fl_eq ha hb h)];exact decide_eq_true (fl_lt ha hb h' hG)
end My
namespace Mine
open PySem L2 My
local macro_rules
  | `(tactic| simp! [$xs,*]) => do let f := fun (s : String) => (s.splitOn " ").toArray.map fun x => Lean.mkIdent x.toName; let p := f "y_next y_seq y_ret y_ifS y_asg y_drop y_par y_c y_op y_un y_rI y_rI0 y_rU y_eq y_ne y_test y_B y_not y_and y_or y_yes y_andV y_notV y_cb y_call y_nil y_cons y_tup y_lst y_gnil y_gcons y_gtup y_ixT y_ixL y_len y_slH y_isi y_intB y_append y_nopart y_part y_sl y_bm yB_bl yI_int yTw_two yX_0 yX_1 yX_2 y_v0 y_v1 y_v2 y_v3 y_v4 y_v5 y_v6 y_v7 y_v8 y_v9 y_n0 y_n1 y_n2 y_n3 y_n4 y_n5 y_n6 y_n7 y_n8 y_n9 y_n10 y_n11 y_n12 y_n13"; let q := f "yB yI yTw yX yJ ym_tup ym_lst ym_two gName tVar rI rI0 rU rEq rNe gTup gCons gNil L2.start rIsi rIxT rIxL cx_K tyN_non tyN_bl tyN_int tyN_str isi_ii isi_ib scal_ii scal_bb sz0 sz1 sz2 sz3 sz4 List.map_cons List.map_nil List.length_cons List.length_nil List.replicate List.cons_append List.nil_append List.append_nil List.getElem?_cons_zero List.getElem?_cons_succ List.set_cons_zero List.set_cons_succ Option.some.injEq V.int.injEq V.bl.injEq V.ref.injEq V.ty.injEq List.cons.injEq and_true true_and exists_eq_left exists_eq_left' exists_and_left exists_and_right exists_eq exists_eq' and_assoc Nat.reduceAdd Nat.reduceSub Bool.not_true Bool.not_false Bool.false_eq_true if_true if_false reduceIte Nat.zero_add decide_true decide_false selC comp_K Option.join_some rIxTH rIxLH rLenH rIsiF at0 at1 at2 HO.tup.injEq HO.lst.injEq reduceCtorEq false_or or_false tyF_non tyF_bl tyF_int tyF_str exists_const Int.reduceAdd Int.reduceMul Int.reduceSub rSlH upd_same upd_upd rIntB rAppend gTupH"; `(tactic| simp only [$[↓$p:term],*, $[$q:term],*, $xs,*])
local macro_rules
  | `(tactic| dsimp! [$xs,*]) => `(tactic| simp only [List.map_cons, List.map_nil, List.length_cons, List.length_nil, List.replicate, List.cons_append, List.nil_append, Nat.reduceAdd, Nat.reduceSub, Nat.zero_add, $xs,*])
def top(i:Nat):Stmt:=PySem.Challenge.pw_acre_k46_many_wedges.main.body.getD i (.Pass ⟨0,0,0,0⟩)
abbrev zaw:Stmt:=top 5
theorem zif:zaa ["thing"] ["thing"] (za0 zaw):=⟨rfl,rfl,rfl,by decide+kernel,rfl,by decide+kernel,by decide+kernel⟩
abbrev zbw:Stmt:=top 6
theorem zcn:zaa ["one","other","great","small","rest"] ["one","other"] (za0 zbw):=⟨rfl,rfl,rfl,by decide+kernel,rfl,by decide+kernel,by decide+kernel⟩
abbrev zdb:Stmt:=top 8
theorem zgk:zaa ["x","y","w","factor"] ["x","y","w"] (za0 zdb):=⟨rfl,rfl,rfl,by decide+kernel,rfl,by decide+kernel,by decide+kernel⟩
abbrev zck:Stmt:=top 9
theorem zfo:zaa ["P","Q","left","right"] ["P","Q"] (za0 zck):=⟨rfl,rfl,rfl,by decide+kernel,rfl,by decide+kernel,by decide+kernel⟩
abbrev zby:Stmt:=top 10
theorem zkb:zaa ["number"] ["number"] (za0 zby):=⟨rfl,rfl,rfl,by decide+kernel,rfl,by decide+kernel,by decide+kernel⟩
abbrev zbt:Stmt:=top 11
theorem zka:zaa ["P","Q"] ["P","Q"] (za0 zbt):=⟨rfl,rfl,rfl,by decide+kernel,rfl,by decide+kernel,by decide+kernel⟩
abbrev zc0:Stmt:=top 12
theorem zku:zaa ["line","P"] ["line","P"] (za0 zc0):=⟨rfl,rfl,rfl,by decide+kernel,rfl,by decide+kernel,by decide+kernel⟩
abbrev zeu:Stmt:=top 13
theorem sc_turn:zaa ["P","Q","R"] ["P","Q","R"] (za0 zeu):=⟨rfl,rfl,rfl,by decide+kernel,rfl,by decide+kernel,by decide+kernel⟩
abbrev zek:Stmt:=top 14
theorem sc_amid:zaa ["P","Q"] ["P","Q"] (za0 zek):=⟨rfl,rfl,rfl,by decide+kernel,rfl,by decide+kernel,by decide+kernel⟩
abbrev zas:Stmt:=top 15
theorem zc1:zaa ["points","greatest","scale","keys","P"] ["points"] (za0 zas):=⟨rfl,rfl,rfl,by decide+kernel,rfl,by decide+kernel,by decide+kernel⟩
abbrev zah:Stmt:=top 16
theorem zcv:zaa ["things","points","thing","keys"] ["things"] (za0 zah):=⟨rfl,rfl,rfl,by decide+kernel,rfl,by decide+kernel,by decide+kernel⟩
abbrev zbc:Stmt:=top 18
theorem zcu:zaa ["land","leaving","gone","rings","fence"] ["land"] (za0 zbc):=⟨rfl,rfl,rfl,by decide+kernel,rfl,by decide+kernel,by decide+kernel⟩
abbrev zay:Stmt:=top 19
theorem zcl:zaa ["land","leaving","P","Q"] ["land"] (za0 zay):=⟨rfl,rfl,rfl,by decide+kernel,rfl,by decide+kernel,by decide+kernel⟩
abbrev zb8:Stmt:=top 20
theorem zar:zaa ["start","leaving","gone","rings","way","places","fence","P","ring","Q"] ["start","leaving","gone"] (za0 zb8):=⟨rfl,rfl,rfl,by decide+kernel,rfl,by decide+kernel,by decide+kernel⟩
abbrev zan:Stmt:=top 21
theorem zc5:zaa ["P","Q","tips","best","tip"] ["P","Q","tips"] (za0 zan):=⟨rfl,rfl,rfl,by decide+kernel,rfl,by decide+kernel,by decide+kernel⟩
abbrev zai:Stmt:=top 22
theorem zcd:zaa ["P","Q","one","other","side","other_side"] ["P","Q","one","other"] (za0 zai):=⟨rfl,rfl,rfl,by decide+kernel,rfl,by decide+kernel,by decide+kernel⟩
abbrev zax:Stmt:=top 23
theorem zcj:zaa ["ring","least","k"] ["ring"] (za0 zax):=⟨rfl,rfl,rfl,by decide+kernel,rfl,by decide+kernel,by decide+kernel⟩
abbrev zbv:Stmt:=top 25
theorem zk9:zaa ["P","Q"] ["P","Q"] (za0 zbv):=⟨rfl,rfl,rfl,by decide+kernel,rfl,by decide+kernel,by decide+kernel⟩
abbrev zd0:Stmt:=top 27
theorem sc_above:zaa ["stretches","P"] ["stretches","P"] (za0 zd0):=⟨rfl,rfl,rfl,by decide+kernel,rfl,by decide+kernel,by decide+kernel⟩
abbrev zd8:Stmt:=top 28
theorem sc_spans:zaa ["S","P"] ["S","P"] (za0 zd8):=⟨rfl,rfl,rfl,by decide+kernel,rfl,by decide+kernel,by decide+kernel⟩
abbrev zbl:Stmt:=top 30
theorem zcp:zaa ["rings","sides","ring","P","Q"] ["rings"] (za0 zbl):=⟨rfl,rfl,rfl,by decide+kernel,rfl,by decide+kernel,by decide+kernel⟩
abbrev zbk:Stmt:=top 32
theorem ziu:zaa ["sides","P"] ["sides","P"] (za0 zbk):=⟨rfl,rfl,rfl,by decide+kernel,rfl,by decide+kernel,by decide+kernel⟩
abbrev zcz:Stmt:=top 33
theorem ze4:zaa ["some","sides","middles","holders","number","middle","others"] ["some"] (za0 zcz):=⟨rfl,rfl,rfl,by decide+kernel,rfl,by decide+kernel,by decide+kernel⟩
abbrev zb6:Stmt:=top 34
theorem zf9:zaa ["row","holders","number"] ["row","holders"] (za0 zb6):=⟨rfl,rfl,rfl,by decide+kernel,rfl,by decide+kernel,by decide+kernel⟩
abbrev zbj:Stmt:=top 36
theorem zea:zaa ["_law_script","_law_k","_law_number"] ["_law_script","_law_k"] (za0 zbj):=⟨rfl,rfl,rfl,by decide+kernel,rfl,by decide+kernel,by decide+kernel⟩
abbrev zam:Stmt:=top 37
theorem ze0:zaa ["_law_one","_law_other"] ["_law_one","_law_other"] (za0 zam):=⟨rfl,rfl,rfl,by decide+kernel,rfl,by decide+kernel,by decide+kernel⟩
abbrev zb7:Stmt:=top 38
theorem zf4:zaa ["_law_east","_law_north","_law_share","_law_many"] ["_law_east","_law_north","_law_share"] (za0 zb7):=⟨rfl,rfl,rfl,by decide+kernel,rfl,by decide+kernel,by decide+kernel⟩
abbrev zba:Stmt:=top 39
theorem zb1:zaa ["_law_script","_law_cell_here","_law_p","_law_q","_law_r","_law_far","_law_share"] ["_law_script"] (za0 zba):=⟨rfl,rfl,rfl,by decide+kernel,rfl,by decide+kernel,by decide+kernel⟩
abbrev zb5:Stmt:=top 40
theorem zfb:zaa ["_law_place","_law_frame_here","_law_east"] ["_law_place","_law_frame_here"] (za0 zb5):=⟨rfl,rfl,rfl,by decide+kernel,rfl,by decide+kernel,by decide+kernel⟩
abbrev zbd:Stmt:=top 41
theorem ziw:zaa ["_law_ways","_law_share"] ["_law_ways","_law_share"] (za0 zbd):=⟨rfl,rfl,rfl,by decide+kernel,rfl,by decide+kernel,by decide+kernel⟩
abbrev zak:Stmt:=top 42
theorem zaj:zaa ["_law_script","_law_high","_law_x","_law_found","_law_k","_law_ends","_law_j"] ["_law_script"] (za0 zak):=⟨rfl,rfl,rfl,by decide+kernel,rfl,by decide+kernel,by decide+kernel⟩
abbrev zdn:Stmt:=top 43
theorem zdd:zaa ["_law_script","_law_frame_here","_law_some","_law_ways","_law_due","_law_ring","_law_at","_law_land","_law_found","_law_other"] ["_law_script"] (za0 zdn):=⟨rfl,rfl,rfl,by decide+kernel,rfl,by decide+kernel,by decide+kernel⟩
structure FnAt(K:PySem.W.Frag)(mg:Str->Option Value)(x:Str)(st:Stmt)(ps:List Str)(f:Addr)(fd:FuncData):Prop where
 fn:Fun K x x st f fd
 bn:Binds K fd ps []
 mg:mg x=some (.ref f)
structure Txt(K:PySem.W.Frag)(mg:Str->Option Value)(ad:Nat->Addr)(fd:Nat->FuncData):Prop where
 is_whole:FnAt K mg "is_whole" zaw ["thing"] (ad 0) (fd 0)
 divisor:FnAt K mg "divisor" zbw ["one","other"] (ad 1) (fd 1)
 point:FnAt K mg "point" zdb ["x","y","w"] (ad 2) (fd 2)
 before:FnAt K mg "before" zck ["P","Q"] (ad 3) (fd 3)
 sign_of:FnAt K mg "sign_of" zby ["number"] (ad 4) (fd 4)
 line_of:FnAt K mg "line_of" zbt ["P","Q"] (ad 5) (fd 5)
 side_of:FnAt K mg "side_of" zc0 ["line","P"] (ad 6) (fd 6)
 turn:FnAt K mg "turn" zeu ["P","Q","R"] (ad 7) (fd 7)
 amid:FnAt K mg "amid" zek ["P","Q"] (ad 8) (fd 8)
 order_keys:FnAt K mg "order_keys" zas ["points"] (ad 9) (fd 9)
 by_points:FnAt K mg "by_points" zah ["things"] (ad 10) (fd 10)
 by_points_c:FunC K "by_points" "by_points" zah (ad 10) (fd 10) (ad 32) (ad 33)
 rings_of:FnAt K mg "rings_of" zbc ["land"] (ad 11) (fd 11)
 leaving_of:FnAt K mg "leaving_of" zay ["land"] (ad 12) (fd 12)
 way_round:FnAt K mg "way_round" zb8 ["start","leaving","gone"] (ad 13) (fd 13)
 first_right:FnAt K mg "first_right" zan ["P","Q","tips"] (ad 14) (fd 14)
 is_met_sooner:FnAt K mg "is_met_sooner" zai ["P","Q","one","other"] (ad 15) (fd 15)
 from_least:FnAt K mg "from_least" zax ["ring"] (ad 16) (fd 16)
 stretch:FnAt K mg "stretch" zbv ["P","Q"] (ad 17) (fd 17)
 above:FnAt K mg "above" zd0 ["stretches","P"] (ad 18) (fd 18)
 spans:FnAt K mg "spans" zd8 ["S","P"] (ad 19) (fd 19)
 sides_of:FnAt K mg "sides_of" zbl ["rings"] (ad 20) (fd 20)
 is_round:FnAt K mg "is_round" zbk ["sides","P"] (ad 21) (fd 21)
 nest:FnAt K mg "nest" zcz ["some"] (ad 22) (fd 22)
 innermost:FnAt K mg "innermost" zb6 ["row","holders"] (ad 23) (fd 23)
 law_cell:FnAt K mg "_law_cell" zbj ["_law_script","_law_k"] (ad 24) (fd 24)
 law_divisor:FnAt K mg "_law_divisor" zam ["_law_one","_law_other"] (ad 25) (fd 25)
 law_point:FnAt K mg "_law_point" zb7 ["_law_east","_law_north","_law_share"] (ad 26) (fd 26)
 law_frame:FnAt K mg "_law_frame" zba ["_law_script"] (ad 27) (fd 27)
 law_moved:FnAt K mg "_law_moved" zb5 ["_law_place","_law_frame_here"] (ad 28) (fd 28)
 law_told:FnAt K mg "_law_told" zbd ["_law_ways","_law_share"] (ad 29) (fd 29)
 law_spindles:FnAt K mg "_law_spindles" zak ["_law_script"] (ad 30) (fd 30)
 law:FnAt K mg "law" zdn ["_law_script"] (ad 31) (fd 31)
 b_abs:mg "abs"=none
 b_all:mg "all"=none
 b_bool:mg "bool"=none
 b_enumerate:mg "enumerate"=none
 b_int:mg "int"=none
 b_isinstance:mg "isinstance"=none
 b_len:mg "len"=none
 b_list:mg "list"=none
 b_max:mg "max"=none
 b_min:mg "min"=none
 b_range:mg "range"=none
 b_sorted:mg "sorted"=none
 b_zip:mg "zip"=none
def zji:Sp:=fun vs H Q _=>∃i:Int,vs=[.int i]/\Q (.bl true) H
def zdx:Sp:=fun vs H Q _=>∃a b:Int,vs=[.int a,.int b]/\Q (.int (G a b)) H
def zk6(a b:Int)(H₀:Hp):St->Hp->Prop:=fun σ H'=>H'=H₀/\∃(x y:Int)(r:Option V),σ=[some (.int a),some (.int b),some (.int x),some (.int y),r]/\0<=x/\0<=y/\G x y=G a b
def Bd3(n:Nat)(a b c:Int):Prop:=a.natAbs<2^n/\b.natAbs<2^n/\c.natAbs<2^n
def TB(n:Nat)(H:Hp)(p:Addr)(x y w:Int):Prop:=H p=some (.tup [.int x,.int y,.int w])/\Bd3 n x y w
theorem TB.same{n:Nat}{H H':Hp}{p:Addr}{x y w:Int}(h:TB n H p x y w)(g:Same H H'):TB n H' p x y w:=⟨g _ _ h.1,h.2⟩
theorem Bd3.mono{m n:Nat}{x y w:Int}(h:Bd3 m x y w)(hm:m<=n):Bd3 n x y w:=⟨zbm h.1 hm,zbm h.2.1 hm,zbm h.2.2 hm⟩
theorem TB.mono{m n:Nat}{H:Hp}{p:Addr}{x y w:Int}(h:TB m H p x y w)(hm:m<=n:=by decide):TB n H p x y w:=⟨h.1,h.2.mono hm⟩
theorem Pt.bd{m n:Nat}{x y w:Int}(h:Pt m x y w)(hm:m<=n:=by decide):Bd3 n x y w:=⟨zbm h.lx hm,zbm h.ly hm,zbm h.lw hm⟩
def zhu:Sp:=fun vs H Q _=>∃a b w:Int,vs=[.int a,.int b,.int w]/\w≠0/\w.natAbs<2^8000/\∀p H',Same H H'->H' p=some (.tup [.int (ptX a b w),.int (ptY a b w),.int (ptW a b w)])->Q (.ref p) H'
def znn:Sp:=fun vs H Q _=>∃(p q:Addr)(x1 y1 w1 x2 y2 w2:Int),vs=[.ref p,.ref q]/\TB 1000 H p x1 y1 w1/\TB 1000 H q x2 y2 w2/\Q (.bl (bef x1 y1 w1 x2 y2 w2)) H
def sp_amid:Sp:=fun vs H Q _=>∃(p q:Addr)(x1 y1 w1 x2 y2 w2:Int),vs=[.ref p,.ref q]/\TB 1000 H p x1 y1 w1/\TB 1000 H q x2 y2 w2/\w1≠0/\w2≠0/\∀(r:Addr)(H':Hp),Same H H'->
 H' r=some (.tup [.int (ptX (x1*w2+x2*w1) (y1*w2+y2*w1) (2*w1*w2)),.int (ptY (x1*w2+x2*w1) (y1*w2+y2*w1) (2*w1*w2)),.int (ptW (x1*w2+x2*w1) (y1*w2+y2*w1) (2*w1*w2))])->Q (.ref r) H'
def zlw:Sp:=fun vs H Q _=>∃z:Int,vs=[.int z]/\Q (.int (sgn z)) H
def zlo:Sp:=fun vs H Q _=>∃(p q:Addr)(x1 y1 w1 x2 y2 w2:Int),vs=[.ref p,.ref q]/\TB 1000 H p x1 y1 w1/\TB 1000 H q x2 y2 w2/\∀(r:Addr)(H':Hp),Same H H'->
 H' r=some (.tup [.int (lnA x1 y1 w1 x2 y2 w2),.int (lnB x1 y1 w1 x2 y2 w2),.int (lnC x1 y1 w1 x2 y2 w2)])->Q (.ref r) H'
theorem ln_bd{x1 y1 w1 x2 y2 w2:Int}(p:Bd3 1000 x1 y1 w1)(q:Bd3 1000 x2 y2 w2):Bd3 2001 (lnA x1 y1 w1 x2 y2 w2) (lnB x1 y1 w1 x2 y2 w2) (lnC x1 y1 w1 x2 y2 w2):=
 ⟨zls (zcy p.2.1 q.2.2) (zcy p.2.2 q.2.1),zls (zcy p.2.2 q.1) (zcy p.1 q.2.2),zls (zcy p.1 q.2.1) (zcy p.2.1 q.1)⟩
def zli:Sp:=fun vs H Q _=>∃(l p:Addr)(a b c x y w:Int),vs=[.ref l,.ref p]/\H l=some (.tup [.int a,.int b,.int c])/\Bd3 2001 a b c/\H p=some (.tup [.int x,.int y,.int w])/\Bd3 5000 x y w/\Q (.int (sgn (a*x+b*y+c*w))) H
def sp_turn:Sp:=fun vs H Q _=>∃(p q r:Addr)(x1 y1 w1 x2 y2 w2 x3 y3 w3:Int),vs=[.ref p,.ref q,.ref r]/\TB 1000 H p x1 y1 w1/\TB 1000 H q x2 y2 w2/\TB 5000 H r x3 y3 w3/\∀H',Same H H'->Q (.int (sgn (det3 x1 y1 w1 x2 y2 w2 x3 y3 w3))) H'
def zav(H H':Hp):Prop:=∀b xs,H b=some (.tup xs)->H' b=some (.tup xs)
theorem zae{H H':Hp}(g:Same H H'):zav H H':=fun b xs h=>g b _ h
theorem zcg{H:Hp}{D:Addr}{ys:List V}{o:HO}(h:H D=some (.lst ys)):zav H (upd H D o):=fun b xs q=>by
 rw[za7 (ne_of q h (by intro z;cases z))]
 exact q
def StV(H:Hp)(p:Addr)(d:S6):Prop:=∃a b,H p=some (.tup [.ref a,.ref b])/\TB 1000 H a d.x1 d.y1 d.w1/\TB 1000 H b d.x2 d.y2 d.w2
theorem TB.ts{n:Nat}{H H':Hp}{p:Addr}{x y w:Int}(h:TB n H p x y w)(g:zav H H'):TB n H' p x y w:=⟨g _ _ h.1,h.2⟩
theorem StV.ts{H H':Hp}{p:Addr}{d:S6}(h:StV H p d)(g:zav H H'):StV H' p d:=by
 obtain⟨a,b,h1,h2,h3⟩:=h;exact⟨a,b,g _ _ h1,h2.ts g,h3.ts g⟩
def StL(H:Hp)(ys:List V)(ds:List S6):Prop:=ys.length=ds.length/\∀(j:Nat)(v:V),ys[j]?=some v->∃(p:Addr)(d:S6),v=.ref p/\ds[j]?=some d/\StV H p d
theorem StL.ts{H H':Hp}{ys:List V}{ds:List S6}(h:StL H ys ds)(g:zav H H'):StL H' ys ds:=⟨h.1,fun j v z=>by
 obtain⟨p,d,e,f,s⟩:=h.2 j v z;exact⟨p,d,e,f,s.ts g⟩⟩
theorem StL.nil{H:Hp}:StL H [] []:=⟨rfl,fun j v z=>by cases z⟩
theorem StL.snoc{H:Hp}{ys:List V}{ds:List S6}{p:Addr}{d:S6}(h:StL H ys ds)(s:StV H p d):StL H (ys++[.ref p]) (ds++[d]):=by
 refine⟨by rw[List.length_append,List.length_append,h.1];rfl,fun j v z=>?_⟩
 by_cases hj:j<ys.length
 ·rw[List.getElem?_append_left hj] at z;obtain⟨q,e,f,g,t⟩:=h.2 j v z;exact⟨q,e,f,by rw[List.getElem?_append_left (by rw[←h.1];exact hj)];exact g,t⟩
 ·rw[List.getElem?_append_right (by omega)] at z
  cases e:j-ys.length with
  |zero=>
   rw[e] at z
   cases z;exact⟨p,d,rfl,by rw[List.getElem?_append_right (by rw[←h.1];omega),←h.1,e];rfl,s⟩
  |succ n=>rw[e] at z;cases z
def sp_spans:Sp:=fun vs H Q _=>∃(p q:Addr)(d:S6)(x y w:Int),vs=[.ref p,.ref q]/\StV H p d/\TB 1000 H q x y w/\Q (.bl (zje d x w)) H
def sp_above:Sp:=fun vs H Q _=>∃(l q:Addr)(ys:List V)(ds:List S6)(x y w:Int),vs=[.ref l,.ref q]/\H l=some (.lst ys)/\ys.length<100000/\StL H ys ds/\TB 1000 H q x y w/\∀H',Same H H'->Q (.int (cntAb ds x y w)) H'
def iv_ldiv(a b:Int)(H₀:Hp):St->Hp->Prop:=fun σ H'=>H'=H₀/\∃x y:Int,σ=[some (.int x),some (.int y)]/\G x y=G a b
structure P3 where
 x:Int
 y:Int
 w:Int
def sd1(p q:P3):S6:=if bef p.x p.y p.w q.x q.y q.w=true then⟨p.x,p.y,p.w,q.x,q.y,q.w⟩ else⟨q.x,q.y,q.w,p.x,p.y,p.w⟩
def sd(p q:P3):List S6:=if p.x=q.x/\p.y=q.y/\p.w=q.w then[] else[sd1 p q]
def sdK(r:List P3)(k:Nat):List S6:=match r[k]?,r[(k+1)%r.length]? with
 |some p,some q=>sd p q
 |_,_=>[]
def sdR(r:List P3)(j:Nat):List S6:=(List.range j).flatMap (sdK r)
def sdA(rs:List (List P3))(i:Nat):List S6:=(rs.take i).flatMap fun r=>sdR r r.length
theorem sdR_succ(r:List P3)(j:Nat):sdR r (j+1)=sdR r j++sdK r j:=by
 unfold sdR;rw[List.range_succ,List.flatMap_append]
 simp
theorem sdA_succ{rs:List (List P3)}{i:Nat}{r:List P3}(h:rs[i]?=some r):sdA rs (i+1)=sdA rs i++sdR r r.length:=by
 unfold sdA;rw[List.take_succ,h,List.flatMap_append]
 simp
theorem zhr{r:List P3}{k:Nat}{p q:P3}(h1:r[k]?=some p)(h2:r[(k+1)%r.length]?=some q):sdK r k=sd p q:=by
 unfold sdK;rw[h1,h2]
theorem znr{α:Type}(r:List α)(k:Nat)(hk:k<r.length):(r.drop 1++r.take 1)[k]?=r[(k+1)%r.length]?:=by
 by_cases h:k+1<r.length
 ·rw[List.getElem?_append_left (by rw[List.length_drop];omega),List.getElem?_drop,Nat.mod_eq_of_lt h,Nat.add_comm]
 ·have e:k+1=r.length:=by omega
  rw[List.getElem?_append_right (by rw[List.length_drop];omega),List.length_drop,e,Nat.mod_self,show k-(r.length-1)=0 by omega,List.getElem?_take_of_lt (by omega)]
theorem zhb(xs:List V):cutV xs (some 1) none=xs.drop 1:=by
 unfold cutV;rw[show(1:Int)=((1:Nat):Int) from rfl,HT.sIx_nat,HT.sIx_none];rcases xs with _|⟨x,xs⟩
 ·rfl
 ·rw[Nat.min_eq_left (by rw[List.length_cons];omega),List.take_of_length_le (by rw[List.length_drop];omega)]
theorem zlv(xs:List V):cutV xs none (some 1)=xs.take 1:=by
 unfold cutV;rw[show(1:Int)=((1:Nat):Int) from rfl,HT.sIx_nat,HT.sIx_none,List.drop_zero,Nat.sub_zero];rcases xs with _|⟨x,xs⟩
 ·rfl
 ·rw[Nat.min_eq_left (by rw[List.length_cons];omega)]
def sp_sd:Sp:=fun vs H Q _=>∃(p q:Addr)(a b:P3),vs=[.ref p,.ref q]/\TB 1000 H p a.x a.y a.w/\TB 1000 H q b.x b.y b.w/\¬(a.x=b.x/\a.y=b.y/\a.w=b.w)/\∀r H',Same H H'->StV H' r (sd1 a b)->Q (.ref r) H'
def RgH(H:Hp)(p:Addr)(r:List P3):Prop:=∃zs,H p=some (.lst zs)/\zs.length=r.length/\r.length<=20/\∀(k:Nat)(v:V),zs[k]?=some v->∃(a:Addr)(c:P3),v=.ref a/\r[k]?=some c/\TB 1000 H a c.x c.y c.w
def RgL(H:Hp)(ys:List V)(rs:List (List P3)):Prop:=ys.length=rs.length/\∀(j:Nat)(v:V),ys[j]?=some v->∃(p:Addr)(r:List P3),v=.ref p/\rs[j]?=some r/\RgH H p r
def sp_sides:Sp:=fun vs H Q _=>∃(l:Addr)(ys:List V)(rs:List (List P3)),vs=[.ref l]/\H l=some (.lst ys)/\ys.length<=20/\RgL H ys rs/\∀(D:Addr)(zs:List V)(H':Hp),H D=none->Same H H'->H' D=some (.lst zs)->zs.length<=400->StL H' zs (sdA rs rs.length)->Q (.ref D) H'
structure I2 where
 x:Int
 y:Int
def lw(s:Int)(a:I2):P3:=⟨a.x.fdiv (G (G a.x a.y) s),a.y.fdiv (G (G a.x a.y) s),s.fdiv (G (G a.x a.y) s)⟩
theorem zeo{s:Int}(hs:0<s)(a:I2):∃g:Int,0<g/\(lw s a).x*g=a.x/\(lw s a).y*g=a.y/\(lw s a).w*g=s:=by
 refine⟨G (G a.x a.y) s,g3_gt hs,?_,?_,?_⟩
 ·exact zb4 (by rw[G3];exact g3_da _ _ _)
 ·exact zb4 (by rw[G3];exact g3_db _ _ _)
 ·exact zb4 (by rw[G3];exact g3_dc _ _ _)
theorem zbi{k a b:Int}(hk:0<k):k*a<k*b↔a<b:=⟨fun h=>Int.lt_of_mul_lt_mul_left h (Int.le_of_lt hk),fun h=>Int.mul_lt_mul_of_pos_left h hk⟩
theorem zet{x w x' w' g h X W X' W':Int}(hg:0<g)(hh:0<h)(e1:x*g=X)(e2:w*g=W)(e3:x'*h=X')(e4:w'*h=W'):(x*w'<x'*w)↔(X*W'<X'*W):=by
 rw[←zbi (k:=g*h) (Int.mul_pos hg hh),←e1,←e2,←e3,←e4];have a1:g*h*(x*w')=x*g*(w'*h):=by grind
 have a2:g*h*(x'*w)=x'*h*(w*g):=by grind
 rw[a1,a2]
theorem zgb(g1 g2 g3 x1 y1 w1 x2 y2 w2 x3 y3 w3:Int):det3 (x1*g1) (y1*g1) (w1*g1) (x2*g2) (y2*g2) (w2*g2) (x3*g3) (y3*g3) (w3*g3)=g1*g2*g3*det3 x1 y1 w1 x2 y2 w2 x3 y3 w3:=by
 unfold det3 lnA lnB lnC;grind
theorem zl7(k s ax ay bx by_ sx sy:Int):det3 ax ay s bx by_ s (k*sx) (k*sy) (k*(2*s))=k*s*((bx-ax)*(sy-2*ay)-(by_-ay)*(sx-2*ax)):=by
 unfold det3 lnA lnB lnC;grind
structure Spot(s X Y W sx sy:Int):Prop where
 mk'::
 ex:∃h k:Int,0<h/\0<k/\X*h=k*sx/\Y*h=k*sy/\W*h=k*(2*s)
theorem abv_spot{s X Y W sx sy:Int}(hs:0<s)(sp:Spot s X Y W sx sy)(a b:I2):abv X Y W ⟨(lw s a).x,(lw s a).y,(lw s a).w,(lw s b).x,(lw s b).y,(lw s b).w⟩=true↔(¬sx<2*a.x/\sx<2*b.x/\(2*b.x-2*a.x)*(sy-2*a.y)<(2*b.y-2*a.y)*(sx-2*a.x)):=by
 obtain⟨h,k,hh,hk,e1,e2,e3⟩:=sp.ex;obtain⟨g1,hg1,a1,a2,a3⟩:=zeo hs a;obtain⟨g2,hg2,b1,b2,b3⟩:=zeo hs b;have ks:=Int.mul_pos hk hs;have c1:=zet (x:=X) (w:=W) (x':=(lw s a).x) (w':=(lw s a).w) hh hg1 e1 e3 a1 a3;have c2:=zet (x:=X) (w:=W) (x':=(lw s b).x) (w':=(lw s b).w) hh hg2 e1 e3 b1 b3;have m:∀z:Int,(k*sx*s<z*(k*(2*s)))↔sx<2*z:=fun z=>by
  rw[←zbi (a:=sx) ks];have d1:k*sx*s=k*s*sx:=by grind
  have d2:z*(k*(2*s))=k*s*(2*z):=by grind
  rw[d1,d2]
 have d:=zgb g1 g2 h (lw s a).x (lw s a).y (lw s a).w (lw s b).x (lw s b).y (lw s b).w X Y W;rw[a1,a2,a3,b1,b2,b3,e1,e2,e3,zl7] at d;have gg:=Int.mul_pos (Int.mul_pos hg1 hg2) hh;have dn:det3 (lw s a).x (lw s a).y (lw s a).w (lw s b).x (lw s b).y (lw s b).w X Y W<0↔(2*b.x-2*a.x)*(sy-2*a.y)<(2*b.y-2*a.y)*(sx-2*a.x):=by
  rw[←zbi (b:=0) gg,←d,Int.mul_zero];have f1:(2*b.x-2*a.x)*(sy-2*a.y)=2*((b.x-a.x)*(sy-2*a.y)):=by grind
  have f2:(2*b.y-2*a.y)*(sx-2*a.x)=2*((b.y-a.y)*(sx-2*a.x)):=by grind
  rw[f1,f2];generalize (b.x-a.x)*(sy-2*a.y)=u;generalize (b.y-a.y)*(sx-2*a.x)=v;have z:=zbi (a:=u-v) (b:=0) ks;rw[Int.mul_zero] at z;rw[z];omega
 rw[abv_iff,c1,c2,m,m,dn]
theorem lw_inj{s:Int}(hs:0<s){a b:I2}(e1:(lw s a).x=(lw s b).x)(e2:(lw s a).y=(lw s b).y)(e3:(lw s a).w=(lw s b).w):a.x=b.x/\a.y=b.y:=by
 obtain⟨g1,hg1,a1,a2,a3⟩:=zeo hs a;obtain⟨g2,hg2,b1,b2,b3⟩:=zeo hs b;rw[e1] at a1;rw[e2] at a2;rw[e3] at a3;have wn:(lw s b).w≠0:=fun z=>by rw[z,Int.zero_mul] at b3;omega
 have g:g1=g2:=Int.eq_of_mul_eq_mul_left wn (a3.trans b3.symm);subst g;exact⟨a1.symm.trans b1,a2.symm.trans b2⟩
theorem bef_lw{s:Int}(hs:0<s)(a b:I2):bef (lw s a).x (lw s a).y (lw s a).w (lw s b).x (lw s b).y (lw s b).w=true↔(a.x<b.x∨(a.x=b.x/\a.y<b.y)):=by
 obtain⟨g1,hg1,a1,a2,a3⟩:=zeo hs a;obtain⟨g2,hg2,b1,b2,b3⟩:=zeo hs b;have c1:=zet hg1 hg2 a1 a3 b1 b3;have c2:=zet hg2 hg1 b1 b3 a1 a3;have c3:=zet hg1 hg2 a2 a3 b2 b3;have m:∀u v:Int,u*s<v*s↔u<v:=fun u v=>by rw[Int.mul_comm u,Int.mul_comm v];exact zbi hs
 rw[m] at c1 c2 c3;rw[zen];omega
def gt2(i1 i2 j1 j2:Int):Bool:=if i1=j1 then decide (j2<i2) else decide (j1<i1)
def ov1(s1 s2 f1 f2 l1 l2:Int):Int:=if f1=l1∨s1<f1∨l1<=s1 then 0 else if(l1-f1)*(s2-f2)<(l2-f2)*(s1-f1) then 1 else 0
def ovr(s1 s2 f1 f2 l1 l2:Int):Int:=if gt2 f1 f2 l1 l2=true then ov1 s1 s2 l1 l2 f1 f2 else ov1 s1 s2 f1 f2 l1 l2
theorem zdo{i1 i2 j1 j2:Int}:gt2 i1 i2 j1 j2=true↔(j1<i1∨(i1=j1/\j2<i2)):=by
 unfold gt2
 split
 ·rw[decide_eq_true_iff];omega
 ·rw[decide_eq_true_iff];omega
theorem cnt_one{X Y W:Int}{d:S6}:cntAb [d] X Y W=if abv X Y W d=true then 1 else 0:=by
 have:=cnt_snoc [] d X Y W;rw[List.nil_append] at this;rw[this];exact Nat.zero_add _
theorem zmj{s X Y W sx sy:Int}(hs:0<s)(sp:Spot s X Y W sx sy)(a b:I2)(hle:a.x<=b.x):(((if abv X Y W ⟨(lw s a).x,(lw s a).y,(lw s a).w,(lw s b).x,(lw s b).y,(lw s b).w⟩=true then 1 else 0:Nat)):Int)=ov1 sx sy (2*a.x) (2*a.y) (2*b.x) (2*b.y):=by
 have z:=abv_spot hs sp a b;unfold ov1
 by_cases c:abv X Y W ⟨(lw s a).x,(lw s a).y,(lw s a).w,(lw s b).x,(lw s b).y,(lw s b).w⟩=true
 ·rw[if_pos c];rw[z] at c;rw[if_neg (by omega),if_pos c.2.2]
  rfl
 ·rw[if_neg c];rw[z] at c
  by_cases d:2*a.x=2*b.x∨sx<2*a.x∨2*b.x<=sx
  ·rw[if_pos d];rfl
  ·rw[if_neg d,if_neg (fun e=>c ⟨by omega,by omega,e⟩)]
   rfl
theorem zj4(s1 s2 f1 f2 l2:Int):ov1 s1 s2 f1 f2 f1 l2=0:=by unfold ov1;rw[if_pos (.inl rfl)]
theorem cnt_sd{s X Y W sx sy:Int}(hs:0<s)(sp:Spot s X Y W sx sy)(a b:I2):(cntAb (sd (lw s a) (lw s b)) X Y W:Int)=ovr sx sy (2*a.x) (2*a.y) (2*b.x) (2*b.y):=by
 unfold sd ovr
 by_cases e:(lw s a).x=(lw s b).x/\(lw s a).y=(lw s b).y/\(lw s a).w=(lw s b).w
 ·rw[if_pos e];obtain⟨ex,ey⟩:=lw_inj hs e.1 e.2.1 e.2.2;rw[ex,zj4,zj4]
  split<;>rfl
 ·rw[if_neg e,cnt_one];have bl:=bef_lw hs a b;unfold sd1
  by_cases c:gt2 (2*a.x) (2*a.y) (2*b.x) (2*b.y)=true
  ·rw[if_pos c];rw[zdo] at c;have nb:¬bef (lw s a).x (lw s a).y (lw s a).w (lw s b).x (lw s b).y (lw s b).w=true:=fun z=>by rw[bl] at z;omega
   rw[if_neg nb];exact zmj hs sp b a (by omega)
  ·rw[if_neg c];rw[zdo] at c
   by_cases bt:bef (lw s a).x (lw s a).y (lw s a).w (lw s b).x (lw s b).y (lw s b).w=true
   ·rw[if_pos bt];exact zmj hs sp a b (by omega)
   ·exfalso
    rw[bl] at bt;have ex:a.x=b.x:=by omega
    have ey:a.y=b.y:=by omega
    have eab:a=b:=by
     cases a;cases b;cases ex;cases ey;rfl
    subst eab;exact e ⟨rfl,rfl,rfl⟩
theorem zfq(xs ys:List S6)(X Y W:Int):cntAb (xs++ys) X Y W=cntAb xs X Y W+cntAb ys X Y W:=by
 unfold cntAb;rw[List.filter_append,List.length_append]
theorem spot_mid{s:Int}(hs:0<s)(a b:I2):Spot s
  (ptX ((lw s a).x*(lw s b).w+(lw s b).x*(lw s a).w) ((lw s a).y*(lw s b).w+(lw s b).y*(lw s a).w) (2*(lw s a).w*(lw s b).w))
  (ptY ((lw s a).x*(lw s b).w+(lw s b).x*(lw s a).w) ((lw s a).y*(lw s b).w+(lw s b).y*(lw s a).w) (2*(lw s a).w*(lw s b).w))
  (ptW ((lw s a).x*(lw s b).w+(lw s b).x*(lw s a).w) ((lw s a).y*(lw s b).w+(lw s b).y*(lw s a).w) (2*(lw s a).w*(lw s b).w)) (a.x+b.x) (a.y+b.y):=by
 obtain⟨g1,hg1,a1,a2,a3⟩:=zeo hs a;obtain⟨g2,hg2,b1,b2,b3⟩:=zeo hs b;have w1:0<(lw s a).w:=zf1 a3 (.inl ⟨hg1,hs⟩);have w2:0<(lw s b).w:=zf1 b3 (.inl ⟨hg2,hs⟩);have hw:0<2*(lw s a).w*(lw s b).w:=Int.mul_pos (Int.mul_pos (by decide) w1) w2
 have px:=ptX_mul ((lw s a).x*(lw s b).w+(lw s b).x*(lw s a).w) ((lw s a).y*(lw s b).w+(lw s b).y*(lw s a).w) (2*(lw s a).w*(lw s b).w);have py:=ptY_mul ((lw s a).x*(lw s b).w+(lw s b).x*(lw s a).w) ((lw s a).y*(lw s b).w+(lw s b).y*(lw s a).w) (2*(lw s a).w*(lw s b).w);have pw:=ptW_mul ((lw s a).x*(lw s b).w+(lw s b).x*(lw s a).w) ((lw s a).y*(lw s b).w+(lw s b).y*(lw s a).w) (2*(lw s a).w*(lw s b).w);have fs:=zfw (x:=(lw s a).x*(lw s b).w+(lw s b).x*(lw s a).w) (y:=(lw s a).y*(lw s b).w+(lw s b).y*(lw s a).w) (w:=2*(lw s a).w*(lw s b).w) (by omega)
 generalize fac3 ((lw s a).x*(lw s b).w+(lw s b).x*(lw s a).w) ((lw s a).y*(lw s b).w+(lw s b).y*(lw s a).w) (2*(lw s a).w*(lw s b).w)=f at*;have fp:0<f:=by omega
 refine⟨⟨f*(g1*g2),s,Int.mul_pos fp (Int.mul_pos hg1 hg2),hs,?_,?_,?_⟩⟩
 ·rw[←Int.mul_assoc,px,←a1,←b1]
  calc _=((lw s a).x*g1)*((lw s b).w*g2)+((lw s b).x*g2)*((lw s a).w*g1):=by grind
   _=_:=by rw[a3,b3];grind
 ·rw[←Int.mul_assoc,py,←a2,←b2]
  calc _=((lw s a).y*g1)*((lw s b).w*g2)+((lw s b).y*g2)*((lw s a).w*g1):=by grind
   _=_:=by rw[a3,b3];grind
 ·rw[←Int.mul_assoc,pw]
  calc _=2*((lw s a).w*g1)*((lw s b).w*g2):=by grind
   _=_:=by rw[a3,b3];grind
def LR{α:Type}(R:Hp->Addr->α->Prop)(H:Hp)(ys:List V)(as:List α):Prop:=ys.length=as.length/\∀(j:Nat)(v:V),ys[j]?=some v->∃(p:Addr)(a:α),v=.ref p/\as[j]?=some a/\R H p a
section
variable{α:Type}{R:Hp->Addr->α->Prop}
theorem LR.ts(hR:∀H H' p a,zav H H'->R H p a->R H' p a){H H':Hp}{ys:List V}{as:List α}(h:LR R H ys as)(g:zav H H'):LR R H' ys as:=⟨h.1,fun j v z=>by
 obtain⟨p,d,e,f,s⟩:=h.2 j v z;exact⟨p,d,e,f,hR _ _ _ _ g s⟩⟩
theorem LR.nil{H:Hp}:LR R H [] []:=⟨rfl,fun j v z=>by cases z⟩
theorem LR.app{H:Hp}{ys zs:List V}{as bs:List α}(h:LR R H ys as)(h':LR R H zs bs):LR R H (ys++zs) (as++bs):=by
 refine⟨by rw[List.length_append,List.length_append,h.1,h'.1],fun j v z=>?_⟩
 by_cases hj:j<ys.length
 ·rw[List.getElem?_append_left hj] at z;obtain⟨q,e,f,g,t⟩:=h.2 j v z;exact⟨q,e,f,by rw[List.getElem?_append_left (by rw[←h.1];exact hj)];exact g,t⟩
 ·rw[List.getElem?_append_right (by omega)] at z
  obtain⟨q,e,f,g,t⟩:=h'.2 _ v z;exact⟨q,e,f,by rw[List.getElem?_append_right (by rw[←h.1];omega),←h.1];exact g,t⟩
theorem LR.one{H:Hp}{p:Addr}{a:α}(s:R H p a):LR R H [.ref p] [a]:=⟨rfl,fun j v z=>by
 cases j with
 |zero=>cases z;exact⟨p,a,rfl,rfl,s⟩
 |succ n=>cases z⟩
theorem LR.snoc{H:Hp}{ys:List V}{as:List α}{p:Addr}{a:α}(h:LR R H ys as)(s:R H p a):LR R H (ys++[.ref p]) (as++[a]):=h.app (.one s)
theorem LR.drop{H:Hp}{ys:List V}{as:List α}(h:LR R H ys as)(n:Nat):LR R H (ys.drop n) (as.drop n):=by
 refine⟨by rw[List.length_drop,List.length_drop,h.1],fun j v z=>?_⟩
 rw[List.getElem?_drop] at z;obtain⟨q,e,f,g,t⟩:=h.2 _ v z;exact⟨q,e,f,by rw[List.getElem?_drop];exact g,t⟩
theorem LR.at{H:Hp}{ys:List V}{as:List α}(h:LR R H ys as){j:Nat}(hj:j<ys.length):∃(p:Addr)(a:α),ys[j]?=some (.ref p)/\as[j]?=some a/\R H p a:=by
 obtain⟨p,a,e,f,r⟩:=h.2 j ys[j] (List.getElem?_eq_getElem hj);exact⟨p,a,by rw[List.getElem?_eq_getElem hj,e],f,r⟩
theorem LR.map{β:Type}{f:β->α}{H:Hp}{ys:List V}{bs:List β}(h:LR (fun H p b=>R H p (f b)) H ys bs):LR R H ys (bs.map f):=by
 refine⟨by rw[List.length_map,h.1],fun j v z=>?_⟩
 obtain⟨q,e,g,k,t⟩:=h.2 _ v z;exact⟨q,f e,g,by rw[List.getElem?_map,k];rfl,t⟩
theorem LR.cons_inv{H:Hp}{v:V}{vs:List V}{as:List α}(h:LR R H (v::vs) as):∃a as',as=a::as'/\(∃p,v=.ref p/\R H p a)/\LR R H vs as':=by
 cases as with
 |nil=>cases h.1
 |cons a as'=>
  refine⟨a,as',rfl,?_,Nat.succ.inj h.1,fun j u z=>h.2 (j+1) u z⟩;obtain⟨p,b,e,f,r⟩:=h.2 0 v rfl
  cases f;exact⟨p,e,r⟩
theorem LR.cons{H:Hp}{v:V}{vs:List V}{a:α}{as:List α}(h:∃p,v=.ref p/\R H p a)(t:LR R H vs as):LR R H (v::vs) (a::as):=by
 obtain⟨p,rfl,r⟩:=h;exact(LR.one r).app t
def zhm(R:Hp->Addr->α->Prop)(as:List α)(H2:Hp)(D:Addr):Nat->List V->Hp->Prop:=fun i ys H'=>Same H2 H'/\H' D=some (.lst ys)/\ys.length=i/\LR R H' ys (as.take i)
theorem zdk{as:List α}{H2:Hp}{D:Addr}(hD:H2 D=none):zhm R as H2 D 0 [] (upd H2 D (.lst [])):=⟨za2 hD _,upd_same,rfl,by rw[List.take_zero];exact .nil⟩
theorem zdh(hR:∀H H' p a,zav H H'->R H p a->R H' p a){m:Nat}{H2 H3 H4:Hp}{D:Addr}{i:Nat}{ys:List V}{p:Addr}{as:List α}{a:α}(hD:H2 D=none)(hm:m<100000)(iv:zhm R as H2 D i ys H3)(hi:i<m)(ha:as[i]?=some a)(g4:Same H3 H4)(hp:R H4 p a):CPut m (zhm R as H2 D) D i (.ref p) H4:=by
 obtain⟨g3',hD3,hy,hall⟩:=iv;have hD4:=g4 _ _ hD3;refine cw_put hi hD4 (by rw[hy];exact Nat.lt_trans hi (Nat.lt_trans hm (by decide))) ⟨zao (g3'.trans g4) hD,upd_same,by rw[List.length_append,hy];rfl,?_⟩
 rw[List.take_add_one,ha];exact((hall.ts hR (zae g4)).snoc hp).ts hR (zcg hD4)
end
def QH(H:Hp)(p:Addr)(r:Q3):Prop:=H p=some (.tup [.int r.x,.int r.y,.int r.w])/\PQ 700 r
theorem zct:∀(H H':Hp)(p:Addr)(r:Q3),zav H H'->QH H p r->QH H' p r:=fun _ _ _ _ g h=>⟨g _ _ h.1,h.2⟩
theorem QH.same{H H':Hp}{p:Addr}{r:Q3}(h:QH H p r)(g:Same H H'):QH H' p r:=⟨g _ _ h.1,h.2⟩
theorem QH.tb{H:Hp}{p:Addr}{r:Q3}(h:QH H p r){n:Nat}(hn:700<=n:=by decide):TB n H p r.x r.y r.w:=⟨h.1,Pt.bd h.2 hn⟩
theorem LR.same{H H':Hp}{ys:List V}{ps:List Q3}(h:LR QH H ys ps)(g:Same H H'):LR QH H' ys ps:=h.ts zct (zae g)
theorem LR.take{α:Type}{R:Hp->Addr->α->Prop}{H:Hp}{ys:List V}{as:List α}(h:LR R H ys as)(n:Nat):LR R H (ys.take n) (as.take n):=by
 refine⟨by rw[List.length_take,List.length_take,h.1],fun j v z=>?_⟩
 rw[List.getElem?_take] at z
 by_cases c:j<n
 ·rw[if_pos c] at z;obtain⟨q,e,f,g,t⟩:=h.2 _ v z;exact⟨q,e,f,by rw[List.getElem?_take,if_pos c];exact g,t⟩
 ·rw[if_neg c] at z
  cases z
theorem LR.split2{α:Type}{R:Hp->Addr->α->Prop}{H:Hp}{ys:List V}{as:List α}{a b:α}(h:LR R H ys (as++[a,b])):∃(zs:List V)(p q:Addr),ys=zs++[.ref p,.ref q]/\R H p a/\R H q b/\LR R H zs as:=by
 have hl:=h.1;rw[List.length_append] at hl;simp only[List.length_cons,List.length_nil] at hl;obtain⟨p,a',e1,e2,r1⟩:=h.at (j:=as.length) (by omega)
 obtain⟨q,b',e3,e4,r2⟩:=h.at (j:=as.length+1) (by omega)
 rw[List.getElem?_append_right (Nat.le_refl _),Nat.sub_self] at e2;rw[List.getElem?_append_right (by omega),show as.length+1-as.length=1 by omega] at e4
 cases e2
 cases e4;refine⟨ys.take as.length,p,q,?_,r1,r2,?_⟩
 ·refine List.ext_getElem? fun j=>?_
  by_cases c:j<as.length
  ·rw[List.getElem?_append_left (by rw[List.length_take];omega),List.getElem?_take,if_pos c]
  ·rw[List.getElem?_append_right (by rw[List.length_take];omega),List.length_take,show min as.length ys.length=as.length by omega]
   rcases(by omega:j=as.length∨j=as.length+1∨as.length+2<=j) with rfl|rfl|c'
   ·rw[e1,Nat.sub_self];rfl
   ·rw[e3,show as.length+1-as.length=1 by omega];rfl
   ·rw[List.getElem?_eq_none (by omega),List.getElem?_eq_none (by simp only[List.length_cons,List.length_nil];omega)]
 ·have z:=h.take as.length;rw[List.take_left] at z;exact z
section
variable{P:Program}{w:World}{K:PySem.W.Frag}{mg:Str->Option Value}{base:Heap}{ad:Nat->Addr}{fd:Nat->FuncData}
theorem small10k{n:Nat}(h:n<=20000):n<sizeLine:=Nat.lt_of_le_of_lt h (by decide)
def kQ(r:Q3):List Key:=[.inl r.x,.inl r.y,.inl r.w]
theorem zf3{p q:Q3}(h:kQ p=kQ q):p=q:=by
 obtain⟨x,y,w⟩:=p;obtain⟨x',y',w'⟩:=q;unfold kQ at h
 cases h;rfl
def KyOk(H:Hp)(kvs:List (List Key×V))(g:Int)(ps:List Q3):Prop:=∀p,p∈ps->∃b,valV kvs (kQ p)=some (.ref b)/\H b=some (.tup [.int (kyQ g p).1,.int (kyQ g p).2])
theorem KyOk.ts{H H':Hp}{kvs:List (List Key×V)}{g:Int}{ps:List Q3}(h:KyOk H kvs g ps)(t:zav H H'):KyOk H' kvs g ps:=fun p hp=>by
 obtain⟨b,e,hb⟩:=h p hp;exact⟨b,e,t _ _ hb⟩
def sp_okeys:Sp:=fun vs H Q _=>∃(l:Addr)(ys:List V)(ps:List Q3),vs=[.ref l]/\H l=some (.lst ys)/\ys.length<=20000/\LR QH H ys ps/\
 ∀d kvs g(qs:List Q3) H',Same H H'->H' d=some (.dT kvs)->0<g->(∀p,p∈ps->p.w<=g)->KyOk H' kvs g ps->kvs.map Prod.fst=qs.map kQ->qs.Nodup->(∀p,p∈qs↔p∈ps)->qs.length<=ps.length->Q (.ref d) H'
theorem zin{H:Hp}{D:Addr}{kvs:List (List Key×V)}{o:HO}(h:H D=some (.dT kvs)):zav H (upd H D o):=fun b xs q=>by
 rw[za7 (fun z=>by rw[z,h] at q;cases q)]
 exact q
theorem zgh(T:Txt K mg ad fd):FnOk P w K mg base CX0 1 (ad 9) (fd 9) ["points"] sp_okeys:=by
 refine T.order_keys.fn.ok zc1 (fun vs H Q E h=>?_) (fun cdv A outer s H vs Q E hr h=>?_)
 ·obtain⟨l,ys,ps,rfl,_⟩:=h;rfl
 obtain⟨l,ys,ps,rfl,hl,hn,hp,k⟩:=h;have hs:∀p,p∈ps->0<p.w/\p.x.natAbs<2^720/\p.y.natAbs<2^720/\p.w.natAbs<2^720:=fun p hp'=>by
  obtain⟨j,hj⟩:=List.mem_iff_getElem?.mp hp';have hj':j<ys.length:=by rw[hp.1];exact(List.getElem?_eq_some_iff.mp hj).1
  obtain⟨b,r,_,e2,hr⟩:=hp.at hj';rw[hj] at e2
  cases e2;exact⟨hr.2.pos,zbm hr.2.lx (by decide),zbm hr.2.ly (by decide),zbm hr.2.lw (by decide)⟩
 have zG:=@pss5;have zf:=@zbu;have yk:=@znv;have zh:=@pa1;have zw:=@ze8;unfold L2.CompBody at zw;have zp:=@zc4;have qpv:=@pv;have zk:=@zbz;have zC:=@zew;have zd:=@zdy;have za:=@zbg;have yl:=@pk_cons;have yn:=@pk_nil;have zb:=@zd9;have yb:=@zjj;have zr:=@zde;have ze:=@zac;have zm:=@ze6;have zR:=@zms;have yo:=@zny;have yc:=@zno;have zq:=@ze1;have zj:=@pa2;have zn:=@zbq;have zc:=@zaq;generalize @L2.PE=QE,@L2.PT=QT,@L2.PW=QW,@L2.PA=QA,@L2.PS=QS,@L2.PSs=QSs,@L2.PG=QG,@L2.PGs=QGs,@L2.PI=QI,@L2.PO=QO,@L2.PIf=QIf,@L2.PC=QC,@L2.PK=QK at zG zf yk zh zw zp qpv zk zC zd za yl yn zb yb zr ze zm zR yo yc zq zj zn zc⊢;refine⟨_,
  (zG
   (zf (i:=1) zc1.nd rfl (Or.inl rfl) (yk (zm3 rfl) rfl T.b_max bt_max (zh (zw (dsc:=za0 zas) (N:=["points","greatest","scale","keys","P"]) (own:=["P"]) (ix:=[]) rfl rfl rfl ⟨rfl,by decide+kernel,by decide+kernel,by decide+kernel,by decide+kernel⟩ (zp (qpv 0)) (fun cl C fp s2 H2 xe=>⟨(zk (i:=0) (show List.Nodup (["P"]:List Str) from by decide+kernel) rfl (Or.inl rfl)),zC,(zd za5 (qpv 0) za (fun _ _=>rfl))⟩)) zda) (yl za yn)))
   (zf (i:=2) zc1.nd rfl (Or.inl rfl) (zb zaf (qpv 1) (qpv 1)))
   (zf (i:=3) zc1.nd rfl (Or.inl rfl) yb)
   (zr PassesOwn.never rfl (zp (qpv 0)) (zk (i:=4) zc1.nd rfl (Or.inl rfl)) (ze (zm (zR (yo (zgn hr) (qpv 4) (qpv 3))) (ze (yc (zgn hr) (qpv 3) (qpv 4) (zq (zj (zb zci (zb zaf (zd za5 (qpv 4) za (fun _ _=>rfl)) (qpv 2)) (zd za5 (qpv 4) za (fun _ _=>rfl))) zad (zb zci (zb zaf (zd za5 (qpv 4) za (fun _ _=>rfl)) (qpv 2)) (zd za5 (qpv 4) za (fun _ _=>rfl))) zad)) rfl)) zn)))
   (zc (qpv 3)))
  ,?_⟩
 clear zG zf yk zh zw zp qpv zk zC zd za yl yn zb yb zr ze zm zR yo yc zq zj zn zc QE QT QW QA QS QSs QG QGs QI QO QIf QC QK
 dsimp! [L2.start]
 simp! [tCBK];refine zb3 ?_;simp! [zd1];refine⟨⟨_,.of hl⟩,fun D hD=>?_⟩;refine zb0 (xs:=ys) (fun i zs H'=>Same H H'/\H' D=some (.lst zs)/\zs=((ps.take i).map fun p=>V.int p.w)) ⟨za2 hD _,upd_same,by rw[List.take_zero];rfl⟩ (fun i zs H' p=>.of (p.1 _ _ hl)) ?_ ?_
 ·rintro i zs H1 v hi hv ⟨g1,hD1,ez⟩;obtain⟨p,r,rfl,hr',hq⟩:=hp.2 i v hv;have hq1:H1 p=some (.tup [.int r.x,.int r.y,.int r.w]):=g1 _ _ hq.1;simp! [hq1];refine cw_put hi hD1 ?_ ⟨zao g1 hD,upd_same,?_⟩
  ·rw[ez,List.length_map,List.length_take];exact small10k (by have:=Nat.min_le_left i ps.length;omega)
  ·rw[List.take_add_one,hr',ez,List.map_append];rfl
 ·rintro zs H1 ⟨g1,hD1,ez⟩;rw[List.take_of_length_le (by rw[hp.1];exact Nat.le_refl _)] at ez
  refine⟨D,ps.map fun p=>p.w,1,rfl,rfl,by rw[hD1,ez,List.map_map];rfl,fun g gm gi=>?_⟩
  have g0:0<g:=by
   rcases gi with gi|gi
   ·obtain⟨p,hp',e⟩:=List.mem_map.mp gi;have:=(hs p hp').1;omega
   ·omega
  have gs:g.natAbs<2^720:=by
   rcases gi with gi|gi
   ·obtain⟨p,hp',e⟩:=List.mem_map.mp gi;rw[←e];exact(hs p hp').2.2.2
   ·rw[gi.2];decide
  refine⟨g,rfl,g,rfl,cbig gs gs,fun d hd=>?_⟩;have gg:(g*g).natAbs<2^1440:=by
   rw[Int.natAbs_mul];exact Nat.lt_of_lt_of_le (Nat.mul_lt_mul'' gs gs) (by rw[←Nat.pow_add];exact Nat.pow_le_pow_right (by decide) (by decide))
  refine zcf ?_;simp! [zd1];have g2:=za2 hd (HO.dT []);refine⟨⟨_,.of (g2 _ _ (g1 _ _ hl))⟩,?_⟩;refine zc8 (K:=K) (a:=l) (xs:=ys) (fun i σ H'=>Same H1 H'/\∃(kvs:List (List Key×V))(o:Option V),σ=[some (.ref l),some (.int g),some (.int (g*g)),some (.ref d),o]/\H' d=some (.dT kvs)/\kvs.length<=i/\KyOk H' kvs g (ps.take i)/\(∀p,(valV kvs (kQ p)).isSome=true->p∈ps.take i)/\∃qs:List Q3,kvs.map Prod.fst=qs.map kQ/\qs.Nodup/\(∀p,p∈qs↔p∈ps.take i)/\qs.length<=i)
   ⟨g2,[],none,rfl,upd_same,Nat.le_refl _,fun p hp'=>(by rw[List.take_zero] at hp';cases hp'),fun p z=>(by cases z),[],rfl,.nil,fun p=>(by rw[List.take_zero]),Nat.le_refl _⟩ (fun i σ H' _ iv=>.of (iv.1 _ _ (g1 _ _ hl))) ?_ ?_
  ·intro _ _;rintro i v σ H2 hi ⟨g3,kvs,o,rfl,hd2,hk,ky,kb,qs,q1,q2,q3,q4⟩;obtain⟨p,r,rfl,hr',hq⟩:=hp.2 i v hi;have hq2:H2 p=some (.tup [.int r.x,.int r.y,.int r.w]):=g3 _ _ (g1 _ _ hq.1);simp! [zo1,sDPut,hq2];obtain⟨r0,rx,ry,rw'⟩:=hs r (List.mem_of_getElem? hr');have wn:r.w≠0:=by omega
   rw[List.take_add_one,hr'];refine⟨_,.t (k:=kQ r) hd2 hq2,ite2 (fun c=>⟨cbig rx gg,cdivb wn rw',cbig ry gg,cdivb wn rw',fun t ht=>?_⟩) fun c=>?_⟩
   ·rw[Int.fdiv_eq_ediv_of_nonneg _ (by omega),Int.fdiv_eq_ediv_of_nonneg _ (by omega)]
    have nv:valV kvs (kQ r)=none:=by
     cases e:valV kvs (kQ r) with
     |none=>rfl
     |some u=>rw[e] at c;cases c
    have g4:=za2 ht (HO.tup [V.int (r.x*(g*g)/r.w),V.int (r.y*(g*g)/r.w)]);have ht4:upd H2 t (HO.tup [V.int (r.x*(g*g)/r.w),V.int (r.y*(g*g)/r.w)]) t=some (HO.tup [V.int (r.x*(g*g)/r.w),V.int (r.y*(g*g)/r.w)]):=upd_same;generalize upd H2 t (HO.tup [V.int (r.x*(g*g)/r.w),V.int (r.y*(g*g)/r.w)])=H4 at*;have hd4:=g4 _ _ hd2;refine⟨_,.t (k:=kQ r) hd4 (g4 _ _ hq2) (small10k (by have:=(List.getElem?_eq_some_iff.mp hi).1;omega)),zao (g3.trans g4) hd,_,upd_same,Nat.le_trans (zbr _ _ _) (by omega),fun p' hp'=>?_,fun p' z=>?_,qs++[r],?_,?_,fun p'=>?_,by rw[List.length_append];exact Nat.succ_le_succ q4⟩
    ·rw[zdv]
     by_cases e:kQ p'=kQ r
     ·rw[if_pos e];have e':=zf3 e;subst e';exact⟨t,rfl,zin hd4 _ _ ht4⟩
     ·rw[if_neg e];rcases List.mem_append.mp hp' with hp'|hp'
      ·obtain⟨b,e1,e2⟩:=ky p' hp';exact⟨b,e1,zin hd4 _ _ (g4 _ _ e2)⟩
      ·have e':p'=r:=by simpa using hp'
       exact absurd (by rw[e']) e
    ·rw[zdv] at z
     by_cases e:kQ p'=kQ r
     ·rw[zf3 e];exact List.mem_append_right _ (by simp)
     ·rw[if_neg e] at z;exact List.mem_append_left _ (kb p' z)
    ·rw[putK_new _ nv,List.map_append,List.map_append,q1];rfl
    ·exact List.nodup_append.mpr ⟨q2,List.pairwise_singleton _ _,fun a ha b hb e=>by
      rw[List.mem_singleton.mp hb] at e;subst e;obtain⟨b',e1,_⟩:=ky a ((q3 a).mp ha);rw[nv] at e1
      cases e1⟩
    ·rw[List.mem_append,List.mem_append,q3]
     simp
   ·have z:(valV kvs (kQ r)).isSome=true:=by
     cases e:(valV kvs (kQ r)).isSome with
     |true=>rfl
     |false=>exact absurd (by rw[e];rfl) c
    refine⟨g3,kvs,hd2,by omega,fun p' hp'=>?_,fun p' z'=>List.mem_append_left _ (kb p' z'),qs,q1,q2,fun p'=>?_,by omega⟩
    rcases List.mem_append.mp hp' with hp'|hp'
    ·exact ky p' hp'
    ·have e':p'=r:=by simpa using hp'
     rw[e'];exact ky r (kb r z)
    ·rw[List.mem_append,q3];refine⟨.inl,fun h=>h.elim id fun h=>?_⟩;have e':p'=r:=by simpa using h
     rw[e'];exact kb r z
  ·rintro σ H2 ⟨g3,kvs,o,rfl,hd2,hk,ky,kb,qs,q1,q2,q3,q4⟩;rw[List.take_of_length_le (by rw[hp.1];exact Nat.le_refl _)] at ky q3
   simp! [];exact k d kvs g qs H2 (g1.trans g3) hd2 g0 (fun p hp'=>gm _ (List.mem_map.mpr ⟨p,hp',rfl⟩)) ky q1 q2 q3 (by rw[←hp.1];exact q4)
theorem ze5(T:Txt K mg ad fd):FnOk P w K mg base CX0 1 (ad 0) (fd 0) ["thing"] zji:=by
 refine T.is_whole.fn.ok zif (fun vs H Q E h=>?_) (fun cdv A outer s H vs Q E hr h=>?_)
 ·obtain⟨i,rfl,_⟩:=h;rfl
 obtain⟨i,rfl,q⟩:=h;have ze:=@zac;have zc:=@zaq;have zX:=@pe_and;have zu:=@zch;have zj:=@pa2;have qpv:=@pv;have yj:=@pe_bltn;have yd:=@pe_one;have yp:=@pe_not;generalize @L2.PE=QE,@L2.PT=QT,@L2.PW=QW,@L2.PA=QA,@L2.PS=QS,@L2.PSs=QSs,@L2.PG=QG,@L2.PGs=QGs,@L2.PI=QI,@L2.PO=QO,@L2.PIf=QIf at ze zc zX zu zj qpv yj yd yp⊢;refine⟨_,
  (ze (zc (zX (zu (isiF zhi) rfl T.b_isinstance zee (zj (qpv 0) za1 (yj (v:=.ty "int") rfl T.b_int bt_int rfl) za1)) (yd (yp (zu (isiF zgo) rfl T.b_isinstance zee (zj (qpv 0) za1 (yj (v:=.ty "bool") rfl T.b_bool bt_bool rfl) za1)))))))
  ,?_⟩
 clear ze zc zX zu zj qpv yj yd yp QE QT QW QA QS QSs QG QGs QI QO QIf
 dsimp! [L2.start]
 simp! [];exact q
theorem zge(T:Txt K mg ad fd):FnOk P w K mg base CX0 1 (ad 1) (fd 1) ["one","other"] zdx:=by
 refine T.divisor.fn.ok zcn (fun vs H Q E h=>?_) (fun cdv A outer s H vs Q E hr h=>?_)
 ·obtain⟨a,b,rfl,_⟩:=h;rfl
 obtain⟨a,b,rfl,q⟩:=h;have zL:=@pss4;have zf:=@zbu;have zu:=@zch;have zh:=@pa1;have qpv:=@pv;have zS:=@zh1;have zo:=@zbp;have za:=@zbg;have zx:=@pss3;have zb:=@zd9;have zc:=@zaq;generalize @L2.PE=QE,@L2.PT=QT,@L2.PW=QW,@L2.PA=QA,@L2.PS=QS,@L2.PSs=QSs,@L2.PG=QG,@L2.PGs=QGs,@L2.PI=QI,@L2.PO=QO,@L2.PIf=QIf at zL zf zu zh qpv zS zo za zx zb zc⊢;refine⟨_,
  (zL
   (zf (i:=2) zcn.nd rfl (Or.inl rfl) (zu zgr rfl T.b_abs zo2 (zh (qpv 0) za1)))
   (zf (i:=3) zcn.nd rfl (Or.inl rfl) (zu zgr rfl T.b_abs zo2 (zh (qpv 1) za1)))
   (zS PassesOwn.never (zo zl3 (qpv 3) za (nomark _)) (zx
   (zf (i:=4) zcn.nd rfl (Or.inl rfl) (zb zij (qpv 2) (qpv 3)))
   (zf (i:=2) zcn.nd rfl (Or.inl rfl) (qpv 3))
   (zf (i:=3) zcn.nd rfl (Or.inl rfl) (qpv 4))))
   (zc (qpv 2)))
  ,?_⟩
 clear zL zf zu zh qpv zS zo za zx zb zc QE QT QW QA QS QSs QG QGs QI QO QIf
 dsimp! [L2.start]
 simp only[tSeq,zm7,tRet,tRetN,tIfS,tAsg,gName,znd,tVar,tC,tOp,tUn,rI,rI0,rU,rEq,rNe,zm2,tB,tNot,tAnd,tOr,zmy,tOrV,zn6,tIf,tCB,zng,tNil,zc7,tTup,tLst,gTup,gCons,gNil,L2.start,rIsi,rIxT,rIxL,cx_K,tyN_non,tyN_bl,tyN_int,tyN_str,isi_ii,isi_ib,znj,zlq,zn2,zlx,zl4,zlj,zml,zne,znz,zlz,zll,scal_ii,scal_bb,sz0,sz1,sz2,sz3,sz4,List.map_cons,List.map_nil,List.length_cons,List.length_nil,List.replicate,List.cons_append,List.nil_append,List.append_nil,List.getElem?_cons_zero,List.getElem?_cons_succ,List.set_cons_zero,List.set_cons_succ,Option.some.injEq,V.int.injEq,V.bl.injEq,V.ref.injEq,V.ty.injEq,List.cons.injEq,and_true,true_and,exists_eq_left,exists_eq_left',exists_and_left,exists_and_right,exists_eq,exists_eq',and_assoc,Nat.reduceAdd,Nat.reduceSub,Bool.not_true,Bool.not_false,Bool.false_eq_true,if_true,if_false,reduceIte,Nat.zero_add,decide_true,decide_false];refine zjo (zk6 a b H) (fun σ _=>(getI σ 3).toNat) ⟨rfl,_,_,_,rfl,by split<;>omega,by split<;>omega,G_abs a b⟩ ?_
  (fun σ H Q Q' m h=>by obtain⟨v,e,s,k,e2,q⟩:=h;exact⟨v,e,s,k,e2,m _ _ q⟩)
 rintro σ H' ⟨rfl,x,y,r,rfl,hx,hy,e⟩;simp only[tSeq,zm7,tRet,tRetN,tIfS,tAsg,gName,znd,tVar,tC,tOp,tUn,rI,rI0,rU,rEq,rNe,zm2,tB,tNot,tAnd,tOr,zmy,tOrV,zn6,tIf,tCB,zng,tNil,zc7,tTup,tLst,gTup,gCons,gNil,L2.start,rIsi,rIxT,rIxL,cx_K,tyN_non,tyN_bl,tyN_int,tyN_str,isi_ii,isi_ib,znj,zlq,zn2,zlx,zl4,zlj,zml,zne,znz,zlz,zll,scal_ii,scal_bb,sz0,sz1,sz2,sz3,sz4,List.map_cons,List.map_nil,List.length_cons,List.length_nil,List.replicate,List.cons_append,List.nil_append,List.append_nil,List.getElem?_cons_zero,List.getElem?_cons_succ,List.set_cons_zero,List.set_cons_succ,Option.some.injEq,V.int.injEq,V.bl.injEq,V.ref.injEq,V.ty.injEq,List.cons.injEq,and_true,true_and,exists_eq_left,exists_eq_left',exists_and_left,exists_and_right,exists_eq,exists_eq',and_assoc,Nat.reduceAdd,Nat.reduceSub,Bool.not_true,Bool.not_false,Bool.false_eq_true,if_true,if_false,reduceIte,Nat.zero_add,decide_true,decide_false];refine ite2 (fun c=>?_) (fun c=>?_)
 ·have hy0:0<y:=by
   rcases Int.lt_or_eq_of_le hy with z|z
   ·exact z
   ·subst z;simp at c
  obtain⟨h1,h2,h3⟩:=turn e hy0;exact⟨by omega,⟨rfl,_,_,_,rfl,h1,h2,h3⟩,less hy0⟩
 ·have hy0:y=0:=by simpa using c
  rw[←e,←G_zero hx hy0] at q;exact q
theorem ok_point(T:Txt K mg ad fd):FnOk P w K mg base CX0 2 (ad 2) (fd 2) ["x","y","w"] zhu:=by
 refine T.point.fn.ok zgk (fun vs H Q E h=>?_) (fun cdv A outer s H vs Q E hr h=>?_)
 ·obtain⟨a,b,w,rfl,_⟩:=h;rfl
 obtain⟨a,b,w,rfl,hb,hz,q⟩:=h;have zG:=@pss5;have zm:=@ze6;have zU:=@PW.pt;have zY:=@pw_or;have yi:=@pt_not;have zD:=@zfz;have zg:=@zaz;have zh:=@pa1;have qpv:=@pv;have ye:=@pw_or1;have ze:=@zac;have zN:=@zfi;have zn:=@zbq;have zo:=@zbp;have za:=@zbg;have zf:=@zbu;have zj:=@pa2;have yf:=@pe_un;have zc:=@zaq;have zq:=@ze1;have zt:=@pa3;have zb:=@zd9;generalize @L2.PE=QE,@L2.PT=QT,@L2.PW=QW,@L2.PA=QA,@L2.PS=QS,@L2.PSs=QSs,@L2.PG=QG,@L2.PGs=QGs,@L2.PI=QI,@L2.PO=QO,@L2.PIf=QIf at zG zm zU zY yi zD zg zh qpv ye ze zN zn zo za zf zj yf zc zq zt zb⊢;refine⟨_,
  (zG
   (zm (zU (zY (yi (zD (zg (ze5 T) (hr.mono (by decide)) rfl T.is_whole.mg T.is_whole.fn.kp T.is_whole.bn .nil pass0 (zh (qpv 0) za1)))) (zY (yi (zD (zg (ze5 T) (hr.mono (by decide)) rfl T.is_whole.mg T.is_whole.fn.kp T.is_whole.bn .nil pass0 (zh (qpv 1) za1)))) (ye (yi (zD (zg (ze5 T) (hr.mono (by decide)) rfl T.is_whole.mg T.is_whole.fn.kp T.is_whole.bn .nil pass0 (zh (qpv 2) za1)))))))) (ze zN) zn)
   (zm (zo znt (qpv 2) za (nomark _)) (ze zN) zn)
   (zf (i:=3) zgk.nd rfl (Or.inl rfl) (zg (zge T) (hr.mono (by decide)) rfl T.divisor.mg T.divisor.fn.kp T.divisor.bn .nil pass0 (zj (zg (zge T) (hr.mono (by decide)) rfl T.divisor.mg T.divisor.fn.kp T.divisor.bn .nil pass0 (zj (qpv 2) za1 (qpv 0) za1)) zce (qpv 1) za1)))
   (zm (zo zg2 (qpv 2) za (nomark _)) (ze (zf (i:=3) zgk.nd rfl (Or.inl rfl) (yf un_neg (qpv 3)))) zn)
   (zc (zq (zt (zb zci (qpv 0) (qpv 3)) zad (zb zci (qpv 1) (qpv 3)) zad (zb zci (qpv 2) (qpv 3)) zad))))
  ,?_⟩
 clear zG zm zU zY yi zD zg zh qpv ye ze zN zn zo za zf zj yf zc zq zt zb QE QT QW QA QS QSs QG QGs QI QO QIf
 dsimp! [L2.start]
 simp! [zji,zdx];have hg:(fac3 a b w).natAbs<2^8000:=Nat.lt_of_le_of_lt (fac3_le hb) hz;have hn:=fac3_ne (x:=a) (y:=b) hb;refine ite2 (fun c=>absurd (of_decide_eq_true c) hb) (fun _=>ite2 (fun c=>?_) (fun c=>?_))
 ·have ef: -G (G w a) b=fac3 a b w:=(if_pos (of_decide_eq_true c)).symm;rw[ef];exact⟨cdivb hn hg,cdivb hn hg,cdivb hn hg,fun p hp=>q p _ (za2 hp _) upd_same⟩
 ·have ef:G (G w a) b=fac3 a b w:=(if_neg fun z=>c (decide_eq_true z)).symm;rw[ef];exact⟨cdivb hn hg,cdivb hn hg,cdivb hn hg,fun p hp=>q p _ (za2 hp _) upd_same⟩
theorem zhx(T:Txt K mg ad fd):FnOk P w K mg base CX0 1 (ad 3) (fd 3) ["P","Q"] znn:=by
 refine T.before.fn.ok zfo (fun vs H Q E h=>?_) (fun cdv A outer s H vs Q E hr h=>?_)
 ·obtain⟨p,q,x1,y1,w1,x2,y2,w2,rfl,_⟩:=h;rfl
 obtain⟨p,q,x1,y1,w1,x2,y2,w2,rfl,⟨hp,pp⟩,⟨hq,pq⟩,k⟩:=h;have zL:=@pss4;have zf:=@zbu;have zb:=@zd9;have zd:=@zdy;have qpv:=@pv;have za:=@zbg;have zm:=@ze6;have zo:=@zbp;have ze:=@zac;have zc:=@zaq;have zF:=@zf2;have zn:=@zbq;generalize @L2.PE=QE,@L2.PT=QT,@L2.PW=QW,@L2.PA=QA,@L2.PS=QS,@L2.PSs=QSs,@L2.PG=QG,@L2.PGs=QGs,@L2.PI=QI,@L2.PO=QO,@L2.PIf=QIf at zL zf zb zd qpv za zm zo ze zc zF zn⊢;refine⟨_,
  (zL
   (zf (i:=2) zfo.nd rfl (Or.inl rfl) (zb zaf (zd za5 (qpv 0) za (fun _ _=>rfl)) (zd za5 (qpv 1) za (fun _ _=>rfl))))
   (zf (i:=3) zfo.nd rfl (Or.inl rfl) (zb zaf (zd za5 (qpv 1) za (fun _ _=>rfl)) (zd za5 (qpv 0) za (fun _ _=>rfl))))
   (zm (zo zl3 (qpv 2) (qpv 3) (nomark _)) (ze (zc (zF zg2 (qpv 2) (qpv 3) (nomark _)))) zn)
   (zc (zF zg2 (zb zaf (zd za5 (qpv 0) za (fun _ _=>rfl)) (zd za5 (qpv 1) za (fun _ _=>rfl))) (zb zaf (zd za5 (qpv 1) za (fun _ _=>rfl)) (zd za5 (qpv 0) za (fun _ _=>rfl))) (nomark _))))
  ,?_⟩
 clear zL zf zb zd qpv za zm zo ze zc zF zn QE QT QW QA QS QSs QG QGs QI QO QIf
 dsimp! [L2.start]
 simp! [hp,hq];refine⟨cbig pp.1 pq.2.2,cbig pq.1 pp.2.2,?_⟩;unfold bef at k;refine ite2 (fun c=>?_) (fun c=>⟨cbig pp.2.1 pq.2.2,cbig pq.2.1 pp.2.2,?_⟩)
 ·have c':¬x1*w2=x2*w1:=by simpa using c
  rw[if_neg c'] at k;exact k
 ·have c':x1*w2=x2*w1:=by simpa using c
  rw[if_pos c'] at k;exact k
theorem zkg(T:Txt K mg ad fd):FnOk P w K mg base CX0 1 (ad 4) (fd 4) ["number"] zlw:=by
 refine T.sign_of.fn.ok zkb (fun vs H Q E h=>?_) (fun cdv A outer s H vs Q E hr h=>?_)
 ·obtain⟨z,rfl,_⟩:=h;rfl
 obtain⟨z,rfl,k⟩:=h;have zx:=@pss3;have zm:=@ze6;have zo:=@zbp;have qpv:=@pv;have za:=@zbg;have ze:=@zac;have zc:=@zaq;have zn:=@zbq;have yf:=@pe_un;generalize @L2.PE=QE,@L2.PT=QT,@L2.PW=QW,@L2.PA=QA,@L2.PS=QS,@L2.PSs=QSs,@L2.PG=QG,@L2.PGs=QGs,@L2.PI=QI,@L2.PO=QO,@L2.PIf=QIf at zx zm zo qpv za ze zc zn yf⊢;refine⟨_,
  (zx
   (zm (zo op_gt (qpv 0) za (nomark _)) (ze (zc za)) zn)
   (zm (zo zg2 (qpv 0) za (nomark _)) (ze (zc (yf un_neg za))) zn)
   (zc za))
  ,?_⟩
 clear zx zm zo qpv za ze zc zn yf QE QT QW QA QS QSs QG QGs QI QO QIf
 dsimp! [L2.start]
 simp! [];unfold sgn at k;refine ite2 (fun c=>?_) (fun c=>ite2 (fun c2=>?_) (fun c2=>?_))
 ·rw[if_pos (of_decide_eq_true c)] at k;exact k
 ·rw[if_neg (fun z=>c (decide_eq_true z)),if_pos (of_decide_eq_true c2)] at k;exact k
 ·rw[if_neg (fun z=>c (decide_eq_true z)),if_neg (fun z=>c2 (decide_eq_true z))] at k;exact k
theorem zkj(T:Txt K mg ad fd):FnOk P w K mg base CX0 1 (ad 5) (fd 5) ["P","Q"] zlo:=by
 refine T.line_of.fn.ok zka (fun vs H Q E h=>?_) (fun cdv A outer s H vs Q E hr h=>?_)
 ·obtain⟨p,q,x1,y1,w1,x2,y2,w2,rfl,_⟩:=h;rfl
 obtain⟨p,q,x1,y1,w1,x2,y2,w2,rfl,⟨hp,pp⟩,⟨hq,pq⟩,k⟩:=h;have ze:=@zac;have zc:=@zaq;have zq:=@ze1;have zt:=@pa3;have zb:=@zd9;have zd:=@zdy;have qpv:=@pv;have za:=@zbg;generalize @L2.PE=QE,@L2.PT=QT,@L2.PW=QW,@L2.PA=QA,@L2.PS=QS,@L2.PSs=QSs,@L2.PG=QG,@L2.PGs=QGs,@L2.PI=QI,@L2.PO=QO,@L2.PIf=QIf at ze zc zq zt zb zd qpv za⊢;refine⟨_,
  (ze (zc (zq (zt (zb zfa (zb zaf (zd za5 (qpv 0) za (fun _ _=>rfl)) (zd za5 (qpv 1) za (fun _ _=>rfl))) (zb zaf (zd za5 (qpv 0) za (fun _ _=>rfl)) (zd za5 (qpv 1) za (fun _ _=>rfl)))) zad (zb zfa (zb zaf (zd za5 (qpv 0) za (fun _ _=>rfl)) (zd za5 (qpv 1) za (fun _ _=>rfl))) (zb zaf (zd za5 (qpv 0) za (fun _ _=>rfl)) (zd za5 (qpv 1) za (fun _ _=>rfl)))) zad (zb zfa (zb zaf (zd za5 (qpv 0) za (fun _ _=>rfl)) (zd za5 (qpv 1) za (fun _ _=>rfl))) (zb zaf (zd za5 (qpv 0) za (fun _ _=>rfl)) (zd za5 (qpv 1) za (fun _ _=>rfl)))) zad))))
  ,?_⟩
 clear ze zc zq zt zb zd qpv za QE QT QW QA QS QSs QG QGs QI QO QIf
 dsimp! [L2.start]
 simp! [hp,hq];exact⟨cbig pp.2.1 pq.2.2,cbig pp.2.2 pq.2.1,cbig pp.2.2 pq.1,cbig pp.1 pq.2.2,cbig pp.1 pq.2.1,cbig pp.2.1 pq.1,fun r hr=>k r _ (za2 hr _) upd_same⟩
theorem zkq(T:Txt K mg ad fd):FnOk P w K mg base CX0 2 (ad 6) (fd 6) ["line","P"] zli:=by
 refine T.side_of.fn.ok zku (fun vs H Q E h=>?_) (fun cdv A outer s H vs Q E hr h=>?_)
 ·obtain⟨l,p,a,b,c,x,y,w,rfl,_⟩:=h;rfl
 obtain⟨l,p,a,b,c,x,y,w,rfl,hl,⟨la,lb,lc⟩,hp,⟨lx,ly,lw⟩,k⟩:=h;have ze:=@zac;have zc:=@zaq;have zg:=@zaz;have zh:=@pa1;have zb:=@zd9;have zd:=@zdy;have qpv:=@pv;have za:=@zbg;generalize @L2.PE=QE,@L2.PT=QT,@L2.PW=QW,@L2.PA=QA,@L2.PS=QS,@L2.PSs=QSs,@L2.PG=QG,@L2.PGs=QGs,@L2.PI=QI,@L2.PO=QO,@L2.PIf=QIf at ze zc zg zh zb zd qpv za⊢;refine⟨_,
  (ze (zc (zg (zkg T) (hr.mono (by decide)) rfl T.sign_of.mg T.sign_of.fn.kp T.sign_of.bn .nil pass0 (zh (zb zbf (zb zbf (zb zaf (zd za5 (qpv 0) za (fun _ _=>rfl)) (zd za5 (qpv 1) za (fun _ _=>rfl))) (zb zaf (zd za5 (qpv 0) za (fun _ _=>rfl)) (zd za5 (qpv 1) za (fun _ _=>rfl)))) (zb zaf (zd za5 (qpv 0) za (fun _ _=>rfl)) (zd za5 (qpv 1) za (fun _ _=>rfl)))) zad))))
  ,?_⟩
 clear ze zc zg zh zb zd qpv za QE QT QW QA QS QSs QG QGs QI QO QIf
 dsimp! [L2.start]
 simp! [zlw,hl,hp];exact⟨cbig la lx,cbig lb ly,cbig lc lw,k⟩
theorem zgi(T:Txt K mg ad fd):FnOk P w K mg base CX0 3 (ad 7) (fd 7) ["P","Q","R"] sp_turn:=by
 refine T.turn.fn.ok sc_turn (fun vs H Q E h=>?_) (fun cdv A outer s H vs Q E hr h=>?_)
 ·obtain⟨p,q,r,x1,y1,w1,x2,y2,w2,x3,y3,w3,rfl,_⟩:=h;rfl
 obtain⟨p,q,r,x1,y1,w1,x2,y2,w2,x3,y3,w3,rfl,hp,hq,hr',k⟩:=h;have ze:=@zac;have zc:=@zaq;have zg:=@zaz;have zj:=@pa2;have qpv:=@pv;generalize @L2.PE=QE,@L2.PT=QT,@L2.PW=QW,@L2.PA=QA,@L2.PS=QS,@L2.PSs=QSs,@L2.PG=QG,@L2.PGs=QGs,@L2.PI=QI,@L2.PO=QO,@L2.PIf=QIf at ze zc zg zj qpv⊢;refine⟨_,
  (ze (zc (zg (zkq T) (hr.mono (by decide)) rfl T.side_of.mg T.side_of.fn.kp T.side_of.bn .nil pass0 (zj (zg (zkj T) (hr.mono (by decide)) rfl T.line_of.mg T.line_of.fn.kp T.line_of.bn .nil pass0 (zj (qpv 0) za1 (qpv 1) za1)) zce (qpv 2) za1))))
  ,?_⟩
 clear ze zc zg zj qpv QE QT QW QA QS QSs QG QGs QI QO QIf
 dsimp! [L2.start]
 simp! [zlo,zli];exact⟨x1,y1,w1,hp,x2,y2,w2,hq,fun l H2 g2 hl=>⟨_,_,_,hl,ln_bd hp.2 hq.2,_,_,_,(hr'.same g2).1,hr'.2,k H2 g2⟩⟩
theorem ok_amid(T:Txt K mg ad fd):FnOk P w K mg base CX0 3 (ad 8) (fd 8) ["P","Q"] sp_amid:=by
 refine T.amid.fn.ok sc_amid (fun vs H Q E h=>?_) (fun cdv A outer s H vs Q E hr h=>?_)
 ·obtain⟨p,q,x1,y1,w1,x2,y2,w2,rfl,_⟩:=h;rfl
 obtain⟨p,q,x1,y1,w1,x2,y2,w2,rfl,⟨hp,pp⟩,⟨hq,pq⟩,n1,n2,k⟩:=h;have ze:=@zac;have zc:=@zaq;have zg:=@zaz;have zt:=@pa3;have zb:=@zd9;have zd:=@zdy;have qpv:=@pv;have za:=@zbg;generalize @L2.PE=QE,@L2.PT=QT,@L2.PW=QW,@L2.PA=QA,@L2.PS=QS,@L2.PSs=QSs,@L2.PG=QG,@L2.PGs=QGs,@L2.PI=QI,@L2.PO=QO,@L2.PIf=QIf at ze zc zg zt zb zd qpv za⊢;refine⟨_,
  (ze (zc (zg (ok_point T) (hr.mono (by decide)) rfl T.point.mg T.point.fn.kp T.point.bn .nil pass0 (zt (zb zbf (zb zaf (zd za5 (qpv 0) za (fun _ _=>rfl)) (zd za5 (qpv 1) za (fun _ _=>rfl))) (zb zaf (zd za5 (qpv 1) za (fun _ _=>rfl)) (zd za5 (qpv 0) za (fun _ _=>rfl)))) zad (zb zbf (zb zaf (zd za5 (qpv 0) za (fun _ _=>rfl)) (zd za5 (qpv 1) za (fun _ _=>rfl))) (zb zaf (zd za5 (qpv 1) za (fun _ _=>rfl)) (zd za5 (qpv 0) za (fun _ _=>rfl)))) zad (zb zaf (zb zfl za (zd za5 (qpv 0) za (fun _ _=>rfl))) (zd za5 (qpv 1) za (fun _ _=>rfl))) zad))))
  ,?_⟩
 clear ze zc zg zt zb zd qpv za QE QT QW QA QS QSs QG QGs QI QO QIf
 dsimp! [L2.start]
 simp! [zhu,hp,hq];have l2:(2*w1).natAbs<2^(2+1000):=zcy (by decide) pp.2.2
 refine⟨cbig pp.1 pq.2.2,cbig pq.1 pp.2.2,cbig pp.2.1 pq.2.2,cbig pq.2.1 pp.2.2,.inl ⟨by decide,by decide⟩,cbig l2 pq.2.2,?_,zbm (zcy l2 pq.2.2) (by decide),k⟩
 exact Int.mul_ne_zero (Int.mul_ne_zero (by decide) n1) n2
theorem zkk(T:Txt K mg ad fd):FnOk P w K mg base CX0 2 (ad 17) (fd 17) ["P","Q"] sp_sd:=by
 refine T.stretch.fn.ok zk9 (fun vs H Q E h=>?_) (fun cdv A outer s H vs Q E hr h=>?_)
 ·obtain⟨p,q,a,b,rfl,_⟩:=h;rfl
 obtain⟨p,q,a,b,rfl,hp,hq,ne,k⟩:=h;have zx:=@pss3;have zm:=@ze6;have zo:=@zbp;have qpv:=@pv;have ze:=@zac;have zN:=@zfi;have zn:=@zbq;have zD:=@zfz;have zg:=@zaz;have zj:=@pa2;have zc:=@zaq;have zq:=@ze1;generalize @L2.PE=QE,@L2.PT=QT,@L2.PW=QW,@L2.PA=QA,@L2.PS=QS,@L2.PSs=QSs,@L2.PG=QG,@L2.PGs=QGs,@L2.PI=QI,@L2.PO=QO,@L2.PIf=QIf at zx zm zo qpv ze zN zn zD zg zj zc zq⊢;refine⟨_,
  (zx
   (zm (zo (zk1 (hu64 hr)) (qpv 0) (qpv 1) (nomark _)) (ze zN) zn)
   (zm (zD (zg (zhx T) (hr.mono (by decide)) rfl T.before.mg T.before.fn.kp T.before.bn .nil pass0 (zj (qpv 0) za1 (qpv 1) za1))) (ze (zc (zq (zj (qpv 0) za1 (qpv 1) za1)))) zn)
   (zc (zq (zj (qpv 1) za1 (qpv 0) za1))))
  ,?_⟩
 clear zx zm zo qpv ze zN zn zD zg zj zc zq QE QT QW QA QS QSs QG QGs QI QO QIf
 dsimp! [L2.start]
 simp! [tRaise];refine⟨_,_,rd_pt (.of hp.1),rd_pt (.of hq.1),zdu _ _ _,zdu _ _ _,_,rfl,?_⟩;rw[zme,decide_eq_false ne];unfold sd1 at k;refine iteF ⟨p,q,_,_,_,_,_,_,rfl,hp,hq,_,rfl,ite2 (fun c=>?_) (fun c=>?_)⟩
 ·intro r hr';have g:=za2 hr' (HO.tup [V.ref p,V.ref q]);have z:=k r _ g;rw[if_pos c] at z;exact z ⟨p,q,upd_same,hp.same g,hq.same g⟩
 ·intro r hr';have g:=za2 hr' (HO.tup [V.ref q,V.ref p]);have z:=k r _ g;rw[if_neg c] at z;exact z ⟨q,p,upd_same,hq.same g,hp.same g⟩
theorem ziv(T:Txt K mg ad fd):FnOk P w K mg base CX0 3 (ad 20) (fd 20) ["rings"] sp_sides:=by
 refine T.sides_of.fn.ok zcp (fun vs H Q E h=>?_) (fun cdv A outer s H vs Q E hr h=>?_)
 ·obtain⟨l,ys,rs,rfl,_⟩:=h;rfl
 obtain⟨l,ys,rs,rfl,hl,hz,hR,k⟩:=h;have zx:=@pss3;have zf:=@zbu;have zv:=@zes;have zB:=@zd3;have zr:=@zde;have zp:=@zc4;have qpv:=@pv;have zk:=@zbz;have ze:=@zac;have yq:=@pi_zip;have zj:=@pa2;have zb:=@zd9;have zH:=@zei;have zI:=@zfp;have za:=@zbg;have zJ:=@zg0;have yr:=@pg_tup;have zK:=@zeg;have zM:=@zfu;have zm:=@ze6;have zo:=@zbp;have zA:=@zdj;have zy:=@zhj;have zh:=@pa1;have zg:=@zaz;have zn:=@zbq;have zc:=@zaq;generalize @L2.PE=QE,@L2.PT=QT,@L2.PW=QW,@L2.PA=QA,@L2.PS=QS,@L2.PSs=QSs,@L2.PG=QG,@L2.PGs=QGs,@L2.PI=QI,@L2.PO=QO,@L2.PIf=QIf at zx zf zv zB zr zp qpv zk ze yq zj zb zH zI za zJ yr zK zM zm zo zA zy zh zg zn zc⊢;refine⟨_,
  (zx
   (zf (i:=1) zcp.nd rfl (Or.inl rfl) (zv zB))
   (zr PassesOwn.never rfl (zp (qpv 0)) (zk (i:=2) zcp.nd rfl (Or.inl rfl)) (ze (zr PassesOwn.never rfl (yq rfl T.b_zip (zj (qpv 2) za1 (zb zjb (zH zc6 (qpv 2) (zI za) zJ) (zH zc6 (qpv 2) zJ (zI za))) zad)) (yr (n:=2) rfl (zK (zk (i:=3) zcp.nd rfl (Or.inl rfl)) (zK (zk (i:=4) zcp.nd rfl (Or.inl rfl)) zM))) (ze (zm (zo (zl6 (hu64 hr)) (qpv 3) (qpv 4) (nomark _)) (ze (zA (zy PySem.F.plainAttrs_list PySem.F.slot_list_append PySem.F.type_list_append zbn (qpv 1) (zh (zg (zkk T) (hr.mono (by decide)) rfl T.stretch.mg T.stretch.fn.kp T.stretch.bn .nil pass0 (zj (qpv 3) za1 (qpv 4) za1)) zce)))) zn)))))
   (zc (qpv 1)))
  ,?_⟩
 clear zx zf zv zB zr zp qpv zk ze yq zj zb zH zI za zJ yr zK zM zm zo zA zy zh zg zn zc QE QT QW QA QS QSs QG QGs QI QO QIf
 dsimp! [L2.start]
 simp! [];intro D hD;have gD:=za2 hD (HO.lst []);refine⟨_,rfl,l,rfl,⟨_,.of (gD _ _ hl)⟩,zc8 (K:=K) (a:=l) (xs:=ys) (fun i σ H'=>Same H H'/\∃(zs:List V)(u v t:Option V),σ=[some (V.ref l),some (V.ref D),u,v,t]/\H' D=some (.lst zs)/\zs.length<=20*i/\StL H' zs (sdA rs i)) ⟨gD,[],none,none,none,rfl,upd_same,Nat.le_refl _,.nil⟩ (fun i σ H' _ iv=>.of (iv.1 _ _ hl)) ?_ ?_⟩
 ·intro _ _;rintro i v σ H2 hi ⟨g2,zs,u,v',t,rfl,hD2,hn,hs⟩;obtain⟨p,r,rfl,hr',ws,hp,hw,h20,hit⟩:=hR.2 i v hi;have i20:i<20:=Nat.lt_of_lt_of_le (List.getElem?_eq_some_iff.mp hi).1 hz;have hp2:=g2 _ _ hp;simp! [];refine zcf ?_;simp! [iZip,hp2,zhb,zlv];intro p1 hp1;have g3:=za2 hp1 (HO.lst (ws.drop 1));have h31:upd H2 p1 (HO.lst (ws.drop 1)) p1=some (HO.lst (ws.drop 1)):=upd_same;have hr3:=g3 _ _ hp2;generalize upd H2 p1 (HO.lst (ws.drop 1))=H3 at*;simp! [hr3,zlv];intro p2 hq2;have g4:=za2 hq2 (HO.lst (ws.take 1));have h42:upd H3 p2 (HO.lst (ws.take 1)) p2=some (HO.lst (ws.take 1)):=upd_same;have h41:=g4 _ _ h31;generalize upd H3 p2 (HO.lst (ws.take 1))=H4 at*;refine⟨p1,p2,_,_,rfl,rfl,h41,h42,?_,fun p3 hp3=>?_⟩
  ·have:sizeLine=sizeLine:=rfl;rw[List.length_drop,List.length_take];exact Nat.le_trans (show _<=40 by omega) (by decide)
  have g5:=za2 hp3 (HO.lst (ws.drop 1++ws.take 1));have h53:upd H4 p3 (HO.lst (ws.drop 1++ws.take 1)) p3=some (HO.lst (ws.drop 1++ws.take 1)):=upd_same;have g25:=g3.trans (g4.trans g5);have hD4:=g4 _ _ (g3 _ _ hD2);have nD:D≠p3:=zag hD4 hp3;generalize upd H4 p3 (HO.lst (ws.drop 1++ws.take 1))=H5 at*;simp! [];have len:ws.length=(ws.drop 1++ws.take 1).length:=by rw[List.length_append,List.length_drop,List.length_take];omega
  refine⟨⟨_,.of (g25 _ _ hp2)⟩,⟨_,.of h53⟩,for_zip (K:=K) (l1:=p) (l2:=p3) (xs:=ws) (ys:=ws.drop 1++ws.take 1) (fun j σ H'=>Same H H'/\H' p3=some (.lst (ws.drop 1++ws.take 1))/\∃(zs:List V)(v t:Option V),σ=[some (V.ref l),some (V.ref D),some (V.ref p),v,t]/\H' D=some (.lst zs)/\zs.length<=20*i+j/\StL H' zs (sdA rs i++sdR r j))
   ⟨g2.trans g25,h53,zs,v',t,rfl,g25 _ _ hD2,hn,by rw[show sdR r 0=[] from rfl,List.append_nil];exact hs.ts (zae g25)⟩ (fun j σ H' iv=>⟨.of (iv.1 _ _ hp),.of iv.2.1⟩) len ?_ ?_⟩
  ·rintro j x y T σ H6 hx hy ⟨g6,h63,zs6,v6,t6,rfl,hD6,hn6,hs6⟩ hT;have hj:j<ws.length:=(List.getElem?_eq_some_iff.mp hx).1;rw[znr ws j hj,hw] at hy;obtain⟨a,ca,rfl,ea,ta⟩:=hit _ _ hx;obtain⟨b,cb,rfl,eb,tb⟩:=hit _ _ hy;have g7:=za2 hT (HO.tup [V.ref a,V.ref b]);have hT7:upd H6 T (HO.tup [V.ref a,V.ref b]) T=some (HO.tup [V.ref a,V.ref b]):=upd_same;have hD7:=g7 _ _ hD6;have h73:=g7 _ _ h63;have hs7:=hs6.ts (zae g7);have ta7:=ta.same (g6.trans g7);have tb7:=tb.same (g6.trans g7);generalize upd H6 T (HO.tup [V.ref a,V.ref b])=H7 at*;simp! [];refine⟨_,.of hT7,rfl,_,_,rfl,_,_,rfl,rfl,_,_,rd_pt (.of ta7.1),rd_pt (.of tb7.1),zdu _ _ _,zdu _ _ _,_,rfl,?_⟩;rw[zme,sdR_succ,zhr ea eb,←List.append_assoc];unfold sd
   by_cases e:ca.x=cb.x/\ca.y=cb.y/\ca.w=cb.w
   ·rw[decide_eq_true e,if_pos e,List.append_nil];exact iteF ⟨g6.trans g7,h73,zs6,hD7,by omega,hs7⟩
   ·rw[decide_eq_false e,if_neg e];refine iteT ⟨zdp hD7,a,b,ca,cb,rfl,ta7,tb7,e,fun rr H8 g8 st=>?_⟩;have hD8:=g8 _ _ hD7;refine⟨zs6,hD8,?_,zao (g6.trans (g7.trans g8)) hD,by rw[za7 nD.symm];exact g8 _ _ h73,by rw[List.length_append,List.length_singleton];omega,((hs7.ts (zae g8)).snoc st).ts (zcg hD8)⟩
    exact Nat.lt_of_le_of_lt (show zs6.length<=1000 by omega) (by decide)
  ·rintro σ H6 ⟨g6,h63,zs6,v6,t6,rfl,hD6,hn6,hs6⟩;refine⟨g6,⟨_,_,_,rfl⟩,zs6,hD6,by omega,?_⟩
   rw[sdA_succ hr',←hw];exact hs6
 ·rintro σ H2 ⟨g2,zs,u,v',t,rfl,hD2,hn,hs⟩;simp! [];rw[hR.1] at hs;exact k D zs H2 hD g2 hD2 (Nat.le_trans hn (Nat.mul_le_mul_left 20 hz)) hs
theorem ok_spans(T:Txt K mg ad fd):FnOk P w K mg base CX0 1 (ad 19) (fd 19) ["S","P"] sp_spans:=by
 refine T.spans.fn.ok sc_spans (fun vs H Q E h=>?_) (fun cdv A outer s H vs Q E hr h=>?_)
 ·obtain⟨p,q,d,x,y,w,rfl,_⟩:=h;rfl
 obtain⟨p,q,d,x,y,w,rfl,⟨a,b,hp,ha,hb⟩,hq,k⟩:=h;have zE:=@pss2;have zm:=@ze6;have zo:=@zbp;have zb:=@zd9;have zd:=@zdy;have qpv:=@pv;have za:=@zbg;have ze:=@zac;have zc:=@zaq;have zQ:=@pe_bl;have zn:=@zbq;have zF:=@zf2;generalize @L2.PE=QE,@L2.PT=QT,@L2.PW=QW,@L2.PA=QA,@L2.PS=QS,@L2.PSs=QSs,@L2.PG=QG,@L2.PGs=QGs,@L2.PI=QI,@L2.PO=QO,@L2.PIf=QIf at zE zm zo zb zd qpv za ze zc zQ zn zF⊢;refine⟨_,
  (zE
   (zm (zo zg2 (zb zaf (zd za5 (qpv 1) za (fun _ _=>rfl)) (zd za5 (zd za5 (qpv 0) za (fun _ _=>rfl)) za (fun _ _=>rfl))) (zb zaf (zd za5 (zd za5 (qpv 0) za (fun _ _=>rfl)) za (fun _ _=>rfl)) (zd za5 (qpv 1) za (fun _ _=>rfl))) (nomark _)) (ze (zc zQ)) zn)
   (zc (zF zg2 (zb zaf (zd za5 (qpv 1) za (fun _ _=>rfl)) (zd za5 (zd za5 (qpv 0) za (fun _ _=>rfl)) za (fun _ _=>rfl))) (zb zaf (zd za5 (zd za5 (qpv 0) za (fun _ _=>rfl)) za (fun _ _=>rfl)) (zd za5 (qpv 1) za (fun _ _=>rfl))) (nomark _))))
  ,?_⟩
 clear zE zm zo zb zd qpv za ze zc zQ zn zF QE QT QW QA QS QSs QG QGs QI QO QIf
 dsimp! [L2.start]
 simp! [hp,ha.1,hb.1,hq.1];unfold zje at k;refine⟨cbig hq.2.1 ha.2.2.2,cbig ha.2.1 hq.2.2.2,ite2 (fun c=>?_) (fun c=>⟨cbig hq.2.1 hb.2.2.2,cbig hb.2.1 hq.2.2.2,?_⟩)⟩
 ·rw[if_pos (of_decide_eq_true c)] at k;exact k
 ·rw[if_neg (fun z=>c (decide_eq_true z))] at k;exact k
theorem ok_above(T:Txt K mg ad fd):FnOk P w K mg base CX0 4 (ad 18) (fd 18) ["stretches","P"] sp_above:=by
 refine T.above.fn.ok sc_above (fun vs H Q E h=>?_) (fun cdv A outer s H vs Q E hr h=>?_)
 ·obtain⟨l,q,ys,ds,x,y,w,rfl,_⟩:=h;rfl
 obtain⟨l,q,ys,ds,x,y,w,rfl,hl,hz,hs,hq,k⟩:=h;have ze:=@zac;have zc:=@zaq;have zu:=@zch;have zh:=@pa1;have zw:=@ze8;unfold L2.CompBody at zw;have zp:=@zc4;have qpv:=@pv;have zk:=@zbz;have zZ:=@znh;have zU:=@PW.pt;have yt:=@pw_and;have zD:=@zfz;have zg:=@zaz;have zj:=@pa2;have yu:=@pw_and1;have zo:=@zbp;have zt:=@pa3;have zd:=@zdy;have za:=@zbg;generalize @L2.PE=QE,@L2.PT=QT,@L2.PW=QW,@L2.PA=QA,@L2.PS=QS,@L2.PSs=QSs,@L2.PG=QG,@L2.PGs=QGs,@L2.PI=QI,@L2.PO=QO,@L2.PIf=QIf at ze zc zu zh zw zp qpv zk zZ zU yt zD zg zj yu zo zt zd za⊢;refine⟨_,
  (ze (zc (zu zd7 rfl T.b_len zed (zh (zw (dsc:=za0 zd0) (N:=["stretches","P"]) (own:=["S"]) (ix:=[1]) rfl rfl rfl ⟨rfl,by decide+kernel,by decide+kernel,by decide+kernel,by decide+kernel⟩ (zp (qpv 0)) (fun cl C fp s2 H2 xe=>⟨(zk (i:=0) (show List.Nodup (["S","P"]:List Str) from by decide+kernel) rfl (Or.inl rfl)),(zZ (zU (yt (zD (zg (ok_spans T) (hr.mono (by decide)) rfl T.spans.mg T.spans.fn.kp T.spans.bn .nil pass0 (zj (qpv 0) za1 (qpv 1) za1))) (yu (zo zg2 (zg (zgi T) (hr.mono (by decide)) rfl T.turn.mg T.turn.fn.kp T.turn.bn .nil pass0 (zt (zd za5 (qpv 0) za (fun _ _=>rfl)) za8 (zd za5 (qpv 0) za (fun _ _=>rfl)) za8 (qpv 1) za1)) za (nomark _)))))),(qpv 0)⟩)) zda))))
  ,?_⟩
 clear ze zc zu zh zw zp qpv zk zZ zU yt zD zg zj yu zo zt zd za QE QT QW QA QS QSs QG QGs QI QO QIf
 dsimp! [L2.start]
 simp only[tSeq,tAsg,L2.start,cx_K,List.map_cons,List.map_nil,List.length_cons,List.length_nil,List.replicate,List.cons_append,List.nil_append,Nat.reduceAdd,Nat.reduceSub,Nat.zero_add,tRet,tCB,zc7,tNil];refine zb3 ?_;refine⟨_,rfl,l,rfl,⟨_,.of hl⟩,fun D hD=>?_⟩;refine zb0 (xs:=ys) (fun i zs H'=>Same H H'/\H' D=some (.lst zs)/\zs.length=cntAb (ds.take i) x y w/\zs.length<=i) ⟨za2 hD _,upd_same,rfl,Nat.zero_le _⟩ (fun i zs H' p=>.of (p.1 _ _ hl)) ?_ ?_
 ·rintro i zs H2 v hi hv ⟨g2,hD2,hn,hle⟩;obtain⟨p,d,rfl,hd,hp⟩:=hs.2 i v hv;have hp2:=hp.ts (zae g2);have hq2:=hq.same g2;have ct:=cnt_take x y w hd;simp! [];obtain⟨a,b,ha,hA,hB⟩:=id hp2;refine⟨p,q,d,x,y,w,rfl,hp2,hq2,_,rfl,ite2 (fun c=>?_) (fun c=>?_)⟩
  ·simp! [ha];refine⟨a,b,q,_,_,_,_,_,_,x,y,w,rfl,hA,hB,hq2.mono,fun H3 g3'=>⟨_,rfl,ite2 (fun c2=>?_) (fun c2=>?_)⟩⟩
   ·have ea:abv x y w d=true:=by unfold abv;rw[c,decide_eq_true (sgn_lt.mp (of_decide_eq_true c2))];rfl
    refine cw_put hi (g3' _ _ hD2) (Nat.lt_of_le_of_lt hle (Nat.lt_trans hi (Nat.lt_trans hz (by decide)))) ⟨zao (g2.trans g3') hD,upd_same,?_,?_⟩
    ·rw[ct,if_pos ea,List.length_append,hn];rfl
    ·rw[List.length_append];exact Nat.succ_le_succ hle
   ·have ea:¬abv x y w d=true:=by
     unfold abv;rw[c,Bool.true_and];exact fun z=>c2 (decide_eq_true (sgn_lt.mpr (of_decide_eq_true z)))
    exact cw_skip hi ⟨g2.trans g3',g3' _ _ hD2,by rw[ct,if_neg ea,hn];rfl,Nat.le_succ_of_le hle⟩
  ·have ea:¬abv x y w d=true:=by
    unfold abv;intro z;rw[Bool.and_eq_true] at z;exact c z.1
   exact cw_skip hi ⟨g2,hD2,by rw[ct,if_neg ea,hn];rfl,Nat.le_succ_of_le hle⟩
 ·rintro zs H2 ⟨g2,hD2,hn,hle⟩;simp! [hD2];rw[hn,hs.1,List.take_length];exact k H2 g2
def sgD(a b c:Q3):Int:=sgn (det3 a.x a.y a.w b.x b.y b.w c.x c.y c.w)
def soon(a b c d:Q3):Bool:=if sgD a b c=sgD a b d then decide (sgD a c d<0) else decide (sgD a b c<sgD a b d)
def sp_soon:Sp:=fun vs H Q _=>∃(p q r t:Addr)(a b c d:Q3),vs=[.ref p,.ref q,.ref r,.ref t]/\QH H p a/\QH H q b/\QH H r c/\QH H t d/\∀H',Same H H'->Q (.bl (soon a b c d)) H'
theorem zfd(T:Txt K mg ad fd):FnOk P w K mg base CX0 4 (ad 15) (fd 15) ["P","Q","one","other"] sp_soon:=by
 refine T.is_met_sooner.fn.ok zcd (fun vs H Q E h=>?_) (fun cdv A outer s H vs Q E hr h=>?_)
 ·obtain⟨p,q,r,t,a,b,c,d,rfl,_⟩:=h;rfl
 obtain⟨p,q,r,t,a,b,c,d,rfl,hp,hq,hc,hd,k⟩:=h;have zL:=@pss4;have zf:=@zbu;have zg:=@zaz;have zt:=@pa3;have qpv:=@pv;have zm:=@ze6;have zo:=@zbp;have ze:=@zac;have zc:=@zaq;have zF:=@zf2;have zn:=@zbq;have za:=@zbg;generalize @L2.PE=QE,@L2.PT=QT,@L2.PW=QW,@L2.PA=QA,@L2.PS=QS,@L2.PSs=QSs,@L2.PG=QG,@L2.PGs=QGs,@L2.PI=QI,@L2.PO=QO,@L2.PIf=QIf at zL zf zg zt qpv zm zo ze zc zF zn za⊢;refine⟨_,
  (zL
   (zf (i:=4) zcd.nd rfl (Or.inl rfl) (zg (zgi T) (hr.mono (by decide)) rfl T.turn.mg T.turn.fn.kp T.turn.bn .nil pass0 (zt (qpv 0) za1 (qpv 1) za1 (qpv 2) za1)))
   (zf (i:=5) zcd.nd rfl (Or.inl rfl) (zg (zgi T) (hr.mono (by decide)) rfl T.turn.mg T.turn.fn.kp T.turn.bn .nil pass0 (zt (qpv 0) za1 (qpv 1) za1 (qpv 3) za1)))
   (zm (zo zl3 (qpv 4) (qpv 5) (nomark _)) (ze (zc (zF zg2 (qpv 4) (qpv 5) (nomark _)))) zn)
   (zc (zF zg2 (zg (zgi T) (hr.mono (by decide)) rfl T.turn.mg T.turn.fn.kp T.turn.bn .nil pass0 (zt (qpv 0) za1 (qpv 2) za1 (qpv 3) za1)) za (nomark _))))
  ,?_⟩
 clear zL zf zg zt qpv zm zo ze zc zF zn za QE QT QW QA QS QSs QG QGs QI QO QIf
 dsimp! [L2.start]
 simp! [];refine⟨p,q,r,_,_,_,_,_,_,_,_,_,rfl,hp.tb,hq.tb,hc.tb,fun H1 g1=>?_⟩;refine⟨p,q,t,_,_,_,_,_,_,_,_,_,rfl,(hp.same g1).tb,(hq.same g1).tb,(hd.same g1).tb,fun H2 g2=>?_⟩;unfold soon sgD at k;refine⟨rfl,ite2 (fun c1=>?_) (fun c1=>?_)⟩
 ·have z:=k H2 (g1.trans g2)
  split at z
  ·next e=>exact absurd e (by simpa using c1)
  ·exact⟨_,rfl,_,rfl,z⟩
 ·have g12:=g1.trans g2;refine⟨p,r,t,_,_,_,_,_,_,_,_,_,rfl,(hp.same g12).tb,(hc.same g12).tb,(hd.same g12).tb,fun H3 g3=>?_⟩;have z:=k H3 (g12.trans g3)
  split at z
  ·exact⟨_,rfl,z⟩
  ·next e=>exact absurd (by simpa using c1) e
def zh9(a b:Q3)(c:Q3)(ts:List Q3):Q3:=ts.foldl (fun m t=>if soon a b t m=true then t else m) c
def zjw(a b:Q3):List Q3->Q3
 |[]=>a
 |c::ts=>zh9 a b c ts
theorem zg7(a b c t:Q3)(ts:List Q3):zh9 a b c (ts++[t])=if soon a b t (zh9 a b c ts)=true then t else zh9 a b c ts:=by
 unfold zh9;rw[List.foldl_append];rfl
def sp_first:Sp:=fun vs H Q _=>∃(p q l:Addr)(ys:List V)(a b:Q3)(ts:List Q3),vs=[.ref p,.ref q,.ref l]/\QH H p a/\QH H q b/\H l=some (.lst ys)/\ys.length<=100/\LR QH H ys ts/\ts≠[]/\∀r H',Same H H'->QH H' r (zjw a b ts)->Q (.ref r) H'
theorem zg3(T:Txt K mg ad fd):FnOk P w K mg base CX0 5 (ad 14) (fd 14) ["P","Q","tips"] sp_first:=by
 refine T.first_right.fn.ok zc5 (fun vs H Q E h=>?_) (fun cdv A outer s H vs Q E hr h=>?_)
 ·obtain⟨p,q,l,ys,a,b,ts,rfl,_⟩:=h;rfl
 obtain⟨p,q,l,ys,a,b,ts,rfl,hp,hq,hl,hn,ht,ne,k⟩:=h;have zx:=@pss3;have zf:=@zbu;have zd:=@zdy;have qpv:=@pv;have za:=@zbg;have zr:=@zde;have zp:=@zc4;have zH:=@zei;have zI:=@zfp;have zJ:=@zg0;have zk:=@zbz;have ze:=@zac;have zm:=@ze6;have zD:=@zfz;have zg:=@zaz;have yg:=@pa4;have zn:=@zbq;have zc:=@zaq;generalize @L2.PE=QE,@L2.PT=QT,@L2.PW=QW,@L2.PA=QA,@L2.PS=QS,@L2.PSs=QSs,@L2.PG=QG,@L2.PGs=QGs,@L2.PI=QI,@L2.PO=QO,@L2.PIf=QIf at zx zf zd qpv za zr zp zH zI zJ zk ze zm zD zg yg zn zc⊢;refine⟨_,
  (zx
   (zf (i:=3) zc5.nd rfl (Or.inl rfl) (zd zat (qpv 2) za (fun _ _=>rfl)))
   (zr PassesOwn.never rfl (zp (zH zc6 (qpv 2) (zI za) zJ)) (zk (i:=4) zc5.nd rfl (Or.inl rfl)) (ze (zm (zD (zg (zfd T) (hr.mono (by decide)) rfl T.is_met_sooner.mg T.is_met_sooner.fn.kp T.is_met_sooner.bn .nil pass0 (yg (qpv 0) za1 (qpv 1) za1 (qpv 4) za1 (qpv 3) za1))) (ze (zf (i:=3) zc5.nd rfl (Or.inl rfl) (qpv 4))) zn)))
   (zc (qpv 3)))
  ,?_⟩
 clear zx zf zd qpv za zr zp zH zI zJ zk ze zm zD zg yg zn zc QE QT QW QA QS QSs QG QGs QI QO QIf
 dsimp! [L2.start]
 obtain⟨c,cs,rfl⟩:∃c cs,ts=c::cs:=by
  cases ts with
  |nil=>exact absurd rfl ne
  |cons c cs=>exact⟨c,cs,rfl⟩
 obtain⟨y,ys,rfl⟩:∃y y',ys=y::y':=by
  cases ys with
  |nil=>cases ht.1
  |cons y y'=>exact⟨y,y',rfl⟩
 obtain⟨_,_,e,⟨pc,rfl,hc⟩,hys⟩:=ht.cons_inv
 cases e;simp! [hl];refine zcf ?_;simp! [zd1,hl,zhb,List.drop_succ_cons,List.drop_zero];intro D hD;have g1:=za2 hD (HO.lst ys);have hD1:upd H D (HO.lst ys) D=some (.lst ys):=upd_same;show _;generalize upd H D (HO.lst ys)=H1 at*;refine⟨⟨_,.of hD1⟩,?_⟩;refine zc8 (K:=K) (a:=D) (xs:=ys) (fun i σ H'=>Same H1 H'/\∃(r:Addr)(o:Option V),σ=[some (V.ref p),some (V.ref q),some (V.ref l),some (V.ref r),o]/\QH H' r (zh9 a b c (cs.take i))) ⟨.refl _,pc,none,rfl,hc.same g1⟩ (fun i σ H' _ iv=>.of (iv.1 _ _ hD1)) ?_ ?_
 ·intro _ _;rintro i v σ H2 hi ⟨g2,r,o,rfl,hr2⟩;obtain⟨t,d,rfl,hd',hd⟩:=hys.2 i v hi;have g02:=g1.trans g2;simp! [];refine⟨p,q,t,r,a,b,d,_,rfl,hp.same g02,hq.same g02,hd.same g02,hr2,fun H3 g3=>⟨_,rfl,?_⟩⟩;rw[List.take_add_one,hd'];show _;refine ite2 (fun c1=>?_) (fun c1=>?_)
  ·refine⟨g2.trans g3,?_⟩;rw[show(some d).toList=[d] from rfl,zg7,if_pos c1];exact hd.same (g02.trans g3)
  ·refine⟨g2.trans g3,?_⟩;rw[show(some d).toList=[d] from rfl,zg7,if_neg c1];exact hr2.same g3
 ·rintro σ H2 ⟨g2,r,o,rfl,hr2⟩;simp! [];rw[List.take_of_length_le (by rw[←hys.1];exact Nat.le_refl _)] at hr2
  exact k r H2 (g1.trans g2) hr2
def z3:Q3:=⟨0,0,1⟩
def rot{α:Type}(r:List α)(i:Nat):List α:=r.drop i++r.take i
def nx(r:List Q3)(i:Nat):Q3:=r.getD (i%r.length) z3
theorem zbe{α:Type}(r:List α)(i:Nat):(rot r i).length=r.length:=by
 unfold rot;rw[List.length_append,List.length_drop,List.length_take];omega
theorem zk3{α:Type}{r:List α}{i j:Nat}(hi:i<r.length)(hj:j<r.length):(rot r i)[j]?=r[(i+j)%r.length]?:=by
 unfold rot
 by_cases c:i+j<r.length
 ·rw[List.getElem?_append_left (by rw[List.length_drop];omega),List.getElem?_drop,Nat.mod_eq_of_lt c]
 ·rw[List.getElem?_append_right (by rw[List.length_drop];omega),List.length_drop,Nat.mod_eq_sub_mod (by omega),Nat.mod_eq_of_lt (by omega),List.getElem?_take_of_lt (by omega)]
  congr 1
  omega
theorem zgj{α:Type}{r:List α}{i:Nat}{x:α}:x∈rot r i↔x∈r:=by
 unfold rot;rw[List.mem_append,or_comm,←List.mem_append,List.take_append_drop]
theorem zl2{α:Type}{r:List α}{i:Nat}(h:r.Nodup):(rot r i).Nodup:=by
 unfold rot;rw[List.nodup_append];have h':=h;rw[←List.take_append_drop i r,List.nodup_append] at h';exact⟨h'.2.1,h'.1,fun a ha b hb e=>h'.2.2 b hb a ha e.symm⟩
theorem zbs{r:List Q3}{i:Nat}(hi:i<r.length)(j:Nat):nx (rot r i) j=nx r (i+j):=by
 unfold nx;rw[zbe,List.getD_eq_getElem?_getD,zk3 hi (Nat.mod_lt _ (by omega)),List.getD_eq_getElem?_getD,Nat.add_mod_mod]
theorem zha{r:List Q3}{i:Nat}(hi:i<r.length):nx r i=r[i]:=by
 unfold nx;rw[Nat.mod_eq_of_lt hi,List.getD_eq_getElem?_getD,List.getElem?_eq_getElem hi];rfl
theorem zkn{r:List Q3}{i:Nat}(hi:i<r.length):r[i]?=some (nx r i):=by rw[zha hi,List.getElem?_eq_getElem hi]
theorem zfc(r:List Q3)(i:Nat):nx r (i%r.length)=nx r i:=by
 unfold nx;rw[Nat.mod_mod]
theorem zep(r:List Q3)(i:Nat):nx r (r.length+i)=nx r i:=by
 unfold nx;rw[Nat.add_mod_left]
theorem zfn{r:List Q3}(h:0<r.length)(i:Nat):nx r i∈r:=by
 rw[←zfc,zha (Nat.mod_lt _ h)];exact List.getElem_mem _
theorem zmt{r:List Q3}(nd:r.Nodup){i j:Nat}(hi:i<r.length)(hj:j<r.length)(h:nx r i=nx r j):i=j:=by
 rw[zha hi,zha hj] at h;exact(List.getElem_inj nd).mp h
def sds(r:List Q3):List (Q3×Q3):=(List.range r.length).map fun i=>(nx r i,nx r (i+1))
theorem zex{r:List Q3}{e:Q3×Q3}:e∈sds r↔∃i,i<r.length/\e=(nx r i,nx r (i+1)):=by
 unfold sds;rw[List.mem_map];exact⟨fun⟨i,h,e⟩=>⟨i,List.mem_range.mp h,e.symm⟩,fun⟨i,h,e⟩=>⟨i,List.mem_range.mpr h,e.symm⟩⟩
theorem ze3{r:List Q3}(h:0<r.length)(i:Nat):(nx r i,nx r (i+1))∈sds r:=by
 refine zex.mpr ⟨i%r.length,Nat.mod_lt _ h,?_⟩;rw[zfc,←zfc r (i+1),←zfc r (i%r.length+1),Nat.mod_add_mod]
theorem zey{r:List Q3}{i:Nat}(hi:i<r.length){e:Q3×Q3}:e∈sds (rot r i)↔e∈sds r:=by
 constructor
 ·intro h;obtain⟨j,hj,rfl⟩:=zex.mp h;rw[zbs hi,zbs hi,←Nat.add_assoc];exact ze3 (by omega) _
 ·intro h;obtain⟨j,hj,rfl⟩:=zex.mp h;have z:=ze3 (r:=rot r i) (by rw[zbe];omega) (r.length-i+j)
  rw[zbs hi,zbs hi,show i+(r.length-i+j)=r.length+j by omega,show i+(r.length-i+j+1)=r.length+(j+1) by omega,zep,zep] at z
  exact z
def leav(ss:List (Q3×Q3))(p:Q3):List Q3:=(ss.filter fun e=>decide (e.1=p)).map Prod.snd
theorem zd5(ss:List (Q3×Q3))(e:Q3×Q3)(p:Q3):leav (ss++[e]) p=leav ss p++if e.1=p then[e.2] else[]:=by
 unfold leav;rw[List.filter_append,List.map_append]
 congr 1
 by_cases c:e.1=p
 ·rw[if_pos c,List.filter_cons,if_pos (decide_eq_true c)];rfl
 ·rw[if_neg c,List.filter_cons,if_neg (fun z=>c (of_decide_eq_true z))];rfl
theorem zfe{ss:List (Q3×Q3)}{p q:Q3}:q∈leav ss p↔(p,q)∈ss:=by
 unfold leav;rw[List.mem_map]
 constructor
 ·rintro⟨e,he,rfl⟩;obtain⟨h1,h2⟩:=List.mem_filter.mp he;rw[←of_decide_eq_true h2];exact h1
 ·intro h;exact⟨(p,q),List.mem_filter.mpr ⟨h,decide_eq_true rfl⟩,rfl⟩
theorem zjx(ss:List (Q3×Q3))(p:Q3):(leav ss p).length<=ss.length:=by
 unfold leav;rw[List.length_map];exact List.length_filter_le _ _
structure Ring(ss:List (Q3×Q3))(r:List Q3):Prop where
 nd:r.Nodup
 two:2<=r.length
 ten:r.length<=10
 fr:∀i,zjw (nx r (i+1)) (nx r i) (leav ss (nx r (i+1)))=nx r (i+2)
 mem:∀i,(nx r i,nx r (i+1))∈ss
theorem Ring.rot{ss:List (Q3×Q3)}{r:List Q3}(h:Ring ss r){i:Nat}(hi:i<r.length):Ring ss (rot r i):=by
 refine⟨zl2 h.nd,by rw[zbe];exact h.two,by rw[zbe];exact h.ten,fun j=>?_,fun j=>?_⟩
 ·rw[zbs hi,zbs hi,zbs hi,←Nat.add_assoc,←Nat.add_assoc];exact h.fr (i+j)
 ·rw[zbs hi,zbs hi,←Nat.add_assoc];exact h.mem (i+j)
def zca(q r:List Q3):Prop:=∃i,i<r.length/\q=rot r i/\∀x,x∈r->bq x (nx q 0)=false
theorem zca.uniq{n:Nat}{q q' r:List Q3}(nd:r.Nodup)(pq:∀x,x∈r->PQ n x)(h:zca q r)(h':zca q' r):q=q':=by
 obtain⟨i,hi,rfl,l⟩:=h;obtain⟨j,hj,rfl,l'⟩:=h';have e0:nx (Mine.rot r i) 0=nx r i:=zbs hi 0;have e1:nx (Mine.rot r j) 0=nx r j:=zbs hj 0;rw[e0] at l;rw[e1] at l';have mi:=zfn (r:=r) (by omega) i
 have mj:=zfn (r:=r) (by omega) j
 have e:nx r i=nx r j:=by
  exact pq_tri (pq _ mi) (pq _ mj) (l' _ mi) (l _ mj)
 rw[zmt nd hi hj e]
theorem zca.of_rot{q r:List Q3}{i:Nat}(hi:i<r.length)(h:zca q (rot r i)):zca q r:=by
 obtain⟨j,hj,rfl,l⟩:=h;rw[zbe] at hj;refine⟨(i+j)%r.length,Nat.mod_lt _ (by omega),?_,fun x hx=>l x (zgj.mpr hx)⟩
 refine List.ext_getElem? fun k=>?_
 by_cases hk:k<r.length
 ·rw[zk3 (by rw[zbe];exact hj) (by rw[zbe];exact hk),zbe,zk3 hi (Nat.mod_lt _ (by omega)),zk3 (Nat.mod_lt _ (by omega)) hk]
  congr 1
  rw[Nat.add_mod_mod,Nat.mod_add_mod,Nat.add_assoc]
 ·rw[List.getElem?_eq_none (by rw[zbe,zbe];omega),List.getElem?_eq_none (by rw[zbe];omega)]
theorem zj3{xs:List V}{m:Nat}(h:m<=xs.length):cutV xs (some (m:Int)) none=xs.drop m:=by
 unfold cutV;rw[HT.sIx_nat,HT.sIx_none,Nat.min_eq_left h,List.take_of_length_le (by rw[List.length_drop];omega)]
theorem cut_to{xs:List V}{m:Nat}(h:m<=xs.length):cutV xs none (some (m:Int))=xs.take m:=by
 unfold cutV;rw[HT.sIx_nat,HT.sIx_none,List.drop_zero,Nat.sub_zero,Nat.min_eq_left h]
def sp_least:Sp:=fun vs H Q _=>∃(l:Addr)(ys:List V)(r:List Q3),vs=[.ref l]/\H l=some (.lst ys)/\LR QH H ys r/\0<r.length/\r.length<=10/\∀D zs q H',H D=none->Same H H'->H' D=some (.lst zs)->LR QH H' zs q->zca q r->Q (.ref D) H'
theorem lr_pq{H:Hp}{ys:List V}{ps:List Q3}(h:LR QH H ys ps){p:Q3}(hp:p∈ps):PQ 700 p:=by
 obtain⟨j,hj⟩:=List.mem_iff_getElem?.mp hp;have hj':j<ys.length:=by rw[h.1];exact(List.getElem?_eq_some_iff.mp hj).1
 obtain⟨b,r,_,e2,hr⟩:=h.at hj';rw[hj] at e2
 cases e2;exact hr.2
theorem zh2(T:Txt K mg ad fd):FnOk P w K mg base CX0 2 (ad 16) (fd 16) ["ring"] sp_least:=by
 refine T.from_least.fn.ok zcj (fun vs H Q E h=>?_) (fun cdv A outer s H vs Q E hr h=>?_)
 ·obtain⟨l,ys,r,rfl,_⟩:=h;rfl
 obtain⟨l,ys,r,rfl,hl,hy,n0,n10,k⟩:=h;have zx:=@pss3;have zf:=@zbu;have za:=@zbg;have zr:=@zde;have zO:=@zef;have zh:=@pa1;have zu:=@zch;have qpv:=@pv;have zk:=@zbz;have ze:=@zac;have zm:=@ze6;have zD:=@zfz;have zg:=@zaz;have zj:=@pa2;have zd:=@zdy;have zn:=@zbq;have zc:=@zaq;have zb:=@zd9;have zH:=@zei;have zI:=@zfp;have zJ:=@zg0;generalize @L2.PE=QE,@L2.PT=QT,@L2.PW=QW,@L2.PA=QA,@L2.PS=QS,@L2.PSs=QSs,@L2.PG=QG,@L2.PGs=QGs,@L2.PI=QI,@L2.PO=QO,@L2.PIf=QIf at zx zf za zr zO zh zu qpv zk ze zm zD zg zj zd zn zc zb zH zI zJ⊢;refine⟨_,
  (zx
   (zf (i:=1) zcj.nd rfl (Or.inl rfl) za)
   (zr PassesOwn.never rfl (zO rfl T.b_range (zh (zu zd7 rfl T.b_len zed (zh (qpv 0) za1)) zce)) (zk (i:=2) zcj.nd rfl (Or.inl rfl)) (ze (zm (zD (zg (zhx T) (hr.mono (by decide)) rfl T.before.mg T.before.fn.kp T.before.bn .nil pass0 (zj (zd zat (qpv 0) (qpv 2) (fun _ _=>rfl)) za8 (zd zat (qpv 0) (qpv 1) (fun _ _=>rfl)) za8))) (ze (zf (i:=1) zcj.nd rfl (Or.inl rfl) (qpv 2))) zn)))
   (zc (zb zjb (zH zc6 (qpv 0) (zI (qpv 1)) zJ) (zH zc6 (qpv 0) zJ (zI (qpv 1))))))
  ,?_⟩
 clear zx zf za zr zO zh zu qpv zk ze zm zD zg zj zd zn zc zb zH zI zJ QE QT QW QA QS QSs QG QGs QI QO QIf
 dsimp! [L2.start]
 have pq:∀x,x∈r->PQ 700 x:=fun x hx=>lr_pq hy hx;simp! [];refine zcf ?_;simp! [zkd,hl];refine⟨by omega,by have:=hy.1;omega,?_⟩
 rw[show((ys.length:Int)).toNat=ys.length by omega]
 refine zf0 (n:=ys.length) (fun i σ H'=>H'=H/\∃(m:Nat)(o:Option V),σ=[some (V.ref l),some (V.int m),o]/\m<r.length/\∀j,j<i->bq (nx r j) (nx r m)=false) ⟨rfl,0,none,rfl,n0,fun j hj=>by omega⟩ ?_ ?_
 ·intro _ _;rintro i σ H2 hi ⟨rfl,m,o,rfl,hm,hj⟩;have hir:i<r.length:=by rw[←hy.1];exact hi
  have hmy:m<ys.length:=by rw[hy.1];exact hm
  obtain⟨pi,qi,ei,fi,hqi⟩:=hy.at hi;obtain⟨pm,qm,em,fm,hqm⟩:=hy.at hmy;rw[zkn hir] at fi;rw[zkn hm] at fm
  cases fi
  cases fm;have ai:atI ys (i:Int)=some (V.ref pi):=zcq ei;have am:atI ys (m:Int)=some (V.ref pm):=zcq em;simp! [Int.zero_add,hl,ai,am];refine⟨pi,pm,_,_,_,_,_,_,rfl,hqi.tb,hqm.tb,_,rfl,ite2 (fun c=>?_) (fun c=>?_)⟩
  ·refine⟨rfl,i,rfl,hir,fun j hji=>?_⟩;rcases Nat.lt_or_ge j i with z|z
   ·cases e:bq (nx r j) (nx r i) with
    |false=>rfl
    |true=>
     have:=zlf (pq _ (zfn n0 j)).pos (pq _ (zfn n0 i)).pos (pq _ (zfn n0 m)).pos e c;have h0:=hj j z;unfold bq at h0;rw[this] at h0
     cases h0
   ·rw[show j=i by omega]
    exact bef_irr _ _ _
  ·refine⟨rfl,m,rfl,hm,fun j hji=>?_⟩;rcases Nat.lt_or_ge j i with z|z
   ·exact hj j z
   ·rw[show j=i by omega]
    exact Bool.eq_false_iff.mpr c
 ·rintro σ H2 ⟨rfl,m,o,rfl,hm,hj⟩;have hmy:m<=ys.length:=by rw[hy.1];omega
  simp! [hl,zj3 hmy];intro p1 hp1;have g3:=za2 hp1 (HO.lst (ys.drop m));have h31:upd H2 p1 (HO.lst (ys.drop m)) p1=some (HO.lst (ys.drop m)):=upd_same;have hr3:=g3 _ _ hl;generalize upd H2 p1 (HO.lst (ys.drop m))=H3 at*;simp! [hr3,cut_to hmy];intro p2 hq2;have g4:=za2 hq2 (HO.lst (ys.take m));have h42:upd H3 p2 (HO.lst (ys.take m)) p2=some (HO.lst (ys.take m)):=upd_same;have h41:=g4 _ _ h31;generalize upd H3 p2 (HO.lst (ys.take m))=H4 at*;have ly:=hy.1;refine⟨p1,p2,_,_,rfl,rfl,h41,h42,Nat.le_of_lt (small1000 ?_),fun p3 hp3=>?_⟩
  ·rw[List.length_drop,List.length_take];omega
  have g5:=za2 hp3 (HO.lst (ys.drop m++ys.take m));have g25:=g3.trans (g4.trans g5);refine k p3 _ (rot r m) _ ((g3.trans g4).free hp3) g25 upd_same (((hy.drop m).app (hy.take m)).same g25) ⟨m,hm,rfl,fun x hx=>?_⟩;have e0:nx (rot r m) 0=nx r m:=zbs hm 0;rw[e0];obtain⟨j,hj',rfl⟩:=List.mem_iff_getElem.mp hx;rw[←zha hj'];exact hj j (by omega)
def S2H(H:Hp)(p:Addr)(e:Q3×Q3):Prop:=∃c d,H p=some (.tup [.ref c,.ref d])/\QH H c e.1/\QH H d e.2
theorem zfs:∀(H H':Hp)(p:Addr)(e:Q3×Q3),zav H H'->S2H H p e->S2H H' p e:=fun _ _ _ _ g⟨c,d,h1,h2,h3⟩=>⟨c,d,g _ _ h1,zct _ _ _ _ g h2,zct _ _ _ _ g h3⟩
theorem isD_t{H:Hp}{d:Addr}{kvs:List (List Key×V)}(h:H d=some (.dT kvs)):IsD H d:=.inr ⟨kvs,.inl h⟩
structure Lv(H0 H:Hp)(d:Addr)(kvs:List (List Key×V))(ss:List (Q3×Q3)):Prop where
 same:Same H0 H
 new:H0 d=none
 at_:H d=some (.dT kvs)
 len:kvs.length<=ss.length
 ent:∀p v,valV kvs (kQ p)=some v->∃a zs,v=.ref a/\H0 a=none/\H a=some (.lst zs)/\LR QH H zs (leav ss p)
 non:∀p,valV kvs (kQ p)=none->leav ss p=[]
 dis:∀p p' v,valV kvs (kQ p)=some v->valV kvs (kQ p')=some v->p=p'
theorem Lv.mono{H0 H H':Hp}{d:Addr}{kvs:List (List Key×V)}{ss:List (Q3×Q3)}(h:Lv H0 H d kvs ss)(g:Same H H'):Lv H0 H' d kvs ss:=
 ⟨h.same.trans g,h.new,g _ _ h.at_,h.len,fun k v e=>by
  obtain⟨a,ys,e1,e2,e3,e4⟩:=h.ent k v e;exact⟨a,ys,e1,e2,g _ _ e3,e4.same g⟩,h.non,h.dis⟩
theorem Lv.app{H0 H:Hp}{d a t b:Addr}{kvs:List (List Key×V)}{ss:List (Q3×Q3)}{p q:Q3}{Qc:VK}(h:Lv H0 H d kvs ss)(hm:ss.length<500)(ha:QH H a p)(hb:QH H b q)(ht:H t=none)
  (k:∀(l:Addr)(H1:Hp)(zs:List V) kvs',H1 l=some (.lst zs)->zs.length<sizeLine->Lv H0 (upd H1 l (.lst (zs++[.ref b]))) d kvs' (ss++[(p,q)])->Qc (.ref l) H1):rSD d (.ref a) (.ref t) (upd H t (.lst [])) Qc:=by
 have g:=za2 ht (HO.lst []);have hg:=h.mono g;refine⟨kvs,kQ p,a,hg.at_,rfl,g _ _ ha.1,small1000 (by have:=h.len;omega),fun v hv=>?_,fun hv=>?_⟩
 ·obtain⟨l,ys,rfl,e2,e3,e4⟩:=hg.ent _ _ hv;have ly:ys.length<=ss.length:=by rw[e4.1];exact zjx _ _
  refine k l _ ys kvs e3 (small1000 (by omega)) ⟨zao hg.same e2,h.new,?_,by have:=h.len;rw[List.length_append];omega,fun p' v' hv'=>?_,fun p' hv'=>?_,h.dis⟩
  ·rw[za7 (fun z=>by rw[←z,hg.at_] at e3;cases e3)]
   exact hg.at_
  ·obtain⟨l',ys',rfl,f2,f3,f4⟩:=hg.ent _ _ hv'
   by_cases el:l'=l
   ·subst el;rw[e3] at f3
    cases f3;have pp:=h.dis _ _ _ hv' hv;subst pp;refine⟨l',_,rfl,f2,upd_same,?_⟩;rw[zd5,if_pos rfl];exact(e4.snoc (hb.same g)).ts zct (zcg e3)
   ·refine⟨l',ys',rfl,f2,by rw[za7 el];exact f3,?_⟩
    rw[zd5,if_neg (fun z=>el (by
     have z':p=p':=z;rw[←z'] at hv';rw[hv] at hv'
     cases hv';rfl)),List.append_nil]
    exact f4.ts zct (zcg e3)
  ·rw[zd5,h.non _ hv',if_neg (fun z=>by
    have z':p=p':=z;rw[z',hv'] at hv
    cases hv)]
   rfl
 ·have td:t≠d:=fun z=>by rw[z,h.at_] at ht;cases ht
  have h0t:=h.same.free ht;have up:∀b' o,b'≠d->H b'=some o->upd (upd (upd H t (.lst [])) d (.dT (putK kvs (kQ p) (.ref t)))) t (.lst [.ref b]) b'=some o:=fun b' o nb hb'=>by
   have nt:b'≠t:=fun z=>by rw[z,ht] at hb';cases hb'
   rw[za7 nt,za7 nb,za7 nt];exact hb'
  have ts:zav H (upd (upd (upd H t (.lst [])) d (.dT (putK kvs (kQ p) (.ref t)))) t (.lst [.ref b])):=fun b' xs hb'=>up b' _ (fun z=>by rw[z,h.at_] at hb';cases hb') hb'
  have nt:∀p',valV kvs (kQ p')≠some (.ref t):=fun p' z=>by
   obtain⟨l',ys',e,f2,f3,f4⟩:=h.ent _ _ z
   cases e;rw[ht] at f3
   cases f3
  refine k t _ [] (putK kvs (kQ p) (.ref t)) (by rw[za7 td];exact upd_same) (small1000 (by simp)) ⟨fun b' o hb'=>up b' o (fun z=>by rw[z,h.new] at hb';cases hb') (h.same _ _ hb'),h.new,by rw[za7 td.symm];exact upd_same,Nat.le_trans (zbr _ _ _) (by have:=h.len;rw[List.length_append];exact Nat.succ_le_succ this),fun p' v' hv'=>?_,fun p' hv'=>?_,fun p' p2 v' h1 h2=>?_⟩
  ·rw[zdv] at hv'
   by_cases ek:kQ p'=kQ p
   ·rw[if_pos ek] at hv'
    cases hv';have e':=zf3 ek;subst e';refine⟨t,[.ref b],rfl,h0t,upd_same,?_⟩;rw[zd5,if_pos rfl,h.non _ hv];exact LR.one (R:=QH) (zct _ _ _ _ ts hb)
   ·rw[if_neg ek] at hv';obtain⟨l',ys',rfl,f2,f3,f4⟩:=h.ent _ _ hv';refine⟨l',ys',rfl,f2,up _ _ (fun z=>by rw[z,h.at_] at f3;cases f3) f3,?_⟩
    rw[zd5,if_neg (fun z=>ek (by have z':p=p':=z;rw[z'])),List.append_nil]
    exact f4.ts zct ts
  ·rw[zdv] at hv'
   by_cases ek:kQ p'=kQ p
   ·rw[if_pos ek] at hv'
    cases hv'
   ·rw[if_neg ek] at hv';rw[zd5,h.non _ hv',if_neg (fun z=>ek (by have z':p=p':=z;rw[z']))]
    rfl
  ·rw[zdv] at h1 h2
   by_cases e1:kQ p'=kQ p
   ·by_cases e2:kQ p2=kQ p
    ·rw[zf3 e1,zf3 e2]
    ·rw[if_pos e1] at h1;rw[if_neg e2] at h2
     cases h1;exact absurd h2 (nt _)
   ·by_cases e2:kQ p2=kQ p
    ·rw[if_neg e1] at h1;rw[if_pos e2] at h2
     cases h2;exact absurd h1 (nt _)
    ·rw[if_neg e1] at h1;rw[if_neg e2] at h2;exact h.dis _ _ _ h1 h2
def sp_leav:Sp:=fun vs H Q _=>∃(l:Addr)(ys:List V)(ss:List (Q3×Q3)),vs=[.ref l]/\H l=some (.lst ys)/\ys.length<=100/\LR S2H H ys ss/\∀d kvs H',H d=none->Lv H H' d kvs ss->Q (.ref d) H'
theorem zgt(T:Txt K mg ad fd):FnOk P w K mg base CX0 1 (ad 12) (fd 12) ["land"] sp_leav:=by
 refine T.leaving_of.fn.ok zcl (fun vs H Q E h=>?_) (fun cdv A outer s H vs Q E hr h=>?_)
 ·obtain⟨l,ys,ss,rfl,_⟩:=h;rfl
 obtain⟨l,ys,ss,rfl,hl,hn,hs,k⟩:=h;have zx:=@pss3;have zf:=@zbu;have yb:=@zjj;have zr:=@zde;have zp:=@zc4;have qpv:=@pv;have zP:=@zgl;have zK:=@zeg;have zk:=@zbz;have zM:=@zfu;have ze:=@zac;have zA:=@zdj;have zy:=@zhj;have yv:=@pe_dsd;have zv:=@zes;have zB:=@zd3;have zh:=@pa1;have zc:=@zaq;generalize @L2.PE=QE,@L2.PT=QT,@L2.PW=QW,@L2.PA=QA,@L2.PS=QS,@L2.PSs=QSs,@L2.PG=QG,@L2.PGs=QGs,@L2.PI=QI,@L2.PO=QO,@L2.PIf=QIf at zx zf yb zr zp qpv zP zK zk zM ze zA zy yv zv zB zh zc⊢;refine⟨_,
  (zx
   (zf (i:=1) zcl.nd rfl (Or.inl rfl) yb)
   (zr PassesOwn.never rfl (zp (qpv 0)) (zP (n:=2) rfl (zK (zk (i:=2) zcl.nd rfl (Or.inl rfl)) (zK (zk (i:=3) zcl.nd rfl (Or.inl rfl)) zM))) (ze (zA (zy PySem.F.plainAttrs_list PySem.F.slot_list_append PySem.F.type_list_append zbn (yv (zgn hr) (qpv 1) (qpv 2) (zv zB) ⟨rfl,rfl,rfl,rfl⟩) (zh (qpv 3) za1)))))
   (zc (qpv 1)))
  ,?_⟩
 clear zx zf yb zr zp qpv zP zK zk zM ze zA zy yv zv zB zh zc QE QT QW QA QS QSs QG QGs QI QO QIf
 dsimp! [L2.start]
 simp! [tDNewT];intro d hd;have gd:=za2 hd (HO.dT []);refine zcf ?_;simp! [zd1];refine⟨⟨_,.of (gd _ _ hl)⟩,?_⟩;refine zc8 (K:=K) (a:=l) (xs:=ys) (fun i σ H'=>∃(kvs:List (List Key×V))(o1 o2:Option V),σ=[some (V.ref l),some (V.ref d),o1,o2]/\Lv H H' d kvs (ss.take i)) ⟨[],none,none,rfl,gd,hd,upd_same,Nat.zero_le _,fun p v z=>(by cases z),fun p z=>rfl,fun p p' v z=>(by cases z)⟩ (fun i σ H' _ iv=>.of (by obtain⟨_,_,_,_,lv⟩:=iv;exact lv.same _ _ hl)) ?_ ?_
 ·intro _ _;rintro i v σ H2 hi ⟨kvs,o1,o2,rfl,lv⟩;obtain⟨p,e,rfl,he',c,c',h1,h2,h3⟩:=hs.2 i v hi;have hi':=(List.getElem?_eq_some_iff.mp hi).1;have h1':=lv.same _ _ h1;simp! [tDSd,h1'];refine⟨isD_t lv.at_,fun t ht=>?_⟩;refine lv.app (p:=e.1) (q:=e.2) (by rw[List.length_take];omega) (h2.same lv.same) (h3.same lv.same) ht fun l' H3 zs kvs' e1 e2 lv'=>?_
  rw[List.take_add_one,he'];exact⟨zdp e1,l',rfl,zs,e1,e2,kvs',lv'⟩
 ·rintro σ H2 ⟨kvs,o1,o2,rfl,lv⟩;simp! [];rw[List.take_of_length_le (Nat.le_of_eq hs.1.symm)] at lv;exact k d kvs H2 hd lv
def kE(e:Q3×Q3):List (List Key):=[kQ e.1,kQ e.2]
theorem kE_inj{e f:Q3×Q3}(h:kE e=kE f):e=f:=by
 unfold kE at h
 injection h with h1 h2
 injection h2 with h2
 exact Prod.ext (zf3 h1) (zf3 h2)
theorem S2H.nk{H:Hp}{p:Addr}{e:Q3×Q3}(h:S2H H p e):NK H p (kE e):=by
 obtain⟨c,d,h1,h2,h3⟩:=h;exact NK.two h1 h2.1 h3.1
def GnK(H:Hp)(kvs:List N3):Prop:=∀p,p∈kvs->∃e,p.1=kE e/\S2H H p.2.1 e
theorem GnK.kn{H:Hp}{kvs:List N3}(h:GnK H kvs):KN H kvs:=fun p hp=>by
 obtain⟨e,e1,e2⟩:=h p hp;rw[e1];exact e2.nk
theorem GnK.ts{H H':Hp}{kvs:List N3}(h:GnK H kvs)(g:zav H H'):GnK H' kvs:=fun p hp=>by
 obtain⟨e,e1,e2⟩:=h p hp;exact⟨e,e1,zfs _ _ _ _ g e2⟩
theorem GnK.put{H:Hp}{kvs:List N3}{b:Addr}{e:Q3×Q3}{v:V}(h:GnK H kvs)(hb:S2H H b e):GnK H (putN kvs (kE e) b v):=by
 unfold putN
 split
 ·intro p hp;obtain⟨q,hq,z⟩:=List.mem_map.mp hp;obtain⟨f,f1,f2⟩:=h q hq;rw[←z]
  split
  ·exact⟨f,f1,f2⟩
  ·exact⟨f,f1,f2⟩
 ·intro p hp;rcases List.mem_append.mp hp with hp|hp
  ·exact h p hp
  ·rw[List.mem_singleton.mp hp];exact⟨e,rfl,hb⟩
theorem ts_putN{P:Program}{w:World}{H:Hp}{D:Addr}{kvs:List N3}{o:HO}(h:H D=some (nD P w D kvs)):zav H (upd H D o):=fun b xs q=>by
 rw[za7 (fun z=>by rw[z,h] at q;cases q)]
 exact q
def hasG(kvs:List N3)(e:Q3×Q3):Prop:=(valN kvs (kE e)).isSome=true
theorem has_put{kvs:List N3}{e f:Q3×Q3}{b:Addr}{v:V}:hasG (putN kvs (kE e) b v) f↔hasG kvs f∨f=e:=by
 unfold hasG;rw[zeb,zi3]
 by_cases c:(valN kvs (kE e)).isSome=true
 ·rw[if_pos c,zeb];rw[zeb] at c;exact⟨.inl,fun h=>h.elim id fun z=>by rw[z];exact c⟩
 ·rw[if_neg c,zeb,List.mem_append,List.mem_singleton];exact⟨fun h=>h.imp id kE_inj,fun h=>h.imp id fun z=>by rw[z]⟩
def dQ(r:Q3):PyData:=.tuple [.int r.x,.int r.y,.int r.w]
theorem rd_q{K:PySem.W.Frag}{H:Hp}{p:Addr}{r:Q3}(h:QH H p r):RdD K H (dQ r) (.ref p):=by
 unfold dQ;rw[RdD];refine⟨p,_,rfl,.of h.1,?_⟩;rw[RdDs];refine⟨_,_,rfl,by rw[RdD],?_⟩
 rw[RdDs];refine⟨_,_,rfl,by rw[RdD],?_⟩
 rw[RdDs];refine⟨_,_,rfl,by rw[RdD],?_⟩
 rw[RdDs]
theorem rd_qs{K:PySem.W.Frag}{H:Hp}:∀{zs:List V}{F:List Q3},LR QH H zs F->RdDs K H (F.map dQ) zs
 |[],[],_=>by rw[List.map_nil,RdDs]
 |[],_::_,h=>by cases h.1
 |v::zs,F,h=>by
  obtain⟨a,as,rfl,⟨p,rfl,hp⟩,t⟩:=h.cons_inv;rw[List.map_cons,RdDs];exact⟨_,_,rfl,rd_q hp,rd_qs t⟩
theorem rd_ql{K:PySem.W.Frag}{H:Hp}{l:Addr}{zs:List V}{F:List Q3}(h:H l=some (.lst zs))(hz:LR QH H zs F):RdD K H (.list (F.map dQ)) (.ref l):=by
 rw[RdD];exact⟨l,_,rfl,.of h,rd_qs hz⟩
theorem dQ_lay(r:Q3):(dQ r).canLay0=true/\(dQ r).depth<=3:=by
 simp[dQ,PyData.canLay0,PyData.canLayAll0,PyData.depth,PyData.depthAll]
theorem dQs_lay(F:List Q3):PyData.canLayAll0 (F.map dQ)=true/\PyData.depthAll (F.map dQ)<=3:=by
 induction F with
 |nil=>exact⟨rfl,by simp[PyData.depthAll]⟩
 |cons r F ih=>
  have h:=dQ_lay r;rw[List.map_cons]
  constructor
  ·rw[PyData.canLayAll0,h.1,ih.1];rfl
  ·rw[PyData.depthAll];have:=h.2;have:=ih.2;omega
theorem zl5(a b:Q3):PyData.eqv (dQ a) (dQ b)=decide (a=b):=by
 rw[Bool.eq_iff_iff];obtain⟨x,y,w⟩:=a;obtain⟨x',y',w'⟩:=b
 simp[dQ,PyData.eqv,PyData.eqvAll]
theorem zga:∀F G:List Q3,PyData.eqvAll (F.map dQ) (G.map dQ)=decide (F=G)
 |[],[]=>by simp[PyData.eqvAll]
 |[],_::_=>by simp[PyData.eqvAll]
 |_::_,[]=>by simp[PyData.eqvAll]
 |a::F,b::G=>by
  rw[List.map_cons,List.map_cons,PyData.eqvAll,zl5,zga F G];rw[Bool.eq_iff_iff]
  simp
theorem dQs_eqv(F G:List Q3):PyData.eqv (.list (F.map dQ)) (.list (G.map dQ))=decide (F=G):=by
 rw[PyData.eqv,zga]
def dS(s:Q3×Q3):PyData:=.tuple [dQ s.1,dQ s.2]
theorem rd_s{K:PySem.W.Frag}{H:Hp}{p:Addr}{s:Q3×Q3}(h:S2H H p s):RdD K H (dS s) (.ref p):=by
 obtain⟨c,d,h1,h2,h3⟩:=h;unfold dS;rw[RdD];refine⟨p,_,rfl,.of h1,?_⟩;rw[RdDs];refine⟨_,_,rfl,rd_q h2,?_⟩;rw[RdDs];refine⟨_,_,rfl,rd_q h3,?_⟩;rw[RdDs]
theorem zh3(e:Q3×Q3):SeqAt.shaped (dS e)=true:=by
 simp[dS,dQ,SeqAt.shaped,PyData.canLay0,PyData.canLayAll0,PyData.depth,PyData.depthAll]
theorem dS_eqv(a b:Q3×Q3):PyData.eqv (dS a) (dS b)=decide (a=b):=by
 unfold dS;rw[PyData.eqv,PyData.eqvAll,PyData.eqvAll,PyData.eqvAll,zl5,zl5,Bool.and_true,Bool.eq_iff_iff,Bool.and_eq_true,decide_eq_true_iff,decide_eq_true_iff,decide_eq_true_iff];exact⟨fun h=>Prod.ext h.1 h.2,fun h=>by rw[h];exact⟨rfl,rfl⟩⟩
theorem while_at{c:TT}{tb:TS}{D:Ends}{σ:St}{H:Hp}(Pv:St->Hp->Prop)(μ:St->Hp->Nat)(h0:Pv σ H)
  (hs:∀σ H,Pv σ H->c σ H fun b H1=>if b=true then ∃N:St->Hp->Prop,(∀σ' H',N σ' H'->∃m',m'<μ σ H/\m'=μ σ' H'/\Pv σ' H')/\tb {D with nx:=N,ct:=N,bk:=D.nx} σ H1 else D.nx σ H1):zmz c tb D σ H:=by
 refine⟨fun m σ H=>m=μ σ H/\Pv σ H,⟨_,rfl,h0⟩,?_⟩;rintro m σ H ⟨rfl,p⟩;exact hs σ H p
theorem zbb.put{P D:Addr}{H H':Hp}{o:HO}(g:zbb P H H')(h:H D=none):zbb P H (upd H' D o):=fun b u nb e=>by
 rw[za7 (fun z=>by rw[z,h] at e;cases e)]
 exact g b u nb e
theorem zbb.own{D:Addr}{H H':Hp}{o:HO}(g:zbb D H H'):zbb D H (upd H' D o):=fun b u nb e=>by
 rw[za7 nb];exact g b u nb e
theorem zbb.same{P:Addr}{H H' H'':Hp}(g:zbb P H H')(g':Same H' H''):zbb P H H'':=fun b u nb e=>g' _ _ (g b u nb e)
theorem ts_sg{P:Program}{w:World}{H H':Hp}{gn:Addr}{gk:List N3}(g:zbb gn H H')(h:H gn=some (nD P w gn gk)):zav H H':=fun b xs q=>g b _ (fun z=>by rw[z,h] at q;cases q) q
theorem zdq{H:Hp}{a b:Addr}{o u:HO}{x:Option HO}(ne:a≠b)(h:H a=x):upd H b o a=x:=by
 rw[za7 ne];exact h
def muW(n:Nat)(σ:St)(H:Hp):Nat:=match(σ:List (Option V))[4]? with
 |some (some (V.ref p))=>(match H p with
  |some (.lst ys)=>n-ys.length
  |_=>0)
 |_=>0
theorem muW_of{n:Nat}{H:Hp}{v0 v1 v2 v3 v5 v6 v7 v8 v9:Option V}{p:Addr}{ys:List V}(h:H p=some (.lst ys)):muW n [v0,v1,v2,v3,some (.ref p),v5,v6,v7,v8,v9] H=n-ys.length:=by
 show(match H p with
  |some (.lst ys)=>n-ys.length
  |_=>0)=_
 rw[h]
def PlD(pk:List (List Key×V))(ps:List Q3):Prop:=pk.length<=ps.length/\∀p,(valV pk (kQ p)).isSome=true->p∈ps
theorem PlD.put{pk:List (List Key×V)}{ps:List Q3}{p:Q3}{v:V}(h:PlD pk ps):PlD (putK pk (kQ p) v) (ps++[p]):=by
 refine⟨Nat.le_trans (zbr _ _ _) (by rw[List.length_append];exact Nat.succ_le_succ h.1),fun q z=>?_⟩
 rw[zdv] at z
 by_cases e:kQ q=kQ p
 ·rw[zf3 e];exact List.mem_append_right _ (by simp)
 ·rw[if_neg e] at z;exact List.mem_append_left _ (h.2 q z)
def WayI(P:Program)(w:World)(H:Hp)(st lv gn R W D:Addr)(gk:List N3)(r:List Q3)(σ:St)(H':Hp):Prop:=∃(t:Nat)(f:Addr)(ys:List V)(pk:List (List Key×V))(gk':List N3)(o1 o2 o3:Option V),σ=[some (V.ref st),some (V.ref lv),some (V.ref gn),some (V.ref R),some (V.ref W),some (V.ref D),some (V.ref f),o1,o2,o3]/\t<r.length/\zbb gn H H'/\H' gn=some (nD P w gn gk')/\GnK H' gk'/\(∀e,hasG gk' e↔hasG gk e∨∃i,i<t/\e=(nx r i,nx r (i+1)))/\gk'.length<=gk.length+t/\H' R=some (.lst [])/\H' W=some (.lst ys)/\LR QH H' ys (r.take (t+1))/\H' D=some (.dT pk)/\PlD pk (r.take (t+1))/\S2H H' f (nx r t,nx r (t+1))
def sp_way(P:Program)(w:World):Sp:=fun vs H Q _=>∃(H0:Hp)(st lv gn:Addr)(kvs:List (List Key×V))(gk:List N3)(ss:List (Q3×Q3))(r:List Q3),vs=[.ref st,.ref lv,.ref gn]/\S2H H st (nx r 0,nx r 1)/\Lv H0 H lv kvs ss/\ss.length<=100/\H gn=some (nD P w gn gk)/\GnK H gk/\gk.length<=1000/\Ring ss r/\
 ∀(R W:Addr)(ys:List V)(H':Hp)(gk':List N3),zbb gn H H'->H' gn=some (nD P w gn gk')->GnK H' gk'->(∀e,hasG gk' e↔hasG gk e∨e∈sds r)->gk'.length<=gk.length+r.length->H R=none->H W=none->R≠W->H' R=some (.lst [.ref W])->H' W=some (.lst ys)->LR QH H' ys r->Q (.ref R) H'
theorem zhh(T:Txt K mg ad fd):FnOk P w K mg base CX0 6 (ad 13) (fd 13) ["start","leaving","gone"] (sp_way P w):=by
 refine T.way_round.fn.ok zar (fun vs H Q E h=>?_) (fun cdv A outer s H vs Q E hr h=>?_)
 ·obtain⟨H0,st,lv,gn,kvs,gk,ss,r,rfl,_⟩:=h;rfl
 obtain⟨H0,st,lv,gn,kvs,gk,ss,r,rfl,hst,hlv,hss,hgn,hgk,lgk,rg,k⟩:=h;have zG:=@pss5;have zf:=@zbu;have zv:=@zes;have zB:=@zd3;have zh:=@pa1;have zd:=@zdy;have qpv:=@pv;have za:=@zbg;have yw:=@pe_disp1;have zS:=@zh1;have zD:=@zfz;have zQ:=@pe_bl;have yx:=@ps_nput;have zq:=@ze1;have zj:=@pa2;have zg:=@zaz;have zt:=@pa3;have zW:=@zo3;have zm:=@ze6;have zo:=@zbp;have zE:=@pss2;have zA:=@zdj;have zy:=@zhj;have zc:=@zaq;have zn:=@zbq;have zR:=@zms;have yy:=@pc_din;have zL:=@pss4;have zH:=@zei;have zI:=@zfp;have zJ:=@zg0;have zb:=@zd9;have zr:=@zde;have zp:=@zc4;have zk:=@zbz;have ze:=@zac;have zN:=@zfi;have yc:=@zno;have zu:=@zch;generalize @L2.PE=QE,@L2.PT=QT,@L2.PW=QW,@L2.PA=QA,@L2.PS=QS,@L2.PSs=QSs,@L2.PG=QG,@L2.PGs=QGs,@L2.PI=QI,@L2.PO=QO,@L2.PIf=QIf,@L2.PC=QC,@L2.PK=QK at zG zf zv zB zh zd qpv za yw zS zD zQ yx zq zj zg zt zW zm zo zE zA zy zc zn zR yy zL zH zI zJ zb zr zp zk ze zN yc zu⊢;refine⟨_,
  (zG
   (zf (i:=3) zar.nd rfl (Or.inl rfl) (zv zB))
   (zf (i:=4) zar.nd rfl (Or.inl rfl) (zv (zh (zd za5 (qpv 0) za (fun _ _=>rfl)) za8)))
   (zf (i:=5) zar.nd rfl (Or.inl rfl) (yw (zgn hr) (zd za5 (qpv 0) za (fun _ _=>rfl)) za))
   (zf (i:=6) zar.nd rfl (Or.inl rfl) (qpv 0))
   (zS PassesOwn.never (zD zQ) (zG
   (yx (P:=P) (w:=w) rfl rfl (hu64 hr) (qpv 2) (qpv 6) zQ rfl)
   (zf (i:=7) zar.nd rfl (Or.inl rfl) (zd za5 (qpv 6) za (fun _ _=>rfl)))
   (zf (i:=6) zar.nd rfl (Or.inl rfl) (zq (zj (qpv 7) za1 (zg (zg3 T) (hr.mono (by decide)) rfl T.first_right.mg T.first_right.fn.kp T.first_right.bn .nil pass0 (zt (qpv 7) za1 (zd za5 (qpv 6) za (fun _ _=>rfl)) za8 (zW (zgn hr) (qpv 1) (qpv 7) (fun _ _=>rfl)) za8)) zce)))
   (zm (zo (zk1 (hu64 hr)) (qpv 6) (qpv 0) (nomark _)) (zE
   (zA (zy PySem.F.plainAttrs_list PySem.F.slot_list_append PySem.F.type_list_append zbn (qpv 3) (zh (qpv 4) za1)))
   (zc (qpv 3))) zn)
   (zm (zR (yy (zgn hr) (qpv 7) (qpv 5))) (zL
   (zf (i:=8) zar.nd rfl (Or.inl rfl) (zH zc6 (qpv 4) (zI (zW (zgn hr) (qpv 5) (qpv 7) (fun _ _=>rfl))) zJ))
   (zA (zy PySem.F.plainAttrs_list PySem.F.slot_list_append PySem.F.type_list_append zbn (qpv 3) (zh (qpv 8) za1)))
   (zf (i:=4) zar.nd rfl (Or.inl rfl) (zH zc6 (qpv 4) zJ (zI (zb zbf (zW (zgn hr) (qpv 5) (qpv 7) (fun _ _=>rfl)) za))))
   (zr PassesOwn.never rfl (zp (zH zc6 (qpv 8) (zI za) zJ)) (zk (i:=9) zar.nd rfl (Or.inl rfl)) (ze zN))) (zE
   (yc (zgn hr) (qpv 5) (qpv 7) (zu zd7 rfl T.b_len zed (zh (qpv 4) za1)) rfl)
   (zA (zy PySem.F.plainAttrs_list PySem.F.slot_list_append PySem.F.type_list_append zbn (qpv 4) (zh (qpv 7) za1))))))))
  ,?_⟩
 clear zG zf zv zB zh zd qpv za yw zS zD zQ yx zq zj zg zt zW zm zo zE zA zy zc zn zR yy zL zH zI zJ zb zr zp zk ze zN yc zu QE QT QW QA QS QSs QG QGs QI QO QIf QC QK
 dsimp! [L2.start]
 obtain⟨s0,s1,hst',hs0,hs1⟩:=id hst;simp! [tDisp1];intro R hR;have gR:=za2 hR (HO.lst []);have hR1:upd H R (HO.lst []) R=some (.lst []):=upd_same;generalize upd H R (HO.lst [])=H1 at*;have hst1:=gR _ _ hst';simp! [hst1];intro W hW;have gW:=za2 hW (HO.lst [V.ref s0]);have hW1:upd H1 W (HO.lst [V.ref s0]) W=some (.lst [V.ref s0]):=upd_same;generalize upd H1 W (HO.lst [V.ref s0])=H2 at*;intro D hD;have gD:=za2 hD (HO.dT (putK [] (kQ (nx r 0)) (V.int 0)));have gD':=za2 hD (HO.dT []);have g2:=gR.trans gW;have hRn:R≠W:=zag hR1 hW;have hRD:R≠D:=zag (gW _ _ hR1) hD;have hWD:W≠D:=zag hW1 hD;have hWH:H W=none:=gR.free hW;have hDH:H D=none:=g2.free hD;have nz:0<r.length:=by have:=rg.two;omega
 have hq0:QH H s0 (nx r 0):=hs0;have lvn:lv≠gn:=fun z=>by have:=hlv.at_;rw[z,hgn] at this;cases this
 have lk:nx r 0=r[0]:=zha nz;refine⟨_,gD' _ _ (g2 _ _ hst'),_,at0,kQ (nx r 0),s0,rfl,(gD' _ _ (g2 _ _ hq0.1)),?_⟩;refine while_at (WayI P w H st lv gn R W D gk r) (muW 100)
  ⟨0,st,[V.ref s0],_,gk,none,none,none,rfl,nz,fun b u nb e=>gD _ _ (g2 _ _ e),gD _ _ (g2 _ _ hgn),hgk.ts (zae (g2.trans gD)),fun e=>⟨.inl,fun h=>h.elim id fun⟨i,hi,_⟩=>absurd hi (Nat.not_lt_zero _)⟩,Nat.le_refl _,gD _ _ (gW _ _ hR1),gD _ _ hW1,?_,upd_same,?_,zfs _ _ _ _ (zae (g2.trans gD)) hst⟩ ?_
 ·rw[show r.take (0+1)=[nx r 0] by rw[List.take_add_one,zkn nz];rfl]
  exact LR.one (R:=QH) (hq0.same (g2.trans gD))
 ·rw[show r.take (0+1)=[]++[nx r 0] by rw[List.take_add_one,zkn nz];rfl]
  exact PlD.put ⟨Nat.le_refl _,fun p z=>by cases z⟩
 clear gD gD' gR gW;rintro σ H3 ⟨t,f,ys,pk,gk2,o1,o2,o3,rfl,ht,sg,hg3,hk3,hh,lg,hR3,hW3,hy3,hD3,pd,hf⟩;obtain⟨f0,f1,hf',hf0,hf1⟩:=id hf;have n10:=rg.ten;simp! [sNPut,tDGet,tDIn,sDPut];refine⟨_,fun σ' H' z=>z,gk2,hg3,hk3.kn,kE (nx r t,nx r (t+1)),hf.nk,small10k (by omega),?_⟩
 have tp:=ts_putN (o:=nD P w gn (putN gk2 (kE (nx r t,nx r (t+1))) f (V.bl true))) hg3;have hg4:upd H3 gn (nD P w gn (putN gk2 (kE (nx r t,nx r (t+1))) f (V.bl true))) gn=some (nD P w gn (putN gk2 (kE (nx r t,nx r (t+1))) f (V.bl true))):=upd_same;have hk4:=(hk3.put (v:=V.bl true) hf).ts tp;have sg4:=zbb.own sg (o:=nD P w gn (putN gk2 (kE (nx r t,nx r (t+1))) f (V.bl true)));have hR4:=zdq (o:=nD P w gn (putN gk2 (kE (nx r t,nx r (t+1))) f (V.bl true))) (u:=.lst []) (a:=R) (b:=gn) (fun z=>by rw[z,hg3] at hR3;cases hR3) hR3
 have hW4:=zdq (o:=nD P w gn (putN gk2 (kE (nx r t,nx r (t+1))) f (V.bl true))) (u:=.lst []) (a:=W) (b:=gn) (fun z=>by rw[z,hg3] at hW3;cases hW3) hW3
 have hD4:=zdq (o:=nD P w gn (putN gk2 (kE (nx r t,nx r (t+1))) f (V.bl true))) (u:=.lst []) (a:=D) (b:=gn) (fun z=>by rw[z,hg3] at hD3;cases hD3) hD3
 have hy4:=hy3.ts zct tp;have hf4:=tp _ _ hf';have hf04:QH _ f0 (nx r t):=zct _ _ _ _ tp hf0;have hf14:QH _ f1 (nx r (t+1)):=zct _ _ _ _ tp hf1;generalize upd H3 gn (nD P w gn (putN gk2 (kE (nx r t,nx r (t+1))) f (V.bl true)))=H4 at*;have ts4:zav H H4:=ts_sg sg4 hgn;have hlv4:H4 lv=some (.dT kvs):=sg4 _ _ lvn hlv.at_;have mm:(nx r (t+1),nx r (t+2))∈ss:=rg.mem (t+1);obtain⟨v,hv⟩:∃v,valV kvs (kQ (nx r (t+1)))=some v:=by
  cases e:valV kvs (kQ (nx r (t+1))) with
  |some v=>exact⟨v,rfl⟩
  |none=>
   have:=zfe.mpr mm;rw[hlv.non _ e] at this
   cases this
 obtain⟨l,zs,rfl,_,hl,hz⟩:=hlv.ent _ _ hv;have hl4:H4 l=some (.lst zs):=sg4 _ _ (fun z=>by rw[z,hgn] at hl;cases hl) hl
 have lz:zs.length<=100:=by rw[hz.1];exact Nat.le_trans (zjx _ _) hss
 refine⟨_,hf4,_,at1,_,hf4,_,at0,_,by rw[←hv];exact .t (k:=kQ (nx r (t+1))) hlv4 hf14.1,f1,f0,l,zs,nx r (t+1),nx r t,leav ss (nx r (t+1)),rfl,hf14,hf04,hl4,lz,hz.ts zct ts4,(fun z=>by have:=zfe.mpr mm;rw[z] at this;cases this),fun rr H5 g5 hr5=>?_⟩
 rw[rg.fr t] at hr5;intro p hp;have g6:=za2 hp (HO.tup [V.ref f1,V.ref rr]);have hp6:upd H5 p (HO.tup [V.ref f1,V.ref rr]) p=some (.tup [V.ref f1,V.ref rr]):=upd_same;generalize upd H5 p (HO.tup [V.ref f1,V.ref rr])=H6 at*;have g46:=g5.trans g6;have hf16:=hf14.same g46;have hs6:S2H H6 p (nx r (t+1),nx r (t+2)):=⟨f1,rr,hp6,hf16,hr5.same g6⟩;have sg6:=zbb.same sg4 g46;have ts6:zav H H6:=ts_sg sg6 hgn;have hg6:=g46 _ _ hg4;have hR6:=g46 _ _ hR4;have hW6:=g46 _ _ hW4;have hD6:=g46 _ _ hD4;have hy6:=hy4.same g46;have hk6:=hk4.ts (zae g46);have lp:=zjk gk2 (kE (nx r t,nx r (t+1))) f (V.bl true);have hh6:∀e,hasG (putN gk2 (kE (nx r t,nx r (t+1))) f (V.bl true)) e↔hasG gk e∨∃i,i<t+1/\e=(nx r i,nx r (i+1)):=fun e=>by
  rw[has_put,hh,or_assoc];refine or_congr Iff.rfl ⟨fun h=>?_,fun⟨i,hi,z⟩=>?_⟩
  ·rcases h with⟨i,hi,z⟩|z
   ·exact⟨i,by omega,z⟩
   ·exact⟨t,by omega,z⟩
  ·rcases Nat.lt_or_ge i t with y|y
   ·exact .inl ⟨i,y,z⟩
   ·exact .inr (by rw[z,show i=t by omega])
 refine⟨_,_,rd_s hs6,rd_s (zfs _ _ _ _ ts6 hst),zh3 _,zh3 _,_,rfl,?_⟩;rw[dS_eqv];have ly:ys.length=t+1:=by rw[hy6.1,List.length_take];omega
 by_cases c:t+1=r.length
 ·have e1:(nx r (t+1),nx r (t+2))=(nx r 0,nx r 1):=by rw[show t+2=r.length+1 by omega,c,zep,←Nat.add_zero r.length,zep]
  rw[decide_eq_true e1];refine iteT ⟨zdp hR6,[],hR6,small1000 (by simp),?_⟩
  rw[c,List.take_length] at hy6;refine k R W ys _ _ (zbb.put sg6 hR) (zdq (u:=.lst []) (fun z=>by rw[z,hR6] at hg6;cases hg6) hg6) (hk6.ts (zcg hR6)) (fun e=>?_) (by omega) hR hWH hRn upd_same (zdq (u:=.lst []) hRn.symm hW6) (hy6.ts zct (zcg hR6))
  rw[hh6,zex,c]
 ·have e1:(nx r (t+1),nx r (t+2))≠(nx r 0,nx r 1):=fun z=>by
   have:=zmt rg.nd (by omega) nz (Prod.mk.inj z).1
   omega
  rw[decide_eq_false e1];have np:valV pk (kQ (nx r (t+1)))=none:=by
   cases e:valV pk (kQ (nx r (t+1))) with
   |none=>rfl
   |some v=>
    have:=pd.2 (nx r (t+1)) (by rw[e];rfl)
    obtain⟨j,hj,e'⟩:=List.mem_iff_getElem.mp this;rw[List.length_take] at hj;rw[List.getElem_take,←zha (by omega)] at e'
    have:=zmt rg.nd (by omega) (by omega) e'
    omega
  refine iteF ⟨_,.t (k:=kQ (nx r (t+1))) hD6 hf16.1,?_⟩;rw[np];have hD7:=DPut.t (v:=V.int ys.length) (k:=kQ (nx r (t+1))) hD6 hf16.1 (small1000 (by have:=pd.1;rw[List.length_take] at this;omega))
  refine iteF ⟨ys,.inl hW6,_,hD7,?_⟩;have hW7:=zdq (o:=.dT (putK pk (kQ (nx r (t+1))) (V.int ys.length))) (u:=.lst []) hWD hW6;refine⟨zdp hW7,ys,hW7,small1000 (by omega),_,?_,rfl,?_⟩
  ·rw[muW_of upd_same,muW_of hW3,List.length_append,List.length_singleton];omega
  have tsD:=zin (o:=.dT (putK pk (kQ (nx r (t+1))) (V.int ys.length))) hD6;have sg7:=zbb.put sg6 (o:=.dT (putK pk (kQ (nx r (t+1))) (V.int ys.length))) hDH;have hg7:=zdq (o:=.dT (putK pk (kQ (nx r (t+1))) (V.int ys.length))) (u:=.lst []) (a:=gn) (b:=D) (fun z=>by rw[z,hD6] at hg6;cases hg6) hg6
  have hR7:=zdq (o:=.dT (putK pk (kQ (nx r (t+1))) (V.int ys.length))) (u:=.lst []) hRD hR6;have hD7':upd H6 D (.dT (putK pk (kQ (nx r (t+1))) (V.int ys.length))) D=some (.dT (putK pk (kQ (nx r (t+1))) (V.int ys.length))):=upd_same;have hy7:=hy6.ts zct tsD;have hk7:=hk6.ts tsD;have hs7:=zfs _ _ _ _ tsD hs6;have hf17:=zct _ _ _ _ tsD hf16;generalize upd H6 D (.dT (putK pk (kQ (nx r (t+1))) (V.int ys.length)))=H7 at*;have tsW:=zcg (o:=.lst (ys++[V.ref f1])) hW7;have et:r.take (t+1+1)=r.take (t+1)++[nx r (t+1)]:=by rw[List.take_add_one,zkn (by omega)];rfl
  refine⟨t+1,p,ys++[V.ref f1],putK pk (kQ (nx r (t+1))) (V.int ys.length),_,_,_,_,rfl,by omega,zbb.put sg7 hWH,zdq (u:=.lst []) (fun z=>by rw[z,hW7] at hg7;cases hg7) hg7,hk7.ts tsW,hh6,by omega,zdq (u:=.lst []) hRn hR7,upd_same,?_,zdq (u:=.lst []) hWD.symm hD7',?_,zfs _ _ _ _ tsW hs7⟩
  ·rw[et];exact(hy7.snoc hf17).ts zct tsW
  ·rw[et];exact pd.put
def RgQ(H:Hp)(p:Addr)(r:List Q3):Prop:=∃zs,H p=some (.lst zs)/\LR QH H zs r
theorem RgQ.same{H H':Hp}{p:Addr}{r:List Q3}(h:RgQ H p r)(g:Same H H'):RgQ H' p r:=by
 obtain⟨zs,h1,h2⟩:=h;exact⟨zs,g _ _ h1,h2.same g⟩
theorem RgQ.put{H:Hp}{p R:Addr}{r:List Q3}{ys:List V}{o:HO}(h:RgQ H p r)(ne:p≠R)(hR:H R=some (.lst ys)):RgQ (upd H R o) p r:=by
 obtain⟨zs,h1,h2⟩:=h;exact⟨zs,by rw[za7 ne];exact h1,h2.ts zct (zcg hR)⟩
theorem LR.imp{α:Type}{R R':Hp->Addr->α->Prop}{H H':Hp}{ys:List V}{as:List α}(h:LR R H ys as)(k:∀p a,R H p a->R' H' p a):LR R' H' ys as:=⟨h.1,fun j v z=>by
 obtain⟨p,a,e,f,r⟩:=h.2 j v z;exact⟨p,a,e,f,k _ _ r⟩⟩
theorem zdc{H H':Hp}{ys:List V}{rs:List (List Q3)}(h:LR RgQ H ys rs)(g:Same H H'):LR RgQ H' ys rs:=h.imp fun _ _ t=>t.same g
theorem zmp{α:Type}{R:Hp->Addr->α->Prop}{H:Hp}{ys:List V}{fs:List α}{p:List Nat}(z0:α)(h:LR R H ys fs)(or:p.Perm (List.range fs.length)):LR R H (p.map fun i=>ys.getD i .non) (p.map fun i=>fs.getD i z0):=by
 refine⟨by rw[List.length_map,List.length_map],fun j v hv=>?_⟩
 rw[List.getElem?_map] at hv
 cases e:p[j]? with
 |none=>rw[e] at hv;cases hv
 |some i=>
  rw[e] at hv;have ev:ys.getD i .non=v:=by simpa using hv
  have hi:i<fs.length:=List.mem_range.mp (or.mem_iff.mp (List.mem_of_getElem? e));obtain⟨q1,f,e1,e2,e3⟩:=h.at (j:=i) (by rw[h.1];exact hi)
  rw[List.getD_eq_getElem?_getD,e1] at ev;refine⟨q1,f,ev.symm,?_,e3⟩;rw[List.getElem?_map,e,Option.map_some,List.getD_eq_getElem?_getD,e2];rfl
theorem ky_apart{g:Int}{a b:Q3}(ha:PQ 700 a)(hb:PQ 700 b)(ga:a.w<=g)(gb:b.w<=g)(e:kyQ g a=kyQ g b):a=b:=by
 cases h1:bq a b with
 |true=>
  have:=ky_lt ha.pos hb.pos ga gb h1;rw[e,sto2.irr] at this
  cases this
 |false=>
  cases h2:bq b a with
  |true=>
   have:=ky_lt hb.pos ha.pos gb ga h2;rw[e,sto2.irr] at this
   cases this
  |false=>exact pq_tri ha hb h1 h2
theorem zhn{g:Int}:∀{a b:List Q3},(∀p,p∈a->PQ 700 p/\p.w<=g)->(∀p,p∈b->PQ 700 p/\p.w<=g)->a.map (kyQ g)=b.map (kyQ g)->a=b
 |[],[],_,_,_=>rfl
 |[],_::_,_,_,e=>by cases e
 |_::_,[],_,_,e=>by cases e
 |x::xs,y::ys,ha,hb,e=>by
  rw[List.map_cons,List.map_cons] at e
  injection e with e1 e2
  have h1:=ha x (by simp)
  have h2:=hb y (by simp)
  rw[ky_apart h1.1 h2.1 h1.2 h2.2 e1,zhn (fun p hp=>ha p (List.mem_cons_of_mem _ hp)) (fun p hp=>hb p (List.mem_cons_of_mem _ hp)) e2]
def P2H(H:Hp)(p:Addr)(a:Int×Int):Prop:=H p=some (.tup [.int a.1,.int a.2])
theorem zdz:∀(H H':Hp)(p:Addr)(a:Int×Int),zav H H'->P2H H p a->P2H H' p a:=fun _ _ _ _ g h=>g _ _ h
theorem zn3{H:Hp}{p:Addr}{qs:List V}{ks:List (Int×Int)}(h:H p=some (.lst qs))(r:LR P2H H qs ks):LsI H (.ref p) ks:=by
 refine⟨p,qs,rfl,h,r.1,fun j k hk=>?_⟩;obtain⟨b,k',e1,e2,e3⟩:=r.at (j:=j) (by rw[r.1];exact(List.getElem?_eq_some_iff.mp hk).1)
 rw[hk] at e2
 cases e2;exact⟨b,e1,e3⟩
theorem LsI.same'{H H':Hp}{v:V}{ks:List (Int×Int)}(h:LsI H v ks)(g:Same H H'):LsI H' v ks:=by
 obtain⟨q0,qs0,e0,hq0,l0,k0⟩:=h;refine⟨q0,qs0,e0,g _ _ hq0,l0,fun j k hk=>?_⟩;obtain⟨b,hb1,hb2⟩:=k0 j k hk;exact⟨b,hb1,g _ _ hb2⟩
theorem stoL:STO ltL:=⟨zfk,zmm,znc⟩
def lposP:Pos:=(lamAt zah).2
def qlP:Str:=(PyProof.Rows.envOfC "by_points" (za0 zah) 0 0 .none).qual++"<lambda>"
theorem zjl{fs:List (List Q3)}(h:∀r,r∈fs->r.length<=10):fs.flatten.length<=10*fs.length:=by
 induction fs with
 |nil=>exact Nat.le_refl _
 |cons r fs ih=>
  rw[List.flatten_cons,List.length_append,List.length_cons];have:=h r (by simp)
  have:=ih fun r hr=>h r (List.mem_cons_of_mem _ hr);omega
def OrdR(g:Int)(os:List (List Q3)):Prop:=os.Pairwise fun a b=>ltL (a.map (kyQ g)) (b.map (kyQ g))=true
def sp_byp(tb:Addr)(lp:Pos)(ql:Str):Sp:=fun vs H Q _=>∃(l:Addr)(ys:List V)(fs:List (List Q3)),vs=[.ref l]/\H l=some (.lst ys)/\ys.length<64/\LR RgQ H ys fs/\(∀r,r∈fs->r.length<=10)/\fs.Nodup/\zc3 H tb lp ql/\
 ∀D zs os g H',H D=none->zbb tb H H'->zc3 H' tb lp ql->H' D=some (.lst zs)->LR RgQ H' zs os->os.Perm fs->(∀r,r∈fs->∀p,p∈r->PQ 700 p/\p.w<=g)->OrdR g os->Q (.ref D) H'
theorem zhc(T:Txt K mg ad fd)(hK:K.In base)(hB:base.BuiltinsAt mg (ad 33)):FnOk P w K mg base CX0 3 (ad 10) (fd 10) ["things"] (sp_byp (ad 33) lposP qlP):=by
 refine T.by_points_c.ok zcv (fun vs H Q E h=>?_) (fun A outer s H vs Q E hr h=>?_)
 ·obtain⟨l,ys,fs,rfl,_⟩:=h;rfl
 obtain⟨l,ys,fs,rfl,hl,h64,hp,h10,nd,lt,k⟩:=h;have zL:=@pss4;have zf:=@zbu;have zv:=@zes;have zB:=@zd3;have zr:=@zde;have zp:=@zc4;have qpv:=@pv;have zk:=@zbz;have ze:=@zac;have zA:=@zdj;have zy:=@zhj;have zh:=@pa1;have zg:=@zaz;have zc:=@zaq;have yz:=@pe_sortK;have zw:=@ze8;unfold L2.CompBody at zw;have ya:=@zjd;have zC:=@zew;have zW:=@zo3;generalize @L2.PE=QE,@L2.PT=QT,@L2.PW=QW,@L2.PA=QA,@L2.PS=QS,@L2.PSs=QSs,@L2.PG=QG,@L2.PGs=QGs,@L2.PI=QI,@L2.PO=QO,@L2.PIf=QIf at zL zf zv zB zr zp qpv zk ze zA zy zh zg zc yz zw ya zC zW⊢;refine⟨_,
  (zL
   (zf (i:=1) zcv.nd rfl (Or.inl rfl) (zv zB))
   (zr PassesOwn.never rfl (zp (qpv 0)) (zk (i:=2) zcv.nd rfl (Or.inl rfl)) (ze (zA (zy PySem.F.plainAttrs_list PySem.F.slot_list_extend PySem.F.type_list_extend zh6 (qpv 1) (zh (qpv 2) za1)))))
   (zf (i:=3) zcv.nd rfl (Or.inr rfl) (zg (zgh T) (hr.mono (by omega)) rfl T.order_keys.mg T.order_keys.fn.kp T.order_keys.bn .nil pass0 (zh (qpv 1) za1)))
   (zc (yz (P:=ad 33) (c0:=ad 32) (x:="thing") (y:="keys") (c:=s.heap.objs.size+1) (i0:=3) (zkl (hu80 hr)) hr rfl T.b_sorted (zh (qpv 0) za1) ⟨rfl,rfl,rfl,rfl,rfl,by decide+kernel,by decide+kernel⟩ rfl rfl rfl rfl rfl rfl (PySem.W.codeHd_of_K hK T.by_points_c.hd) hB (fun _ _ _ _=>rfl) (by intro fa2 c2 A2 s3 H3 hu2;exact(zw (dsc:=(lamAt zah).1) (N:=["thing","keys"]) (own:=["P"]) (ix:=[1]) rfl rfl rfl ⟨rfl,by decide+kernel,by decide+kernel,by decide+kernel,by decide+kernel⟩ (ya (K':=K) rfl (qpv 0)) (fun cl C fp s2 H2 xe=>⟨(zk (i:=0) (show List.Nodup (["P","keys"]:List Str) from by decide+kernel) rfl (Or.inl rfl)),zC,(zW (by show A2.units+3+1<cLine;omega) (qpv 1) (qpv 0) (fun _ _=>rfl))⟩))))))
  ,?_⟩
 clear zL zf zv zB zr zp qpv zk ze zA zy zh zg zc yz zw ya zC zW QE QT QW QA QS QSs QG QGs QI QO QIf
 dsimp! [L2.start]
 simp! [];intro D0 hD0;have g0:=za2 hD0 (HO.lst []);refine zcf ?_;simp! [zd1];refine⟨⟨_,.of (g0 _ _ hl)⟩,?_⟩;have lenF:fs.length=ys.length:=hp.1.symm;refine zc8 (K:=K) (a:=l) (xs:=ys) (fun i σ H'=>Same H H'/\∃(zs:List V)(o:Option V),σ=[some (.ref l),some (.ref D0),o,none]/\H' D0=some (.lst zs)/\LR QH H' zs (fs.take i).flatten) ⟨g0,[],none,rfl,upd_same,by rw[List.take_zero];exact .nil⟩ (fun i σ H' _ iv=>.of (iv.1 _ _ hl)) ?_ ?_
 ·intro _ _;rintro i v σ H1 hi ⟨g1,zs,o,rfl,hD1,hz⟩;obtain⟨p,f,rfl,hf,us,hq,hu⟩:=hp.2 i v hi;have hq1:=g1 _ _ hq;have hi':=(List.getElem?_eq_some_iff.mp hi).1;have lf:=h10 f (List.mem_of_getElem? hf);have lz:zs.length<=700:=by
   rw[hz.1];have:=zjl (fs:=fs.take i) fun r hr=>h10 r (List.mem_of_mem_take hr);rw[List.length_take] at this;omega
  simp! [zid,hq1];refine⟨zdp hD1,zs,hD1,Nat.le_of_lt (small1000 (by have:=hu.1;omega)),zao g1 hD0,?_⟩
  rw[List.take_add_one,hf];show LR QH _ _ (fs.take i++[f]).flatten;rw[List.flatten_append,List.flatten_cons,List.flatten_nil,List.append_nil];exact(hz.app (hu.same g1)).ts zct (zcg hD1)
 ·rintro σ H1 ⟨g1,zs,o,rfl,hD1,hz⟩;rw[List.take_of_length_le (by rw[lenF];exact Nat.le_refl _)] at hz
  simp! [];refine⟨D0,zs,fs.flatten,rfl,hD1,by rw[hz.1];have:=zjl h10;omega,hz,fun d kvs g qs H2 g2 hd2 gp gm ky _ _ _ _=>?_⟩
  have g12:=g1.trans g2;simp! [tSortK];refine⟨ys,g12 _ _ hl,h64,lt.same g12,fun c' H3 st3 lt3 hc3=>?_⟩;have lt2:=lt.same g12;have hl3:=st3.lst lt2 (g12 _ _ hl);have hd3:H3 d=some (.dT kvs):=st3 _ _ (lt2.ne hd2 fun _ z=>nomatch z) hd2;have ts3:zav H2 H3:=fun b xs q=>st3.tup lt2 q;have ky3:=ky.ts ts3;have hp3:LR RgQ H3 ys fs:=(zdc hp g12).imp fun p r⟨us,h1,h2⟩=>⟨us,st3.lst lt2 h1,h2.ts zct ts3⟩;refine⟨fun i ks H'=>Same H3 H'/\ks.length=i/\∀j,j<i->LsI H' (ks.getD j .non) ((fs.getD j []).map (kyQ g)),⟨⟨.refl _,rfl,fun j hj=>by omega⟩,fun i ks H' q=>q.1 _ _ hc3,fun i ks H' q=>q.2.1,fun i ks H4 v hv q=>?_,fun ks H4 q=>?_⟩⟩
  ·obtain⟨g4,lk,q⟩:=q;obtain⟨p,f,rfl,hf,hpf⟩:=hp3.2 i v hv;obtain⟨us,hq,hu⟩:=hpf.same g4;have hd4:=g4 _ _ hd3;have lf:=h10 f (List.mem_of_getElem? hf);refine zb3 ?_;simp! [zd1];refine⟨⟨_,.of hq⟩,fun D hD=>?_⟩;refine zb0 (xs:=us) (zhm P2H (f.map (kyQ g)) H4 D) (zdk hD) (fun n qs H' z=>.of (z.1 _ _ hq)) ?_ ?_
   ·rintro n qs H5 x hn hx iv;obtain⟨g5,hD5,lq,hqs⟩:=id iv;obtain⟨a,c,rfl,hc',hc⟩:=hu.2 n x hx;obtain⟨b,e1,h1⟩:=ky3 c (List.mem_flatten.mpr ⟨f,List.mem_of_getElem? hf,List.mem_of_getElem? hc'⟩);simp! [tDGet];refine⟨_,by rw[←e1];exact .t (k:=kQ c) (g5 _ _ hd4) (g5 _ _ hc.1),?_⟩
    exact zdh zdz hD (by have:=hu.1;omega) iv hn (by rw[List.getElem?_map,hc'];rfl) (.refl _) (g5 _ _ (g4 _ _ h1))
   ·rintro qs H5 ⟨g5,hD5,lq,hqs⟩;rw[List.take_of_length_le (by rw[List.length_map,hu.1];exact Nat.le_refl _)] at hqs
    refine⟨g4.trans g5,by rw[List.length_append,lk];rfl,fun j hj=>?_⟩
    by_cases e:j<i
    ·have ej:(ks++[V.ref D]).getD j .non=ks.getD j .non:=by
      rw[List.getD_eq_getElem?_getD,List.getElem?_append_left (by omega),←List.getD_eq_getElem?_getD]
     rw[ej];exact LsI.same' (q j e) g5
    ·have ej:j=i:=by omega
     subst ej;have e3:(ks++[V.ref D]).getD j .non=.ref D:=by
      rw[List.getD_eq_getElem?_getD,List.getElem?_append_right (by omega),lk,Nat.sub_self]
      rfl
     have e4:fs.getD j []=f:=by rw[List.getD_eq_getElem?_getD,hf];rfl
     rw[e3,e4];exact zn3 hD5 hqs
  ·obtain⟨g4,lk,q⟩:=q;refine⟨_,⟨fun i=>(fs.getD i []).map (kyQ g),fun i hi=>q i (by omega),rfl⟩,fun D pp hD or ep=>?_⟩
   have gw:∀r,r∈fs->∀p,p∈r->PQ 700 p/\p.w<=g:=fun r hr p hp'=>⟨lr_pq hz (List.mem_flatten.mpr ⟨r,hr,hp'⟩),gm _ (List.mem_flatten.mpr ⟨r,hr,hp'⟩)⟩;rw[←lenF] at or ep;have ndk:(fs.map fun r=>r.map (kyQ g)).Nodup:=by
    rw[List.nodup_iff_pairwise_ne,List.pairwise_map];rw[List.nodup_iff_pairwise_ne] at nd;exact nd.imp_of_mem fun{a b} ha hb ne e=>ne (zhn (gw a ha) (gw b hb) e)
   obtain⟨pm,pw⟩:=zi8 stoL (fun r:List Q3=>r.map (kyQ g)) [] ndk or ep;have g5:=za2 hD (HO.lst (pp.toList.map fun i=>ys.getD i .non));refine k D _ _ g _ (g12.free (?_:H2 D=none)) (fun b o nb e=>g5 _ _ (g4 _ _ (st3 _ _ nb (g12 _ _ e)))) ((lt3.same g4).same g5) upd_same (zdc (zmp [] hp3 or) (g4.trans g5)) pm gw pw;have h3:=g4.free hD
   cases e:H2 D with
   |none=>rfl
   |some o=>
    by_cases nb:D=(ad 33)
    ·obtain⟨tp,e3,_⟩:=lt3;rw[←nb,h3] at e3
     cases e3
    ·rw[st3 _ _ nb e] at h3
     cases h3
structure Cyc(ss:List (Q3×Q3))(rs:List (List Q3)):Prop where
 ring:∀r,r∈rs->Ring ss r
 mem:∀e,e∈ss->∃r,r∈rs/\e∈sds r
 ap:∀r r' e,r∈rs->r'∈rs->e∈sds r->e∈sds r'->r=r'
theorem Lv.sameT{P:Program}{w:World}{H0 H H':Hp}{d gn:Addr}{kvs:List (List Key×V)}{ss:List (Q3×Q3)}{gk:List N3}(h:Lv H0 H d kvs ss)(g:zbb gn H H')(hg:H gn=some (nD P w gn gk))(h0:H0 gn=none):Lv H0 H' d kvs ss:=by
 refine⟨fun b u e=>g _ _ (fun z=>by rw[z,h0] at e;cases e) (h.same _ _ e),h.new,g _ _ (fun z=>by have:=h.at_;rw[z,hg] at this;cases this) h.at_,h.len,fun p v e=>?_,h.non,h.dis⟩
 obtain⟨a,zs,e1,e2,e3,e4⟩:=h.ent p v e;exact⟨a,zs,e1,e2,g _ _ (fun z=>by rw[z,hg] at e3;cases e3) e3,e4.ts zct (ts_sg g hg)⟩
theorem Lv.put{H0 H:Hp}{d R:Addr}{kvs:List (List Key×V)}{ss:List (Q3×Q3)}{zs us:List V}(h:Lv H0 H d kvs ss)(hR:H R=some (.lst zs))(h0:H0 R=none)(nR:∀p,valV kvs (kQ p)≠some (.ref R)):Lv H0 (upd H R (.lst us)) d kvs ss:=by
 refine⟨zao h.same h0,h.new,?_,h.len,fun p v e=>?_,h.non,h.dis⟩
 ·rw[za7 (fun z=>by rw[←z,h.at_] at hR;cases hR)]
  exact h.at_
 ·obtain⟨a,ys,e1,e2,e3,e4⟩:=h.ent p v e;refine⟨a,ys,e1,e2,?_,e4.ts zct (zcg hR)⟩;rw[za7 (fun z=>nR p (by rw[e,e1,z]))]
  exact e3
def RgN(R:Addr)(H:Hp)(p:Addr)(r:List Q3):Prop:=p≠R/\RgQ H p r
theorem ziy{R:Addr}{H:Hp}{ys us:List V}{rs:List (List Q3)}(h:LR (RgN R) H ys rs)(hR:H R=some (.lst us))(o:HO):LR (RgN R) (upd H R o) ys rs:=h.imp fun p r t=>⟨t.1,t.2.put t.1 hR⟩
theorem zjp{R:Addr}{H H':Hp}{ys:List V}{rs:List (List Q3)}(h:LR (RgN R) H ys rs)(g:Same H H'):LR (RgN R) H' ys rs:=h.imp fun p r t=>⟨t.1,t.2.same g⟩
theorem RgQ.sameT{P:Program}{w:World}{H H':Hp}{gn p:Addr}{gk:List N3}{r:List Q3}(h:RgQ H p r)(g:zbb gn H H')(hg:H gn=some (nD P w gn gk)):RgQ H' p r:=by
 obtain⟨zs,h1,h2⟩:=h;exact⟨zs,g _ _ (fun z=>by rw[z,hg] at h1;cases h1) h1,h2.ts zct (ts_sg g hg)⟩
structure Fnd(rs qs:List (List Q3))(gk:List N3):Prop where
 of:∀q,q∈qs->∃r i,r∈rs/\i<r.length/\q=rot r i
 apart:qs.Pairwise fun a b=>∀e,e∈sds a->¬e∈sds b
 gone:∀e,hasG gk e↔∃q,q∈qs/\e∈sds q
theorem Fnd.put{ss:List (Q3×Q3)}{rs qs:List (List Q3)}{gk gk':List N3}{r:List Q3}{j:Nat}(C:Cyc ss rs)(h:Fnd rs qs gk)(hr:r∈rs)(hj:j<r.length)(hn:¬hasG gk (nx r j,nx r (j+1)))(hg:∀e,hasG gk' e↔hasG gk e∨e∈sds (rot r j)):Fnd rs (qs++[rot r j]) gk':=by
 refine⟨fun q hq=>?_,?_,fun e=>?_⟩
 ·rcases List.mem_append.mp hq with hq|hq
  ·exact h.of q hq
  ·exact⟨r,j,hr,hj,List.mem_singleton.mp hq⟩
 ·refine List.pairwise_append.mpr ⟨h.apart,List.pairwise_singleton _ _,fun a ha b hb e h1 h2=>hn ?_⟩;rw[List.mem_singleton.mp hb,zey hj] at h2;obtain⟨ra,ia,hra,hia,rfl⟩:=h.of a ha;rw[zey hia] at h1;have:=C.ap _ _ _ hra hr h1 h2;subst this;exact(h.gone _).mpr ⟨_,ha,(zey hia).mpr (ze3 (by omega) j)⟩
 ·rw[hg,h.gone]
  constructor
  ·rintro(⟨q,h1,h2⟩|h1)
   ·exact⟨q,List.mem_append_left _ h1,h2⟩
   ·exact⟨_,List.mem_append_right _ (List.mem_singleton.mpr rfl),h1⟩
  ·rintro⟨q,h1,h2⟩;rcases List.mem_append.mp h1 with h1|h1
   ·exact .inl ⟨q,h1,h2⟩
   ·rw[List.mem_singleton.mp h1] at h2;exact .inr h2
theorem zca.sds{q r:List Q3}(h:zca q r){e:Q3×Q3}:e∈Mine.sds q↔e∈Mine.sds r:=by
 obtain⟨i,hi,rfl,_⟩:=h;exact zey hi
theorem zca.len{q r:List Q3}(h:zca q r):q.length=r.length:=by
 obtain⟨i,hi,rfl,_⟩:=h;exact zbe _ _
theorem zca.mem{q r:List Q3}(h:zca q r){x:Q3}:x∈q↔x∈r:=by
 obtain⟨i,hi,rfl,_⟩:=h;exact zgj
theorem Fnd.all{ss:List (Q3×Q3)}{rs qs cs:List (List Q3)}{gk:List N3}(C:Cyc ss rs)(h:Fnd rs qs gk)(al:∀e,e∈ss->hasG gk e)(pq:∀q,q∈qs->∀x,x∈q->PQ 700 x)(lc:cs.length=qs.length)(cn:∀(j:Nat) c q,cs[j]?=some c->qs[j]?=some q->zca c q):
  cs.Nodup/\(∀c,c∈cs->c.length<=10)/\∀c,c∈cs↔∃r,r∈rs/\zca c r:=by
 have at_:∀c,c∈cs->∃q,q∈qs/\zca c q:=fun c hc=>by
  obtain⟨j,hj⟩:=List.mem_iff_getElem?.mp hc;have hj':j<qs.length:=by rw[←lc];exact(List.getElem?_eq_some_iff.mp hj).1
  exact⟨qs[j],List.getElem_mem _,cn j c _ hj (List.getElem?_eq_getElem hj')⟩
 refine⟨?_,fun c hc=>?_,fun c=>⟨fun hc=>?_,fun⟨r,hr,hc⟩=>?_⟩⟩
 ·rw[List.nodup_iff_pairwise_ne,List.pairwise_iff_getElem];intro i j hi hj hij e;have a:=List.pairwise_iff_getElem.mp h.apart i j (by omega) (by omega) hij
  have c1:=cn i _ _ (List.getElem?_eq_getElem hi) (List.getElem?_eq_getElem (by omega))
  have c2:=cn j _ _ (List.getElem?_eq_getElem hj) (List.getElem?_eq_getElem (by omega))
  obtain⟨r,k,hr,hk,e3⟩:=h.of _ (List.getElem_mem (by omega:i<qs.length))
  have s0:=ze3 (r:=qs[i]'(by omega)) (by rw[e3,zbe];omega) 0
  refine a _ s0 ?_;rw[←c1.sds,e,c2.sds] at s0;exact s0
 ·obtain⟨q,hq,z⟩:=at_ c hc;obtain⟨r,k,hr,hk,rfl⟩:=h.of q hq;rw[z.len,zbe];exact(C.ring r hr).ten
 ·obtain⟨q,hq,z⟩:=at_ c hc;obtain⟨r,k,hr,hk,rfl⟩:=h.of q hq;exact⟨r,hr,z.of_rot hk⟩
 ·obtain⟨q,hq,e1⟩:=(h.gone _).mp (al _ ((C.ring r hr).mem 0));obtain⟨r2,k,hr2,hk,rfl⟩:=h.of q hq;rw[zey hk] at e1;have two:=(C.ring r hr).two;have:=C.ap _ _ _ hr hr2 (ze3 (by omega) 0) e1
  subst this;obtain⟨j,hj⟩:=List.mem_iff_getElem?.mp hq;have hj':j<cs.length:=by rw[lc];exact(List.getElem?_eq_some_iff.mp hj).1
  have z:=cn j _ _ (List.getElem?_eq_getElem hj') hj;rw[hc.uniq (C.ring r hr).nd (fun x hx=>pq _ hq x (zgj.mpr hx)) (z.of_rot hk)];exact List.getElem_mem _
def sp_rings(P:Program)(w:World)(tb:Addr)(lp:Pos)(ql:Str):Sp:=fun vs H Q _=>∃(l:Addr)(ys:List V)(ss:List (Q3×Q3))(rs:List (List Q3)),vs=[.ref l]/\H l=some (.lst ys)/\ys.length<=40/\LR S2H H ys ss/\Cyc ss rs/\zc3 H tb lp ql/\
 ∀D zs os g H',H D=none->zbb tb H H'->zc3 H' tb lp ql->H' D=some (.lst zs)->LR RgQ H' zs os->(∀r,r∈os->∀p,p∈r->PQ 700 p/\p.w<=g)->OrdR g os->(∀q,q∈os↔∃r,r∈rs/\zca q r)->os.length<=40->Q (.ref D) H'
def RingI(P:Program)(w:World)(H:Hp)(l lv gn R:Addr)(kvs:List (List Key×V))(ss:List (Q3×Q3))(rs:List (List Q3))(i:Nat)(σ:St)(H':Hp):Prop:=∃(zs:List V)(gk:List N3)(qs:List (List Q3))(o:Option V),σ=[some (V.ref l),some (V.ref lv),some (V.ref gn),some (V.ref R),o]/\Lv H H' lv kvs ss/\H' gn=some (nD P w gn gk)/\GnK H' gk/\gk.length<=10*i/\H' R=some (.lst zs)/\LR (RgN R) H' zs qs/\zs.length<=i/\Fnd rs qs gk/\∀e,e∈ss.take i->hasG gk e
theorem ze9(T:Txt K mg ad fd)(hK:K.In base)(hB:base.BuiltinsAt mg (ad 33)):FnOk P w K mg base CX0 7 (ad 11) (fd 11) ["land"] (sp_rings P w (ad 33) lposP qlP):=by
 refine T.rings_of.fn.ok zcu (fun vs H Q E h=>?_) (fun cdv A outer s H vs Q E hr h=>?_)
 ·obtain⟨l,ys,ss,rs,rfl,_⟩:=h;rfl
 obtain⟨l,ys,ss,rs,rfl,hl,hn,hs,C,lt,k⟩:=h;have zG:=@pss5;have zf:=@zbu;have zg:=@zaz;have zh:=@pa1;have qpv:=@pv;have yA:=@pe_nnew;have zv:=@zes;have zB:=@zd3;have zr:=@zde;have zp:=@zc4;have zk:=@zbz;have ze:=@zac;have zm:=@ze6;have zR:=@zms;have yC:=@zmk;have zA:=@zdj;have zy:=@zhj;have zt:=@pa3;have zn:=@zbq;have zc:=@zaq;have zw:=@ze8;unfold L2.CompBody at zw;have zC:=@zew;generalize @L2.PE=QE,@L2.PT=QT,@L2.PW=QW,@L2.PA=QA,@L2.PS=QS,@L2.PSs=QSs,@L2.PG=QG,@L2.PGs=QGs,@L2.PI=QI,@L2.PO=QO,@L2.PIf=QIf,@L2.PC=QC,@L2.PK=QK at zG zf zg zh qpv yA zv zB zr zp zk ze zm zR yC zA zy zt zn zc zw zC⊢;refine⟨_,
  (zG
   (zf (i:=1) zcu.nd rfl (Or.inl rfl) (zg (zgt T) (hr.mono (by decide)) rfl T.leaving_of.mg T.leaving_of.fn.kp T.leaving_of.bn .nil pass0 (zh (qpv 0) za1)))
   (zf (i:=2) zcu.nd rfl (Or.inl rfl) (yA (P:=P) (w:=w) rfl rfl))
   (zf (i:=3) zcu.nd rfl (Or.inl rfl) (zv zB))
   (zr PassesOwn.never rfl (zp (qpv 0)) (zk (i:=4) zcu.nd rfl (Or.inl rfl)) (ze (zm (zR (yC (P:=P) (w:=w) rfl rfl (hu64 hr) (qpv 4) (qpv 2))) (ze (zA (zy PySem.F.plainAttrs_list PySem.F.slot_list_extend PySem.F.type_list_extend zh6 (qpv 3) (zh (zg (zhh T) (hr.mono (by decide)) rfl T.way_round.mg T.way_round.fn.kp T.way_round.bn .nil pass0 (zt (qpv 4) za1 (qpv 1) za1 (qpv 2) za1)) zce)))) zn)))
   (zc (zg (zhc T hK hB) (hr.mono (by decide)) rfl T.by_points.mg T.by_points.fn.kp T.by_points.bn .nil pass0 (zh (zw (dsc:=za0 zbc) (N:=["land","leaving","gone","rings","fence"]) (own:=["ring"]) (ix:=[]) rfl rfl rfl ⟨rfl,by decide+kernel,by decide+kernel,by decide+kernel,by decide+kernel⟩ (zp (qpv 3)) (fun cl C fp s2 H2 xe=>⟨(zk (i:=0) (show List.Nodup (["ring"]:List Str) from by decide+kernel) rfl (Or.inl rfl)),zC,(zg (zh2 T) (hr.mono (by decide)) rfl T.from_least.mg T.from_least.fn.kp T.from_least.bn .nil pass0 (zh (qpv 0) za1))⟩)) zda))))
  ,?_⟩
 clear zG zf zg zh qpv yA zv zB zr zp zk ze zm zR yC zA zy zt zn zc zw zC QE QT QW QA QS QSs QG QGs QI QO QIf QC QK
 dsimp! [L2.start]
 simp! [tNNew];have lss:=hs.1;refine⟨l,ys,ss,rfl,hl,by omega,hs,fun lv kvs H1 hlv lv1=>?_⟩
 intro gn hgn;have gG:=za2 hgn (nD P w gn []);have hg2:upd H1 gn (nD P w gn []) gn=some (nD P w gn []):=upd_same;have lv2:=lv1.mono gG;generalize upd H1 gn (nD P w gn [])=H2 at*;intro R hR;have gR:=za2 hR (HO.lst []);have hR3:upd H2 R (HO.lst []) R=some (.lst []):=upd_same;have nR:∀p,valV kvs (kQ p)≠some (.ref R):=fun p z=>by
  obtain⟨a,zs,e1,_,e3,_⟩:=lv2.ent _ _ z
  cases e1;rw[hR] at e3
  cases e3
 have lv3:=lv2.mono gR;have hgnH:H gn=none:=lv1.same.free hgn;have hRH:H R=none:=lv2.same.free hR;have hg3:=gR _ _ hg2;generalize upd H2 R (HO.lst [])=H3 at*;refine zcf ?_;simp! [zd1];refine⟨⟨_,.of (lv3.same _ _ hl)⟩,?_⟩;refine zc8 (K:=K) (a:=l) (xs:=ys) (RingI P w H l lv gn R kvs ss rs)
  ⟨[],[],[],none,rfl,lv3,hg3,fun p hp=>(by cases hp),Nat.le_refl _,hR3,.nil,Nat.le_refl _,⟨fun q hq=>(by cases hq),.nil,fun e=>⟨fun z=>(by cases z),fun⟨q,hq,_⟩=>(by cases hq)⟩⟩,fun e he=>(by rw[List.take_zero] at he;cases he)⟩ (fun i σ H' _ iv=>.of (by obtain⟨_,_,_,_,_,lv',_⟩:=iv;exact lv'.same _ _ hl)) ?_ ?_
 ·intro _ _;rintro i v σ H4 hi ⟨zs,gk,qs,o,rfl,lv4,hg4,hk4,lg,hR4,hq4,lz,fd4,al⟩;obtain⟨p,e,rfl,he',hp⟩:=hs.2 i v hi;have hi':=(List.getElem?_eq_some_iff.mp hi).1;have hp4:=zfs _ _ _ _ (zae lv4.same) hp;have gkm:gn≠R:=fun z=>by rw[z,hR4] at hg4;cases hg4
  simp! [zlm];refine⟨gk,.inl hg4,hk4.kn,kE e,hp4.nk,ite2 (fun c=>?_) (fun c=>?_)⟩
  ·have hn':¬hasG gk e:=fun z=>by unfold hasG at z;rw[z] at c;cases c
   obtain⟨r,hr,hes⟩:=C.mem e (List.mem_of_getElem? he');obtain⟨j,hj,rfl⟩:=zex.mp hes;have rg:=(C.ring r hr).rot hj;have e0:nx (rot r j) 0=nx r j:=zbs hj 0;have e1:nx (rot r j) 1=nx r (j+1):=zbs hj 1;refine⟨zdp hR4,H,p,lv,gn,kvs,gk,ss,rot r j,rfl,by rw[e0,e1];exact hp4,lv4,by omega,hg4,hk4,by omega,rg,fun R' W us H5 gk' sg5 hg5 hk5 hh lg5 hR' hW' nRW hR5 hW5 hu5=>?_⟩
   have lv5:=lv4.sameT sg5 hg4 hgnH;have hRR:H5 R=some (.lst zs):=sg5 _ _ gkm.symm hR4;have nR'R:R'≠R:=fun z=>by rw[z,hR4] at hR';cases hR'
   have nWR:W≠R:=fun z=>by rw[z,hR4] at hW';cases hW'
   have hq5:LR (RgN R) H5 zs qs:=hq4.imp fun p r t=>⟨t.1,t.2.sameT sg5 hg4⟩;have w5:RgN R H5 W (rot r j):=⟨nWR,us,hW5,hu5⟩;have l10:=rg.ten;simp! [zid,hR5];refine⟨zs,hRR,Nat.le_of_lt (small1000 (by omega)),?_⟩
   have hg5:H5 gn=some (nD P w gn gk'):=hg5;refine⟨zs++[V.ref W],gk',qs++[rot r j],_,rfl,lv5.put hRR hRH nR,zdq (u:=.lst []) gkm hg5,hk5.ts (zcg hRR),by omega,upd_same,?_,by rw[List.length_append,List.length_singleton];omega,fd4.put C hr hj hn' hh,fun e he=>?_⟩
   ·exact ziy (hq5.snoc w5) hRR _
   ·rw[List.take_add_one,he'] at he;rw[hh];rcases List.mem_append.mp he with he|he
    ·exact .inl (al e he)
    ·have:e=(nx r j,nx r (j+1)):=by simpa using he
     rw[this];exact .inr ((zey hj).mpr hes)
  ·have hy:hasG gk e:=by
    unfold hasG
    cases z:(valN gk (kE e)).isSome with
    |true=>rfl
    |false=>exact absurd (by rw[z];rfl) c
   refine⟨zs,gk,qs,_,rfl,lv4,hg4,hk4,by omega,hR4,hq4,by omega,fd4,fun f hf=>?_⟩
   rw[List.take_add_one,he'] at hf;rcases List.mem_append.mp hf with hf|hf
   ·exact al f hf
   ·have:f=e:=by simpa using hf
    rw[this];exact hy
 ·rintro σ H4 ⟨zs,gk,qs,o,rfl,lv4,hg4,hk4,lg,hR4,hq4,lz,fd4,al⟩;rw[List.take_of_length_le (Nat.le_of_eq hs.1.symm)] at al;simp! [];refine zb3 ?_;simp! [zd1];refine⟨⟨_,.of hR4⟩,fun D hD=>?_⟩;have pq:∀q,q∈qs->∀x,x∈q->PQ 700 x:=fun q hq x hx=>by
   obtain⟨j,hj⟩:=List.mem_iff_getElem?.mp hq;obtain⟨b,r,_,e2,_,us,_,hu⟩:=hq4.at (j:=j) (by rw[hq4.1];exact(List.getElem?_eq_some_iff.mp hj).1)
   rw[hj] at e2
   cases e2;exact lr_pq hu hx
  refine zb0 (xs:=zs) (fun i us H'=>Same H4 H'/\H' D=some (.lst us)/\us.length=i/\∃cs,LR (RgN D) H' us cs/\∀(j:Nat) c q,cs[j]?=some c->qs[j]?=some q->zca c q) ⟨za2 hD _,upd_same,rfl,[],.nil,fun j c q z=>(by cases z)⟩ (fun i us H' iv=>.of (iv.1 _ _ hR4)) ?_ ?_
  ·rintro i us H5 v hi hv ⟨g5,hD5,lu,cs,hcs,can⟩;obtain⟨p,q,rfl,hq',_,ws,hw,hws⟩:=hq4.2 i v hv;obtain⟨r,ii,hr,hii,eq⟩:=fd4.of q (List.mem_of_getElem? hq');have lq:q.length=r.length:=by rw[eq,zbe]
   have rg:=C.ring r hr;have r2:=rg.two;have r10:=rg.ten;simp! [];refine⟨p,ws,q,rfl,g5 _ _ hw,hws.same g5,by omega,by omega,fun E1 es c H6 hE g6 hE6 he6 ic=>?_⟩
   have hD6:=g6 _ _ hD5;have nE:E1≠D:=fun z=>by rw[z,hD5] at hE;cases hE
   refine cw_put hi hD6 (small1000 (by omega)) ⟨zao (g5.trans g6) hD,upd_same,by rw[List.length_append,lu];rfl,cs++[c],?_,fun j c' q' h1 h2=>?_⟩
   ·exact ziy ((zjp hcs g6).snoc (R:=RgN D) ⟨nE,es,hE6,he6⟩) hD6 _
   ·have lc:cs.length=i:=by rw[←hcs.1,lu]
    by_cases e:j<cs.length
    ·rw[List.getElem?_append_left e] at h1;exact can j c' q' h1 h2
    ·rw[List.getElem?_append_right (by omega)] at h1
     have ej:j=i:=by
      have:=(List.getElem?_eq_some_iff.mp h1).1;simp only[List.length_cons,List.length_nil] at this;omega
     subst ej;rw[lc,Nat.sub_self] at h1
     cases h1;rw[hq'] at h2
     cases h2;exact ic
  ·rintro us H5 ⟨g5,hD5,lu,cs,hcs,can⟩;have lcs:cs.length=qs.length:=by rw[←hcs.1,lu,hq4.1]
   obtain⟨nd,l10,all⟩:=fd4.all C al pq lcs can;have g05:=lv4.same.trans g5;refine⟨D,us,cs,rfl,hD5,by omega,hcs.imp (R':=RgQ) (fun p r t=>t.2),l10,nd,lt.same g05,fun F zs6 os g H6 hF st6 lt6 hF6 ho pm gw od=>?_⟩
   refine k F zs6 os g H6 (g05.free hF) (zbb.trans (zbb.of g05) st6) lt6 hF6 ho (fun r hr=>gw r (pm.mem_iff.mp hr)) od (fun q=>by rw[pm.mem_iff];exact all q) ?_
   rw[pm.length_eq,←hcs.1];omega
def toP(a:Q3):P3:=⟨a.x,a.y,a.w⟩
theorem rgH_of{H:Hp}{p:Addr}{r:List Q3}(h:RgQ H p r)(l:r.length<=20):RgH H p (r.map toP):=by
 obtain⟨zs,h1,h2⟩:=h;refine⟨zs,h1,by rw[List.length_map];exact h2.1,by rw[List.length_map];exact l,fun k v z=>?_⟩
 obtain⟨a,c,e,f,t⟩:=h2.2 k v z;exact⟨a,toP c,e,by rw[List.getElem?_map,f];rfl,t.tb⟩
def sp_round:Sp:=fun vs H Q _=>∃(l q:Addr)(ys:List V)(ds:List S6)(x y w:Int),vs=[.ref l,.ref q]/\H l=some (.lst ys)/\ys.length<100000/\StL H ys ds/\TB 1000 H q x y w/\∀H',Same H H'->Q (.bl (decide (((cntAb ds x y w:Nat):Int)%2=1))) H'
theorem zim(T:Txt K mg ad fd):FnOk P w K mg base CX0 5 (ad 21) (fd 21) ["sides","P"] sp_round:=by
 refine T.is_round.fn.ok ziu (fun vs H Q E h=>?_) (fun cdv A outer s H vs Q E hr h=>?_)
 ·obtain⟨l,q,ys,ds,x,y,w,rfl,_⟩:=h;rfl
 obtain⟨l,q,ys,ds,x,y,w,rfl,hl,hn,hs,hq,k⟩:=h;have ze:=@zac;have zc:=@zaq;have zF:=@zf2;have zb:=@zd9;have zg:=@zaz;have zj:=@pa2;have qpv:=@pv;have za:=@zbg;generalize @L2.PE=QE,@L2.PT=QT,@L2.PW=QW,@L2.PA=QA,@L2.PS=QS,@L2.PSs=QSs,@L2.PG=QG,@L2.PGs=QGs,@L2.PI=QI,@L2.PO=QO,@L2.PIf=QIf at ze zc zF zb zg zj qpv za⊢;refine⟨_,
  (ze (zc (zF znt (zb zc9 (zg (ok_above T) (hr.mono (by decide)) rfl T.above.mg T.above.fn.kp T.above.bn .nil pass0 (zj (qpv 0) za1 (qpv 1) za1)) za) za (nomark _))))
  ,?_⟩
 clear ze zc zF zb zg zj qpv za QE QT QW QA QS QSs QG QGs QI QO QIf
 dsimp! [L2.start]
 simp! [];refine⟨l,q,ys,ds,x,y,w,rfl,hl,hn,hs,hq,fun H1 g1=>?_⟩;exact⟨_,rfl,by decide,k H1 g1⟩
def sp_inner:Sp:=fun vs H Q _=>∃(l h:Addr),vs=[.ref l,.ref h]/\H l=some (.lst [])/\Q .non H
theorem zho(T:Txt K mg ad fd):FnOk P w K mg base CX0 1 (ad 23) (fd 23) ["row","holders"] sp_inner:=by
 refine T.innermost.fn.ok zf9 (fun vs H Q E h=>?_) (fun cdv A outer s H vs Q E hr h=>?_)
 ·obtain⟨l,h',rfl,_⟩:=h;rfl
 obtain⟨l,h',rfl,hl,k⟩:=h;have zE:=@pss2;have zr:=@zde;have zp:=@zc4;have qpv:=@pv;have zk:=@zbz;have ze:=@zac;have zN:=@zfi;have zc:=@zaq;have yh:=@pe_non;generalize @L2.PE=QE,@L2.PT=QT,@L2.PW=QW,@L2.PA=QA,@L2.PS=QS,@L2.PSs=QSs,@L2.PG=QG,@L2.PGs=QGs,@L2.PI=QI,@L2.PO=QO,@L2.PIf=QIf at zE zr zp qpv zk ze zN zc yh⊢;refine⟨_,
  (zE
   (zr PassesOwn.never rfl (zp (qpv 0)) (zk (i:=2) zf9.nd rfl (Or.inr rfl)) (ze zN))
   (zc yh))
  ,?_⟩
 clear zE zr zp qpv zk ze zN zc yh QE QT QW QA QS QSs QG QGs QI QO QIf
 dsimp! [L2.start]
 simp! [];refine zcf ?_;simp! [zd1];refine⟨⟨_,.of hl⟩,?_⟩;refine zc8 (K:=K) (a:=l) (xs:=[]) (fun i σ H'=>H'=H/\∃o:Option V,σ=[some (V.ref l),some (V.ref h'),o]) ⟨rfl,none,rfl⟩ (fun i σ H' _ iv=>.of (by rw[iv.1];exact hl)) ?_ ?_
 ·intro _ _;rintro i v σ H2 hi _
  cases hi
 ·rintro σ H2 ⟨rfl,o,rfl⟩;simp! [];exact k
def midX(a b:Q3):Int:=ptX (a.x*b.w+b.x*a.w) (a.y*b.w+b.y*a.w) (2*a.w*b.w)
def midY(a b:Q3):Int:=ptY (a.x*b.w+b.x*a.w) (a.y*b.w+b.y*a.w) (2*a.w*b.w)
def midW(a b:Q3):Int:=ptW (a.x*b.w+b.x*a.w) (a.y*b.w+b.y*a.w) (2*a.w*b.w)
def MdH(H:Hp)(p:Addr)(r:List Q3):Prop:=TB 1000 H p (midX (nx r 0) (nx r 1)) (midY (nx r 0) (nx r 1)) (midW (nx r 0) (nx r 1))
theorem md_ts:∀(H H':Hp)(p:Addr)(r:List Q3),zav H H'->MdH H p r->MdH H' p r:=fun _ _ _ _ g h=>h.ts g
def sd3(r:List Q3):List S6:=sdA [r.map toP] 1
def SdH(H:Hp)(p:Addr)(r:List Q3):Prop:=∃zs,H p=some (.lst zs)/\zs.length<=400/\StL H zs (sd3 r)
theorem SdH.same{H H':Hp}{p:Addr}{r:List Q3}(h:SdH H p r)(g:Same H H'):SdH H' p r:=by
 obtain⟨zs,h1,h2,h3⟩:=h;exact⟨zs,g _ _ h1,h2,h3.ts (zae g)⟩
def Free(rs:List (List Q3)):Prop:=∀(i j:Nat)(a b:List Q3),i≠j->rs[i]?=some a->rs[j]?=some b->cntAb (sd3 b) (midX (nx a 0) (nx a 1)) (midY (nx a 0) (nx a 1)) (midW (nx a 0) (nx a 1))%2=0
def sp_nest:Sp:=fun vs H Q _=>∃(l:Addr)(ys:List V)(rs:List (List Q3)),vs=[.ref l]/\H l=some (.lst ys)/\ys.length<=40/\LR RgQ H ys rs/\(∀r,r∈rs->2<=r.length/\r.length<=10)/\(∀r,r∈rs->Bd3 1000 (midX (nx r 0) (nx r 1)) (midY (nx r 0) (nx r 1)) (midW (nx r 0) (nx r 1)))/\Free rs/\∀D H',H D=none->Same H H'->H' D=some (.lst (List.replicate ys.length V.non))->Q (.ref D) H'
theorem ok_nest(T:Txt K mg ad fd):FnOk P w K mg base CX0 6 (ad 22) (fd 22) ["some"] sp_nest:=by
 refine T.nest.fn.ok ze4 (fun vs H Q E h=>?_) (fun cdv A outer s H vs Q E hr h=>?_)
 ·obtain⟨l,ys,rs,rfl,_⟩:=h;rfl
 obtain⟨l,ys,rs,rfl,hl,hn,hr1,h10,hbd,fr,k⟩:=h;have zG:=@pss5;have zf:=@zbu;have zw:=@ze8;unfold L2.CompBody at zw;have zp:=@zc4;have qpv:=@pv;have zk:=@zbz;have zC:=@zew;have zg:=@zaz;have zh:=@pa1;have zv:=@zes;have zV:=@zmq;unfold L2.CompBody at zV;have zj:=@pa2;have zd:=@zdy;have za:=@zbg;have zB:=@zd3;have zr:=@zde;have yD:=@pi_enu;have zP:=@zgl;have zK:=@zeg;have zM:=@zfu;have zE:=@pss2;have zO:=@zef;have zu:=@zch;have zZ:=@znh;have zo:=@zbp;have zA:=@zdj;have zy:=@zhj;have zD:=@zfz;have zc:=@zaq;generalize @L2.PE=QE,@L2.PT=QT,@L2.PW=QW,@L2.PA=QA,@L2.PS=QS,@L2.PSs=QSs,@L2.PG=QG,@L2.PGs=QGs,@L2.PI=QI,@L2.PO=QO,@L2.PIf=QIf at zG zf zw zp qpv zk zC zg zh zv zV zj zd za zB zr yD zP zK zM zE zO zu zZ zo zA zy zD zc⊢;refine⟨_,
  (zG
   (zf (i:=1) ze4.nd rfl (Or.inr rfl) (zw (dsc:=za0 zcz) (N:=["some","sides","middles","holders","number","middle","others"]) (own:=["ring"]) (ix:=[]) rfl rfl rfl ⟨rfl,by decide+kernel,by decide+kernel,by decide+kernel,by decide+kernel⟩ (zp (qpv 0)) (fun cl C fp s2 H2 xe=>⟨(zk (i:=0) (show List.Nodup (["ring"]:List Str) from by decide+kernel) rfl (Or.inl rfl)),zC,(zg (ziv T) (hr.mono (by decide)) rfl T.sides_of.mg T.sides_of.fn.kp T.sides_of.bn .nil pass0 (zh (zv (zh (qpv 0) za1)) zib))⟩)))
   (zV (i:=2) ze4.nd rfl (Or.inl rfl) (dsc:=za0 zcz) (N:=["some","sides","middles","holders","number","middle","others"]) (own:=["ring"]) (ix:=[]) rfl rfl rfl ⟨rfl,by decide+kernel,by decide+kernel,by decide+kernel,by decide+kernel⟩ (zp (qpv 0)) (fun cl C fp s2 H2 xe=>⟨(zk (i:=0) (show List.Nodup (["ring"]:List Str) from by decide+kernel) rfl (Or.inl rfl)),zC,(zg (ok_amid T) (hr.mono (by decide)) rfl T.amid.mg T.amid.fn.kp T.amid.bn .nil pass0 (zj (zd zat (qpv 0) za (fun _ _=>rfl)) za8 (zd zat (qpv 0) za (fun _ _=>rfl)) za8))⟩))
   (zf (i:=3) ze4.nd rfl (Or.inr rfl) (zv zB))
   (zr PassesOwn.never rfl (yD rfl T.b_enumerate (zh (qpv 2) za1)) (zP (n:=2) rfl (zK (zk (i:=4) ze4.nd rfl (Or.inr rfl)) (zK (zk (i:=5) ze4.nd rfl (Or.inr rfl)) zM))) (zE
   (zV (i:=6) ze4.nd rfl (Or.inl rfl) (dsc:=za0 zcz) (N:=["some","sides","middles","holders","number","middle","others"]) (own:=["k"]) (ix:=[4]) rfl rfl rfl ⟨rfl,by decide+kernel,by decide+kernel,by decide+kernel,by decide+kernel⟩ (zO rfl T.b_range (zh (zu zd7 rfl T.b_len zed (zh (qpv 0) za1)) zce)) (fun cl C fp s2 H2 xe=>⟨(zk (i:=0) (show List.Nodup (["k","number"]:List Str) from by decide+kernel) rfl (Or.inl rfl)),(zZ (zo zl3 (qpv 0) (qpv 1) (nomark _))),(qpv 0)⟩))
   (zA (zy PySem.F.plainAttrs_list PySem.F.slot_list_append PySem.F.type_list_append zbn (qpv 3) (zh (zw (dsc:=za0 zcz) (N:=["some","sides","middles","holders","number","middle","others"]) (own:=["k"]) (ix:=[1,5]) rfl rfl rfl ⟨rfl,by decide+kernel,by decide+kernel,by decide+kernel,by decide+kernel⟩ (zp (qpv 6)) (fun cl C fp s2 H2 xe=>⟨(zk (i:=0) (show List.Nodup (["k","sides","middle"]:List Str) from by decide+kernel) rfl (Or.inl rfl)),(zZ (zD (zg (zim T) (hr.mono (by decide)) rfl T.is_round.mg T.is_round.fn.kp T.is_round.bn .nil pass0 (zj (zd zat (qpv 1) (qpv 0) (fun _ _=>rfl)) za8 (qpv 2) za1)))),(qpv 0)⟩)) zda)))))
   (zc (zw (dsc:=za0 zcz) (N:=["some","sides","middles","holders","number","middle","others"]) (own:=["row"]) (ix:=[3]) rfl rfl rfl ⟨rfl,by decide+kernel,by decide+kernel,by decide+kernel,by decide+kernel⟩ (zp (qpv 3)) (fun cl C fp s2 H2 xe=>⟨(zk (i:=0) (show List.Nodup (["row","holders"]:List Str) from by decide+kernel) rfl (Or.inl rfl)),zC,(zg (zho T) (hr.mono (by decide)) rfl T.innermost.mg T.innermost.fn.kp T.innermost.bn .nil pass0 (zj (qpv 0) za1 (qpv 1) za1))⟩))))
  ,?_⟩
 clear zG zf zw zp qpv zk zC zg zh zv zV zj zd za zB zr yD zP zK zM zE zO zu zZ zo zA zy zD zc QE QT QW QA QS QSs QG QGs QI QO QIf
 dsimp! [L2.start]
 simp! [];refine zb3 ?_;simp! [zd1];have l10:∀r,r∈rs->r.length<=10:=fun r hr=>(h10 r hr).2;refine⟨⟨_,.of hl⟩,fun S hS=>?_⟩;refine zb0 (xs:=ys) (fun i us H'=>Same H H'/\H' S=some (.lst us)/\us.length=i/\LR (fun H p r=>p≠S/\SdH H p r) H' us (rs.take i)) ⟨za2 hS _,upd_same,rfl,by rw[List.take_zero];exact .nil⟩ (fun i us H' iv=>.of (iv.1 _ _ hl)) ?_ ?_
 ·rintro i us H2 v hi hv ⟨g2,hS2,lu,hus⟩;obtain⟨p,r,rfl,hr',hp⟩:=hr1.2 i v hv;simp! [];intro L hL;have g3:=za2 hL (HO.lst [V.ref p]);have hL3:upd H2 L (HO.lst [V.ref p]) L=some (.lst [V.ref p]):=upd_same;generalize upd H2 L (HO.lst [V.ref p])=H3 at*;refine⟨L,[V.ref p],[r.map toP],rfl,hL3,(by show 1<=20;decide),⟨rfl,fun j v z=>?_⟩,fun D zs H4 hD g4 hD4 l400 hst=>?_⟩
  ·cases j with
   |zero=>cases z;exact⟨p,r.map toP,rfl,rfl,rgH_of (hp.same (g2.trans g3)) (by have:=l10 r (List.mem_of_getElem? hr');omega)⟩
   |succ n=>cases z
  ·have g24:=g3.trans g4;have hS4:=g24 _ _ hS2;have nD:D≠S:=fun z=>by rw[z,g3 _ _ hS2] at hD;cases hD
   refine cw_put hi hS4 (small1000 (by omega)) ⟨zao (g2.trans g24) hS,upd_same,by rw[List.length_append,lu];rfl,?_⟩
   rw[List.take_add_one,hr'];refine(LR.snoc (R:=fun H p r=>p≠S/\SdH H p r) (hus.imp (R':=fun H p r=>p≠S/\SdH H p r) fun q r t=>⟨t.1,t.2.same g24⟩) (p:=D) (a:=r) ⟨nD,zs,hD4,l400,hst⟩).imp fun q r t=>⟨t.1,?_⟩;obtain⟨ne,ws,w1,w2,w3⟩:=t;exact⟨ws,zdq (u:=.lst []) ne w1,w2,w3.ts (zcg hS4)⟩
 rintro us H2 ⟨g2,hS2,lu,hus⟩;rw[List.take_of_length_le (Nat.le_of_eq hr1.1.symm)] at hus;refine zb3 ?_;simp! [zd1];refine⟨⟨_,.of (g2 _ _ hl)⟩,fun M hM=>?_⟩;refine zb0 (xs:=ys) (zhm MdH rs H2 M) (zdk hM) (fun i us H' iv=>.of (iv.1 _ _ (g2 _ _ hl))) ?_ ?_
 ·rintro i ms H3 v hi hv iv;obtain⟨g3,hM3,lm,hms⟩:=id iv;obtain⟨p,r,rfl,hr',zs,hp,hz⟩:=hr1.2 i v hv;have g03:=g2.trans g3;have two:=(h10 r (List.mem_of_getElem? hr')).1;have bd:=hbd r (List.mem_of_getElem? hr');have hp3:=g03 _ _ hp;obtain⟨p0,q0,e0,f0,hq0⟩:=hz.at (j:=0) (by rw[hz.1];omega)
  obtain⟨p1,q1,e1,f1,hq1⟩:=hz.at (j:=1) (by rw[hz.1];omega)
  rw[zkn (by omega)] at f0 f1
  cases f0
  cases f1;have a0:atI zs 0=some (V.ref p0):=zcq (j:=0) e0;have a1:atI zs 1=some (V.ref p1):=zcq (j:=1) e1;simp! [hp3,a0,a1];refine⟨p0,p1,_,_,_,_,_,_,rfl,(hq0.same g03).tb,(hq1.same g03).tb,by have:=hq0.2.pos;omega,by have:=hq1.2.pos;omega,fun m H4 g4 hm=>?_⟩
  exact zdh md_ts hM (by omega) iv hi hr' g4 ⟨hm,bd⟩
 rintro ms H3 ⟨g3,hM3,lm,hms⟩;rw[List.take_of_length_le (Nat.le_of_eq hr1.1.symm)] at hms;intro O hO;have g4:=za2 hO (HO.lst []);have hO4:upd H3 O (HO.lst []) O=some (.lst []):=upd_same;have g03:=g2.trans g3;have hus3:=hus.imp (R':=fun H p r=>p≠S/\SdH H p r) (H':=H3) fun q r t=>⟨t.1,t.2.same g3⟩;refine zcf ?_;simp! [iEnu];refine⟨⟨ms,g4 _ _ hM3⟩,fun K'=>?_⟩;have lr:=hr1.1;refine for_enuO (K:=K') (l:=M) (xs:=ms) (fun i σ H'=>Same H3 H'/\∃(os:List V)(o1 o2 o3:Option V),σ=[some (V.ref l),some (V.ref S),some (V.ref M),some (V.ref O),o1,o2,o3]/\H' O=some (.lst os)/\os.length=i/\∀v,v∈os->∃p,v=V.ref p/\p≠O/\H' p=some (.lst [])) ⟨g4,[],none,none,none,rfl,hO4,rfl,fun v hv=>(by cases hv)⟩ (fun i σ H' iv=>iv.1 _ _ hM3) ?_ ?_
 ·intro _ _;rintro i v Tn σ H5 hi ⟨g5,os,o1,o2,o3,rfl,hO5,lo,hos⟩ hTn;have hi':=(List.getElem?_eq_some_iff.mp hi).1;obtain⟨p,r,rfl,hr',hm⟩:=hms.2 i v hi;have g6:=za2 hTn (HO.tup [V.int (i:Int),V.ref p]);have t6:upd H5 Tn (HO.tup [V.int (i:Int),V.ref p]) Tn=some (HO.tup [V.int (i:Int),V.ref p]):=upd_same;generalize upd H5 Tn (HO.tup [V.int (i:Int),V.ref p])=H6 at*;have g36:=g5.trans g6;have hl6:=g36 _ _ (g03 _ _ hl);simp! [t6];refine zb3 ?_;simp! [zkd];refine⟨ys,.inl hl6,by omega,by omega,fun D hD=>?_⟩
  rw[show((ys.length:Int)).toNat=ys.length by omega]
  refine zgd (n:=ys.length) (fun j ks H'=>Same H6 H'/\H' D=some (.lst ks)/\ks.length<=j/\∀v,v∈ks->∃m:Nat,v=V.int (m:Int)/\m<ys.length/\m≠i) ⟨za2 hD _,upd_same,Nat.le_refl _,fun v hv=>(by cases hv)⟩ ?_ ?_
  ·rintro j ks H7 hj ⟨g7,hD7,lk,hks⟩;simp! [Int.zero_add];refine ite2 (fun c=>?_) (fun c=>?_)
   ·refine cw_put hj hD7 (small1000 (by omega)) ⟨zao g7 hD,upd_same,by rw[List.length_append,List.length_singleton];omega,fun v hv=>?_⟩
    rcases List.mem_append.mp hv with hv|hv
    ·exact hks v hv
    ·exact⟨j,List.mem_singleton.mp hv,hj,fun z=>by subst z;simp at c⟩
   ·exact cw_skip hj ⟨g7,hD7,by omega,hks⟩
  rintro ks H7 ⟨g7,hD7,lk,hks⟩;have g37:=g36.trans g7;have hO7:=g7 _ _ (g6 _ _ hO5);refine⟨zdp hO7,?_⟩;refine zb3 ?_;simp! [zd1];refine⟨⟨_,.of hD7⟩,fun F hF=>?_⟩;refine zb0 (xs:=ks) (fun j fs H'=>Same H7 H'/\H' F=some (.lst fs)/\fs=[]) ⟨za2 hF _,upd_same,rfl⟩ (fun j fs H' iv=>.of (iv.1 _ _ hD7)) ?_ ?_
  ·rintro j fs H8 v hj hv ⟨g8,hF8,rfl⟩;obtain⟨m,rfl,hm',nm⟩:=hks v (List.mem_of_getElem? hv);have g38:=g37.trans g8;obtain⟨q,b,eq,fb,_,zs,w1,w2,w3⟩:=hus3.at (j:=m) (by omega)
   have am:atI us (m:Int)=some (V.ref q):=zcq eq;have hS8:=g38 _ _ (g3 _ _ hS2);simp! [hS8,am];refine⟨q,p,zs,sd3 b,_,_,_,rfl,g38 _ _ w1,by omega,w3.ts (zae g38),md_ts _ _ _ _ (zae g38) hm,fun H9 g9=>⟨_,rfl,?_⟩⟩
   have z:=fr i m r b (fun z=>nm z.symm) hr' fb;rw[decide_eq_false (by omega)]
   exact iteF (cw_skip hj ⟨g8.trans g9,g9 _ _ hF8,rfl⟩)
  rintro fs H8 ⟨g8,hF8,rfl⟩;have g38:=g37.trans g8;have hO8:=g8 _ _ hO7;have nF:F≠O:=fun z=>by rw[z,hO7] at hF;cases hF
  refine⟨os,hO8,small1000 (by omega),zao g38 hO,by rw[List.length_append,lo];rfl,fun v hv=>?_⟩
  rcases List.mem_append.mp hv with hv|hv
  ·obtain⟨p',e1,e2,e3⟩:=hos v hv;exact⟨p',e1,e2,zdq (u:=.lst []) e2 (g8 _ _ (g7 _ _ (g6 _ _ e3)))⟩
  ·exact⟨F,List.mem_singleton.mp hv,nF,zdq (u:=.lst []) nF hF8⟩
 ·rintro σ H5 ⟨g5,os,o1,o2,o3,rfl,hO5,lo,hos⟩;simp! [];refine zb3 ?_;simp! [zd1];refine⟨⟨_,.of hO5⟩,fun D hD=>?_⟩;refine zb0 (xs:=os) (fun j fs H'=>Same H5 H'/\H' D=some (.lst fs)/\fs=List.replicate j V.non) ⟨za2 hD _,upd_same,rfl⟩ (fun j fs H' iv=>.of (iv.1 _ _ hO5)) ?_ ?_
  ·rintro j fs H6 v hj hv ⟨g6,hD6,ef⟩;obtain⟨p,rfl,ne,hp⟩:=hos v (List.mem_of_getElem? hv);simp! [];refine⟨p,O,rfl,g6 _ _ hp,?_⟩;refine cw_put hj hD6 (small1000 (by rw[ef,List.length_replicate];omega)) ⟨zao g6 hD,upd_same,?_⟩
   rw[ef,List.replicate_succ']
  ·rintro fs H6 ⟨g6,hD6,ef⟩;have g35:=g5.trans g6;refine k D H6 ((g03.trans g5).free hD) (g03.trans g35) ?_;rw[hD6,ef,lo,lm]
theorem ze2(T:Txt K mg ad fd):FnOk P w K mg base CX0 1 (ad 25) (fd 25) ["_law_one","_law_other"] zdx:=by
 refine T.law_divisor.fn.ok ze0 (fun vs H Q E h=>?_) (fun cdv A outer s H vs Q E hr h=>?_)
 ·obtain⟨a,b,rfl,_⟩:=h;rfl
 obtain⟨a,b,rfl,q⟩:=h;have zE:=@pss2;have zS:=@zh1;have zo:=@zbp;have qpv:=@pv;have za:=@zbg;have ze:=@zac;have yE:=@ps_par;have zj:=@pa2;have zb:=@zd9;have zc:=@zaq;have zu:=@zch;have zh:=@pa1;generalize @L2.PE=QE,@L2.PT=QT,@L2.PW=QW,@L2.PA=QA,@L2.PS=QS,@L2.PSs=QSs,@L2.PG=QG,@L2.PGs=QGs,@L2.PI=QI,@L2.PO=QO,@L2.PIf=QIf at zE zS zo qpv za ze yE zj zb zc zu zh⊢;refine⟨_,
  (zE
   (zS PassesOwn.never (zo zl3 (qpv 1) za (nomark _)) (ze (yE (i:=0) (j:=1) rfl ze0.nd rfl rfl (by decide) rfl rfl (zj (qpv 1) za1 (zb zij (qpv 0) (qpv 1)) zad) rfl)))
   (zc (zu zgr rfl T.b_abs zo2 (zh (qpv 0) za1))))
  ,?_⟩
 clear zE zS zo qpv za ze yE zj zb zc zu zh QE QT QW QA QS QSs QG QGs QI QO QIf
 dsimp! [L2.start]
 simp! [];refine zjo (iv_ldiv a b H) (fun σ _=>(getI σ 1).natAbs) ⟨rfl,_,_,rfl,rfl⟩ ?_
  (fun σ H Q Q' m h=>by obtain⟨v,e,s,k,e2,q⟩:=h;exact⟨v,e,s,k,e2,m _ _ q⟩)
 rintro σ H' ⟨rfl,x,y,rfl,e⟩;simp! [];refine ite2 (fun c=>?_) (fun c=>?_)
 ·have hy:y≠0:=by simpa using c
  exact⟨hy,⟨rfl,_,_,rfl,(G_fmod x y).trans e⟩,zke hy⟩
 ·have hy:y=0:=by simpa using c
  subst hy;rw[G_end,e];exact q
theorem znl{xs:List Int}{j:Int}(h0:0<=j)(h1:j<xs.length):∃x:Int,atI (xs.map V.int) j=some (.int x):=by
 have hk:j.toNat<xs.length:=by omega
 refine⟨xs[j.toNat],?_⟩;have z:atI (xs.map V.int) ((j.toNat:Nat):Int)=some (.int xs[j.toNat]):=zcq (by rw[List.getElem?_map,List.getElem?_eq_getElem hk];rfl)
 rw[show((j.toNat:Nat):Int)=j by omega] at z
 exact z
def sp_cellN(K:PySem.W.Frag):Sp:=fun vs H Q _=>∃(a:Addr)(ns:List Int)(k:Int),vs=[.ref a,.int k]/\SqL K H a (ns.map V.int)/\0<=k/\k<=1000/\∀v:Int,Q (.int v) H
theorem zb9(T:Txt K mg ad fd):FnOk P w K mg base CX0 1 (ad 24) (fd 24) ["_law_script","_law_k"] (sp_cellN K):=by
 refine T.law_cell.fn.ok zea (fun vs H Q E h=>?_) (fun cdv A outer s H vs Q E hr h=>?_)
 ·obtain⟨a,ns,k,rfl,_⟩:=h;rfl
 obtain⟨a,ns,k,rfl,hS,k0,k1,q⟩:=h;have zL:=@pss4;have zm:=@ze6;have zo:=@zbp;have qpv:=@pv;have zu:=@zch;have zh:=@pa1;have ze:=@zac;have zc:=@zaq;have zd:=@zdy;have zn:=@zbq;have zf:=@zbu;have zb:=@zd9;have za:=@zbg;generalize @L2.PE=QE,@L2.PT=QT,@L2.PW=QW,@L2.PA=QA,@L2.PS=QS,@L2.PSs=QSs,@L2.PG=QG,@L2.PGs=QGs,@L2.PI=QI,@L2.PO=QO,@L2.PIf=QIf at zL zm zo qpv zu zh ze zc zd zn zf zb za⊢;refine⟨_,
  (zL
   (zm (zo zg2 (qpv 1) (zu zcx rfl T.b_len zed (zh (qpv 0) za1)) (nomark _)) (ze (zc (zd zig (qpv 0) (qpv 1) (fun _ _=>rfl)))) zn)
   (zf (i:=2) zea.nd rfl (Or.inl rfl) (zb zbf (zb zfl (qpv 1) za) za))
   (zm (zo op_gt (zu zcx rfl T.b_len zed (zh (qpv 0) za1)) za (nomark _)) (ze (zf (i:=2) zea.nd rfl (Or.inl rfl) (zb zc9 (zb zbf (zb zfl (zd zig (qpv 0) (zb zij (zb zfl (qpv 1) za) (zu zcx rfl T.b_len zed (zh (qpv 0) za1))) (fun _ _=>rfl)) za) (zb zfl (qpv 1) za)) za))) zn)
   (zc (zb zc9 (zb zaf (qpv 2) (qpv 2)) za)))
  ,?_⟩
 clear zL zm zo qpv zu zh ze zc zd zn zf zb za QE QT QW QA QS QSs QG QGs QI QO QIf
 dsimp! [L2.start]
 simp only[tSeq,zm7,tRet,tRetN,tIfS,tAsg,gName,znd,tVar,tC,tOp,tUn,rI,rI0,rU,rEq,rNe,zm2,tB,tNot,tAnd,tOr,zmy,tOrV,zn6,tIf,tCB,zng,tNil,zc7,tTup,tLst,gTup,gCons,gNil,L2.start,rIsi,rIxT,rIxL,cx_K,tyN_non,tyN_bl,tyN_int,tyN_str,isi_ii,isi_ib,znj,zlq,zn2,zlx,zl4,zlj,zml,zne,znz,zlz,zll,scal_ii,scal_bb,sz0,sz1,sz2,sz3,sz4,List.map_cons,List.map_nil,List.length_cons,List.length_nil,List.replicate,List.cons_append,List.nil_append,List.append_nil,List.getElem?_cons_zero,List.getElem?_cons_succ,List.set_cons_zero,List.set_cons_succ,Option.some.injEq,V.int.injEq,V.bl.injEq,V.ref.injEq,V.ty.injEq,List.cons.injEq,and_true,true_and,exists_eq_left,exists_eq_left',exists_and_left,exists_and_right,exists_eq,exists_eq',and_assoc,Nat.reduceAdd,Nat.reduceSub,Bool.not_true,Bool.not_false,Bool.false_eq_true,if_true,if_false,reduceIte,Nat.zero_add,decide_true,decide_false];have e32:(2:Nat)^32=4294967296:=rfl;refine⟨_,.inl hS,ite2 (fun c=>?_) (fun c=>⟨.inr ⟨by decide,by decide⟩,_,.inl hS,ite2 (fun c2=>?_) (fun c2=>?_)⟩)⟩
 ·have c:=of_decide_eq_true c;rw[List.length_map] at c;obtain⟨x,ax⟩:=znl (xs:=ns) k0 c;exact⟨_,hS,_,ax,q x⟩
 ·have c2:=of_decide_eq_true c2;have l0:0<(ns.map V.int).length:=by omega
  have f0:=Int.fmod_nonneg_of_pos (k*7) (show(0:Int)<((ns.map V.int).length:Int) by omega)
  have f1:=Int.fmod_lt_of_pos (k*7) (show(0:Int)<((ns.map V.int).length:Int) by omega)
  refine⟨.inr ⟨by decide,by decide⟩,_,.inl hS,by omega,_,hS,?_⟩
  generalize (k*7).fmod ((ns.map V.int).length:Int)=m at*;rw[List.length_map] at f1;obtain⟨x,ax⟩:=znl (xs:=ns) f0 f1;refine⟨_,ax,x,rfl,.inr ⟨by decide,by decide⟩,.inr ⟨by decide,by decide⟩,by decide,?_,by decide,q _⟩
  have v0:=Int.emod_nonneg (x*48271+k*7919) (show(2147483647:Int)≠0 by decide)
  have v1:=Int.emod_lt_of_pos (x*48271+k*7919) (show(0:Int)<2147483647 by decide)
  generalize (x*48271+k*7919)%2147483647=v at*;exact cbig (m:=32) (n:=32) (by omega) (by omega)
 ·exact⟨cbig (m:=32) (n:=32) (by omega) (by omega),by decide,q _⟩
def ptQ(x y w:Int):Q3:=⟨x.fdiv (G (G x y) w),y.fdiv (G (G x y) w),w.fdiv (G (G x y) w)⟩
def sp_pt:Sp:=fun vs H Q _=>∃x y w:Int,vs=[.int x,.int y,.int w]/\Bd3 60 x y w/\0<w/\∀p H',Same H H'->QH H' p (ptQ x y w)->Q (.ref p) H'
theorem znw{x y w:Int}(b:Bd3 60 x y w)(hw:0<w):PQ 60 (ptQ x y w):=g3_pt hw b.1 b.2.1 b.2.2
theorem zdi(T:Txt K mg ad fd):FnOk P w K mg base CX0 2 (ad 26) (fd 26) ["_law_east","_law_north","_law_share"] sp_pt:=by
 refine T.law_point.fn.ok zf4 (fun vs H Q E h=>?_) (fun cdv A outer s H vs Q E hr h=>?_)
 ·obtain⟨x,y,w,rfl,_⟩:=h;rfl
 obtain⟨x,y,w,rfl,b,hw,k⟩:=h;have zE:=@pss2;have zf:=@zbu;have zg:=@zaz;have zj:=@pa2;have qpv:=@pv;have zc:=@zaq;have zq:=@ze1;have zt:=@pa3;have zb:=@zd9;generalize @L2.PE=QE,@L2.PT=QT,@L2.PW=QW,@L2.PA=QA,@L2.PS=QS,@L2.PSs=QSs,@L2.PG=QG,@L2.PGs=QGs,@L2.PI=QI,@L2.PO=QO,@L2.PIf=QIf at zE zf zg zj qpv zc zq zt zb⊢;refine⟨_,
  (zE
   (zf (i:=3) zf4.nd rfl (Or.inl rfl) (zg (ze2 T) (hr.mono (by decide)) rfl T.law_divisor.mg T.law_divisor.fn.kp T.law_divisor.bn .nil pass0 (zj (zg (ze2 T) (hr.mono (by decide)) rfl T.law_divisor.mg T.law_divisor.fn.kp T.law_divisor.bn .nil pass0 (zj (qpv 0) za1 (qpv 1) za1)) zce (qpv 2) za1)))
   (zc (zq (zt (zb zci (qpv 0) (qpv 3)) zad (zb zci (qpv 1) (qpv 3)) zad (zb zci (qpv 2) (qpv 3)) zad))))
  ,?_⟩
 clear zE zf zg zj qpv zc zq zt zb QE QT QW QA QS QSs QG QGs QI QO QIf
 dsimp! [L2.start]
 simp! [zdx];have lt:=zbm (g3_lt (x:=x) (y:=y) hw b.2.2) (show 60<=8000 by decide)
 exact⟨cdivb (g3_ne hw) lt,cdivb (g3_ne hw) lt,cdivb (g3_ne hw) lt,fun p hp=>k p _ (za2 hp _) ⟨upd_same,Pt.mono (znw b hw) (by decide)⟩⟩
structure Fr where
 (p q r s t u w:Int)
def sm(x:Int):Prop:= -100<=x/\x<=100
def bg(x:Int):Prop:= -2000000<=x/\x<=2000000
def FrB(f:Fr):Prop:=sm f.p/\sm f.q/\sm f.r/\sm f.s/\bg f.t/\bg f.u/\1<=f.w/\f.w<=2000000/\f.q*f.r<f.p*f.s
def FmH(H:Hp)(l:Addr)(f:Fr):Prop:=∃xs,H l=some (.lst xs)/\atI xs 0=some (.int f.p)/\atI xs 1=some (.int f.q)/\atI xs 2=some (.int f.r)/\atI xs 3=some (.int f.s)/\atI xs 4=some (.int f.t)/\atI xs 5=some (.int f.u)/\atI xs 6=some (.int f.w)/\FrB f
theorem FmH.same{H H':Hp}{l:Addr}{f:Fr}(h:FmH H l f)(g:Same H H'):FmH H' l f:=by
 obtain⟨xs,h1,h2⟩:=h;exact⟨xs,g _ _ h1,h2⟩
theorem fr_mul{q r:Int}(q0: -3<=q)(q1:q<=3)(r0: -3<=r)(r1:r<=3): -9<=q*r/\q*r<=9:=by
 rcases(by omega:q= -3∨q= -2∨q= -1∨q=0∨q=1∨q=2∨q=3) with e|e|e|e|e|e|e<;>subst e<;>omega
theorem fr_div{m p:Int}(h0: -9<=m)(h1:m<=9)(p1:1<=p)(p4:p<=4): -9<=m.fdiv p/\m.fdiv p<=9:=by
 rw[Int.fdiv_eq_ediv_of_nonneg _ (by omega)]
 rcases(by omega:p=1∨p=2∨p=3∨p=4) with e|e|e|e<;>subst e<;>omega
theorem fr_det{m p c:Int}(p1:1<=p)(c0:0<=c):m<p*(m.fdiv p+1+c):=by
 rw[Int.fdiv_eq_ediv_of_nonneg _ (by omega)]
 have h1:=Int.emod_lt_of_pos m (show 0<p by omega)
 have h2:=Int.mul_ediv_add_emod m p;have h3:0<=p*c:=Int.mul_nonneg (by omega) c0
 have h4:p*(m/p+1+c)=p*(m/p)+p+p*c:=by grind
 omega
def sp_frame(K:PySem.W.Frag):Sp:=fun vs H Q _=>∃(a:Addr)(ns:List Int),vs=[.ref a]/\SqL K H a (ns.map V.int)/\∀D f H',H D=none->Same H H'->FmH H' D f->Q (.ref D) H'
theorem zi6(T:Txt K mg ad fd):FnOk P w K mg base CX0 2 (ad 27) (fd 27) ["_law_script"] (sp_frame K):=by
 refine T.law_frame.fn.ok zb1 (fun vs H Q E h=>?_) (fun cdv A outer s H vs Q E hr h=>?_)
 ·obtain⟨a,ns,rfl,_⟩:=h;rfl
 obtain⟨a,ns,rfl,hS,k⟩:=h;have yF:=@pss8;have zf:=@zbu;have zg:=@zaz;have zj:=@pa2;have qpv:=@pv;have za:=@zbg;have zb:=@zd9;have zm:=@ze6;have zo:=@zbp;have ze:=@zac;have zn:=@zbq;have zc:=@zaq;have zv:=@zes;have yG:=@pa7;generalize @L2.PE=QE,@L2.PT=QT,@L2.PW=QW,@L2.PA=QA,@L2.PS=QS,@L2.PSs=QSs,@L2.PG=QG,@L2.PGs=QGs,@L2.PI=QI,@L2.PO=QO,@L2.PIf=QIf at yF zf zg zj qpv za zb zm zo ze zn zc zv yG⊢;refine⟨_,
  (yF
   (zf (i:=1) zb1.nd rfl (Or.inl rfl) (zg (zb9 T) (hr.mono (by decide)) rfl T.law_cell.mg T.law_cell.fn.kp T.law_cell.bn .nil pass0 (zj (qpv 0) za1 za za6)))
   (zf (i:=2) zb1.nd rfl (Or.inl rfl) (zb zbf za (zb zc9 (qpv 1) za)))
   (zf (i:=3) zb1.nd rfl (Or.inl rfl) (zb zfa (zb zc9 (zb zfm (qpv 1) za) za) za))
   (zf (i:=4) zb1.nd rfl (Or.inl rfl) (zb zfa (zb zc9 (zb zfm (qpv 1) za) za) za))
   (zf (i:=5) zb1.nd rfl (Or.inl rfl) (zg (zb9 T) (hr.mono (by decide)) rfl T.law_cell.mg T.law_cell.fn.kp T.law_cell.bn .nil pass0 (zj (qpv 0) za1 za za6)))
   (zf (i:=6) zb1.nd rfl (Or.inl rfl) (zb zbf za (zb zc9 (zg (zb9 T) (hr.mono (by decide)) rfl T.law_cell.mg T.law_cell.fn.kp T.law_cell.bn .nil pass0 (zj (qpv 0) za1 za za6)) za)))
   (zm (zo znt (zb zc9 (zb zfm (zg (zb9 T) (hr.mono (by decide)) rfl T.law_cell.mg T.law_cell.fn.kp T.law_cell.bn .nil pass0 (zj (qpv 0) za1 za za6)) za) za) za (nomark _)) (ze (zf (i:=6) zb1.nd rfl (Or.inl rfl) (zb zbf za (zb zc9 (zg (zb9 T) (hr.mono (by decide)) rfl T.law_cell.mg T.law_cell.fn.kp T.law_cell.bn .nil pass0 (zj (qpv 0) za1 za za6)) za)))) zn)
   (zc (zv (yG (qpv 2) za1 (qpv 3) za1 (qpv 4) za1 (zb zbf (zb zbf (zb zci (zb zaf (qpv 3) (qpv 4)) (qpv 2)) za) (zb zc9 (zb zfm (qpv 1) za) za)) zad (zb zfa (zb zc9 (qpv 5) za) za) zad (zb zfa (zb zc9 (zb zfm (qpv 5) za) za) za) zad (qpv 6) za1))))
  ,?_⟩
 clear yF zf zg zj qpv za zb zm zo ze zn zc zv yG QE QT QW QA QS QSs QG QGs QI QO QIf
 dsimp! [L2.start]
 simp! [];have e8:(2:Nat)^8=256:=rfl;refine⟨a,ns,2,rfl,hS,by decide,by decide,fun v=>?_⟩
 have p1:1<=1+v%4/\1+v%4<=4:=by omega
 have q1: -3<=v/4%7-3/\v/4%7-3<=3:=by omega
 have r1: -3<=v/28%7-3/\v/28%7-3<=3:=by omega
 have c1:CBig (v/4%7-3) (v/28%7-3):=cbig (m:=8) (n:=8) (by omega) (by omega)
 have c2:CDivB ((v/4%7-3)*(v/28%7-3)) (1+v%4):=cdivb (by omega) (n:=8) (by omega)
 have s1:=fr_mul q1.1 q1.2 r1.1 r1.2;have s2:=fr_div s1.1 s1.2 p1.1 p1.2;have fin:∀(v2 w:Int)(D:Addr),H D=none->1<=w->w<=2000000->Q (.ref D) (upd H D (HO.lst [V.int (1+v%4),V.int (v/4%7-3),V.int (v/28%7-3),V.int (((v/4%7-3)*(v/28%7-3)).fdiv (1+v%4)+1+v/196%3),V.int (v2%2000003-1000001),V.int (v2/7%31-15),V.int w])):=fun v2 w D hD w1 w2=>
  k D ⟨_,_,_,_,_,_,w⟩ _ hD (za2 hD _) ⟨_,upd_same,rfl,rfl,rfl,rfl,rfl,rfl,rfl,⟨by show _<=1+v%4;omega,by show 1+v%4<=_;omega⟩,⟨by show _<=v/4%7-3;omega,by show v/4%7-3<=_;omega⟩,⟨by show _<=v/28%7-3;omega,by show v/28%7-3<=_;omega⟩,⟨by show _<=((v/4%7-3)*(v/28%7-3)).fdiv (1+v%4)+1+v/196%3;omega,by show((v/4%7-3)*(v/28%7-3)).fdiv (1+v%4)+1+v/196%3<=_;omega⟩,⟨by show _<=v2%2000003-1000001;omega,by show v2%2000003-1000001<=_;omega⟩,⟨by show _<=v2/7%31-15;omega,by show v2/7%31-15<=_;omega⟩,w1,w2,fr_det p1.1 (by omega)⟩
 refine⟨v,rfl,by decide,v,rfl,⟨by decide,by decide⟩,by decide,v,rfl,⟨by decide,by decide⟩,by decide,a,ns,3,rfl,hS,by decide,by decide,fun v2=>?_⟩
 refine⟨a,ns,4,rfl,hS,by decide,by decide,fun v3=>⟨v3,rfl,by decide,a,ns,4,rfl,hS,by decide,by decide,fun v4=>⟨v4,rfl,⟨by decide,by decide⟩,by decide,ite2 (fun _=>?_) (fun _=>?_)⟩⟩⟩
 ·exact⟨a,ns,4,rfl,hS,by decide,by decide,fun v5=>⟨v5,rfl,by decide,c1,c2,v,rfl,⟨by decide,by decide⟩,by decide,v2,rfl,by decide,v2,rfl,⟨by decide,by decide⟩,by decide,by decide,fun D hD=>fin v2 _ D hD (by omega) (by omega)⟩⟩
 ·exact⟨c1,c2,v,rfl,⟨by decide,by decide⟩,by decide,v2,rfl,by decide,v2,rfl,⟨by decide,by decide⟩,by decide,by decide,fun D hD=>fin v2 _ D hD (by omega) (by omega)⟩
def mv(f:Fr)(a:Int×Int):Int×Int:=(f.p*a.1+f.q*a.2+f.t,f.r*a.1+f.s*a.2+f.u)
def Bx(a:Int×Int):Prop:= -300<=a.1/\a.1<=300/\0<=a.2/\a.2<=20
def sp_moved:Sp:=fun vs H Q _=>∃(a l:Addr)(x:Int×Int)(f:Fr),vs=[.ref a,.ref l]/\P2H H a x/\FmH H l f/\Bx x/\∀p H',Same H H'->P2H H' p (mv f x)->Q (.ref p) H'
theorem zht(T:Txt K mg ad fd):FnOk P w K mg base CX0 1 (ad 28) (fd 28) ["_law_place","_law_frame_here"] sp_moved:=by
 refine T.law_moved.fn.ok zfb (fun vs H Q E h=>?_) (fun cdv A outer s H vs Q E hr h=>?_)
 ·obtain⟨a,l,x,f,rfl,_⟩:=h;rfl
 obtain⟨a,l,x,f,rfl,hx,⟨xs,hl,a0,a1,a2,a3,a4,a5,a6,fb⟩,bx,k⟩:=h;unfold P2H at hx;have zE:=@pss2;have zf:=@zbu;have zb:=@zd9;have zd:=@zdy;have qpv:=@pv;have za:=@zbg;have zc:=@zaq;have zq:=@ze1;have zj:=@pa2;generalize @L2.PE=QE,@L2.PT=QT,@L2.PW=QW,@L2.PA=QA,@L2.PS=QS,@L2.PSs=QSs,@L2.PG=QG,@L2.PGs=QGs,@L2.PI=QI,@L2.PO=QO,@L2.PIf=QIf at zE zf zb zd qpv za zc zq zj⊢;refine⟨_,
  (zE
   (zf (i:=2) zfb.nd rfl (Or.inl rfl) (zb zbf (zb zbf (zb zaf (zd zat (qpv 1) za (fun _ _=>rfl)) (zd za5 (qpv 0) za (fun _ _=>rfl))) (zb zaf (zd zat (qpv 1) za (fun _ _=>rfl)) (zd za5 (qpv 0) za (fun _ _=>rfl)))) (zd zat (qpv 1) za (fun _ _=>rfl))))
   (zc (zq (zj (qpv 2) za1 (zb zbf (zb zbf (zb zaf (zd zat (qpv 1) za (fun _ _=>rfl)) (zd za5 (qpv 0) za (fun _ _=>rfl))) (zb zaf (zd zat (qpv 1) za (fun _ _=>rfl)) (zd za5 (qpv 0) za (fun _ _=>rfl)))) (zd zat (qpv 1) za (fun _ _=>rfl))) zad))))
  ,?_⟩
 clear zE zf zb zd qpv za zc zq zj QE QT QW QA QS QSs QG QGs QI QO QIf
 dsimp! [L2.start]
 simp! [hx,hl,a0,a1,a2,a3,a4,a5];obtain⟨⟨f1,f2⟩,⟨f3,f4⟩,⟨f5,f6⟩,⟨f7,f8⟩,_⟩:=fb;obtain⟨x1,x2,x3,x4⟩:=bx;have e8:(2:Nat)^10=1024:=rfl;exact⟨cbig (m:=10) (n:=10) (by omega) (by omega),cbig (m:=10) (n:=10) (by omega) (by omega),cbig (m:=10) (n:=10) (by omega) (by omega),cbig (m:=10) (n:=10) (by omega) (by omega),fun p hp=>k p _ (za2 hp _) upd_same⟩
theorem zjn{a b:Int}(h:sm a)(b0: -300<=b)(b1:b<=300):(a*b).natAbs<=30000:=by
 obtain⟨h0,h1⟩:=h;rw[Int.natAbs_mul];exact Nat.mul_le_mul (show a.natAbs<=100 by omega) (show b.natAbs<=300 by omega)
theorem mv_bd{f:Fr}{x:Int×Int}(fb:FrB f)(bx:Bx x):Bd3 60 (mv f x).1 (mv f x).2 f.w:=by
 obtain⟨f1,f2,f3,f4,⟨t1,t2⟩,⟨u1,u2⟩,w1,w2,_⟩:=fb;obtain⟨x1,x2,x3,x4⟩:=bx;have m1:=zjn f1 x1 x2;have m2:=zjn f2 (show-300<=x.2 by omega) (by omega)
 have m3:=zjn f3 x1 x2;have m4:=zjn f4 (show-300<=x.2 by omega) (by omega)
 have e:(2:Nat)^60=1152921504606846976:=rfl;refine⟨?_,?_,by omega⟩
 ·show(f.p*x.1+f.q*x.2+f.t).natAbs<_
  omega
 ·show(f.r*x.1+f.s*x.2+f.u).natAbs<_
  omega
def RgP(H:Hp)(p:Addr)(r:List (Int×Int)):Prop:=∃zs,H p=some (.lst zs)/\LR P2H H zs r
theorem RgP.same{H H':Hp}{p:Addr}{r:List (Int×Int)}(h:RgP H p r)(g:Same H H'):RgP H' p r:=by
 obtain⟨zs,h1,h2⟩:=h;exact⟨zs,g _ _ h1,h2.ts zdz (zae g)⟩
theorem RgP.put{H:Hp}{p R:Addr}{r:List (Int×Int)}{ys:List V}{o:HO}(h:RgP H p r)(ne:p≠R)(hR:H R=some (.lst ys)):RgP (upd H R o) p r:=by
 obtain⟨zs,h1,h2⟩:=h;exact⟨zs,by rw[za7 ne];exact h1,h2.ts zdz (zcg hR)⟩
def RgPN(R:Addr)(H:Hp)(p:Addr)(r:List (Int×Int)):Prop:=p≠R/\RgP H p r
theorem zio{R:Addr}{H:Hp}{ys us:List V}{rs:List (List (Int×Int))}(h:LR (RgPN R) H ys rs)(hR:H R=some (.lst us))(o:HO):LR (RgPN R) (upd H R o) ys rs:=h.imp fun p r t=>⟨t.1,t.2.put t.1 hR⟩
theorem zfh{R:Addr}{H H':Hp}{ys:List V}{rs:List (List (Int×Int))}(h:LR (RgPN R) H ys rs)(g:Same H H'):LR (RgPN R) H' ys rs:=h.imp fun p r t=>⟨t.1,t.2.same g⟩
theorem LR.two{α:Type}{R:Hp->Addr->α->Prop}{H:Hp}{ys:List V}{a b:α}(h:LR R H ys [a,b]):∃p q,ys=[.ref p,.ref q]/\R H p a/\R H q b:=by
 obtain⟨zs,p,q,e,h1,h2,h3⟩:=LR.split2 (as:=[]) h;have:zs=[]:=List.eq_nil_of_length_eq_zero h3.1;subst this;exact⟨p,q,e,h1,h2⟩
def spR(h:Int)(e:Int×Int):List (Int×Int):=[(0,0),(e.2,h),(0,2*h),(e.1,h)]
structure Spn(x:Int)(ss:List (Int×Int)):Prop where
 each:∀e,e∈ss-> -40<=e.1/\e.1<e.2/\e.2<=x/\e.1≠0/\e.2≠0
 row:ss.Pairwise fun a b=>a.2<b.1
theorem Spn.snoc{x y:Int}{ss:List (Int×Int)}{a b:Int}(h:Spn x ss)(h0: -40<=x)(h1:x<a)(h2:a<b)(h3:b<=y)(a0:a≠0)(b0:b≠0):Spn y (ss++[(a,b)]):=by
 refine⟨fun e he=>?_,List.pairwise_append.mpr ⟨h.row,List.pairwise_singleton _ _,fun e he f hf=>?_⟩⟩
 ·rcases List.mem_append.mp he with he|he
  ·have:=h.each e he;refine⟨this.1,this.2.1,by omega,this.2.2.2⟩
  ·rw[List.mem_singleton.mp he];exact⟨by show-40<=a;omega,h2,h3,a0,b0⟩
 ·rw[List.mem_singleton.mp hf];have:=h.each e he;show e.2<a;omega
structure Ends(x y:Int)(xs:List Int)(j:Nat):Prop where
 len:xs.length=j
 le:x<=y
 top:y<=x+8*j
 each:∀z,z∈xs->x<z/\z<=y/\z≠0
 row:xs.Pairwise (·<·)
theorem Ends.snoc{x y z:Int}{xs:List Int}{j:Nat}(h:Ends x y xs j)(h1:y<z)(h2:z<=y+8)(z0:z≠0):Ends x z (xs++[z]) (j+1):=by
 obtain⟨a,b,c,d,e⟩:=h;refine⟨by rw[List.length_append,a];rfl,by omega,by omega,fun w hw=>?_,List.pairwise_append.mpr ⟨e,List.pairwise_singleton _ _,fun w hw v hv=>?_⟩⟩
 ·rcases List.mem_append.mp hw with hw|hw
  ·have:=d w hw;exact⟨this.1,by omega,this.2.2⟩
  ·rw[List.mem_singleton.mp hw];exact⟨by omega,by omega,z0⟩
 ·rw[List.mem_singleton.mp hv];have:=d w hw;omega
def sp_spin(K:PySem.W.Frag):Sp:=fun vs H Q _=>∃(a:Addr)(ns:List Int),vs=[.ref a]/\SqL K H a (ns.map V.int)/\∀R ys h ss H',H R=none->Same H H'->H' R=some (.lst ys)->LR RgP H' ys (ss.map (spR h))->1<=h->h<=9->Spn 200 ss->1<=ss.length->ss.length<=9->Q (.ref R) H'
theorem zfv(T:Txt K mg ad fd):FnOk P w K mg base CX0 2 (ad 30) (fd 30) ["_law_script"] (sp_spin K):=by
 refine T.law_spindles.fn.ok zaj (fun vs H Q E h=>?_) (fun cdv A outer s H vs Q E hr h=>?_)
 ·obtain⟨a,ns,rfl,_⟩:=h;rfl
 obtain⟨a,ns,rfl,hS,k⟩:=h;have zG:=@pss5;have zf:=@zbu;have zb:=@zd9;have za:=@zbg;have zg:=@zaz;have zj:=@pa2;have qpv:=@pv;have zv:=@zes;have zB:=@zd3;have zr:=@zde;have zO:=@zef;have zh:=@pa1;have zk:=@zbz;have zx:=@pss3;have yH:=@zlg;have zF:=@zf2;have zA:=@zdj;have zy:=@zhj;have zq:=@ze1;have yg:=@pa4;have zd:=@zdy;have zc:=@zaq;generalize @L2.PE=QE,@L2.PT=QT,@L2.PW=QW,@L2.PA=QA,@L2.PS=QS,@L2.PSs=QSs,@L2.PG=QG,@L2.PGs=QGs,@L2.PI=QI,@L2.PO=QO,@L2.PIf=QIf at zG zf zb za zg zj qpv zv zB zr zO zh zk zx yH zF zA zy zq yg zd zc⊢;refine⟨_,
  (zG
   (zf (i:=1) zaj.nd rfl (Or.inl rfl) (zb zbf za (zb zc9 (zg (zb9 T) (hr.mono (by decide)) rfl T.law_cell.mg T.law_cell.fn.kp T.law_cell.bn .nil pass0 (zj (qpv 0) za1 za za6)) za)))
   (zf (i:=2) zaj.nd rfl (Or.inl rfl) (zb zfa za (zb zc9 (zg (zb9 T) (hr.mono (by decide)) rfl T.law_cell.mg T.law_cell.fn.kp T.law_cell.bn .nil pass0 (zj (qpv 0) za1 za za6)) za)))
   (zf (i:=3) zaj.nd rfl (Or.inl rfl) (zv zB))
   (zr PassesOwn.never rfl (zO rfl T.b_range (zh (zb zbf za (zb zc9 (zg (zb9 T) (hr.mono (by decide)) rfl T.law_cell.mg T.law_cell.fn.kp T.law_cell.bn .nil pass0 (zj (qpv 0) za1 za za6)) za)) zad)) (zk (i:=4) zaj.nd rfl (Or.inl rfl)) (zx
   (zf (i:=5) zaj.nd rfl (Or.inl rfl) (zv zB))
   (zr PassesOwn.never rfl (zO rfl T.b_range (zh za za6)) (zk (i:=6) zaj.nd rfl (Or.inl rfl)) (zx
   (zf (i:=2) zaj.nd rfl (Or.inl rfl) (zb zbf (zb zbf (qpv 2) za) (zb zc9 (zg (zb9 T) (hr.mono (by decide)) rfl T.law_cell.mg T.law_cell.fn.kp T.law_cell.bn .nil pass0 (zj (qpv 0) za1 (zb zbf (zb zbf za (zb zfl za (qpv 4))) (qpv 6)) zad)) za)))
   (zf (i:=2) zaj.nd rfl (Or.inl rfl) (zb zbf (qpv 2) (yH zna rfl T.b_int bt_int (zh (zF znt (qpv 2) za (nomark _)) zkr))))
   (zA (zy PySem.F.plainAttrs_list PySem.F.slot_list_append PySem.F.type_list_append zbn (qpv 5) (zh (zq (zj (qpv 2) za1 (qpv 1) za1)) zbo)))))
   (zA (zy PySem.F.plainAttrs_list PySem.F.slot_list_append PySem.F.type_list_append zbn (qpv 3) (zh (zv (yg (zq (zj za za6 za za6)) zbo (zd zat (qpv 5) za (fun _ _=>rfl)) za8 (zq (zj za za6 (zb zfl za (qpv 1)) zad)) zbo (zd zat (qpv 5) za (fun _ _=>rfl)) za8)) zib)))))
   (zc (qpv 3)))
  ,?_⟩
 clear zG zf zb za zg zj qpv zv zB zr zO zh zk zx yH zF zA zy zq yg zd zc QE QT QW QA QS QSs QG QGs QI QO QIf
 dsimp! [L2.start]
 simp! [];refine⟨a,ns,1,rfl,hS,by decide,by decide,fun v1=>⟨v1,rfl,by decide,a,ns,5,rfl,hS,by decide,by decide,fun v5=>⟨v5,rfl,by decide,?_⟩⟩⟩
 intro R hR;have gR:=za2 hR (HO.lst []);have hR1:upd H R (HO.lst []) R=some (.lst []):=upd_same;generalize upd H R (HO.lst [])=H1 at*;refine zcf ?_;simp! [zkd];refine⟨a,ns,0,rfl,gR.seq hS,by decide,by decide,fun v0=>⟨v0,rfl,by decide,?_⟩⟩
 have hh:1<=1+v1%9/\1+v1%9<=9:=by omega
 have hx0: -39<=0-v5%40/\0-v5%40<=0:=by omega
 have hn0:1<=1+v0%9/\1+v0%9<=9:=by omega
 generalize 1+v1%9=hg at*;generalize 0-v5%40=x0 at*;generalize 1+v0%9=n0 at*;refine⟨by omega,by omega,?_⟩
 refine zf0 (n:=n0.toNat) (fun i σ H'=>Same H H'/\∃(ys:List V)(x:Int)(ss:List (Int×Int))(o1 o2 o3:Option V),σ=[some (V.ref a),some (V.int hg),some (V.int x),some (V.ref R),o1,o2,o3]/\H' R=some (.lst ys)/\LR (RgPN R) H' ys (ss.map (spR hg))/\ss.length=i/\ -39<=x/\x<=16*i/\Spn x ss) ⟨gR,[],x0,[],none,none,none,rfl,hR1,.nil,rfl,hx0.1,by omega,fun e he=>(by cases he),.nil⟩ ?_ ?_
 ·intro _ _;rintro i σ H2 hi ⟨g2,ys,x,ss,o1,o2,o3,rfl,hR2,hy,ls,x1,x2,sp⟩;simp! [Int.zero_add];intro L hL;have gL:=za2 hL (HO.lst []);have hL3:upd H2 L (HO.lst []) L=some (.lst []):=upd_same;generalize upd H2 L (HO.lst [])=H3 at*;refine zcf ?_;simp! [zkd];refine⟨by decide,by decide,?_⟩
  refine zf0 (n:=2) (fun j σ H'=>Same H2 H'/\∃(es:List V)(y:Int)(xs:List Int)(o:Option V),σ=[some (V.ref a),some (V.int hg),some (V.int y),some (V.ref R),some (V.int (i:Int)),some (V.ref L),o]/\H' L=some (.lst es)/\LR P2H H' es (xs.map fun z=>(z,hg))/\Ends x y xs j) ⟨gL,[],x,[],o3,rfl,hL3,.nil,rfl,Int.le_refl _,by omega,fun z hz=>(by cases hz),.nil⟩ ?_ ?_
  ·intro _ _;rintro j σ H4 hj ⟨g4,es,y,xs,o,rfl,hL4,he,en⟩;have le:=he.1;have l2:=en.len;rw[List.length_map] at le;simp! [Int.zero_add];refine⟨.inl ⟨by decide,by decide⟩,a,ns,_,rfl,(g2.trans g4).seq hS,by omega,by omega,fun v=>⟨v,rfl,by decide,?_⟩⟩
   have z0:y<y+1+v%7+(if decide (y+1+v%7=0)=true then 1 else 0)/\y+1+v%7+(if decide (y+1+v%7=0)=true then 1 else 0)<=y+8/\y+1+v%7+(if decide (y+1+v%7=0)=true then 1 else 0)≠0:=by
    by_cases c:y+1+v%7=0
    ·rw[decide_eq_true c,if_pos rfl];omega
    ·rw[decide_eq_false c,if_neg (by decide)];omega
   generalize y+1+v%7+(if decide (y+1+v%7=0)=true then 1 else 0)=z at*;refine⟨zdp hL4,fun p hp=>?_⟩;have g5:=za2 hp (HO.tup [V.int z,V.int hg]);have h5:upd H4 p (HO.tup [V.int z,V.int hg]) p=some (HO.tup [V.int z,V.int hg]):=upd_same;generalize upd H4 p (HO.tup [V.int z,V.int hg])=H5 at*;have hL5:=g5 _ _ hL4;refine⟨es,hL5,small1000 (by omega),zao (g4.trans g5) hL,xs++[z],?_,en.snoc z0.1 z0.2.1 z0.2.2⟩
   rw[List.map_append];exact((he.ts zdz (zae g5)).snoc (a:=(z,hg)) h5).ts zdz (zcg hL5)
  ·rintro σ H4 ⟨g4,es,y,xs,o,rfl,hL4,he,en⟩;obtain⟨xa,xb,rfl⟩:∃xa xb,xs=[xa,xb]:=by
    match xs,en.len with
    |[p,q],_=>exact⟨p,q,rfl⟩
   have ha:=en.each xa (by simp)
   have hb:=en.each xb (by simp)
   have hab:xa<xb:=by
    have:=en.row;rw[List.pairwise_cons] at this;exact this.1 xb (by simp)
   have top:=en.top;obtain⟨pa,pb,rfl,hpa,hpb⟩:=LR.two he;simp! [hL4];have hR4:=g4 _ _ hR2;refine⟨zdp hR4,fun p0 hp0=>?_⟩;have g5:=za2 hp0 (HO.tup [V.int 0,V.int 0]);have h5:P2H (upd H4 p0 (HO.tup [V.int 0,V.int 0])) p0 (0,0):=upd_same;generalize upd H4 p0 (HO.tup [V.int 0,V.int 0])=H5 at*;have hL5:=g5 _ _ hL4;refine⟨_,hL5,_,at1,.inl ⟨by decide,by decide⟩,fun p2 hp2=>?_⟩
   have g6:=za2 hp2 (HO.tup [V.int 0,V.int (2*hg)]);have h6:P2H (upd H5 p2 (HO.tup [V.int 0,V.int (2*hg)])) p2 (0,2*hg):=upd_same;generalize upd H5 p2 (HO.tup [V.int 0,V.int (2*hg)])=H6 at*;refine⟨_,g6 _ _ hL5,_,at0,fun N hN=>?_⟩;have g7:=za2 hN (HO.lst [V.ref p0,V.ref pb,V.ref p2,V.ref pa]);have h7:upd H6 N (HO.lst [V.ref p0,V.ref pb,V.ref p2,V.ref pa]) N=some (HO.lst [V.ref p0,V.ref pb,V.ref p2,V.ref pa]):=upd_same;generalize upd H6 N (HO.lst [V.ref p0,V.ref pb,V.ref p2,V.ref pa])=H7 at*;have g47:=g5.trans (g6.trans g7);have g57:=g6.trans g7;have hR7:=g47 _ _ hR4;have nN:N≠R:=fun z=>by rw[z,g6 _ _ (g5 _ _ hR4)] at hN;cases hN
   have rg:RgPN R H7 N (spR hg (xa,xb)):=⟨nN,_,h7,.cons ⟨p0,rfl,zdz _ _ _ _ (zae g57) h5⟩ (.cons ⟨pb,rfl,zdz _ _ _ _ (zae g47) hpb⟩ (.cons ⟨p2,rfl,zdz _ _ _ _ (zae g7) h6⟩ (.cons ⟨pa,rfl,zdz _ _ _ _ (zae g47) hpa⟩ .nil)))⟩;have hy7:=zfh hy (g4.trans g47);have ly:=hy.1;rw[List.length_map] at ly;refine⟨ys,hR7,small1000 (by omega),zao (g2.trans (g4.trans g47)) hR,ss++[(xa,xb)],?_,by rw[List.length_append,ls];rfl,by omega,by omega,sp.snoc (by omega) ha.1 hab hb.2.1 ha.2.2 hb.2.2⟩
   rw[List.map_append];exact zio (hy7.snoc rg) hR7 _
 ·rintro σ H2 ⟨g2,ys,x,ss,o1,o2,o3,rfl,hR2,hy,ls,x1,x2,sp⟩;simp! [];refine k R ys hg ss H2 hR g2 hR2 (hy.imp fun p r t=>t.2) hh.1 hh.2 ⟨fun e he=>?_,sp.row⟩ (by omega) (by omega)
  have:=sp.each e he;exact⟨this.1,this.2.1,by omega,this.2.2.2⟩
theorem ov1_of{mx my ux uy vx vy al be ga:Int}(hu:0<=al*ux+be*uy+ga)(hv:0<=al*vx+be*vy+ga)(hm:al*mx+be*my+ga<0)(hle:ux<=vx):ov1 mx my ux uy vx vy=if 0<be/\ux<=mx/\mx<vx then 1 else 0:=by
 unfold ov1
 by_cases c:ux=vx∨mx<ux∨vx<=mx
 ·rw[if_pos c,if_neg (by omega)]
 ·rw[if_neg c];have key:be*((vx-ux)*(my-uy)-(vy-uy)*(mx-ux))=(vx-ux)*(al*mx+be*my+ga)-(al*ux+be*uy+ga)*(vx-mx)-(al*vx+be*vy+ga)*(mx-ux):=by grind
  have n1:(vx-ux)*(al*mx+be*my+ga)<0:=Int.mul_neg_of_pos_of_neg (by omega) hm
  have n2:0<=(al*ux+be*uy+ga)*(vx-mx):=Int.mul_nonneg hu (by omega)
  have n3:0<=(al*vx+be*vy+ga)*(mx-ux):=Int.mul_nonneg hv (by omega)
  generalize hX:(vx-ux)*(my-uy)=A at*;generalize hY:(vy-uy)*(mx-ux)=B at*;have neg:be*(A-B)<0:=by omega
  by_cases b:0<be
  ·have lt:A<B:=Classical.byContradiction fun z=>by
    have:=Int.mul_nonneg (Int.le_of_lt b) (show 0<=A-B by omega)
    omega
   rw[if_pos lt,if_pos ⟨b,by omega,by omega⟩]
  ·have lt:¬A<B:=fun z=>by
    have:=Int.mul_nonneg_of_nonpos_of_nonpos (show be<=0 by omega) (show A-B<=0 by omega)
    omega
   rw[if_neg lt,if_neg (fun z=>b z.1)]
theorem znq{mx my ux uy vx vy al be ga:Int}(hu:0<=al*ux+be*uy+ga)(hv:0<=al*vx+be*vy+ga)(hm:al*mx+be*my+ga<0):ovr mx my ux uy vx vy=if 0<be/\decide (ux<=mx)≠decide (vx<=mx) then 1 else 0:=by
 have e:∀b:Prop,∀[Decidable b],((if 0<be/\b then 1 else 0:Int))=if 0<be/\b then 1 else 0:=fun _ _=>rfl;unfold ovr
 by_cases c:gt2 ux uy vx vy=true
 ·rw[if_pos c,ov1_of hv hu hm (by rw[zdo] at c;omega)]
  rw[zdo] at c
  by_cases h1:ux<=mx<;>by_cases h2:vx<=mx<;>by_cases h3:0<be<;>simp[h1,h2,h3]<;>omega
 ·rw[if_neg c,ov1_of hu hv hm (by rw[zdo] at c;omega)]
  rw[zdo] at c
  by_cases h1:ux<=mx<;>by_cases h2:vx<=mx<;>by_cases h3:0<be<;>simp[h1,h2,h3]<;>omega
theorem ovr_symm(mx my ux uy vx vy:Int):ovr mx my ux uy vx vy=ovr mx my vx vy ux uy:=by
 unfold ovr
 by_cases c:gt2 ux uy vx vy=true
 ·have d:¬gt2 vx vy ux uy=true:=fun z=>by rw[zdo] at c z;omega
  rw[if_pos c,if_neg d]
 ·by_cases d:gt2 vx vy ux uy=true
  ·rw[if_neg c,if_pos d]
  ·rw[if_neg c,if_neg d];rw[zdo] at c d;have e1:ux=vx:=by omega
   have e2:uy=vy:=by omega
   rw[e1,e2]
theorem zk2{mx my ax ay bx by_ cx cy al be ga:Int}(ha:0<=al*ax+be*ay+ga)(hb:0<=al*bx+be*by_+ga)(hc:0<=al*cx+be*cy+ga)(hm:al*mx+be*my+ga<0):(ovr mx my ax ay bx by_+ovr mx my bx by_ cx cy+ovr mx my cx cy ax ay)%2=0:=by
 rw[znq ha hb hm,znq hb hc hm,znq hc ha hm]
 cases decide (ax<=mx)<;>cases decide (bx<=mx)<;>cases decide (cx<=mx)<;>by_cases h:0<be<;>simp[h]
theorem zmh{mx my ox oy bx by_ tx ty ax ay al be ga al' be' ga':Int}(o1:0<=al*ox+be*oy+ga)(b1:0<=al*bx+be*by_+ga)(a1:0<=al*ax+be*ay+ga)(m1:al*mx+be*my+ga<0)
  (a2:0<=al'*ax+be'*ay+ga')(b2:0<=al'*bx+be'*by_+ga')(t2:0<=al'*tx+be'*ty+ga')(m2:al'*mx+be'*my+ga'<0):(ovr mx my ox oy bx by_+ovr mx my bx by_ tx ty+ovr mx my tx ty ax ay+ovr mx my ax ay ox oy)%2=0:=by
 have h1:=zk2 o1 b1 a1 m1;have h2:=zk2 a2 b2 t2 m2;have h3:=ovr_symm mx my bx by_ ax ay;omega
def ori(a b c:Int×Int):Int:=(b.1-a.1)*(c.2-a.2)-(b.2-a.2)*(c.1-a.1)
def fd2(f:Fr):Int:=f.p*f.s-f.q*f.r
def lnA2(f:Fr)(a b:Int×Int):Int:=0-((mv f b).2-(mv f a).2)
def lnB2(f:Fr)(a b:Int×Int):Int:=(mv f b).1-(mv f a).1
def lnC2(f:Fr)(a b:Int×Int):Int:=((mv f b).2-(mv f a).2)*(2*(mv f a).1)-((mv f b).1-(mv f a).1)*(2*(mv f a).2)
theorem zgg(f:Fr)(a b u:Int×Int):lnA2 f a b*(2*(mv f u).1)+lnB2 f a b*(2*(mv f u).2)+lnC2 f a b=2*(fd2 f*ori a b u):=by
 unfold lnA2 lnB2 lnC2 fd2 ori mv;dsimp only
 grind
theorem zle(f:Fr)(a b u v:Int×Int):lnA2 f a b*((mv f u).1+(mv f v).1)+lnB2 f a b*((mv f u).2+(mv f v).2)+lnC2 f a b=fd2 f*(ori a b u+ori a b v):=by
 unfold lnA2 lnB2 lnC2 fd2 ori mv;dsimp only
 grind
def sdPl(h:Int)(e:Int×Int):List ((Int×Int)×(Int×Int)):=[((0,0),(e.2,h)),((e.2,h),(0,2*h)),((0,2*h),(e.1,h)),((e.1,h),(0,0))]
def ovP(f:Fr)(x y u v:Int×Int):Int:=ovr ((mv f x).1+(mv f y).1) ((mv f x).2+(mv f y).2) (2*(mv f u).1) (2*(mv f u).2) (2*(mv f v).1) (2*(mv f v).2)
theorem zcw(f:Fr)(x y u v:Int×Int):ovP f x y u v=ovP f y x u v:=by
 unfold ovP;rw[Int.add_comm (mv f x).1,Int.add_comm (mv f x).2]
theorem zgx{f:Fr}(hd:0<fd2 f){o b t a x y g1 g2 k1 k2:Int×Int}(o1:0<=ori g1 g2 o)(b1:0<=ori g1 g2 b)(a1:0<=ori g1 g2 a)(m1:ori g1 g2 x+ori g1 g2 y<0)(a2:0<=ori k1 k2 a)(b2:0<=ori k1 k2 b)(t2:0<=ori k1 k2 t)(m2:ori k1 k2 x+ori k1 k2 y<0):
  (ovP f x y o b+ovP f x y b t+ovP f x y t a+ovP f x y a o)%2=0:=by
 have nn:∀{z:Int},0<=z->0<=2*(fd2 f*z):=fun hz=>by have:=Int.mul_nonneg (Int.le_of_lt hd) hz;omega
 refine zmh (al:=lnA2 f g1 g2) (be:=lnB2 f g1 g2) (ga:=lnC2 f g1 g2) (al':=lnA2 f k1 k2) (be':=lnB2 f k1 k2) (ga':=lnC2 f k1 k2) ?_ ?_ ?_ ?_ ?_ ?_ ?_ ?_
 ·rw[zgg];exact nn o1
 ·rw[zgg];exact nn b1
 ·rw[zgg];exact nn a1
 ·rw[zle];exact Int.mul_neg_of_pos_of_neg hd m1
 ·rw[zgg];exact nn a2
 ·rw[zgg];exact nn b2
 ·rw[zgg];exact nn t2
 ·rw[zle];exact Int.mul_neg_of_pos_of_neg hd m2
theorem zjc{f:Fr}(hd:0<fd2 f){h a b c:Int}(h1:1<=h)(ab:a<b)(hc:c<a∨b<c):(ovP f (0,0) (c,h) (0,0) (b,h)+ovP f (0,0) (c,h) (b,h) (0,2*h)+ovP f (0,0) (c,h) (0,2*h) (a,h)+ovP f (0,0) (c,h) (a,h) (0,0))%2=0:=by
 have p1:0<h*(b-a):=Int.mul_pos (by omega) (by omega)
 have ab2:∀z:Int×Int,ori (a,h) (b,h) z=(b-a)*(z.2-h):=fun z=>by unfold ori;dsimp only;grind
 rcases hc with hc|hc
 ·have p2:0<h*(a-c):=Int.mul_pos (by omega) (by omega)
  refine zgx hd (g1:=(a,h)) (g2:=(0,0)) (k1:=(a,h)) (k2:=(b,h)) ?_ ?_ ?_ ?_ ?_ ?_ ?_ ?_<;>(try rw[ab2])<;>(try rw[ab2])<;>(try unfold ori)<;>dsimp only<;>grind
 ·have p2:0<h*(c-b):=Int.mul_pos (by omega) (by omega)
  refine zgx hd (g1:=(0,0)) (g2:=(b,h)) (k1:=(a,h)) (k2:=(b,h)) ?_ ?_ ?_ ?_ ?_ ?_ ?_ ?_<;>(try rw[ab2])<;>(try rw[ab2])<;>(try unfold ori)<;>dsimp only<;>grind
theorem zjs{f:Fr}(hd:0<fd2 f){h a b c:Int}(h1:1<=h)(ab:a<b)(hc:c<a∨b<c):(ovP f (c,h) (0,2*h) (0,0) (b,h)+ovP f (c,h) (0,2*h) (b,h) (0,2*h)+ovP f (c,h) (0,2*h) (0,2*h) (a,h)+ovP f (c,h) (0,2*h) (a,h) (0,0))%2=0:=by
 have p1:0<h*(b-a):=Int.mul_pos (by omega) (by omega)
 rcases hc with hc|hc
 ·have p2:0<h*(a-c):=Int.mul_pos (by omega) (by omega)
  refine zgx hd (g1:=(b,h)) (g2:=(a,h)) (k1:=(0,2*h)) (k2:=(a,h)) ?_ ?_ ?_ ?_ ?_ ?_ ?_ ?_<;>unfold ori<;>dsimp only<;>grind
 ·have p2:0<h*(c-b):=Int.mul_pos (by omega) (by omega)
  refine zgx hd (g1:=(b,h)) (g2:=(a,h)) (k1:=(b,h)) (k2:=(0,2*h)) ?_ ?_ ?_ ?_ ?_ ?_ ?_ ?_<;>unfold ori<;>dsimp only<;>grind
theorem zmr{f:Fr}(hd:0<fd2 f){h:Int}{e e' x y:Int×Int}{x':(Int×Int)×(Int×Int)}(h1:1<=h)(ab:e.1<e.2)(ab':e'.1<e'.2)(ap:e'.2<e.1∨e.2<e'.1)(hs:(x,y)∈sdPl h e'):(ovP f x y (0,0) (e.2,h)+ovP f x y (e.2,h) (0,2*h)+ovP f x y (0,2*h) (e.1,h)+ovP f x y (e.1,h) (0,0))%2=0:=by
 have c1:e'.1<e.1∨e.2<e'.1:=by omega
 have c2:e'.2<e.1∨e.2<e'.2:=by omega
 unfold sdPl at hs;simp only[List.mem_cons,List.not_mem_nil,or_false,Prod.mk.injEq] at hs;rcases hs with⟨e1,e2⟩|⟨e1,e2⟩|⟨e1,e2⟩|⟨e1,e2⟩<;>subst e1<;>subst e2
 ·exact zjc hd h1 ab c2
 ·exact zjs hd h1 ab c2
 ·rw[zcw,zcw f (0,2*h),zcw f (0,2*h),zcw f (0,2*h) (e'.1,h) (e.1,h)];exact zjs hd h1 ab c1
 ·rw[zcw,zcw f (e'.1,h),zcw f (e'.1,h),zcw f (e'.1,h) (0,0) (e.1,h)];exact zjc hd h1 ab c1
def ptP(w:Int)(k:Int×Int):Q3:=ptQ k.1 k.2 w
def PF(f:Fr)(x:Int×Int):Q3:=ptP f.w (mv f x)
theorem zm5{w:Int}(hw:0<w)(k:Int×Int):∃g:Int,0<g/\(ptP w k).x*g=k.1/\(ptP w k).y*g=k.2/\(ptP w k).w*g=w:=zeo hw ⟨k.1,k.2⟩
theorem pt_inj{w:Int}(hw:0<w){a b:Int×Int}(e:ptP w a=ptP w b):a=b:=by
 obtain⟨e1,e2⟩:=lw_inj (a:=⟨a.1,a.2⟩) (b:=⟨b.1,b.2⟩) hw (congrArg Q3.x e) (congrArg Q3.y e) (congrArg Q3.w e);exact Prod.ext e1 e2
theorem lt2_iff{a b:Int×Int}:lt2 a b=true↔(a.1<b.1∨(a.1=b.1/\a.2<b.2)):=by
 unfold lt2 lexB
 by_cases c:a.1=b.1
 ·rw[if_pos c,decide_eq_true_iff];omega
 ·rw[if_neg c,decide_eq_true_iff];omega
theorem bq_pt{w:Int}(hw:0<w){a b:Int×Int}:bq (ptP w a) (ptP w b)=true↔lt2 a b=true:=by
 rw[lt2_iff];exact bef_lw hw ⟨a.1,a.2⟩ ⟨b.1,b.2⟩
theorem mv_inj{f:Fr}(hd:0<fd2 f){a b:Int×Int}(e:mv f a=mv f b):a=b:=by
 unfold mv at e
 injection e with e1 e2
 unfold fd2 at hd;have k1:(f.p*f.s-f.q*f.r)*(a.1-b.1)=0:=by grind
 have k2:(f.p*f.s-f.q*f.r)*(a.2-b.2)=0:=by grind
 have z1:=(Int.mul_eq_zero.mp k1).resolve_left (by omega)
 have z2:=(Int.mul_eq_zero.mp k2).resolve_left (by omega)
 exact Prod.ext (by omega) (by omega)
theorem zhz{f:Fr}(hw:0<f.w)(hd:0<fd2 f){a b:Int×Int}(e:PF f a=PF f b):a=b:=mv_inj hd (pt_inj hw e)
theorem sgn_same{y z:Int}(h1:0<y↔0<z)(h2:y<0↔z<0):sgn y=sgn z:=by
 unfold sgn
 by_cases c:0<y
 ·rw[if_pos c,if_pos (h1.mp c)]
 ·rw[if_neg c,if_neg (fun z=>c (h1.mpr z))]
  by_cases d:y<0
  ·rw[if_pos d,if_pos (h2.mp d)]
  ·rw[if_neg d,if_neg (fun z=>d (h2.mpr z))]
theorem zlc{f:Fr}(hw:0<f.w)(hd:0<fd2 f)(a b c:Int×Int):sgD (PF f a) (PF f b) (PF f c)=sgn (ori a b c):=by
 obtain⟨g1,h1,a1,a2,a3⟩:=zm5 hw (mv f a);obtain⟨g2,h2,b1,b2,b3⟩:=zm5 hw (mv f b);obtain⟨g3,h3,c1,c2,c3⟩:=zm5 hw (mv f c);have d:=zgb g1 g2 g3 (PF f a).x (PF f a).y (PF f a).w (PF f b).x (PF f b).y (PF f b).w (PF f c).x (PF f c).y (PF f c).w;unfold PF at d;rw[a1,a2,a3,b1,b2,b3,c1,c2,c3] at d;have e:det3 (mv f a).1 (mv f a).2 f.w (mv f b).1 (mv f b).2 f.w (mv f c).1 (mv f c).2 f.w=f.w*fd2 f*ori a b c:=by
  unfold det3 lnA lnB lnC fd2 ori mv;dsimp only
  grind
 rw[e] at d;have k1:0<f.w*fd2 f:=Int.mul_pos hw hd;have k2:0<g1*g2*g3:=Int.mul_pos (Int.mul_pos h1 h2) h3;unfold sgD PF;generalize det3 (ptP f.w (mv f a)).x (ptP f.w (mv f a)).y (ptP f.w (mv f a)).w (ptP f.w (mv f b)).x (ptP f.w (mv f b)).y (ptP f.w (mv f b)).w (ptP f.w (mv f c)).x (ptP f.w (mv f c)).y (ptP f.w (mv f c)).w=y at*;generalize ori a b c=z at*;generalize f.w*fd2 f=k at*;generalize g1*g2*g3=g at*;have s1:=zbi (a:=0) (b:=y) k2;have s2:=zbi (a:=0) (b:=z) k1;have s3:=zbi (a:=y) (b:=0) k2;have s4:=zbi (a:=z) (b:=0) k1;rw[Int.mul_zero] at s1 s2 s3 s4;refine sgn_same ?_ ?_
 ·rw[←s1,←s2,d]
 ·rw[←s3,←s4,d]
theorem zgp{a b c:Q3}:∀(ts:List Q3)(m:Q3),(m=c∨(soon a b c m=true/\c∈ts))->(∀t,t∈ts->t≠c->soon a b c t=true/\soon a b t c=false)->zh9 a b m ts=c
 |[],m,h,_=>by
  rcases h with h|⟨_,h⟩
  ·exact h
  ·cases h
 |t::ts,m,h,k=>by
  show zh9 a b (if soon a b t m=true then t else m) ts=c
  have kt:∀u,u∈ts->u≠c->soon a b c u=true/\soon a b u c=false:=fun u hu=>k u (List.mem_cons_of_mem _ hu)
  by_cases e:t=c
  ·refine zgp ts _ (.inl ?_) kt;rcases h with h|⟨h,_⟩
   ·rw[e,h];split<;>rfl
   ·rw[e,if_pos h]
  ·have kk:=k t (by simp) e
   rcases h with h|⟨h,hm⟩
   ·refine zgp ts _ (.inl ?_) kt;rw[h,if_neg (by rw[kk.2];decide)]
   ·refine zgp ts _ (.inr ⟨?_,?_⟩) kt
    ·split
     ·exact kk.1
     ·exact h
    ·rcases List.mem_cons.mp hm with z|z
     ·exact absurd z.symm e
     ·exact z
theorem first_is{a b c:Q3}{ts:List Q3}(hc:c∈ts)(h:∀t,t∈ts->t≠c->soon a b c t=true/\soon a b t c=false):zjw a b ts=c:=by
 cases ts with
 |nil=>cases hc
 |cons t ts=>
  refine zgp ts t ?_ fun u hu=>h u (List.mem_cons_of_mem _ hu)
  by_cases e:t=c
  ·exact .inl e
  ·refine .inr ⟨(h t (by simp) e).1,?_⟩
   rcases List.mem_cons.mp hc with z|z
   ·exact absurd z.symm e
   ·exact z
theorem zlt{f:Fr}(hw:0<f.w)(hd:0<fd2 f)(a b c d:Int×Int):soon (PF f a) (PF f b) (PF f c) (PF f d)=if sgn (ori a b c)=sgn (ori a b d) then decide (sgn (ori a c d)<0) else decide (sgn (ori a b c)<sgn (ori a b d)):=by
 unfold soon;rw[zlc hw hd,zlc hw hd,zlc hw hd]
theorem zn1{z:Int}(h:z<0):sgn z= -1:=by
 unfold sgn;rw[if_neg (by omega),if_pos h]
theorem sgn_pl{z:Int}(h:0<z):sgn z=1:=by
 unfold sgn;rw[if_pos h]
theorem zjz{f:Fr}(hw:0<f.w)(hd:0<fd2 f){a b c d:Int×Int}(h1:ori a b c<0)(h2:(ori a b d<0/\ori a c d<0/\0<ori a d c)∨0<ori a b d):soon (PF f a) (PF f b) (PF f c) (PF f d)=true/\soon (PF f a) (PF f b) (PF f d) (PF f c)=false:=by
 rw[zlt hw hd,zlt hw hd,zn1 h1];rcases h2 with⟨h2,h3,h4⟩|h2
 ·rw[zn1 h2,if_pos rfl,if_pos rfl,zn1 h3,sgn_pl h4];exact⟨rfl,rfl⟩
 ·rw[sgn_pl h2,if_neg (by decide),if_neg (by decide)]
  exact⟨rfl,rfl⟩
theorem Spn.tri{x:Int}{ss:List (Int×Int)}(h:Spn x ss){e e':Int×Int}(he:e∈ss)(he':e'∈ss):e=e'∨e.2<e'.1∨e'.2<e.1:=by
 obtain⟨i,hi,rfl⟩:=List.mem_iff_getElem.mp he;obtain⟨j,hj,rfl⟩:=List.mem_iff_getElem.mp he';rcases Nat.lt_trichotomy i j with z|z|z
 ·exact .inr (.inl (List.pairwise_iff_getElem.mp h.row i j hi hj z))
 ·subst z;exact .inl rfl
 ·exact .inr (.inr (List.pairwise_iff_getElem.mp h.row j i hj hi z))
def zal(f:Fr)(h:Int)(e:Int×Int):List Q3:=[PF f (0,0),PF f (e.2,h),PF f (0,2*h),PF f (e.1,h)]
theorem zhg(f:Fr)(h:Int)(e:Int×Int):((spR h e).map (mv f)).map (ptP f.w)=zal f h e:=rfl
theorem zdl(f:Fr)(h:Int)(e:Int×Int):nx (zal f h e) 4=PF f (0,0):=zep (zal f h e) 0
theorem zhq(f:Fr)(h:Int)(e:Int×Int):nx (zal f h e) 5=PF f (e.2,h):=zep (zal f h e) 1
theorem zdm(f:Fr)(h:Int)(e:Int×Int):sds (zal f h e)=(sdPl h e).map fun s=>(PF f s.1,PF f s.2):=by
 show(List.range 4).map (fun i=>(nx (zal f h e) i,nx (zal f h e) (i+1)))=_
 rw[show List.range 4=[0,1,2,3] from rfl];simp only[List.map_cons,List.map_nil,Nat.reduceAdd];rw[zdl];rfl
def zi2(f:Fr)(h:Int)(ss:List (Int×Int))(ls:List (Q3×Q3)):Prop:=∀g,g∈ls↔∃e,e∈ss/\g∈sds (zal f h e)
theorem zi2.at{f:Fr}{h:Int}{ss:List (Int×Int)}{ls:List (Q3×Q3)}(L:zi2 f h ss ls)(hw:0<f.w)(hd:0<fd2 f){x:Int×Int}{t:Q3}(ht:t∈leav ls (PF f x)):∃e y,e∈ss/\(x,y)∈sdPl h e/\t=PF f y:=by
 obtain⟨e,he,hm⟩:=(L _).mp (zfe.mp ht);rw[zdm] at hm;obtain⟨⟨x',y⟩,h1,h2⟩:=List.mem_map.mp hm
 injection h2 with h2 h3
 have:=zhz hw hd h2;subst this;exact⟨e,y,he,h1,h3.symm⟩
theorem cyc_of{f:Fr}{h x:Int}{ss:List (Int×Int)}{ls:List (Q3×Q3)}(hw:0<f.w)(hd:0<fd2 f)(h1:1<=h)(sp:Spn x ss)(L:zi2 f h ss ls):Cyc ls (ss.map (zal f h)):=by
 have pl:∀{u v:Int×Int},u≠v->PF f u≠PF f v:=fun n e=>n (zhz hw hd e);have n1:∀{a b c d:Int},b≠d->((a,b):Int×Int)≠(c,d):=fun n e=>n (Prod.mk.inj e).2;have n2:∀{a b c d:Int},a≠c->((a,b):Int×Int)≠(c,d):=fun n e=>n (Prod.mk.inj e).1;refine⟨fun r hr=>?_,fun g hg=>?_,fun r r' g hr hr' hg hg'=>?_⟩
 ·obtain⟨e,he,rfl⟩:=List.mem_map.mp hr;have ee:=sp.each e he;have mem:∀k,k<4->(nx (zal f h e) k,nx (zal f h e) (k+1))∈ls:=fun k hk=>(L _).mpr ⟨e,he,zex.mpr ⟨k,hk,rfl⟩⟩;have pos:∀{z:Int},0<z->0<h*z:=fun hz=>Int.mul_pos (by omega) hz
  have fr:∀k,k<4->zjw (nx (zal f h e) (k+1)) (nx (zal f h e) k) (leav ls (nx (zal f h e) (k+1)))=nx (zal f h e) (k+2):=by
   intro k hk;refine first_is (zfe.mpr ?_) fun t ht ne=>?_
   ·rcases(by omega:k=0∨k=1∨k=2∨k=3) with rfl|rfl|rfl|rfl
    ·exact mem 1 (by decide)
    ·exact mem 2 (by decide)
    ·exact mem 3 (by decide)
    ·simp only[Nat.reduceAdd];rw[zdl,zhq];exact mem 0 (by decide)
   ·rcases(by omega:k=0∨k=1∨k=2∨k=3) with rfl|rfl|rfl|rfl
    ·obtain⟨e',y,he',hs,rfl⟩:=L.at (x:=(e.2,h)) hw hd ht;have ee':=sp.each e' he'
     exfalso
     apply ne
     show PF f y=PF f (0,2*h)
     unfold sdPl at hs;simp only[List.mem_cons,List.not_mem_nil,or_false,Prod.mk.injEq] at hs;rcases hs with⟨⟨_,z⟩,_⟩|⟨_,rfl⟩|⟨⟨_,z⟩,_⟩|⟨⟨z,_⟩,_⟩
     ·omega
     ·rfl
     ·omega
     ·have:=sp.tri he he';rcases this with rfl|z'|z'<;>omega
    ·obtain⟨e',y,he',hs,rfl⟩:=L.at (x:=(0,2*h)) hw hd ht;have ee':=sp.each e' he';unfold sdPl at hs;simp only[List.mem_cons,List.not_mem_nil,or_false,Prod.mk.injEq] at hs;rcases hs with⟨⟨_,z⟩,_⟩|⟨⟨_,z⟩,_⟩|⟨_,rfl⟩|⟨⟨_,z⟩,_⟩
     ·omega
     ·omega
     ·have tr:=sp.tri he he';refine zjz hw hd (a:=(0,2*h)) (b:=(e.2,h)) (c:=(e.1,h)) (d:=(e'.1,h)) ?_ ?_
      ·have:=pos (show 0<e.2-e.1 by omega)
       unfold ori;dsimp only;grind
      ·rcases tr with z|z|z
       ·exact absurd (by rw[z];rfl) ne
       ·right;have:=pos (show 0<e'.1-e.2 by omega)
        unfold ori;dsimp only;grind
       ·left;have k1:=pos (show 0<e.2-e'.1 by omega)
        have k2:=pos (show 0<e.1-e'.1 by omega)
        unfold ori;dsimp only;refine⟨?_,?_,?_⟩<;>grind
     ·omega
    ·obtain⟨e',y,he',hs,rfl⟩:=L.at (x:=(e.1,h)) hw hd ht;have ee':=sp.each e' he'
     exfalso
     apply ne
     rw[show nx (zal f h e) (2+2)=PF f (0,0) from zdl f h e];unfold sdPl at hs;simp only[List.mem_cons,List.not_mem_nil,or_false,Prod.mk.injEq] at hs;rcases hs with⟨⟨_,z⟩,_⟩|⟨⟨z,_⟩,_⟩|⟨⟨_,z⟩,_⟩|⟨_,rfl⟩
     ·omega
     ·have:=sp.tri he he';rcases this with rfl|z'|z'<;>omega
     ·omega
     ·rfl
    ·simp only[Nat.reduceAdd] at ht ne⊢;rw[zdl] at ht⊢;rw[zhq] at ne⊢;obtain⟨e',y,he',hs,rfl⟩:=L.at (x:=(0,0)) hw hd ht;have ee':=sp.each e' he';unfold sdPl at hs;simp only[List.mem_cons,List.not_mem_nil,or_false,Prod.mk.injEq] at hs;rcases hs with⟨_,rfl⟩|⟨⟨_,z⟩,_⟩|⟨⟨_,z⟩,_⟩|⟨⟨_,z⟩,_⟩
     ·have tr:=sp.tri he he';refine zjz hw hd (a:=(0,0)) (b:=(e.1,h)) (c:=(e.2,h)) (d:=(e'.2,h)) ?_ ?_
      ·have:=pos (show 0<e.2-e.1 by omega)
       unfold ori;dsimp only;grind
      ·rcases tr with z|z|z
       ·exact absurd (by rw[z]) ne
       ·left;have k1:=pos (show 0<e'.2-e.1 by omega)
        have k2:=pos (show 0<e'.2-e.2 by omega)
        unfold ori;dsimp only;refine⟨?_,?_,?_⟩<;>grind
       ·right;have:=pos (show 0<e.1-e'.2 by omega)
        unfold ori;dsimp only;grind
     ·omega
     ·omega
     ·omega
  have l4:(zal f h e).length=4:=rfl;have red:∀i j,nx (zal f h e) (i+j)=nx (zal f h e) (i%4+j):=fun i j=>by
   rw[←zfc,←zfc (zal f h e) (i%4+j),l4,Nat.mod_add_mod]
  have red0:∀i,nx (zal f h e) i=nx (zal f h e) (i%4):=fun i=>red i 0;refine⟨?_,by rw[l4];decide,by rw[l4];decide,fun i=>?_,fun i=>?_⟩
  ·unfold zal;simp only[List.nodup_cons,List.mem_cons,List.not_mem_nil,or_false,not_or,not_false_eq_true,List.nodup_nil,and_true];exact⟨⟨pl (n1 (by omega)),pl (n1 (by omega)),pl (n1 (by omega))⟩,⟨pl (n1 (by omega)),pl (n2 (by omega))⟩,pl (n1 (by omega))⟩
  ·rw[red i 1,red0 i,red i 2];exact fr (i%4) (Nat.mod_lt _ (by decide))
  ·rw[red i 1,red0 i];exact mem (i%4) (Nat.mod_lt _ (by decide))
 ·obtain⟨e,he,h2⟩:=(L _).mp hg;exact⟨_,List.mem_map.mpr ⟨e,he,rfl⟩,h2⟩
 ·obtain⟨e,he,rfl⟩:=List.mem_map.mp hr;obtain⟨e',he',rfl⟩:=List.mem_map.mp hr';rw[zdm] at hg hg';obtain⟨⟨u,v⟩,m1,rfl⟩:=List.mem_map.mp hg;obtain⟨⟨u',v'⟩,m2,eq⟩:=List.mem_map.mp hg'
  injection eq with q1 q2
  have q1:=zhz hw hd q1;have q2:=zhz hw hd q2;subst q1 q2;have s1:u'.1+v'.1=e.2∨u'.1+v'.1=e.1:=by
   unfold sdPl at m1;simp only[List.mem_cons,List.not_mem_nil,or_false,Prod.mk.injEq] at m1;rcases m1 with⟨z1,z2⟩|⟨z1,z2⟩|⟨z1,z2⟩|⟨z1,z2⟩<;>rw[z1,z2]<;>dsimp only<;>omega
  have s2:u'.1+v'.1=e'.2∨u'.1+v'.1=e'.1:=by
   unfold sdPl at m2;simp only[List.mem_cons,List.not_mem_nil,or_false,Prod.mk.injEq] at m2;rcases m2 with⟨z1,z2⟩|⟨z1,z2⟩|⟨z1,z2⟩|⟨z1,z2⟩<;>rw[z1,z2]<;>dsimp only<;>omega
  have ee:=sp.each e he;have ee':=sp.each e' he';rcases sp.tri he he' with z|z|z
  ·rw[z]
  ·omega
  ·omega
theorem zmb{φ:Int×Int->Int×Int}:∀{xs ys:List (Int×Int)},(∀x y,x∈xs->y∈ys->lt2 x y=true->lt2 (φ x) (φ y)=true)->xs.length=ys.length->ltL xs ys=true->ltL (xs.map φ) (ys.map φ)=true
 |[],[],_,_,h=>h
 |[],_::_,_,l,_=>by cases l
 |_::_,[],_,l,_=>by cases l
 |x::xs,y::ys,k,l,h=>by
  rw[List.map_cons,List.map_cons];rw[zeq] at h⊢
  by_cases e:x=y
  ·rw[if_pos e] at h;rw[e,if_pos rfl];exact zmb (fun a b ha hb=>k a b (List.mem_cons_of_mem _ ha) (List.mem_cons_of_mem _ hb)) (Nat.succ.inj l) h
  ·rw[if_neg e] at h;have z:=k x y (by simp) (by simp) h
   rw[if_neg (fun q=>by rw[q,sto2.irr] at z;cases z)]
   exact z
theorem zm4{α:Type}{R:α->α->Prop}(irr:∀a,¬R a a)(tr:∀a b c,R a b->R b c->R a c):∀{a b:List α},a.Pairwise R->b.Pairwise R->(∀p,p∈a↔p∈b)->a=b
 |[],[],_,_,_=>rfl
 |[],y::b,_,_,h=>by have:=(h y).mpr (by simp);cases this
 |x::a,[],_,_,h=>by have:=(h x).mp (by simp);cases this
 |x::a,y::b,ha,hb,h=>by
  obtain⟨h1,h2⟩:=List.pairwise_cons.mp ha;obtain⟨k1,k2⟩:=List.pairwise_cons.mp hb;have e:x=y:=by
   rcases List.mem_cons.mp ((h x).mp (by simp)) with z|z
   ·exact z
   ·rcases List.mem_cons.mp ((h y).mpr (by simp)) with z'|z'
    ·exact z'.symm
    ·exact absurd (tr _ _ _ (k1 x z) (h1 y z')) (irr _)
  subst e
  congr 1
  refine zm4 irr tr h2 k2 fun p=>⟨fun hp=>?_,fun hp=>?_⟩
  ·rcases List.mem_cons.mp ((h p).mp (List.mem_cons_of_mem _ hp)) with z|z
   ·rw[z] at hp;exact absurd (h1 _ hp) (irr _)
   ·exact z
  ·rcases List.mem_cons.mp ((h p).mpr (List.mem_cons_of_mem _ hp)) with z|z
   ·rw[z] at hp;exact absurd (k1 _ hp) (irr _)
   ·exact z
def zic(d r:List (Int×Int)):Prop:=∃j,j<r.length/\d=rot r j/\∀x,x∈r->lt2 x (r.getD j (0,0))=false
theorem zn8{α β:Type}(g:α->β)(r:List α)(i:Nat):(rot r i).map g=rot (r.map g) i:=by
 unfold rot;rw[List.map_append,List.map_drop,List.map_take]
theorem zil{w:Int}(hw:0<w){d r:List (Int×Int)}(h:zic d r):zca (d.map (ptP w)) (r.map (ptP w)):=by
 obtain⟨j,hj,rfl,l⟩:=h;have hj':j<(r.map (ptP w)).length:=by rw[List.length_map];exact hj
 refine⟨j,hj',zn8 _ _ _,fun x hx=>?_⟩;obtain⟨y,hy,rfl⟩:=List.mem_map.mp hx;rw[zn8];have e0:nx (rot (r.map (ptP w)) j) 0=nx (r.map (ptP w)) j:=zbs hj' 0;rw[e0,zha hj',List.getElem_map];have z:=l y hy;rw[List.getD_eq_getElem?_getD,List.getElem?_eq_getElem hj] at z;refine Bool.eq_false_iff.mpr fun q=>?_;rw[bq_pt hw] at q;rw[show(some r[j]).getD (0,0)=r[j] from rfl,q] at z
 cases z
theorem zmn{g:Int}{a b:List (List Q3)}(ha:OrdR g a)(hb:OrdR g b)(h:∀p,p∈a↔p∈b):a=b:=
 zm4 (R:=fun a b:List Q3=>ltL (a.map (kyQ g)) (b.map (kyQ g))=true) (fun _ z=>by rw[zfk] at z;cases z) (fun _ _ _ h1 h2=>zmm _ _ _ h1 h2) ha hb h
theorem znx{w g:Int}(hw:0<w){Rs ds:List (List (Int×Int))}{os:List (List Q3)}(bd:∀r,r∈Rs->∀x,x∈r->Bd3 60 x.1 x.2 w)(nd:∀r,r∈Rs->(r.map (ptP w)).Nodup)(l4:∀r,r∈Rs->r.length=4)
  (d1:∀d,d∈ds->∃r,r∈Rs/\zic d r)(d2:∀r,r∈Rs->∃d,d∈ds/\zic d r)(dp:ds.Pairwise fun a b=>ltL a b=true)
  (og:∀r,r∈os->∀p,p∈r->PQ 700 p/\p.w<=g)(oo:OrdR g os)(om:∀q,q∈os↔∃r,r∈Rs.map (fun r=>r.map (ptP w))/\zca q r):os=ds.map fun d=>d.map (ptP w):=by
 have pq:∀r,r∈Rs->∀x,x∈r.map (ptP w)->PQ 700 x:=fun r hr x hx=>by
  obtain⟨y,hy,rfl⟩:=List.mem_map.mp hx;exact Pt.mono (znw (bd r hr y hy) hw) (by decide)
 have inO:∀d r,r∈Rs->zic d r->d.map (ptP w)∈os:=fun d r hr h=>(om _).mpr ⟨_,List.mem_map.mpr ⟨r,hr,rfl⟩,zil hw h⟩;have wg:∀d,d∈ds->∀x,x∈d->PQ 700 (ptP w x)/\(ptP w x).w<=g:=fun d hd x hx=>by
  obtain⟨r,hr,h⟩:=d1 d hd;exact og _ (inO d r hr h) _ (List.mem_map.mpr ⟨x,hx,rfl⟩)
 have ld:∀d,d∈ds->d.length=4:=fun d hd=>by
  obtain⟨r,hr,j,hj,rfl,_⟩:=d1 d hd;rw[zbe];exact l4 r hr
 refine zmn (g:=g) oo ?_ fun q=>⟨fun hq=>?_,fun hq=>?_⟩
 ·unfold OrdR;rw[List.pairwise_map];refine dp.imp_of_mem fun{a b} ha hb h=>?_;rw[List.map_map,List.map_map];refine zmb (φ:=kyQ g∘ptP w) (fun x y hx hy z=>?_) ((ld a ha).trans (ld b hb).symm) h;have h1:=wg a ha x hx;have h2:=wg b hb y hy;exact ky_lt h1.1.pos h2.1.pos h1.2 h2.2 ((bq_pt hw).mpr z)
 ·obtain⟨r',hr',hc⟩:=(om q).mp hq;obtain⟨r,hr,rfl⟩:=List.mem_map.mp hr';obtain⟨d,hd,h⟩:=d2 r hr;rw[hc.uniq (nd r hr) (pq r hr) (zil hw h)];exact List.mem_map.mpr ⟨d,hd,rfl⟩
 ·obtain⟨d,hd,rfl⟩:=List.mem_map.mp hq;obtain⟨r,hr,h⟩:=d1 d hd;exact inO d r hr h
theorem sum4{F:Nat->Int}(per:∀i,F (4+i)=F i){i:Nat}(hi:i<4):F (i+0)+F (i+1)+F (i+2)+F (i+3)=F 0+F 1+F 2+F 3:=by
 have p0:=per 0;have p1:=per 1;have p2:=per 2;simp only[Nat.reduceAdd] at p0 p1 p2;rcases(by omega:i=0∨i=1∨i=2∨i=3) with rfl|rfl|rfl|rfl<;>simp only[Nat.reduceAdd]<;>omega
theorem sd3_four{q:List Q3}(h:q.length=4)(X Y W:Int):(cntAb (sd3 q) X Y W:Int)=cntAb (sd (toP (nx q 0)) (toP (nx q 1))) X Y W+cntAb (sd (toP (nx q 1)) (toP (nx q 2))) X Y W+cntAb (sd (toP (nx q 2)) (toP (nx q 3))) X Y W+cntAb (sd (toP (nx q 3)) (toP (nx q 4))) X Y W:=by
 match q,h with
 |[a,b,c,d],_=>
  have e4:nx [a,b,c,d] 4=a:=zep [a,b,c,d] 0;rw[e4];have k0:sdK [toP a,toP b,toP c,toP d] 0=sd (toP a) (toP b):=zhr (by simp) (by simp)
  have k1:sdK [toP a,toP b,toP c,toP d] 1=sd (toP b) (toP c):=zhr (by simp) (by simp)
  have k2:sdK [toP a,toP b,toP c,toP d] 2=sd (toP c) (toP d):=zhr (by simp) (by simp)
  have k3:sdK [toP a,toP b,toP c,toP d] 3=sd (toP d) (toP a):=zhr (by simp) (by simp)
  have e:sd3 [a,b,c,d]=sd (toP a) (toP b)++(sd (toP b) (toP c)++(sd (toP c) (toP d)++sd (toP d) (toP a))):=by
   unfold sd3 sdA;simp only[List.map_cons,List.map_nil,List.take_succ_cons,List.take_zero,List.flatMap_cons,List.flatMap_nil,List.append_nil,List.length_cons,List.length_nil];unfold sdR;rw[show List.range (0+1+1+1+1)=[0,1,2,3] from rfl];simp only[List.flatMap_cons,List.flatMap_nil,List.append_nil];rw[k0,k1,k2,k3]
  rw[e,zfq,zfq,zfq];show(((cntAb (sd (toP a) (toP b)) X Y W+(cntAb (sd (toP b) (toP c)) X Y W+(cntAb (sd (toP c) (toP d)) X Y W+cntAb (sd (toP d) (toP a)) X Y W)):Nat)):Int)=cntAb (sd (toP a) (toP b)) X Y W+cntAb (sd (toP b) (toP c)) X Y W+cntAb (sd (toP c) (toP d)) X Y W+cntAb (sd (toP d) (toP a)) X Y W;omega
theorem mid_bd{a b:Q3}(h1:PQ 60 a)(h2:PQ 60 b):Bd3 1000 (midX a b) (midY a b) (midW a b):=by
 obtain⟨p1,_,a1,a2,a3⟩:=h1;obtain⟨p2,_,b1,b2,b3⟩:=h2;have l2:(2*a.w).natAbs<2^(2+60):=zcy (by decide) a3
 have hw:0<2*a.w*b.w:=Int.mul_pos (Int.mul_pos (by decide) p1) p2
 have z:Pt 122 (midX a b) (midY a b) (midW a b):=pt_mk (by omega) (zbm (add_lt (zcy a1 b3) (zcy b1 a3)) (by decide)) (zbm (add_lt (zcy a2 b3) (zcy b2 a3)) (by decide)) (zcy l2 b3)
 exact Pt.bd z (by decide)
theorem free_of{f:Fr}{h x:Int}{ss:List (Int×Int)}{os:List (List Q3)}(hw:0<f.w)(hd:0<fd2 f)(h1:1<=h)(sp:Spn x ss)(nr:∀e,e∈ss->(zal f h e).Nodup)(pq:∀e,e∈ss->∀x,x∈zal f h e->PQ 60 x)(nd:os.Nodup)(om:∀q,q∈os->∃e,e∈ss/\zca q (zal f h e)):Free os:=by
 intro i j a b ij ha hb;obtain⟨e',he',ca⟩:=om a (List.mem_of_getElem? ha);obtain⟨e,he,cb⟩:=om b (List.mem_of_getElem? hb);have l4:∀e,(zal f h e).length=4:=fun e=>rfl;have ee:=sp.each e he;have ee':=sp.each e' he';have sa:(nx a 0,nx a 1)∈sds (zal f h e'):=ca.sds.mp (ze3 (by rw[ca.len,l4];decide) 0)
 rw[zdm] at sa;obtain⟨⟨u,v⟩,hs,eq⟩:=List.mem_map.mp sa
 injection eq with q1 q2
 have ap:e'.2<e.1∨e.2<e'.1:=by
  rcases sp.tri he he' with z|z|z
  ·subst z
   exfalso
   apply ij
   have:=ca.uniq (nr e he) (pq e he) cb;subst this;exact(List.getElem?_inj (List.getElem?_eq_some_iff.mp ha).1 nd).mp (ha.trans hb.symm)
  ·exact .inr z
  ·exact .inl z
 have sp':=spot_mid hw ⟨(mv f u).1,(mv f u).2⟩ ⟨(mv f v).1,(mv f v).2⟩;rw[←q1,←q2];have cs:∀k l:Int×Int,(cntAb (sd (toP (PF f k)) (toP (PF f l))) (midX (PF f u) (PF f v)) (midY (PF f u) (PF f v)) (midW (PF f u) (PF f v)):Int)=ovP f u v k l:=fun k l=>cnt_sd hw sp' ⟨(mv f k).1,(mv f k).2⟩ ⟨(mv f l).1,(mv f l).2⟩;have ev:=zmr (x':=(u,v)) hd h1 ee.2.1 ee'.2.1 ap hs;obtain⟨k,hk,rfl,_⟩:=cb;have tot:=sd3_four (q:=rot (zal f h e) k) (by rw[zbe,l4]) (midX (PF f u) (PF f v)) (midY (PF f u) (PF f v)) (midW (PF f u) (PF f v))
 rw[l4] at hk;rw[zbs hk,zbs hk,zbs hk,zbs hk,zbs hk] at tot;have s4:=sum4 (F:=fun i=>(cntAb (sd (toP (nx (zal f h e) i)) (toP (nx (zal f h e) (i+1)))) (midX (PF f u) (PF f v)) (midY (PF f u) (PF f v)) (midW (PF f u) (PF f v)):Int)) (fun i=>by
  show(cntAb (sd (toP (nx (zal f h e) (4+i))) (toP (nx (zal f h e) (4+i+1)))) _ _ _:Int)=_
  rw[show nx (zal f h e) (4+i)=nx (zal f h e) i from zep (zal f h e) i,Nat.add_assoc,show nx (zal f h e) (4+(i+1))=nx (zal f h e) (i+1) from zep (zal f h e) (i+1)]) hk
 simp only[Nat.add_assoc,Nat.reduceAdd] at s4;rw[←tot] at s4;have c0:=cs (0,0) (e.2,h);have c1:=cs (e.2,h) (0,2*h);have c2:=cs (0,2*h) (e.1,h);have c3:=cs (e.1,h) (0,0);rw[zdl,show nx (zal f h e) 0=PF f (0,0) from rfl,show nx (zal f h e) 1=PF f (e.2,h) from rfl,show nx (zal f h e) 2=PF f (0,2*h) from rfl,show nx (zal f h e) 3=PF f (e.1,h) from rfl,c0,c1,c2,c3] at s4;show cntAb (sd3 (rot (zal f h e) k)) (midX (PF f u) (PF f v)) (midY (PF f u) (PF f v)) (midW (PF f u) (PF f v))%2=0;omega
abbrev E2:=(Int×Int)×(Int×Int)
def WyH(H:Hp)(p:Addr)(e:E2):Prop:=∃c d,H p=some (.tup [.ref c,.ref d])/\P2H H c e.1/\P2H H d e.2
theorem zi9:∀(H H':Hp)(p:Addr)(e:E2),zav H H'->WyH H p e->WyH H' p e:=fun _ _ _ _ g⟨c,d,h1,h2,h3⟩=>⟨c,d,g _ _ h1,g _ _ h2,g _ _ h3⟩
def tdW(w:Int)(e:E2):Q3×Q3:=(ptP w e.1,ptP w e.2)
def sp_told:Sp:=fun vs H Q _=>∃(l:Addr)(ys:List V)(ws:List E2)(w:Int),vs=[.ref l,.int w]/\H l=some (.lst ys)/\ys.length<=40/\LR WyH H ys ws/\0<w/\(∀e,e∈ws->Bd3 60 e.1.1 e.1.2 w/\Bd3 60 e.2.1 e.2.2 w)/\∀D zs H',H D=none->Same H H'->H' D=some (.lst zs)->LR S2H H' zs (ws.map (tdW w))->Q (.ref D) H'
theorem zii(T:Txt K mg ad fd):FnOk P w K mg base CX0 3 (ad 29) (fd 29) ["_law_ways","_law_share"] sp_told:=by
 refine T.law_told.fn.ok ziw (fun vs H Q E h=>?_) (fun cdv A outer s H vs Q E hr h=>?_)
 ·obtain⟨l,ys,ws,w,rfl,_⟩:=h;rfl
 obtain⟨l,ys,ws,wd,rfl,hl,hn,hw,w0,bd,k⟩:=h;have ze:=@zac;have zc:=@zaq;have zw:=@ze8;unfold L2.CompBody at zw;have zp:=@zc4;have qpv:=@pv;have zP:=@zgl;have zK:=@zeg;have zk:=@zbz;have zM:=@zfu;have zC:=@zew;have zq:=@ze1;have zj:=@pa2;have zg:=@zaz;have zt:=@pa3;have zd:=@zdy;have za:=@zbg;generalize @L2.PE=QE,@L2.PT=QT,@L2.PW=QW,@L2.PA=QA,@L2.PS=QS,@L2.PSs=QSs,@L2.PG=QG,@L2.PGs=QGs,@L2.PI=QI,@L2.PO=QO,@L2.PIf=QIf at ze zc zw zp qpv zP zK zk zM zC zq zj zg zt zd za⊢;refine⟨_,
  (ze (zc (zw (dsc:=za0 zbd) (N:=["_law_ways","_law_share"]) (own:=["_law_a","_law_b"]) (ix:=[1]) rfl rfl rfl ⟨rfl,by decide+kernel,by decide+kernel,by decide+kernel,by decide+kernel⟩ (zp (qpv 0)) (fun cl C fp s2 H2 xe=>⟨(zP (n:=2) rfl (zK (zk (i:=0) (show List.Nodup (["_law_a","_law_b","_law_share"]:List Str) from by decide+kernel) rfl (Or.inl rfl) (Or.inr rfl)) (zK (zk (i:=1) (show List.Nodup (["_law_a","_law_b","_law_share"]:List Str) from by decide+kernel) rfl (Or.inl rfl) (Or.inr rfl)) zM))),zC,(zq (zj (zg (zdi T) (hr.mono (by decide)) rfl T.law_point.mg T.law_point.fn.kp T.law_point.bn .nil pass0 (zt (zd za5 (qpv 0) za (fun _ _=>rfl)) za8 (zd za5 (qpv 0) za (fun _ _=>rfl)) za8 (qpv 2) za1)) zce (zg (zdi T) (hr.mono (by decide)) rfl T.law_point.mg T.law_point.fn.kp T.law_point.bn .nil pass0 (zt (zd za5 (qpv 1) za (fun _ _=>rfl)) za8 (zd za5 (qpv 1) za (fun _ _=>rfl)) za8 (qpv 2) za1)) zce))⟩))))
  ,?_⟩
 clear ze zc zw zp qpv zP zK zk zM zC zq zj zg zt zd za QE QT QW QA QS QSs QG QGs QI QO QIf
 dsimp! [L2.start]
 simp! [];refine zb3 ?_;simp! [zd1];refine⟨⟨_,.of hl⟩,fun D hD=>?_⟩;refine zb0 (xs:=ys) (zhm (fun H p w=>S2H H p (tdW wd w)) ws H D) (zdk hD) (fun i qs H' q=>.of (q.1 _ _ hl)) ?_ ?_
 ·rintro i qs H3 v hi hv iv;obtain⟨g3,hD33,lq,hq⟩:=id iv;obtain⟨p,e,rfl,he',c,d,e1,e2,e3⟩:=hw.2 i v hv;obtain⟨b1,b2⟩:=bd e (List.mem_of_getElem? he');have e1':=g3 _ _ e1;have e2':H3 c=some (.tup [.int e.1.1,.int e.1.2]):=g3 _ _ e2;have e3':H3 d=some (.tup [.int e.2.1,.int e.2.2]):=g3 _ _ e3;simp! [e1',e2'];refine⟨_,_,_,rfl,b1,w0,fun pa H4 g4 ha=>?_⟩;have e4':=g4 _ _ e3';simp! [e4'];refine⟨_,_,_,rfl,b2,w0,fun pb H5 g5 hb=>?_⟩;intro t ht;have g6:=za2 ht (HO.tup [V.ref pa,V.ref pb]);have h6:upd H5 t (HO.tup [V.ref pa,V.ref pb]) t=some (HO.tup [V.ref pa,V.ref pb]):=upd_same;generalize upd H5 t (HO.tup [V.ref pa,V.ref pb])=H6 at*;have fin:S2H H6 t (tdW wd e):=⟨pa,pb,h6,(ha.same g5).same g6,hb.same g6⟩;exact zdh (R:=fun H p w=>S2H H p (tdW wd w)) (a:=e) (fun _ _ _ _=>zfs _ _ _ _) hD (by omega) iv hi he' ((g4.trans g5).trans g6) fin
 ·rintro qs H3 ⟨g3,hD33,lq,hq⟩;rw[List.take_of_length_le (Nat.le_of_eq hw.1.symm)] at hq;exact k D qs H3 hD g3 hD33 hq.map
def wsR(r:List (Int×Int)):List E2:=(List.range 4).map fun k=>(r.getD k (0,0),r.getD ((k+1)%4) (0,0))
def rgM(f:Fr)(h:Int)(e:Int×Int):List (Int×Int):=(spR h e).map (mv f)
theorem zix(f:Fr)(h:Int)(e:Int×Int):wsR (rgM f h e)=(sdPl h e).map fun s=>(mv f s.1,mv f s.2):=rfl
theorem land_of{f:Fr}{h:Int}{ss:List (Int×Int)}{ws:List E2}(pm:ws.Perm ((ss.map (rgM f h)).flatMap wsR)):zi2 f h ss (ws.map (tdW f.w)):=by
 intro g;rw[List.mem_map]
 constructor
 ·rintro⟨e2,h2,rfl⟩;obtain⟨r,hr,h3⟩:=List.mem_flatMap.mp (pm.mem_iff.mp h2);obtain⟨e,he,rfl⟩:=List.mem_map.mp hr;refine⟨e,he,?_⟩;rw[zix] at h3;obtain⟨s,hs,rfl⟩:=List.mem_map.mp h3;rw[zdm];exact List.mem_map.mpr ⟨s,hs,rfl⟩
 ·rintro⟨e,he,hg⟩;rw[zdm] at hg;obtain⟨s,hs,rfl⟩:=List.mem_map.mp hg;refine⟨(mv f s.1,mv f s.2),pm.mem_iff.mpr (List.mem_flatMap.mpr ⟨rgM f h e,List.mem_map.mpr ⟨e,he,rfl⟩,?_⟩),rfl⟩;rw[zix];exact List.mem_map.mpr ⟨s,hs,rfl⟩
theorem zj5{h x:Int}{e y:Int×Int}{ss:List (Int×Int)}(h1:1<=h)(h9:h<=9)(sp:Spn x ss)(hx:x<=200)(he:e∈ss)(hy:y∈spR h e):Bx y:=by
 have ee:=sp.each e he;unfold spR at hy;simp only[List.mem_cons,List.not_mem_nil,or_false] at hy;rcases hy with rfl|rfl|rfl|rfl
 ·exact⟨by decide,by decide,by decide,by decide⟩
 ·exact⟨by show-300<=e.2;omega,by show e.2<=300;omega,by show 0<=h;omega,by show h<=20;omega⟩
 ·exact⟨by show(-300:Int)<=0;decide,by show(0:Int)<=300;decide,by show 0<=2*h;omega,by show 2*h<=20;omega⟩
 ·exact⟨by show-300<=e.1;omega,by show e.1<=300;omega,by show 0<=h;omega,by show h<=20;omega⟩
theorem zns{f:Fr}{h x:Int}{e:Int×Int}{ss:List (Int×Int)}(fb:FrB f)(h1:1<=h)(h9:h<=9)(sp:Spn x ss)(hx:x<=200)(he:e∈ss){y:Int×Int}(hy:y∈rgM f h e):Bd3 60 y.1 y.2 f.w:=by
 obtain⟨z,hz,rfl⟩:=List.mem_map.mp hy;exact mv_bd fb (zj5 h1 h9 sp hx he hz)
def zgz(K:PySem.W.Frag)(ts:List Addr):Sp:=fun vs H Q _=>∃(a:Addr)(ns:List Int),vs=[.ref a]/\SqL K H a (ns.map V.int)/\ns.length<=63/\(∀b,b∈ts->zc3 H b lposP qlP)/\∀H',Q (.bl true) H'
theorem zkz{H:Hp}{b:Addr}{pos:Pos}{q:Str}(h:H b=some (.tbl #[])):zc3 H b pos q:=⟨#[],h,by trivial,.inl rfl⟩
theorem znu{α β:Type}{g:α->β}{l:List α}(h:(l.map g).Nodup):l.Nodup:=by
 rw[List.nodup_iff_pairwise_ne] at h⊢;rw[List.pairwise_map] at h;exact h.imp fun n e=>n (by rw[e])
theorem zj0(l:List (List (Int×Int))):(l.flatMap wsR).length=4*l.length:=by
 induction l with
 |nil=>rfl
 |cons r l ih=>
  rw[List.flatMap_cons,List.length_append,ih,List.length_cons];show 4+4*l.length=_;omega
theorem perm_ord{α:Type}{l:List α}{p:List Nat}(z:α)(h:p.Perm (List.range l.length)):(p.map fun i=>l.getD i z).Perm l:=by
 have rg:((List.range l.length).map fun i=>l.getD i z)=l:=by
  refine List.ext_getElem (by simp) fun i h1 h2=>?_
  have hi:i<l.length:=h2
  simp[hi]
 have:=h.map fun i=>l.getD i z;rw[rg] at this;exact this
def dR(r:List Q3):PyData:=.list (r.map dQ)
theorem rd_rs{K:PySem.W.Frag}{H:Hp}:∀{zs:List V}{F:List (List Q3)},LR RgQ H zs F->RdDs K H (F.map dR) zs
 |[],[],_=>by rw[List.map_nil,RdDs]
 |[],_::_,h=>by cases h.1
 |_::_,[],h=>by cases h.1
 |v::zs,r::F,h=>by
  obtain⟨a,as',e,⟨p,rfl,us,h1,h2⟩,h3⟩:=h.cons_inv
  cases e;rw[List.map_cons,RdDs];exact⟨_,zs,rfl,rd_ql h1 h2,rd_rs h3⟩
theorem zkf{K:PySem.W.Frag}{H:Hp}{l:Addr}{zs:List V}{F:List (List Q3)}(h:H l=some (.lst zs))(hz:LR RgQ H zs F):RdD K H (.list (F.map dR)) (.ref l):=by
 rw[RdD];exact⟨l,zs,rfl,.of h,rd_rs hz⟩
theorem dR_lay(r:List Q3):(dR r).canLay0=true/\(dR r).depth<=4:=by
 obtain⟨h1,h2⟩:=dQs_lay r;unfold dR;rw[PyData.canLay0,PyData.depth];exact⟨h1,by omega⟩
theorem dRs_lay(F:List (List Q3)):PyData.canLayAll0 (F.map dR)=true/\PyData.depthAll (F.map dR)<=4:=by
 induction F with
 |nil=>exact⟨rfl,by simp[PyData.depthAll]⟩
 |cons r F ih=>
  have h:=dR_lay r;rw[List.map_cons]
  constructor
  ·rw[PyData.canLayAll0,h.1,ih.1];rfl
  ·rw[PyData.depthAll];have:=h.2;have:=ih.2;omega
theorem zcm(F:List (List Q3)):SeqAt.shaped (.list (F.map dR))=true:=by
 obtain⟨h1,h2⟩:=dRs_lay F;unfold SeqAt.shaped;rw[PyData.canLay0,h1,Bool.true_and,PyData.depth];exact decide_eq_true (by omega)
theorem zjg:∀F:List (List Q3),PyData.eqvAll (F.map dR) (F.map dR)=true
 |[]=>by simp[PyData.eqvAll]
 |r::F=>by
  rw[List.map_cons,PyData.eqvAll,zjg F];unfold dR;rw[dQs_eqv,decide_eq_true rfl];rfl
theorem zit(F:List (List Q3)):PyData.eqv (.list (F.map dR)) (.list (F.map dR))=true:=by rw[PyData.eqv,zjg]
def dN(n:Nat):PyData:=.list (List.replicate n .none)
theorem rd_ns{K:PySem.W.Frag}{H:Hp}:∀n:Nat,RdDs K H (List.replicate n PyData.none) (List.replicate n V.non)
 |0=>by rw[List.replicate_zero,List.replicate_zero,RdDs]
 |n+1=>by
  rw[List.replicate_succ,List.replicate_succ,RdDs];exact⟨_,_,rfl,by rw[RdD],rd_ns n⟩
theorem rd_nl{K:PySem.W.Frag}{H:Hp}{l:Addr}{n:Nat}(h:H l=some (.lst (List.replicate n V.non))):RdD K H (dN n) (.ref l):=by
 unfold dN;rw[RdD];exact⟨l,_,rfl,.of h,rd_ns n⟩
theorem dN_all(n:Nat):PyData.canLayAll0 (List.replicate n PyData.none)=true/\PyData.depthAll (List.replicate n PyData.none)<=1/\PyData.eqvAll (List.replicate n PyData.none) (List.replicate n PyData.none)=true:=by
 induction n with
 |zero=>simp[PyData.canLayAll0,PyData.depthAll,PyData.eqvAll]
 |succ n ih=>
  obtain⟨h1,h2,h3⟩:=ih;rw[List.replicate_succ];refine⟨?_,?_,?_⟩
  ·simp[PyData.canLayAll0,PyData.canLay0,h1]
  ·simp only[PyData.depthAll,PyData.depth];omega
  ·simp[PyData.eqvAll,PyData.eqv,h3]
theorem zh4(n:Nat):SeqAt.shaped (dN n)=true:=by
 obtain⟨h1,h2,_⟩:=dN_all n;unfold SeqAt.shaped dN;rw[PyData.canLay0,h1,Bool.true_and,PyData.depth];exact decide_eq_true (by omega)
theorem dN_eqv(n:Nat):PyData.eqv (dN n) (dN n)=true:=by
 unfold dN;rw[PyData.eqv];exact(dN_all n).2.2
theorem zjr{tb:Addr}{pos:Pos}{q:Str}{H H':Hp}{ys:List V}{rs:List (List Q3)}(h:LR RgQ H ys rs)(st:zbb tb H H')(lt:zc3 H tb pos q):LR RgQ H' ys rs:=h.imp fun p r⟨us,h1,h2⟩=>⟨us,st.lst lt h1,h2.ts zct fun b xs z=>st.tup lt z⟩
def t0:List Q3:=[⟨0,0,1⟩,⟨2,1,1⟩,⟨1,3,1⟩]
def tl:List (Q3×Q3):=[(⟨0,0,1⟩,⟨2,1,1⟩),(⟨1,3,1⟩,⟨0,0,1⟩),(⟨2,1,1⟩,⟨1,3,1⟩)]
theorem cyc_t:Cyc tl [t0]:=by
 have red:∀i j,nx t0 (i+j)=nx t0 (i%3+j):=fun i j=>by
  rw[←zfc,←zfc t0 (i%3+j),show t0.length=3 from rfl,Nat.mod_add_mod]
 have red0:∀i,nx t0 i=nx t0 (i%3):=fun i=>red i 0;refine⟨fun r hr=>?_,fun e he=>⟨t0,by simp,?_⟩,fun r r' e hr hr' _ _=>by rw[List.mem_singleton.mp hr,List.mem_singleton.mp hr']⟩
 ·rw[List.mem_singleton.mp hr];refine⟨by decide,by decide,by decide,fun i=>?_,fun i=>?_⟩
  ·rw[red i 1,red0 i,red i 2];rcases(by omega:i%3=0∨i%3=1∨i%3=2) with z|z|z<;>rw[z]<;>decide
  ·rw[red i 1,red0 i];rcases(by omega:i%3=0∨i%3=1∨i%3=2) with z|z|z<;>rw[z]<;>decide
 ·unfold tl at he;simp only[List.mem_cons,List.not_mem_nil,or_false] at he;rcases he with rfl|rfl|rfl<;>decide
theorem one_t{g:Int}{os:List (List Q3)}(og:∀r,r∈os->∀p,p∈r->PQ 700 p/\p.w<=g)(oo:OrdR g os)(om:∀q,q∈os↔∃r,r∈[t0]/\zca q r):os.length=1:=by
 have c0:zca t0 t0:=⟨0,by decide,rfl,by decide⟩
 have m0:=(om t0).mpr ⟨t0,by simp,c0⟩
 have al:∀q,q∈os->q=t0:=fun q hq=>by
  obtain⟨r,hr,hc⟩:=(om q).mp hq;rw[List.mem_singleton.mp hr] at hc;exact hc.uniq (by decide) (fun x hx=>(og t0 m0 x hx).1) c0
 match os,m0,al,oo with
 |[a],_,_,_=>rfl
 |a::b::os,_,al,oo=>
  exfalso
  have:=(List.pairwise_cons.mp oo).1 b (by simp)
  rw[al a (by simp),al b (by simp),zfk] at this
  cases this
theorem znm{f:Fr}{h x:Int}{ss:List (Int×Int)}{ls:List (Q3×Q3)}{ds:List (List (Int×Int))}(hw:0<f.w)(hd:0<fd2 f)(sp:Spn x ss)(C:Cyc ls (ss.map (zal f h)))(ld:ds.length=ss.length)(due:∀(j:Nat) d r,ds[j]?=some d->(ss.map (rgM f h))[j]?=some r->zic d r):ds.Nodup:=by
 rw[List.nodup_iff_pairwise_ne,List.pairwise_iff_getElem];intro i j hi hj hij e;have at_:∀n(hn:n<ds.length),zca ((ds[n]'hn).map (ptP f.w)) (zal f h (ss[n]'(by omega))):=fun n hn=>zil hw (due n _ (rgM f h (ss[n]'(by omega))) (List.getElem?_eq_getElem hn) (by rw[List.getElem?_map,List.getElem?_eq_getElem (by omega)];rfl))
 have c1:=at_ i hi;have c2:=at_ j hj;rw[e] at c1;have s0:=ze3 (r:=zal f h (ss[i]'(by omega))) (by show 0<4;decide) 0
 have s1:=c2.sds.mp (c1.sds.mpr s0);have eq:=C.ap _ _ _ (List.mem_map.mpr ⟨_,List.getElem_mem _,rfl⟩) (List.mem_map.mpr ⟨_,List.getElem_mem _,rfl⟩) s0 s1;have e2:=congrArg (fun r=>nx r 1) eq;have e3:PF f ((ss[i]'(by omega)).2,h)=PF f ((ss[j]'(by omega)).2,h):=e2
 have e4:=(Prod.mk.inj (zhz hw hd e3)).1;have r1:=List.pairwise_iff_getElem.mp sp.row i j (by omega) (by omega) hij
 have r2:=sp.each _ (List.getElem_mem (by omega:j<ss.length))
 omega
def LawI(H3:Hp)(a0 M S U:Addr)(Rs:List (List (Int×Int)))(i:Nat)(σ:St)(H':Hp):Prop:=∃(W:Addr)(ws us:List V)(ds:List (List (Int×Int)))(o1 o2:Option V),σ=[some (V.ref a0),some (V.ref M),some (V.ref S),some (V.ref W),some (V.ref U),o1,o2,none,none,none]/\Same H3 H'/\W≠U/\H' W=some (.lst ws)/\LR WyH H' ws ((Rs.take i).flatMap wsR)/\H' U=some (.lst us)/\LR (RgPN U) H' us ds/\ds.length=i/\∀(j:Nat) d r,ds[j]?=some d->Rs[j]?=some r->zic d r
def compIn(st:Stmt)(i:Nat):Scope:=match(za3 st).getD i (.Pass ⟨0,0,0,0⟩) with
 |.Assign _ (.ListComp _ _ sc _) _=>{sc with names:=sc.names.map fun(n,k)=>if(k==NameKind.free&&(za0 st).kind==.function&&(za0 st).names.lookup n==some .cell) then(n,NameKind.cell) else(n,k)}
 |_=>za0 st
theorem ok_law(T:Txt K mg ad fd)(hK:K.In base)(hB:base.BuiltinsAt mg (ad 33)):FnOk P w K mg base CX0 8 (ad 31) (fd 31) ["_law_script"] (zgz K [(ad 33)]):=by
 refine T.law.fn.ok zdd (fun vs H Q E h=>?_) (fun cdv A outer s H vs Q E hr h=>?_)
 ·obtain⟨a,ns,rfl,_⟩:=h;rfl
 obtain⟨a0,ns,rfl,hS,hlen,lts,k⟩:=h;have lt:=lts _ (List.mem_singleton.mpr rfl);clear lts;have yK:=@pss11;have zf:=@zbu;have zg:=@zaz;have zh:=@pa1;have qpv:=@pv;have zV:=@zmq;unfold L2.CompBody at zV;have zp:=@zc4;have zk:=@zbz;have zC:=@zew;have zw:=@ze8;unfold L2.CompBody at zw;have ya:=@zjd;have zj:=@pa2;have zv:=@zes;have zB:=@zd3;have zr:=@zde;have zx:=@pss3;have zy:=@zhj;have zu:=@zch;have zA:=@zdj;have zb:=@zd9;have zH:=@zei;have zI:=@zfp;have zJ:=@zg0;have zO:=@zef;have za:=@zbg;have zq:=@ze1;have zd:=@zdy;have zP:=@zgl;have zK:=@zeg;have zM:=@zfu;have zt:=@pa3;have zm:=@ze6;have zU:=@PW.pt;have zY:=@pw_or;have zo:=@zbp;have ye:=@pw_or1;have yh:=@pe_non;have ze:=@zac;have zc:=@zaq;have zQ:=@pe_bl;have zn:=@zbq;have zX:=@pe_and;have zF:=@zf2;have yd:=@pe_one;generalize @L2.PE=QE,@L2.PT=QT,@L2.PW=QW,@L2.PA=QA,@L2.PS=QS,@L2.PSs=QSs,@L2.PG=QG,@L2.PGs=QGs,@L2.PI=QI,@L2.PO=QO,@L2.PIf=QIf at yK zf zg zh qpv zV zp zk zC zw ya zj zv zB zr zx zy zu zA zb zH zI zJ zO za zq zd zP zK zM zt zm zU zY zo ye yh ze zc zQ zn zX zF yd⊢;refine⟨_,
  (yK
   (zf (i:=1) zdd.nd rfl (Or.inr rfl) (zg (zi6 T) (hr.mono (by decide)) rfl T.law_frame.mg T.law_frame.fn.kp T.law_frame.bn .nil pass0 (zh (qpv 0) za1)))
   (zV (i:=2) zdd.nd rfl (Or.inl rfl) (dsc:=za0 zdn) (N:=["_law_script","_law_frame_here","_law_some","_law_ways","_law_due","_law_ring","_law_at","_law_land","_law_found","_law_other"]) (own:=["_law_ring"]) (ix:=[1]) rfl rfl rfl ⟨rfl,by decide+kernel,by decide+kernel,by decide+kernel,by decide+kernel⟩ (zp (zg (zfv T) (hr.mono (by decide)) rfl T.law_spindles.mg T.law_spindles.fn.kp T.law_spindles.bn .nil pass0 (zh (qpv 0) za1))) (fun cl C fp s2 H2 xe=>⟨(zk (i:=0) (show List.Nodup (["_law_ring","_law_frame_here"]:List Str) from by decide+kernel) rfl (Or.inl rfl)),zC,(zw (dsc:=(compIn zdn 1)) (N:=["_law_ring","_law_frame_here"]) (own:=["_law_place"]) (ix:=[1]) rfl (by rfl) rfl ⟨rfl,by decide+kernel,by decide+kernel,by decide+kernel,by decide+kernel⟩ (ya (K':=K) rfl (qpv 0)) (fun cl C fp s2 H2 xe=>⟨(zk (i:=0) (show List.Nodup (["_law_place","_law_frame_here"]:List Str) from by decide+kernel) rfl (Or.inl rfl)),zC,(zg (zht T) (hr.mono (by decide)) rfl T.law_moved.mg T.law_moved.fn.kp T.law_moved.bn .nil pass0 (zj (qpv 0) za1 (qpv 1) za1))⟩))⟩))
   (zf (i:=3) zdd.nd rfl (Or.inl rfl) (zv zB))
   (zf (i:=4) zdd.nd rfl (Or.inl rfl) (zv zB))
   (zr PassesOwn.never rfl (zp (qpv 2)) (zk (i:=5) zdd.nd rfl (Or.inr rfl)) (zx
   (zf (i:=6) zdd.nd rfl (Or.inl rfl) (zy PySem.F.plainAttrs_list PySem.F.slot_list_index PySem.F.type_list_index (mt_index (hu100 hr)) (qpv 5) (zh (zu (zl9 rfl (hu100 hr)) rfl T.b_min bt_min (zh (qpv 5) za1)) zce)))
   (zA (zy PySem.F.plainAttrs_list PySem.F.slot_list_append PySem.F.type_list_append zbn (qpv 4) (zh (zb zjb (zH zc6 (qpv 5) (zI (qpv 6)) zJ) (zH zc6 (qpv 5) zJ (zI (qpv 6)))) zad)))
   (zf (i:=3) zdd.nd rfl (Or.inl rfl) (zb zjb (qpv 3) (zw (dsc:=za0 zdn) (N:=["_law_script","_law_frame_here","_law_some","_law_ways","_law_due","_law_ring","_law_at","_law_land","_law_found","_law_other"]) (own:=["_law_k"]) (ix:=[5]) rfl rfl rfl ⟨rfl,by decide+kernel,by decide+kernel,by decide+kernel,by decide+kernel⟩ (zO rfl T.b_range (zh za za6)) (fun cl C fp s2 H2 xe=>⟨(zk (i:=0) (show List.Nodup (["_law_k","_law_ring"]:List Str) from by decide+kernel) rfl (Or.inl rfl)),zC,(zq (zj (zd zat (qpv 1) (qpv 0) (fun _ _=>rfl)) za8 (zd zat (qpv 1) (zb zc9 (zb zbf (qpv 0) za) za) (fun _ _=>rfl)) za8))⟩))))))
   (zV (i:=4) zdd.nd rfl (Or.inl rfl) (dsc:=za0 zdn) (N:=["_law_script","_law_frame_here","_law_some","_law_ways","_law_due","_law_ring","_law_at","_law_land","_law_found","_law_other"]) (own:=["_law_ring"]) (ix:=[1]) rfl rfl rfl ⟨rfl,by decide+kernel,by decide+kernel,by decide+kernel,by decide+kernel⟩ (zp (zu (zk4 (hu100 hr)) rfl T.b_sorted zfx (zh (qpv 4) za1))) (fun cl C fp s2 H2 xe=>⟨(zk (i:=0) (show List.Nodup (["_law_ring","_law_frame_here"]:List Str) from by decide+kernel) rfl (Or.inl rfl)),zC,(zw (dsc:=(compIn zdn 5)) (N:=["_law_ring","_law_frame_here"]) (own:=["_law_x","_law_y"]) (ix:=[1]) rfl (by rfl) rfl ⟨rfl,by decide+kernel,by decide+kernel,by decide+kernel,by decide+kernel⟩ (ya (K':=K) rfl (qpv 0)) (fun cl C fp s2 H2 xe=>⟨(zP (n:=2) rfl (zK (zk (i:=0) (show List.Nodup (["_law_x","_law_y","_law_frame_here"]:List Str) from by decide+kernel) rfl (Or.inl rfl) (Or.inr rfl)) (zK (zk (i:=1) (show List.Nodup (["_law_x","_law_y","_law_frame_here"]:List Str) from by decide+kernel) rfl (Or.inl rfl) (Or.inr rfl)) zM))),zC,(zg (zdi T) (hr.mono (by decide)) rfl T.law_point.mg T.law_point.fn.kp T.law_point.bn .nil pass0 (zt (qpv 0) za1 (qpv 1) za1 (zd zat (qpv 2) za (fun _ _=>rfl)) za8))⟩))⟩))
   (zf (i:=7) zdd.nd rfl (Or.inl rfl) (zg (zii T) (hr.mono (by decide)) rfl T.law_told.mg T.law_told.fn.kp T.law_told.bn .nil pass0 (zj (zu (ziq (hu100 hr)) rfl T.b_sorted zfx (zh (qpv 3) za1)) zce (zd zat (qpv 1) za (fun _ _=>rfl)) za8)))
   (zf (i:=8) zdd.nd rfl (Or.inl rfl) (zg (ze9 T hK hB) (hr.mono (by decide)) rfl T.rings_of.mg T.rings_of.fn.kp T.rings_of.bn .nil pass0 (zh (qpv 7) za1)))
   (zm (zU (zY (zo (zl6 (hu64 hr)) (qpv 8) (qpv 4) (nomark _)) (ye (zo (zl6 (hu64 hr)) (zg (ok_nest T) (hr.mono (by decide)) rfl T.nest.mg T.nest.fn.kp T.nest.bn .nil pass0 (zh (qpv 8) za1)) (zb op_mulL (zv (zh yh za6)) (zu zd7 rfl T.b_len zed (zh (qpv 4) za1))) (nomark _))))) (ze (zc zQ)) zn)
   (zf (i:=9) zdd.nd rfl (Or.inl rfl) (zg (ze9 T hK hB) (hr.mono (by decide)) rfl T.rings_of.mg T.rings_of.fn.kp T.rings_of.bn .nil pass0 (zh (zv (zt (zq (zj (zq (zt za za6 za za6 za za6)) zbo (zq (zt za za6 za za6 za za6)) zbo)) zbo (zq (zj (zq (zt za za6 za za6 za za6)) zbo (zq (zt za za6 za za6 za za6)) zbo)) zbo (zq (zj (zq (zt za za6 za za6 za za6)) zbo (zq (zt za za6 za za6 za za6)) zbo)) zbo)) zib)))
   (zc (zX (zF znt (zu zd7 rfl T.b_len zed (zh (qpv 9) za1)) za (nomark _)) (zX (zF (zk1 (hu64 hr)) (qpv 8) (qpv 4) (nomark _)) (yd (zF (zk1 (hu64 hr)) (zg (ze9 T hK hB) (hr.mono (by decide)) rfl T.rings_of.mg T.rings_of.fn.kp T.rings_of.bn .nil pass0 (zh (qpv 7) za1)) (qpv 4) (nomark _)))))))
  ,?_⟩
 clear yK zf zg zh qpv zV zp zk zC zw ya zj zv zB zr zx zy zu zA zb zH zI zJ zO za zq zd zP zK zM zt zm zU zY zo ye yh ze zc zQ zn zX zF yd QE QT QW QA QS QSs QG QGs QI QO QIf
 dsimp! [L2.start]
 simp! [];refine⟨a0,ns,rfl,hS,fun M f H1 hM g1 hf=>?_⟩;refine zb3 ?_;simp! [zd1];refine⟨a0,ns,rfl,g1.seq hS,fun R ys h ss H2 hR g2 hR2 hy h1 h9 sp n1 n9=>?_⟩;have hf2:=hf.same g2;have ly:=hy.1;rw[List.length_map] at ly;refine⟨R,rfl,⟨_,.of hR2⟩,fun S hSn=>?_⟩;refine zb0 (xs:=ys) (fun i us H'=>Same H2 H'/\H' S=some (.lst us)/\us.length=i/\LR (RgPN S) H' us ((ss.take i).map (rgM f h))) ⟨za2 hSn _,upd_same,rfl,by rw[List.take_zero];exact .nil⟩ (fun i us H' iv=>.of (iv.1 _ _ hR2)) ?_ ?_
 ·rintro i us H3 v hi hv ⟨g3,hS3,lu,hu⟩;obtain⟨p,r,rfl,hr',zs,hp,hz⟩:=hy.2 i v hv;rw[List.getElem?_map] at hr';obtain⟨e,he',rfl⟩:=Option.map_eq_some_iff.mp hr';have he:=List.mem_of_getElem? he';simp! [];refine zb3 ?_;simp! [zd1];refine⟨⟨_,.of (g3 _ _ hp)⟩,fun D hD=>?_⟩;refine zb0 (xs:=zs) (zhm (fun H p x=>P2H H p (mv f x)) (spR h e) H3 D) (zdk hD) (fun n qs H' z=>.of (z.1 _ _ (g3 _ _ hp))) ?_ ?_
  ·rintro n qs H4 v hn hv4 iv;obtain⟨g4,hD4,lq,hq⟩:=id iv;obtain⟨b,y,rfl,hy',hb⟩:=hz.2 n v hv4;have lz:=hz.1;have l4:(spR h e).length=4:=rfl;simp! [];refine⟨b,M,y,f,rfl,g4 _ _ (g3 _ _ hb),hf2.same (g3.trans g4),zj5 h1 h9 sp (by omega) he (List.mem_of_getElem? hy'),fun m H5 g5 hm=>?_⟩
   exact zdh (R:=fun H p x=>P2H H p (mv f x)) (a:=y) (fun _ _ _ _=>zdz _ _ _ _) hD (by omega) iv hn hy' g5 hm
  ·rintro qs H4 ⟨g4,hD4,lq,hq⟩;rw[List.take_of_length_le (Nat.le_of_eq hz.1.symm)] at hq;have hS4:=g4 _ _ hS3;have nD:D≠S:=fun z=>by rw[z,hS3] at hD;cases hD
   refine cw_put hi hS4 (small1000 (by omega)) ⟨zao (g3.trans g4) hSn,upd_same,by rw[List.length_append,lu];rfl,?_⟩
   rw[List.take_add_one,he',List.map_append];exact zio ((zfh hu g4).snoc (R:=RgPN S) (a:=rgM f h e) ⟨nD,qs,hD4,hq.map⟩) hS4 _
 rintro us H3 ⟨g3,hS3,lu,hu⟩;rw[List.take_of_length_le (by omega)] at hu
 have g03:=(g1.trans g2).trans g3;have hf3:=hf2.same g3;have lt3:=lt.same g03;clear hf2 hf hR2 hy hR;intro W hW;have gW:=za2 hW (HO.lst []);have hW4:upd H3 W (HO.lst []) W=some (.lst []):=upd_same;generalize upd H3 W (HO.lst [])=H4 at*;intro U hU;have gU:=za2 hU (HO.lst []);have hU5:upd H4 U (HO.lst []) U=some (.lst []):=upd_same;have nWU:W≠U:=zag hW4 hU;have hU3:H3 U=none:=gW.free hU;have hW5:=gU _ _ hW4;have g35:=gW.trans gU;generalize upd H4 U (HO.lst [])=H5 at*;refine zcf ?_;simp! [zd1];refine⟨⟨_,.of (g35 _ _ hS3)⟩,?_⟩;have lu9:us.length<=9:=by omega
 obtain⟨xf,hxf,f0,f1,f2,f3,f4,f5,f6,fb⟩:=hf3;have hw:0<f.w:=by have:=fb.2.2.2.2.2.2.1;omega
 have hd:0<fd2 f:=by have:=fb.2.2.2.2.2.2.2.2;unfold fd2;omega
 have lo:zi2 f h ss (ss.flatMap fun e=>sds (zal f h e)):=fun g=>by rw[List.mem_flatMap]
 have cy:=cyc_of hw hd h1 sp lo;have nd4:∀e,e∈ss->(zal f h e).Nodup:=fun e he=>(cy.ring _ (List.mem_map.mpr ⟨e,he,rfl⟩)).nd;have ndM:∀e,e∈ss->(rgM f h e).Nodup:=fun e he=>by
  have:=nd4 e he;rw[←zhg] at this;exact znu this
 refine zc8 (K:=K) (a:=S) (xs:=us) (LawI H3 a0 M S U (ss.map (rgM f h))) ⟨W,[],[],[],none,none,rfl,g35,nWU,hW5,by rw[List.take_zero];exact .nil,hU5,.nil,rfl,fun j d r z=>(by cases z)⟩ (fun i σ H' _ iv=>.of (by obtain⟨_,_,_,_,_,_,_,g,_⟩:=iv;exact g _ _ hS3)) ?_ ?_
 ·intro _ _;rintro i v σ H6 hi ⟨W6,ws,vs,ds,o1,o2,rfl,g6,nW6,hW6,hws,hU6,hvs,lds,due⟩;obtain⟨p,r,rfl,hr',_,zs,hp,hz⟩:=hu.2 i v hi;have hr0:=hr';rw[List.getElem?_map] at hr';obtain⟨e,he',rfl⟩:=Option.map_eq_some_iff.mp hr';have he:=List.mem_of_getElem? he';have hi':=(List.getElem?_eq_some_iff.mp hi).1;have l4:(rgM f h e).length=4:=rfl;have lz:zs.length=4:=hz.1;have hp6:=g6 _ _ hp;have hz6:=hz.ts zdz (zae g6);have ls6:=zn3 hp6 hz6;simp! [];refine⟨zdp hp6,V.ref p,_,rfl,ls6,by rw[l4];decide,fun b j kk hj hb hmin=>?_⟩
  have hj4:j<4:=by have:=(List.getElem?_eq_some_iff.mp hj).1;rw[l4] at this;exact this
  refine⟨b,kk,_,j,rfl,ls6,hb,hj,fun m hm hk=>?_,?_⟩
  ·have:=(List.getElem?_inj (by rw[l4];omega) (ndM e he)).mp (hk.trans hj.symm)
   omega
  have c1:cutV zs (some (j:Int)) none=zs.drop j:=zj3 (by omega)
  have c2:cutV zs none (some (j:Int))=zs.take j:=cut_to (by omega)
  simp! [hp6,c1];refine⟨zdp hU6,fun q1 hq1=>?_⟩;have g7:=za2 hq1 (HO.lst (zs.drop j));have h71:upd H6 q1 (HO.lst (zs.drop j)) q1=some (HO.lst (zs.drop j)):=upd_same;have hp7:=g7 _ _ hp6;generalize upd H6 q1 (HO.lst (zs.drop j))=H7 at*;simp! [hp7,c2];intro q2 hq2;have g8:=za2 hq2 (HO.lst (zs.take j));have h82:upd H7 q2 (HO.lst (zs.take j)) q2=some (HO.lst (zs.take j)):=upd_same;have h81:=g8 _ _ h71;generalize upd H7 q2 (HO.lst (zs.take j))=H8 at*;refine⟨q1,q2,_,_,rfl,rfl,h81,h82,Nat.le_of_lt (small1000 (by rw[List.length_drop,List.length_take];omega)),fun q3 hq3=>?_⟩
  have g9:=za2 hq3 (HO.lst (zs.drop j++zs.take j));have h93:upd H8 q3 (HO.lst (zs.drop j++zs.take j)) q3=some (HO.lst (zs.drop j++zs.take j)):=upd_same;have g69:=g7.trans (g8.trans g9);have hU8:=g8 _ _ (g7 _ _ hU6);generalize upd H8 q3 (HO.lst (zs.drop j++zs.take j))=H9 at*;have hU9:=g69 _ _ hU6;have n3U:q3≠U:=fun z=>by rw[z,hU8] at hq3;cases hq3
  have d9:RgPN U H9 q3 (rot (rgM f h e) j):=⟨n3U,_,h93,(((hz6.drop j).app (hz6.take j)).ts zdz (zae g69))⟩;have lv:=hvs.1;refine⟨vs,hU9,small1000 (by omega),?_⟩
  have hvA:=zio ((zfh hvs g69).snoc d9) hU9 (HO.lst (vs++[V.ref q3]));have hUA:upd H9 U (HO.lst (vs++[V.ref q3])) U=some (HO.lst (vs++[V.ref q3])):=upd_same;have tA:=zcg (o:=HO.lst (vs++[V.ref q3])) hU9;have npU:p≠U:=fun z=>by rw[z,hU3] at hp;cases hp
  have hpA:=zdq (o:=HO.lst (vs++[V.ref q3])) (u:=.lst []) npU (g69 _ _ hp6);have hWA:=zdq (o:=HO.lst (vs++[V.ref q3])) (u:=.lst []) nW6 (g69 _ _ hW6);have hzA:=(hz6.ts zdz (zae g69)).ts zdz tA;have hwA:=(hws.ts zi9 (zae g69)).ts zi9 tA;have g3A:Same H3 (upd H9 U (HO.lst (vs++[V.ref q3]))):=zao (g6.trans g69) hU3;generalize upd H9 U (HO.lst (vs++[V.ref q3]))=HA at*;refine zb3 ?_;simp! [zkd];refine⟨by decide,by decide,fun D hD=>?_⟩
  refine zgd (n:=4) (fun n qs H'=>Same HA H'/\H' D=some (.lst qs)/\qs.length=n/\LR WyH H' qs ((wsR (rgM f h e)).take n)) ⟨za2 hD _,upd_same,rfl,by rw[List.take_zero];exact .nil⟩ ?_ ?_
  ·rintro n qs HB hn ⟨gB,hDB,lq,hq⟩;have hpB:=gB _ _ hpA;obtain⟨pa,xa,ea,fa,ra⟩:=hzA.at (j:=n) (by omega)
   obtain⟨pb,xb,eb,fb',rb⟩:=hzA.at (j:=(n+1)%4) (by have:=Nat.mod_lt (n+1) (show 4>0 by decide);omega)
   have aa:atI zs (n:Int)=some (V.ref pa):=zcq ea;have ab:atI zs (((n:Int)+1)%4)=some (V.ref pb):=by
    have:((n:Int)+1)%4=(((n+1)%4:Nat):Int):=by omega
    rw[this];exact zcq eb
   simp! [Int.zero_add,hpB,aa,ab];refine⟨by decide,fun t ht=>?_⟩
   have gC:=za2 ht (HO.tup [V.ref pa,V.ref pb]);have hC:upd HB t (HO.tup [V.ref pa,V.ref pb]) t=some (HO.tup [V.ref pa,V.ref pb]):=upd_same;generalize upd HB t (HO.tup [V.ref pa,V.ref pb])=HC at*;have gAC:=gB.trans gC;have hDC:=gC _ _ hDB;have ew:(wsR (rgM f h e))[n]?=some (xa,xb):=by
    unfold wsR;rw[List.getElem?_map,List.getElem?_range hn];show some ((rgM f h e).getD n (0,0),(rgM f h e).getD ((n+1)%4) (0,0))=_;rw[List.getD_eq_getElem?_getD,fa,List.getD_eq_getElem?_getD,fb'];rfl
   refine cw_put hn hDC (small1000 (by omega)) ⟨zao gAC hD,upd_same,by rw[List.length_append,lq];rfl,?_⟩
   rw[List.take_add_one,ew];exact((hq.ts zi9 (zae gC)).snoc (a:=(xa,xb)) ⟨pa,pb,hC,zdz _ _ _ _ (zae gAC) ra,zdz _ _ _ _ (zae gAC) rb⟩).ts zi9 (zcg hDC)
  ·rintro qs HB ⟨gB,hDB,lq,hq⟩;rw[List.take_of_length_le (by show 4<=4;decide)] at hq
   have hWB:=gB _ _ hWA;have hUB:=gB _ _ hUA;have lw:=hws.1;rw[zj0,List.length_take] at lw;refine⟨W6,D,_,_,rfl,rfl,hWB,hDB,Nat.le_of_lt (small1000 (by omega)),fun W' hW'=>?_⟩
   have gC:=za2 hW' (HO.lst (ws++qs));have hWC:upd HB W' (HO.lst (ws++qs)) W'=some (HO.lst (ws++qs)):=upd_same;have hUC:=gC _ _ hUB;generalize upd HB W' (HO.lst (ws++qs))=HC at*;have gAC:=gB.trans gC;refine⟨W',ws++qs,vs++[V.ref q3],ds++[rot (rgM f h e) j],_,_,rfl,g3A.trans gAC,(fun z=>by rw[z,hUB] at hW';cases hW'),hWC,?_,hUC,zfh hvA gAC,by rw[List.length_append,lds];rfl,fun m d r h1' h2'=>?_⟩
   ·rw[List.take_add_one,hr0,List.flatMap_append];show LR WyH HC (ws++qs) (_++(wsR (rgM f h e)++[]));rw[List.append_nil];exact(hwA.ts zi9 (zae gAC)).app (hq.ts zi9 (zae gC))
   ·by_cases c:m<ds.length
    ·rw[List.getElem?_append_left c] at h1';exact due m d r h1' h2'
    ·rw[List.getElem?_append_right (by omega)] at h1'
     have em:m=i:=by
      have:=(List.getElem?_eq_some_iff.mp h1').1;simp only[List.length_cons,List.length_nil] at this;omega
     subst em;rw[lds,Nat.sub_self] at h1'
     cases h1';rw[hr0] at h2'
     cases h2';refine⟨j,by rw[l4];exact hj4,rfl,fun x hx=>?_⟩
     rw[List.getD_eq_getElem?_getD,hj];exact hmin x hx
 ·rintro σ H6 ⟨W6,ws,vs,ds,o1,o2,rfl,g6,nW6,hW6,hws,hU6,hvs,lds,due⟩;have lRs:(ss.map (rgM f h)).length=us.length:=hu.1.symm;rw[List.take_of_length_le (by omega)] at hws
  have lds':ds.length=ss.length:=by rw[lds,←lRs,List.length_map]
  have dnd:=znm hw hd sp cy lds' due;simp! [];refine zb3 ?_;simp! [zd1];have lv:=hvs.1;refine⟨U,vs,fun i=>ds.getD i [],rfl,hU6,by omega,fun i hi=>?_,fun D1 pp hD1 or ep=>?_⟩
  ·obtain⟨p,d,e1,e2,_,zs,h1',h2'⟩:=hvs.at hi;show LsI H6 (vs.getD i .non) (ds.getD i []);rw[List.getD_eq_getElem?_getD,e1,List.getD_eq_getElem?_getD,e2];exact zn3 h1' h2'
  rw[lv] at or ep;obtain⟨dpm,dpw⟩:=zi8 stoL id [] (by rw[List.map_id];exact dnd) or ep
  have hv6:=zmp [] hvs or;have gD1:=za2 hD1 (HO.lst (pp.toList.map fun i=>vs.getD i .non));have hD17:upd H6 D1 (HO.lst (pp.toList.map fun i=>vs.getD i .non)) D1=some (HO.lst (pp.toList.map fun i=>vs.getD i .non)):=upd_same;have hv7:LR RgP (upd H6 D1 (HO.lst (pp.toList.map fun i=>vs.getD i .non))) (pp.toList.map fun i=>vs.getD i .non) (pp.toList.map fun i=>ds.getD i []):=hv6.imp fun p r t=>t.2.same gD1;generalize upd H6 D1 (HO.lst (pp.toList.map fun i=>vs.getD i .non))=H7 at*;generalize (pp.toList.map fun i=>vs.getD i .non)=v7 at*;generalize (pp.toList.map fun i=>ds.getD i [])=d7 at*;have l7:=hv7.1;have l7':=dpm.length_eq;have dmem:∀d,d∈d7->∃e,e∈ss/\zic d (rgM f h e):=fun d hd'=>by
   obtain⟨j,hj⟩:=List.mem_iff_getElem?.mp (dpm.mem_iff.mp hd');have hj':j<ss.length:=by rw[←lds'];exact(List.getElem?_eq_some_iff.mp hj).1
   exact⟨ss[j],List.getElem_mem _,due j d _ hj (by rw[List.getElem?_map,List.getElem?_eq_getElem hj'];rfl)⟩
  have g37:=g6.trans gD1;have hxf7:=g37 _ _ hxf;refine⟨D1,rfl,⟨_,.of hD17⟩,fun V0 hV0=>?_⟩;refine zb0 (xs:=v7) (fun i qs H'=>Same H7 H'/\H' V0=some (.lst qs)/\qs.length=i/\LR (RgN V0) H' qs ((d7.take i).map fun d=>d.map (ptP f.w))) ⟨za2 hV0 _,upd_same,rfl,by rw[List.take_zero];exact .nil⟩ (fun i qs H' iv=>.of (iv.1 _ _ hD17)) ?_ ?_
  ·rintro i qs H8 v hi hv ⟨g8,hV8,lq,hq⟩;obtain⟨p,d,rfl,hd',zs,hp,hz⟩:=hv7.2 i v hv;obtain⟨e,he,hdu⟩:=dmem d (List.mem_of_getElem? hd');have hp8:=g8 _ _ hp;have ld4:d.length=4:=by obtain⟨j,hj,rfl,_⟩:=hdu;rw[zbe];rfl
   have lz:=hz.1;simp! [];refine zb3 ?_;simp! [zd1];refine⟨⟨_,.of hp8⟩,fun D hD=>?_⟩;refine zb0 (xs:=zs) (zhm (fun H p k=>QH H p (ptP f.w k)) d H8 D) (zdk hD) (fun n qs H' z=>.of (z.1 _ _ hp8)) ?_ ?_
   ·rintro n rs H9 v hn hv9 iv;obtain⟨g9,hD9,lr,hrs⟩:=id iv;obtain⟨b,y,rfl,hy',hb⟩:=hz.2 n v hv9;have hb9:H9 b=some (.tup [.int y.1,.int y.2]):=g9 _ _ (g8 _ _ hb);have hx9:=g9 _ _ (g8 _ _ hxf7);have ym:y∈rgM f h e:=by
     obtain⟨j,hj,rfl,_⟩:=hdu;exact zgj.mp (List.mem_of_getElem? hy')
    simp! [hb9,hx9,f6];refine⟨_,_,_,rfl,zns fb h1 h9 sp (Int.le_refl _) he ym,hw,fun pa Ha ga ha=>?_⟩;exact zdh (R:=fun H p k=>QH H p (ptP f.w k)) (a:=y) (fun _ _ _ _=>zct _ _ _ _) hD (by omega) iv hn hy' ga ha
   ·rintro rs H9 ⟨g9,hD9,lr,hrs⟩;rw[List.take_of_length_le (Nat.le_of_eq hz.1.symm)] at hrs;have hV9:=g9 _ _ hV8;have nD:D≠V0:=fun z=>by rw[z,hV8] at hD;cases hD
    refine cw_put hi hV9 (small1000 (by omega)) ⟨zao (g8.trans g9) hV0,upd_same,by rw[List.length_append,lq];rfl,?_⟩
    rw[List.take_add_one,hd',List.map_append];exact ziy ((zjp hq g9).snoc (R:=RgN V0) (a:=d.map (ptP f.w)) ⟨nD,rs,hD9,hrs.map⟩) hV9 _
  rintro dus H8 ⟨g8,hV8,ldu,hdu0⟩;rw[List.take_of_length_le (Nat.le_of_eq hv7.1.symm)] at hdu0;have hdu:LR RgQ H8 dus (d7.map fun d=>d.map (ptP f.w)):=hdu0.imp fun p r t=>t.2;clear hdu0;have lws:=hws.1;rw[zj0,List.length_map] at lws;have g68:=gD1.trans g8;refine⟨W6,ws,rfl,g68 _ _ hW6,by omega,fun v hv=>?_,fun D2 p2 hD2 or2=>?_⟩
  ·obtain⟨j,hj⟩:=List.mem_iff_getElem?.mp hv;obtain⟨p,e,rfl,_,c,d,e1,e2,e3⟩:=hws.2 j v hj;exact⟨p,c,d,_,_,_,_,rfl,g68 _ _ e1,g68 _ _ e2,g68 _ _ e3⟩
  rw[hws.1] at or2;have hw2:=zmp ((0,0),(0,0)) hws or2;have pm2:=perm_ord ((0,0),(0,0)) or2;have g9:=za2 hD2 (HO.lst (p2.map fun i=>ws.getD i .non));have hD29:upd H8 D2 (HO.lst (p2.map fun i=>ws.getD i .non)) D2=some (HO.lst (p2.map fun i=>ws.getD i .non)):=upd_same;generalize upd H8 D2 (HO.lst (p2.map fun i=>ws.getD i .non))=H9 at*;have g69:=g68.trans g9;have hw9:=hw2.ts zi9 (zae g69);generalize (p2.map fun i=>ws.getD i .non)=w9 at*;generalize (p2.map fun i=>((ss.map (rgM f h)).flatMap wsR).getD i ((0,0),(0,0)))=WS at*;have lw9:=hw9.1;have lw9':=pm2.length_eq;rw[zj0,List.length_map] at lw9';have wb:∀e,e∈WS->Bd3 60 e.1.1 e.1.2 f.w/\Bd3 60 e.2.1 e.2.2 f.w:=fun e2 h2=>by
   obtain⟨r,hr,h3⟩:=List.mem_flatMap.mp (pm2.mem_iff.mp h2);obtain⟨e,he,rfl⟩:=List.mem_map.mp hr;rw[zix] at h3;obtain⟨sd',hs,rfl⟩:=List.mem_map.mp h3;have hm:sd'.1∈spR h e/\sd'.2∈spR h e:=by
    unfold sdPl at hs;unfold spR;simp only[List.mem_cons,List.not_mem_nil,or_false] at hs;rcases hs with rfl|rfl|rfl|rfl<;>simp
   exact⟨mv_bd fb (zj5 h1 h9 sp (Int.le_refl _) he hm.1),mv_bd fb (zj5 h1 h9 sp (Int.le_refl _) he hm.2)⟩
  refine⟨xf,g9 _ _ (g8 _ _ hxf7),_,f6,D2,w9,WS,f.w,rfl,hD29,by omega,hw9,hw,wb,fun L ls H10 hL g10 hL10 hls=>?_⟩
  have cyl:=cyc_of hw hd h1 sp (land_of pm2);have g310:=(g37.trans g8).trans (g9.trans g10);have lt10:=lt3.same g310;have lls:=hls.1;rw[List.length_map] at lls;refine⟨L,ls,_,_,rfl,hL10,by omega,hls,cyl,lt10,fun F fs os g H11 hF st11 lt11 hF11 ho og oo om l40=>?_⟩
  have eRs:(ss.map (rgM f h)).map (fun r=>r.map (ptP f.w))=ss.map (zal f h):=by rw[List.map_map];rfl
  have fd:=fun{g:Int}{os:List (List Q3)}(og:∀r,r∈os->∀p,p∈r->PQ 700 p/\p.w<=g)(oo:OrdR g os)(om:∀q,q∈os↔∃r,r∈ss.map (zal f h)/\zca q r)=>znx (ds:=d7) (Rs:=ss.map (rgM f h)) hw (fun r hr x hx=>by
    obtain⟨e,he,rfl⟩:=List.mem_map.mp hr;exact zns fb h1 h9 sp (Int.le_refl _) he hx) (fun r hr=>by
    obtain⟨e,he,rfl⟩:=List.mem_map.mp hr;exact nd4 e he) (fun r hr=>by
    obtain⟨e,he,rfl⟩:=List.mem_map.mp hr;rfl) (fun d hd'=>by
    obtain⟨e,he,z⟩:=dmem d hd';exact⟨_,List.mem_map.mpr ⟨e,he,rfl⟩,z⟩) (fun r hr=>by
    obtain⟨j,hj⟩:=List.mem_iff_getElem?.mp hr;have hj':j<ds.length:=by
     have:=(List.getElem?_eq_some_iff.mp hj).1;rw[List.length_map] at this;omega
    exact⟨ds[j],dpm.mem_iff.mpr (List.getElem_mem _),due j _ r (List.getElem?_eq_getElem hj') hj⟩) dpw og oo (by rw[eRs];exact om)
  have eos:=fd og oo om;subst eos;have g810:=g9.trans g10;have hV10:=g810 _ _ hV8;have hdu10:=zdc hdu g810;have hV11:=st11.lst lt10 hV10;have hdu11:=zjr hdu10 st11 lt10;have hL11:=st11.lst lt10 hL10;have hls11:=hls.ts zfs fun b xs z=>st11.tup lt10 z;have g0e:Q3:=z3;refine⟨_,_,zkf hF11 ho,zkf hV11 hdu11,zcm _,zcm _,_,rfl,?_⟩;rw[zit];refine iteF ?_;have lfs:=ho.1;have lfd:=hdu.1;rw[List.length_map] at lfs lfd;have ond:(d7.map fun d=>d.map (ptP f.w)).Nodup:=by
   rw[List.nodup_iff_pairwise_ne];exact oo.imp fun{a b} z e=>by rw[e,zfk] at z;cases z
  have omd:∀q,q∈(d7.map fun d=>d.map (ptP f.w))->∃e,e∈ss/\zca q (zal f h e):=fun q hq=>by
   obtain⟨r,hr,hc⟩:=(om q).mp hq;obtain⟨e,he,rfl⟩:=List.mem_map.mp hr;exact⟨e,he,hc⟩
  have pq60:∀e,e∈ss->∀x,x∈zal f h e->PQ 60 x:=fun e he x hx=>by
   rw[←zhg] at hx;obtain⟨y,hy,rfl⟩:=List.mem_map.mp hx;exact znw (zns fb h1 h9 sp (Int.le_refl _) he hy) hw
  have l4q:∀q,q∈(d7.map fun d=>d.map (ptP f.w))->q.length=4:=fun q hq=>by
   obtain⟨e,he,hc⟩:=omd q hq;rw[hc.len];rfl
  refine⟨F,fs,_,rfl,hF11,by omega,ho,fun r hr=>by have:=l4q r hr;omega,fun r hr=>?_,free_of hw hd h1 sp nd4 pq60 ond omd,fun N H12 hN g12 hN12=>?_⟩
  ·obtain⟨e,he,hc⟩:=omd r hr;have l4':=l4q r hr;exact mid_bd (pq60 e he _ (hc.mem.mp (zfn (by omega) _))) (pq60 e he _ (hc.mem.mp (zfn (by omega) _)))
  intro p hp;have g13:=za2 hp (HO.lst [V.non]);have hp13:upd H12 p (HO.lst [V.non]) p=some (HO.lst [V.non]):=upd_same;generalize upd H12 p (HO.lst [V.non])=H13 at*;have g1113:=g12.trans g13;refine⟨V0,rfl,dus,.inl (g1113 _ _ hV11),p,[V.non],_,rfl,rfl,hp13,by omega,by omega,by decide,fun D3 hD3=>?_⟩
  have er:(List.replicate ((dus.length:Int)).toNat [V.non]).flatten=List.replicate fs.length V.non:=by
   rw[List.flatten_replicate_singleton,show((dus.length:Int)).toNat=fs.length by omega]
  rw[er];have g14:=za2 hD3 (HO.lst (List.replicate fs.length V.non));have hD314:upd H13 D3 (HO.lst (List.replicate fs.length V.non)) D3=some (HO.lst (List.replicate fs.length V.non)):=upd_same;generalize upd H13 D3 (HO.lst (List.replicate fs.length V.non))=H14 at*;have g1114:=g1113.trans g14;refine⟨_,_,rd_nl (g14 _ _ (g13 _ _ hN12)),rd_nl hD314,zh4 _,zh4 _,_,rfl,?_⟩;rw[dN_eqv];refine iteF ?_;have lt14:=lt11.same g1114;have hF14:=g1114 _ _ hF11;have ho14:=zdc ho g1114;have hV14:=g1114 _ _ hV11;have hdu14:=zdc hdu11 g1114;have hL14:=g1114 _ _ hL11;have hls14:=hls11.ts zfs (zae g1114);intro u0 z0;have s0:=za2 z0 (HO.tup [V.int 0,V.int 0,V.int 1]);have q0:upd H14 u0 (HO.tup [V.int 0,V.int 0,V.int 1]) u0=some (HO.tup [V.int 0,V.int 0,V.int 1]):=upd_same;generalize upd H14 u0 (HO.tup [V.int 0,V.int 0,V.int 1])=I0 at*;intro u1 z1;have s1:=za2 z1 (HO.tup [V.int 2,V.int 1,V.int 1]);have q1:upd I0 u1 (HO.tup [V.int 2,V.int 1,V.int 1]) u1=some (HO.tup [V.int 2,V.int 1,V.int 1]):=upd_same;generalize upd I0 u1 (HO.tup [V.int 2,V.int 1,V.int 1])=I1 at*;intro u2 z2;have s2:=za2 z2 (HO.tup [V.ref u0,V.ref u1]);have q2:upd I1 u2 (HO.tup [V.ref u0,V.ref u1]) u2=some (HO.tup [V.ref u0,V.ref u1]):=upd_same;generalize upd I1 u2 (HO.tup [V.ref u0,V.ref u1])=I2 at*;intro u3 z3;have s3:=za2 z3 (HO.tup [V.int 1,V.int 3,V.int 1]);have q3:upd I2 u3 (HO.tup [V.int 1,V.int 3,V.int 1]) u3=some (HO.tup [V.int 1,V.int 3,V.int 1]):=upd_same;generalize upd I2 u3 (HO.tup [V.int 1,V.int 3,V.int 1])=I3 at*;intro u4 z4;have s4:=za2 z4 (HO.tup [V.int 0,V.int 0,V.int 1]);have q4:upd I3 u4 (HO.tup [V.int 0,V.int 0,V.int 1]) u4=some (HO.tup [V.int 0,V.int 0,V.int 1]):=upd_same;generalize upd I3 u4 (HO.tup [V.int 0,V.int 0,V.int 1])=I4 at*;intro u5 z5;have s5:=za2 z5 (HO.tup [V.ref u3,V.ref u4]);have q5:upd I4 u5 (HO.tup [V.ref u3,V.ref u4]) u5=some (HO.tup [V.ref u3,V.ref u4]):=upd_same;generalize upd I4 u5 (HO.tup [V.ref u3,V.ref u4])=I5 at*;intro u6 z6;have s6:=za2 z6 (HO.tup [V.int 2,V.int 1,V.int 1]);have q6:upd I5 u6 (HO.tup [V.int 2,V.int 1,V.int 1]) u6=some (HO.tup [V.int 2,V.int 1,V.int 1]):=upd_same;generalize upd I5 u6 (HO.tup [V.int 2,V.int 1,V.int 1])=I6 at*;intro u7 z7;have s7:=za2 z7 (HO.tup [V.int 1,V.int 3,V.int 1]);have q7:upd I6 u7 (HO.tup [V.int 1,V.int 3,V.int 1]) u7=some (HO.tup [V.int 1,V.int 3,V.int 1]):=upd_same;generalize upd I6 u7 (HO.tup [V.int 1,V.int 3,V.int 1])=I7 at*;intro u8 z8;have s8:=za2 z8 (HO.tup [V.ref u6,V.ref u7]);have q8:upd I7 u8 (HO.tup [V.ref u6,V.ref u7]) u8=some (HO.tup [V.ref u6,V.ref u7]):=upd_same;generalize upd I7 u8 (HO.tup [V.ref u6,V.ref u7])=I8 at*;intro u9 z9;have s9:=za2 z9 (HO.lst [V.ref u2,V.ref u5,V.ref u8]);have q9:upd I8 u9 (HO.lst [V.ref u2,V.ref u5,V.ref u8]) u9=some (HO.lst [V.ref u2,V.ref u5,V.ref u8]):=upd_same;generalize upd I8 u9 (HO.lst [V.ref u2,V.ref u5,V.ref u8])=I9 at*;have g1419:Same H14 I9:=(((((((((s0.trans s1).trans s2).trans s3).trans s4).trans s5).trans s6).trans s7).trans s8).trans s9);have lt19:=lt14.same g1419;have pt:∀x y:Int,x.natAbs<2^60->y.natAbs<2^60->PQ 700 ⟨x,y,1⟩:=fun x y hx hy=>Pt.mono (m:=60) ⟨(by decide:(0:Int)<1),by show Nat.gcd _ _=1;exact Nat.gcd_one_right _,hx,hy,(by decide:(1:Int).natAbs<2^60)⟩ (by decide)
  have hs19:LR S2H I9 [V.ref u2,V.ref u5,V.ref u8] tl:=.cons ⟨u2,rfl,u0,u1,(s9 _ _ (s8 _ _ (s7 _ _ (s6 _ _ (s5 _ _ (s4 _ _ (s3 _ _ q2))))))),⟨(s9 _ _ (s8 _ _ (s7 _ _ (s6 _ _ (s5 _ _ (s4 _ _ (s3 _ _ (s2 _ _ (s1 _ _ q0))))))))),pt 0 0 (by decide) (by decide)⟩,⟨(s9 _ _ (s8 _ _ (s7 _ _ (s6 _ _ (s5 _ _ (s4 _ _ (s3 _ _ (s2 _ _ q1)))))))),pt 2 1 (by decide) (by decide)⟩⟩ (.cons ⟨u5,rfl,u3,u4,(s9 _ _ (s8 _ _ (s7 _ _ (s6 _ _ q5)))),⟨(s9 _ _ (s8 _ _ (s7 _ _ (s6 _ _ (s5 _ _ (s4 _ _ q3)))))),pt 1 3 (by decide) (by decide)⟩,⟨(s9 _ _ (s8 _ _ (s7 _ _ (s6 _ _ (s5 _ _ q4))))),pt 0 0 (by decide) (by decide)⟩⟩ (.cons ⟨u8,rfl,u6,u7,(s9 _ _ q8),⟨(s9 _ _ (s8 _ _ (s7 _ _ q6))),pt 2 1 (by decide) (by decide)⟩,⟨(s9 _ _ (s8 _ _ q7)),pt 1 3 (by decide) (by decide)⟩⟩ .nil))
  refine⟨u9,_,tl,[t0],rfl,q9,(by decide:3<=40),hs19,cyc_t,lt19,fun O zs2 os2 g2' H20 hO st20 lt20 hO20 ho2 og2 oo2 om2 _=>?_⟩
  have l1:=one_t og2 oo2 om2;have lz2:zs2.length=1:=by rw[ho2.1,l1]
  have hF20:=st20.lst lt19 (g1419 _ _ hF14);have ho20:=zjr (zdc ho14 g1419) st20 lt19;have hV20:=st20.lst lt19 (g1419 _ _ hV14);have hdu20:=zjr (zdc hdu14 g1419) st20 lt19;have hL20:=st20.lst lt19 (g1419 _ _ hL14);have hls20:=(hls14.ts zfs (zae g1419)).ts zfs fun b xs z=>st20.tup lt19 z;refine⟨O,rfl,zs2,.inl hO20,?_⟩;rw[lz2];refine iteT ⟨_,_,zkf hF20 ho20,zkf hV20 hdu20,zcm _,zcm _,_,rfl,?_⟩;rw[zit];refine iteT ⟨L,ls,_,_,rfl,hL20,by omega,hls20,cyl,lt20,fun F2 fs2 os3 g3' H21 hF2 st21 lt21 hF21 ho3 og3 oo3 om3 _=>?_⟩
  have e3:=fd og3 oo3 om3;subst e3;refine⟨_,_,zkf hF21 ho3,zkf (st21.lst lt20 hV20) (zjr hdu20 st21 lt20),zcm _,zcm _,?_⟩;rw[zit];exact k _
end
theorem all_mk{l:PySem.W.OpenLaw}{w:World}{K:PySem.W.Frag}{h:Heap}{mg:Str->Option Value}{fa f0 f1 f2 f3 f4 f5 f6 f7 f8 f9 f10 cT0 pT0 f11 f12 f13 f14 f15 f16 f17 f18 f19 f20 f21 f22 f23 f24 f25 f26 f27 f28 f29 f30 f31:Addr}(X:K.In h)(G:h.Ns mainGlobals mg)(hfa:mg "law"=some (.ref fa))
  {od0 an0:Option Addr}{sl0:Array (Option Value)}{oc0 kV0 dc0 pm0 cd0 ct0:Value}
  {od1 an1:Option Addr}{sl1:Array (Option Value)}{oc1 kV1 dc1 pm1 cd1 ct1:Value}
  {od2 an2:Option Addr}{sl2:Array (Option Value)}{oc2 kV2 dc2 pm2 cd2 ct2:Value}
  {od3 an3:Option Addr}{sl3:Array (Option Value)}{oc3 kV3 dc3 pm3 cd3 ct3:Value}
  {od4 an4:Option Addr}{sl4:Array (Option Value)}{oc4 kV4 dc4 pm4 cd4 ct4:Value}
  {od5 an5:Option Addr}{sl5:Array (Option Value)}{oc5 kV5 dc5 pm5 cd5 ct5:Value}
  {od6 an6:Option Addr}{sl6:Array (Option Value)}{oc6 kV6 dc6 pm6 cd6 ct6:Value}
  {od7 an7:Option Addr}{sl7:Array (Option Value)}{oc7 kV7 dc7 pm7 cd7 ct7:Value}
  {od8 an8:Option Addr}{sl8:Array (Option Value)}{oc8 kV8 dc8 pm8 cd8 ct8:Value}
  {od9 an9:Option Addr}{sl9:Array (Option Value)}{oc9 kV9 dc9 pm9 cd9 ct9:Value}
  {od10 an10:Option Addr}{sl10:Array (Option Value)}{oc10 kV10 dc10 pm10 ct10:Value}
  {tdT0:Option Addr}{tvT0:Array Value}{tsT0:Array (Option Value)}{tcT0:Value}
  {od11 an11:Option Addr}{sl11:Array (Option Value)}{oc11 kV11 dc11 pm11 cd11 ct11:Value}
  {od12 an12:Option Addr}{sl12:Array (Option Value)}{oc12 kV12 dc12 pm12 cd12 ct12:Value}
  {od13 an13:Option Addr}{sl13:Array (Option Value)}{oc13 kV13 dc13 pm13 cd13 ct13:Value}
  {od14 an14:Option Addr}{sl14:Array (Option Value)}{oc14 kV14 dc14 pm14 cd14 ct14:Value}
  {od15 an15:Option Addr}{sl15:Array (Option Value)}{oc15 kV15 dc15 pm15 cd15 ct15:Value}
  {od16 an16:Option Addr}{sl16:Array (Option Value)}{oc16 kV16 dc16 pm16 cd16 ct16:Value}
  {od17 an17:Option Addr}{sl17:Array (Option Value)}{oc17 kV17 dc17 pm17 cd17 ct17:Value}
  {od18 an18:Option Addr}{sl18:Array (Option Value)}{oc18 kV18 dc18 pm18 cd18 ct18:Value}
  {od19 an19:Option Addr}{sl19:Array (Option Value)}{oc19 kV19 dc19 pm19 cd19 ct19:Value}
  {od20 an20:Option Addr}{sl20:Array (Option Value)}{oc20 kV20 dc20 pm20 cd20 ct20:Value}
  {od21 an21:Option Addr}{sl21:Array (Option Value)}{oc21 kV21 dc21 pm21 cd21 ct21:Value}
  {od22 an22:Option Addr}{sl22:Array (Option Value)}{oc22 kV22 dc22 pm22 cd22 ct22:Value}
  {od23 an23:Option Addr}{sl23:Array (Option Value)}{oc23 kV23 dc23 pm23 cd23 ct23:Value}
  {od24 an24:Option Addr}{sl24:Array (Option Value)}{oc24 kV24 dc24 pm24 cd24 ct24:Value}
  {od25 an25:Option Addr}{sl25:Array (Option Value)}{oc25 kV25 dc25 pm25 cd25 ct25:Value}
  {od26 an26:Option Addr}{sl26:Array (Option Value)}{oc26 kV26 dc26 pm26 cd26 ct26:Value}
  {od27 an27:Option Addr}{sl27:Array (Option Value)}{oc27 kV27 dc27 pm27 cd27 ct27:Value}
  {od28 an28:Option Addr}{sl28:Array (Option Value)}{oc28 kV28 dc28 pm28 cd28 ct28:Value}
  {od29 an29:Option Addr}{sl29:Array (Option Value)}{oc29 kV29 dc29 pm29 cd29 ct29:Value}
  {od30 an30:Option Addr}{sl30:Array (Option Value)}{oc30 kV30 dc30 pm30 cd30 ct30:Value}
  {od31 an31:Option Addr}{sl31:Array (Option Value)}{oc31 kV31 dc31 pm31 cd31 ct31:Value}
  (a0:PySem.W.nsIn K mainGlobals "is_whole"=some (some (.ref f0)))(l0:K.lookup f0=some ⟨oc0,od0,.func (PySem.W.fnOf "is_whole" "is_whole" (za4 zaw) (za3 zaw) (za0 zaw) .none kV0 dc0 pm0 an0 cd0 ct0),sl0⟩)(c0:PySem.W.codeIn K cd0 "is_whole"=true)(k0:PySem.W.keepIn K (.ref f0)=true)
  (a1:PySem.W.nsIn K mainGlobals "divisor"=some (some (.ref f1)))(l1:K.lookup f1=some ⟨oc1,od1,.func (PySem.W.fnOf "divisor" "divisor" (za4 zbw) (za3 zbw) (za0 zbw) .none kV1 dc1 pm1 an1 cd1 ct1),sl1⟩)(c1:PySem.W.codeIn K cd1 "divisor"=true)(k1:PySem.W.keepIn K (.ref f1)=true)
  (a2:PySem.W.nsIn K mainGlobals "point"=some (some (.ref f2)))(l2:K.lookup f2=some ⟨oc2,od2,.func (PySem.W.fnOf "point" "point" (za4 zdb) (za3 zdb) (za0 zdb) .none kV2 dc2 pm2 an2 cd2 ct2),sl2⟩)(c2:PySem.W.codeIn K cd2 "point"=true)(k2:PySem.W.keepIn K (.ref f2)=true)
  (a3:PySem.W.nsIn K mainGlobals "before"=some (some (.ref f3)))(l3:K.lookup f3=some ⟨oc3,od3,.func (PySem.W.fnOf "before" "before" (za4 zck) (za3 zck) (za0 zck) .none kV3 dc3 pm3 an3 cd3 ct3),sl3⟩)(c3:PySem.W.codeIn K cd3 "before"=true)(k3:PySem.W.keepIn K (.ref f3)=true)
  (a4:PySem.W.nsIn K mainGlobals "sign_of"=some (some (.ref f4)))(l4:K.lookup f4=some ⟨oc4,od4,.func (PySem.W.fnOf "sign_of" "sign_of" (za4 zby) (za3 zby) (za0 zby) .none kV4 dc4 pm4 an4 cd4 ct4),sl4⟩)(c4:PySem.W.codeIn K cd4 "sign_of"=true)(k4:PySem.W.keepIn K (.ref f4)=true)
  (a5:PySem.W.nsIn K mainGlobals "line_of"=some (some (.ref f5)))(l5:K.lookup f5=some ⟨oc5,od5,.func (PySem.W.fnOf "line_of" "line_of" (za4 zbt) (za3 zbt) (za0 zbt) .none kV5 dc5 pm5 an5 cd5 ct5),sl5⟩)(c5:PySem.W.codeIn K cd5 "line_of"=true)(k5:PySem.W.keepIn K (.ref f5)=true)
  (a6:PySem.W.nsIn K mainGlobals "side_of"=some (some (.ref f6)))(l6:K.lookup f6=some ⟨oc6,od6,.func (PySem.W.fnOf "side_of" "side_of" (za4 zc0) (za3 zc0) (za0 zc0) .none kV6 dc6 pm6 an6 cd6 ct6),sl6⟩)(c6:PySem.W.codeIn K cd6 "side_of"=true)(k6:PySem.W.keepIn K (.ref f6)=true)
  (a7:PySem.W.nsIn K mainGlobals "turn"=some (some (.ref f7)))(l7:K.lookup f7=some ⟨oc7,od7,.func (PySem.W.fnOf "turn" "turn" (za4 zeu) (za3 zeu) (za0 zeu) .none kV7 dc7 pm7 an7 cd7 ct7),sl7⟩)(c7:PySem.W.codeIn K cd7 "turn"=true)(k7:PySem.W.keepIn K (.ref f7)=true)
  (a8:PySem.W.nsIn K mainGlobals "amid"=some (some (.ref f8)))(l8:K.lookup f8=some ⟨oc8,od8,.func (PySem.W.fnOf "amid" "amid" (za4 zek) (za3 zek) (za0 zek) .none kV8 dc8 pm8 an8 cd8 ct8),sl8⟩)(c8:PySem.W.codeIn K cd8 "amid"=true)(k8:PySem.W.keepIn K (.ref f8)=true)
  (a9:PySem.W.nsIn K mainGlobals "order_keys"=some (some (.ref f9)))(l9:K.lookup f9=some ⟨oc9,od9,.func (PySem.W.fnOf "order_keys" "order_keys" (za4 zas) (za3 zas) (za0 zas) .none kV9 dc9 pm9 an9 cd9 ct9),sl9⟩)(c9:PySem.W.codeIn K cd9 "order_keys"=true)(k9:PySem.W.keepIn K (.ref f9)=true)
  (a10:PySem.W.nsIn K mainGlobals "by_points"=some (some (.ref f10)))(l10:K.lookup f10=some ⟨oc10,od10,.func (PySem.W.fnOf "by_points" "by_points" (za4 zah) (za3 zah) (za0 zah) .none kV10 dc10 pm10 an10 (.ref cT0) ct10),sl10⟩)(c10:PySem.W.codeIn K (.ref cT0) "by_points"=true)(k10:PySem.W.keepIn K (.ref f10)=true)
  (lT0:K.lookup cT0=some ⟨tcT0,tdT0,.fields tvT0,tsT0⟩)(vT0:tvT0[11]?=some (.ref pT0))(hT0:PySem.W.codeHdIn K cT0 pT0=true)(tT0:PySem.W.tabIn K "by_points"=some (cT0,pT0))(nT0:K.lookup pT0=none)
  (a11:PySem.W.nsIn K mainGlobals "rings_of"=some (some (.ref f11)))(l11:K.lookup f11=some ⟨oc11,od11,.func (PySem.W.fnOf "rings_of" "rings_of" (za4 zbc) (za3 zbc) (za0 zbc) .none kV11 dc11 pm11 an11 cd11 ct11),sl11⟩)(c11:PySem.W.codeIn K cd11 "rings_of"=true)(k11:PySem.W.keepIn K (.ref f11)=true)
  (a12:PySem.W.nsIn K mainGlobals "leaving_of"=some (some (.ref f12)))(l12:K.lookup f12=some ⟨oc12,od12,.func (PySem.W.fnOf "leaving_of" "leaving_of" (za4 zay) (za3 zay) (za0 zay) .none kV12 dc12 pm12 an12 cd12 ct12),sl12⟩)(c12:PySem.W.codeIn K cd12 "leaving_of"=true)(k12:PySem.W.keepIn K (.ref f12)=true)
  (a13:PySem.W.nsIn K mainGlobals "way_round"=some (some (.ref f13)))(l13:K.lookup f13=some ⟨oc13,od13,.func (PySem.W.fnOf "way_round" "way_round" (za4 zb8) (za3 zb8) (za0 zb8) .none kV13 dc13 pm13 an13 cd13 ct13),sl13⟩)(c13:PySem.W.codeIn K cd13 "way_round"=true)(k13:PySem.W.keepIn K (.ref f13)=true)
  (a14:PySem.W.nsIn K mainGlobals "first_right"=some (some (.ref f14)))(l14:K.lookup f14=some ⟨oc14,od14,.func (PySem.W.fnOf "first_right" "first_right" (za4 zan) (za3 zan) (za0 zan) .none kV14 dc14 pm14 an14 cd14 ct14),sl14⟩)(c14:PySem.W.codeIn K cd14 "first_right"=true)(k14:PySem.W.keepIn K (.ref f14)=true)
  (a15:PySem.W.nsIn K mainGlobals "is_met_sooner"=some (some (.ref f15)))(l15:K.lookup f15=some ⟨oc15,od15,.func (PySem.W.fnOf "is_met_sooner" "is_met_sooner" (za4 zai) (za3 zai) (za0 zai) .none kV15 dc15 pm15 an15 cd15 ct15),sl15⟩)(c15:PySem.W.codeIn K cd15 "is_met_sooner"=true)(k15:PySem.W.keepIn K (.ref f15)=true)
  (a16:PySem.W.nsIn K mainGlobals "from_least"=some (some (.ref f16)))(l16:K.lookup f16=some ⟨oc16,od16,.func (PySem.W.fnOf "from_least" "from_least" (za4 zax) (za3 zax) (za0 zax) .none kV16 dc16 pm16 an16 cd16 ct16),sl16⟩)(c16:PySem.W.codeIn K cd16 "from_least"=true)(k16:PySem.W.keepIn K (.ref f16)=true)
  (a17:PySem.W.nsIn K mainGlobals "stretch"=some (some (.ref f17)))(l17:K.lookup f17=some ⟨oc17,od17,.func (PySem.W.fnOf "stretch" "stretch" (za4 zbv) (za3 zbv) (za0 zbv) .none kV17 dc17 pm17 an17 cd17 ct17),sl17⟩)(c17:PySem.W.codeIn K cd17 "stretch"=true)(k17:PySem.W.keepIn K (.ref f17)=true)
  (a18:PySem.W.nsIn K mainGlobals "above"=some (some (.ref f18)))(l18:K.lookup f18=some ⟨oc18,od18,.func (PySem.W.fnOf "above" "above" (za4 zd0) (za3 zd0) (za0 zd0) .none kV18 dc18 pm18 an18 cd18 ct18),sl18⟩)(c18:PySem.W.codeIn K cd18 "above"=true)(k18:PySem.W.keepIn K (.ref f18)=true)
  (a19:PySem.W.nsIn K mainGlobals "spans"=some (some (.ref f19)))(l19:K.lookup f19=some ⟨oc19,od19,.func (PySem.W.fnOf "spans" "spans" (za4 zd8) (za3 zd8) (za0 zd8) .none kV19 dc19 pm19 an19 cd19 ct19),sl19⟩)(c19:PySem.W.codeIn K cd19 "spans"=true)(k19:PySem.W.keepIn K (.ref f19)=true)
  (a20:PySem.W.nsIn K mainGlobals "sides_of"=some (some (.ref f20)))(l20:K.lookup f20=some ⟨oc20,od20,.func (PySem.W.fnOf "sides_of" "sides_of" (za4 zbl) (za3 zbl) (za0 zbl) .none kV20 dc20 pm20 an20 cd20 ct20),sl20⟩)(c20:PySem.W.codeIn K cd20 "sides_of"=true)(k20:PySem.W.keepIn K (.ref f20)=true)
  (a21:PySem.W.nsIn K mainGlobals "is_round"=some (some (.ref f21)))(l21:K.lookup f21=some ⟨oc21,od21,.func (PySem.W.fnOf "is_round" "is_round" (za4 zbk) (za3 zbk) (za0 zbk) .none kV21 dc21 pm21 an21 cd21 ct21),sl21⟩)(c21:PySem.W.codeIn K cd21 "is_round"=true)(k21:PySem.W.keepIn K (.ref f21)=true)
  (a22:PySem.W.nsIn K mainGlobals "nest"=some (some (.ref f22)))(l22:K.lookup f22=some ⟨oc22,od22,.func (PySem.W.fnOf "nest" "nest" (za4 zcz) (za3 zcz) (za0 zcz) .none kV22 dc22 pm22 an22 cd22 ct22),sl22⟩)(c22:PySem.W.codeIn K cd22 "nest"=true)(k22:PySem.W.keepIn K (.ref f22)=true)
  (a23:PySem.W.nsIn K mainGlobals "innermost"=some (some (.ref f23)))(l23:K.lookup f23=some ⟨oc23,od23,.func (PySem.W.fnOf "innermost" "innermost" (za4 zb6) (za3 zb6) (za0 zb6) .none kV23 dc23 pm23 an23 cd23 ct23),sl23⟩)(c23:PySem.W.codeIn K cd23 "innermost"=true)(k23:PySem.W.keepIn K (.ref f23)=true)
  (a24:PySem.W.nsIn K mainGlobals "_law_cell"=some (some (.ref f24)))(l24:K.lookup f24=some ⟨oc24,od24,.func (PySem.W.fnOf "_law_cell" "_law_cell" (za4 zbj) (za3 zbj) (za0 zbj) .none kV24 dc24 pm24 an24 cd24 ct24),sl24⟩)(c24:PySem.W.codeIn K cd24 "_law_cell"=true)(k24:PySem.W.keepIn K (.ref f24)=true)
  (a25:PySem.W.nsIn K mainGlobals "_law_divisor"=some (some (.ref f25)))(l25:K.lookup f25=some ⟨oc25,od25,.func (PySem.W.fnOf "_law_divisor" "_law_divisor" (za4 zam) (za3 zam) (za0 zam) .none kV25 dc25 pm25 an25 cd25 ct25),sl25⟩)(c25:PySem.W.codeIn K cd25 "_law_divisor"=true)(k25:PySem.W.keepIn K (.ref f25)=true)
  (a26:PySem.W.nsIn K mainGlobals "_law_point"=some (some (.ref f26)))(l26:K.lookup f26=some ⟨oc26,od26,.func (PySem.W.fnOf "_law_point" "_law_point" (za4 zb7) (za3 zb7) (za0 zb7) .none kV26 dc26 pm26 an26 cd26 ct26),sl26⟩)(c26:PySem.W.codeIn K cd26 "_law_point"=true)(k26:PySem.W.keepIn K (.ref f26)=true)
  (a27:PySem.W.nsIn K mainGlobals "_law_frame"=some (some (.ref f27)))(l27:K.lookup f27=some ⟨oc27,od27,.func (PySem.W.fnOf "_law_frame" "_law_frame" (za4 zba) (za3 zba) (za0 zba) .none kV27 dc27 pm27 an27 cd27 ct27),sl27⟩)(c27:PySem.W.codeIn K cd27 "_law_frame"=true)(k27:PySem.W.keepIn K (.ref f27)=true)
  (a28:PySem.W.nsIn K mainGlobals "_law_moved"=some (some (.ref f28)))(l28:K.lookup f28=some ⟨oc28,od28,.func (PySem.W.fnOf "_law_moved" "_law_moved" (za4 zb5) (za3 zb5) (za0 zb5) .none kV28 dc28 pm28 an28 cd28 ct28),sl28⟩)(c28:PySem.W.codeIn K cd28 "_law_moved"=true)(k28:PySem.W.keepIn K (.ref f28)=true)
  (a29:PySem.W.nsIn K mainGlobals "_law_told"=some (some (.ref f29)))(l29:K.lookup f29=some ⟨oc29,od29,.func (PySem.W.fnOf "_law_told" "_law_told" (za4 zbd) (za3 zbd) (za0 zbd) .none kV29 dc29 pm29 an29 cd29 ct29),sl29⟩)(c29:PySem.W.codeIn K cd29 "_law_told"=true)(k29:PySem.W.keepIn K (.ref f29)=true)
  (a30:PySem.W.nsIn K mainGlobals "_law_spindles"=some (some (.ref f30)))(l30:K.lookup f30=some ⟨oc30,od30,.func (PySem.W.fnOf "_law_spindles" "_law_spindles" (za4 zak) (za3 zak) (za0 zak) .none kV30 dc30 pm30 an30 cd30 ct30),sl30⟩)(c30:PySem.W.codeIn K cd30 "_law_spindles"=true)(k30:PySem.W.keepIn K (.ref f30)=true)
  (a31:PySem.W.nsIn K mainGlobals "law"=some (some (.ref f31)))(l31:K.lookup f31=some ⟨oc31,od31,.func (PySem.W.fnOf "law" "law" (za4 zdn) (za3 zdn) (za0 zdn) .none kV31 dc31 pm31 an31 cd31 ct31),sl31⟩)(c31:PySem.W.codeIn K cd31 "law"=true)(k31:PySem.W.keepIn K (.ref f31)=true)
  (z0:PySem.W.nsIn K mainGlobals "abs"=some none)
  (z1:PySem.W.nsIn K mainGlobals "all"=some none)
  (z2:PySem.W.nsIn K mainGlobals "bool"=some none)
  (z3:PySem.W.nsIn K mainGlobals "enumerate"=some none)
  (z4:PySem.W.nsIn K mainGlobals "int"=some none)
  (z5:PySem.W.nsIn K mainGlobals "isinstance"=some none)
  (z6:PySem.W.nsIn K mainGlobals "len"=some none)
  (z7:PySem.W.nsIn K mainGlobals "list"=some none)
  (z8:PySem.W.nsIn K mainGlobals "max"=some none)
  (z9:PySem.W.nsIn K mainGlobals "min"=some none)
  (z10:PySem.W.nsIn K mainGlobals "range"=some none)
  (z11:PySem.W.nsIn K mainGlobals "sorted"=some none)
  (z12:PySem.W.nsIn K mainGlobals "zip"=some none)
  :∃(fd:FuncData)(ts:List Addr),(∀b,b∈ts->K.lookup b=none/\∃y c,y∈([Str.ofString "by_points"]:List Str)/\PySem.W.tabIn K y=some (c,b))/\(∀(s:Shared)(v:Value),BindsTo s fd ⟨[v],[]⟩ [("_law_script",v)])/\∀base:Heap,K.In base->base.Ns mainGlobals mg->(∀b,b∈ts->base.BuiltinsAt mg b)->FnOk l.prog w K mg base CX0 8 fa fd ["_law_script"] (zgz K ts):=by
 have e:=hfa.symm.trans (PySem.W.mg_of X G a31)
 cases e;have F0:=zap (st:=zaw) l0 c0 k0;have b0:=F0.binds (ps:=["thing"]) fun _ _ _ _ _ _ us hl=>match us,hl with|[_],_=>rfl
 have F1:=zap (st:=zbw) l1 c1 k1;have b1:=F1.binds (ps:=["one","other"]) fun _ _ _ _ _ _ us hl=>match us,hl with|[_,_],_=>rfl
 have F2:=zap (st:=zdb) l2 c2 k2;have b2:=F2.binds (ps:=["x","y","w"]) fun _ _ _ _ _ _ us hl=>match us,hl with|[_,_,_],_=>rfl
 have F3:=zap (st:=zck) l3 c3 k3;have b3:=F3.binds (ps:=["P","Q"]) fun _ _ _ _ _ _ us hl=>match us,hl with|[_,_],_=>rfl
 have F4:=zap (st:=zby) l4 c4 k4;have b4:=F4.binds (ps:=["number"]) fun _ _ _ _ _ _ us hl=>match us,hl with|[_],_=>rfl
 have F5:=zap (st:=zbt) l5 c5 k5;have b5:=F5.binds (ps:=["P","Q"]) fun _ _ _ _ _ _ us hl=>match us,hl with|[_,_],_=>rfl
 have F6:=zap (st:=zc0) l6 c6 k6;have b6:=F6.binds (ps:=["line","P"]) fun _ _ _ _ _ _ us hl=>match us,hl with|[_,_],_=>rfl
 have F7:=zap (st:=zeu) l7 c7 k7;have b7:=F7.binds (ps:=["P","Q","R"]) fun _ _ _ _ _ _ us hl=>match us,hl with|[_,_,_],_=>rfl
 have F8:=zap (st:=zek) l8 c8 k8;have b8:=F8.binds (ps:=["P","Q"]) fun _ _ _ _ _ _ us hl=>match us,hl with|[_,_],_=>rfl
 have F9:=zap (st:=zas) l9 c9 k9;have b9:=F9.binds (ps:=["points"]) fun _ _ _ _ _ _ us hl=>match us,hl with|[_],_=>rfl
 have F10:=zap (st:=zah) l10 c10 k10;have FC10:FunC K "by_points" "by_points" zah f10 _ cT0 pT0:=⟨⟨_,_,_,_,_,_,_,_,rfl,l10,c10⟩,hT0⟩;have b10:=F10.binds (ps:=["things"]) fun _ _ _ _ _ _ us hl=>match us,hl with|[_],_=>rfl
 have F11:=zap (st:=zbc) l11 c11 k11;have b11:=F11.binds (ps:=["land"]) fun _ _ _ _ _ _ us hl=>match us,hl with|[_],_=>rfl
 have F12:=zap (st:=zay) l12 c12 k12;have b12:=F12.binds (ps:=["land"]) fun _ _ _ _ _ _ us hl=>match us,hl with|[_],_=>rfl
 have F13:=zap (st:=zb8) l13 c13 k13;have b13:=F13.binds (ps:=["start","leaving","gone"]) fun _ _ _ _ _ _ us hl=>match us,hl with|[_,_,_],_=>rfl
 have F14:=zap (st:=zan) l14 c14 k14;have b14:=F14.binds (ps:=["P","Q","tips"]) fun _ _ _ _ _ _ us hl=>match us,hl with|[_,_,_],_=>rfl
 have F15:=zap (st:=zai) l15 c15 k15;have b15:=F15.binds (ps:=["P","Q","one","other"]) fun _ _ _ _ _ _ us hl=>match us,hl with|[_,_,_,_],_=>rfl
 have F16:=zap (st:=zax) l16 c16 k16;have b16:=F16.binds (ps:=["ring"]) fun _ _ _ _ _ _ us hl=>match us,hl with|[_],_=>rfl
 have F17:=zap (st:=zbv) l17 c17 k17;have b17:=F17.binds (ps:=["P","Q"]) fun _ _ _ _ _ _ us hl=>match us,hl with|[_,_],_=>rfl
 have F18:=zap (st:=zd0) l18 c18 k18;have b18:=F18.binds (ps:=["stretches","P"]) fun _ _ _ _ _ _ us hl=>match us,hl with|[_,_],_=>rfl
 have F19:=zap (st:=zd8) l19 c19 k19;have b19:=F19.binds (ps:=["S","P"]) fun _ _ _ _ _ _ us hl=>match us,hl with|[_,_],_=>rfl
 have F20:=zap (st:=zbl) l20 c20 k20;have b20:=F20.binds (ps:=["rings"]) fun _ _ _ _ _ _ us hl=>match us,hl with|[_],_=>rfl
 have F21:=zap (st:=zbk) l21 c21 k21;have b21:=F21.binds (ps:=["sides","P"]) fun _ _ _ _ _ _ us hl=>match us,hl with|[_,_],_=>rfl
 have F22:=zap (st:=zcz) l22 c22 k22;have b22:=F22.binds (ps:=["some"]) fun _ _ _ _ _ _ us hl=>match us,hl with|[_],_=>rfl
 have F23:=zap (st:=zb6) l23 c23 k23;have b23:=F23.binds (ps:=["row","holders"]) fun _ _ _ _ _ _ us hl=>match us,hl with|[_,_],_=>rfl
 have F24:=zap (st:=zbj) l24 c24 k24;have b24:=F24.binds (ps:=["_law_script","_law_k"]) fun _ _ _ _ _ _ us hl=>match us,hl with|[_,_],_=>rfl
 have F25:=zap (st:=zam) l25 c25 k25;have b25:=F25.binds (ps:=["_law_one","_law_other"]) fun _ _ _ _ _ _ us hl=>match us,hl with|[_,_],_=>rfl
 have F26:=zap (st:=zb7) l26 c26 k26;have b26:=F26.binds (ps:=["_law_east","_law_north","_law_share"]) fun _ _ _ _ _ _ us hl=>match us,hl with|[_,_,_],_=>rfl
 have F27:=zap (st:=zba) l27 c27 k27;have b27:=F27.binds (ps:=["_law_script"]) fun _ _ _ _ _ _ us hl=>match us,hl with|[_],_=>rfl
 have F28:=zap (st:=zb5) l28 c28 k28;have b28:=F28.binds (ps:=["_law_place","_law_frame_here"]) fun _ _ _ _ _ _ us hl=>match us,hl with|[_,_],_=>rfl
 have F29:=zap (st:=zbd) l29 c29 k29;have b29:=F29.binds (ps:=["_law_ways","_law_share"]) fun _ _ _ _ _ _ us hl=>match us,hl with|[_,_],_=>rfl
 have F30:=zap (st:=zak) l30 c30 k30;have b30:=F30.binds (ps:=["_law_script"]) fun _ _ _ _ _ _ us hl=>match us,hl with|[_],_=>rfl
 have F31:=zap (st:=zdn) l31 c31 k31;have b31:=F31.binds (ps:=["_law_script"]) fun _ _ _ _ _ _ us hl=>match us,hl with|[_],_=>rfl
 have T:Txt K mg (fun n=>[f0,f1,f2,f3,f4,f5,f6,f7,f8,f9,f10,f11,f12,f13,f14,f15,f16,f17,f18,f19,f20,f21,f22,f23,f24,f25,f26,f27,f28,f29,f30,fa,cT0,pT0].getD n 0) (fun n=>[PySem.W.fnOf "is_whole" "is_whole" (za4 zaw) (za3 zaw) (za0 zaw) .none kV0 dc0 pm0 an0 cd0 ct0,PySem.W.fnOf "divisor" "divisor" (za4 zbw) (za3 zbw) (za0 zbw) .none kV1 dc1 pm1 an1 cd1 ct1,PySem.W.fnOf "point" "point" (za4 zdb) (za3 zdb) (za0 zdb) .none kV2 dc2 pm2 an2 cd2 ct2,PySem.W.fnOf "before" "before" (za4 zck) (za3 zck) (za0 zck) .none kV3 dc3 pm3 an3 cd3 ct3,PySem.W.fnOf "sign_of" "sign_of" (za4 zby) (za3 zby) (za0 zby) .none kV4 dc4 pm4 an4 cd4 ct4,PySem.W.fnOf "line_of" "line_of" (za4 zbt) (za3 zbt) (za0 zbt) .none kV5 dc5 pm5 an5 cd5 ct5,PySem.W.fnOf "side_of" "side_of" (za4 zc0) (za3 zc0) (za0 zc0) .none kV6 dc6 pm6 an6 cd6 ct6,PySem.W.fnOf "turn" "turn" (za4 zeu) (za3 zeu) (za0 zeu) .none kV7 dc7 pm7 an7 cd7 ct7,PySem.W.fnOf "amid" "amid" (za4 zek) (za3 zek) (za0 zek) .none kV8 dc8 pm8 an8 cd8 ct8,PySem.W.fnOf "order_keys" "order_keys" (za4 zas) (za3 zas) (za0 zas) .none kV9 dc9 pm9 an9 cd9 ct9,PySem.W.fnOf "by_points" "by_points" (za4 zah) (za3 zah) (za0 zah) .none kV10 dc10 pm10 an10 (.ref cT0) ct10,PySem.W.fnOf "rings_of" "rings_of" (za4 zbc) (za3 zbc) (za0 zbc) .none kV11 dc11 pm11 an11 cd11 ct11,PySem.W.fnOf "leaving_of" "leaving_of" (za4 zay) (za3 zay) (za0 zay) .none kV12 dc12 pm12 an12 cd12 ct12,PySem.W.fnOf "way_round" "way_round" (za4 zb8) (za3 zb8) (za0 zb8) .none kV13 dc13 pm13 an13 cd13 ct13,PySem.W.fnOf "first_right" "first_right" (za4 zan) (za3 zan) (za0 zan) .none kV14 dc14 pm14 an14 cd14 ct14,PySem.W.fnOf "is_met_sooner" "is_met_sooner" (za4 zai) (za3 zai) (za0 zai) .none kV15 dc15 pm15 an15 cd15 ct15,PySem.W.fnOf "from_least" "from_least" (za4 zax) (za3 zax) (za0 zax) .none kV16 dc16 pm16 an16 cd16 ct16,PySem.W.fnOf "stretch" "stretch" (za4 zbv) (za3 zbv) (za0 zbv) .none kV17 dc17 pm17 an17 cd17 ct17,PySem.W.fnOf "above" "above" (za4 zd0) (za3 zd0) (za0 zd0) .none kV18 dc18 pm18 an18 cd18 ct18,PySem.W.fnOf "spans" "spans" (za4 zd8) (za3 zd8) (za0 zd8) .none kV19 dc19 pm19 an19 cd19 ct19,PySem.W.fnOf "sides_of" "sides_of" (za4 zbl) (za3 zbl) (za0 zbl) .none kV20 dc20 pm20 an20 cd20 ct20,PySem.W.fnOf "is_round" "is_round" (za4 zbk) (za3 zbk) (za0 zbk) .none kV21 dc21 pm21 an21 cd21 ct21,PySem.W.fnOf "nest" "nest" (za4 zcz) (za3 zcz) (za0 zcz) .none kV22 dc22 pm22 an22 cd22 ct22,PySem.W.fnOf "innermost" "innermost" (za4 zb6) (za3 zb6) (za0 zb6) .none kV23 dc23 pm23 an23 cd23 ct23,PySem.W.fnOf "_law_cell" "_law_cell" (za4 zbj) (za3 zbj) (za0 zbj) .none kV24 dc24 pm24 an24 cd24 ct24,PySem.W.fnOf "_law_divisor" "_law_divisor" (za4 zam) (za3 zam) (za0 zam) .none kV25 dc25 pm25 an25 cd25 ct25,PySem.W.fnOf "_law_point" "_law_point" (za4 zb7) (za3 zb7) (za0 zb7) .none kV26 dc26 pm26 an26 cd26 ct26,PySem.W.fnOf "_law_frame" "_law_frame" (za4 zba) (za3 zba) (za0 zba) .none kV27 dc27 pm27 an27 cd27 ct27,PySem.W.fnOf "_law_moved" "_law_moved" (za4 zb5) (za3 zb5) (za0 zb5) .none kV28 dc28 pm28 an28 cd28 ct28,PySem.W.fnOf "_law_told" "_law_told" (za4 zbd) (za3 zbd) (za0 zbd) .none kV29 dc29 pm29 an29 cd29 ct29,PySem.W.fnOf "_law_spindles" "_law_spindles" (za4 zak) (za3 zak) (za0 zak) .none kV30 dc30 pm30 an30 cd30 ct30,PySem.W.fnOf "law" "law" (za4 zdn) (za3 zdn) (za0 zdn) .none kV31 dc31 pm31 an31 cd31 ct31].getD n (PySem.W.fnOf "is_whole" "is_whole" (za4 zaw) (za3 zaw) (za0 zaw) .none kV0 dc0 pm0 an0 cd0 ct0)):=
  ⟨⟨F0,b0,PySem.W.mg_of X G a0⟩,⟨F1,b1,PySem.W.mg_of X G a1⟩,⟨F2,b2,PySem.W.mg_of X G a2⟩,⟨F3,b3,PySem.W.mg_of X G a3⟩,⟨F4,b4,PySem.W.mg_of X G a4⟩,⟨F5,b5,PySem.W.mg_of X G a5⟩,⟨F6,b6,PySem.W.mg_of X G a6⟩,⟨F7,b7,PySem.W.mg_of X G a7⟩,⟨F8,b8,PySem.W.mg_of X G a8⟩,⟨F9,b9,PySem.W.mg_of X G a9⟩,⟨F10,b10,PySem.W.mg_of X G a10⟩,FC10,⟨F11,b11,PySem.W.mg_of X G a11⟩,⟨F12,b12,PySem.W.mg_of X G a12⟩,⟨F13,b13,PySem.W.mg_of X G a13⟩,⟨F14,b14,PySem.W.mg_of X G a14⟩,⟨F15,b15,PySem.W.mg_of X G a15⟩,⟨F16,b16,PySem.W.mg_of X G a16⟩,⟨F17,b17,PySem.W.mg_of X G a17⟩,⟨F18,b18,PySem.W.mg_of X G a18⟩,⟨F19,b19,PySem.W.mg_of X G a19⟩,⟨F20,b20,PySem.W.mg_of X G a20⟩,⟨F21,b21,PySem.W.mg_of X G a21⟩,⟨F22,b22,PySem.W.mg_of X G a22⟩,⟨F23,b23,PySem.W.mg_of X G a23⟩,⟨F24,b24,PySem.W.mg_of X G a24⟩,⟨F25,b25,PySem.W.mg_of X G a25⟩,⟨F26,b26,PySem.W.mg_of X G a26⟩,⟨F27,b27,PySem.W.mg_of X G a27⟩,⟨F28,b28,PySem.W.mg_of X G a28⟩,⟨F29,b29,PySem.W.mg_of X G a29⟩,⟨F30,b30,PySem.W.mg_of X G a30⟩,⟨F31,b31,PySem.W.mg_of X G a31⟩,PySem.W.mg_none_of X G z0,PySem.W.mg_none_of X G z1,PySem.W.mg_none_of X G z2,PySem.W.mg_none_of X G z3,PySem.W.mg_none_of X G z4,PySem.W.mg_none_of X G z5,PySem.W.mg_none_of X G z6,PySem.W.mg_none_of X G z7,PySem.W.mg_none_of X G z8,PySem.W.mg_none_of X G z9,PySem.W.mg_none_of X G z10,PySem.W.mg_none_of X G z11,PySem.W.mg_none_of X G z12⟩
 exact⟨PySem.W.fnOf "law" "law" (za4 zdn) (za3 zdn) (za0 zdn) .none kV31 dc31 pm31 an31 cd31 ct31,[pT0],fun b hb=>by rw[List.mem_singleton.mp hb];exact⟨nT0,_,cT0,List.mem_singleton.mpr rfl,tT0⟩,fun s v=>.of_eq rfl,fun base hK _ hB=>ok_law T hK (hB _ (List.mem_singleton.mpr rfl))⟩
theorem walk{l:PySem.W.OpenLaw}{q:Program}{loose:List Str}{XP:(Str->Option Value)->Heap->Prop}{YP:World->Heap->Prop}{d:DefRec}{K:Params->PySem.W.Frag}(hn:l.most=some 63)(hdf:d.params.defaults=[])
  (hY:∀(w:World)(h:Heap),YP w h->(K w.params).In h)(hD:∀y,y∈([Str.ofString "by_points"]:List Str)->∃e,(PyProof.Rows.recsOf q).find? (fun e=>e.name==y)=some e)
  (F:∀(w:World)(mg:Str->Option Value)(fa:Addr)(h:Heap),(K w.params).In h->h.Ns mainGlobals mg->mg d.name=some (.ref fa)->
   ∃(fd:FuncData)(ts:List Addr),(∀b,b∈ts->(K w.params).lookup b=none/\∃y c,y∈([Str.ofString "by_points"]:List Str)/\PySem.W.tabIn (K w.params) y=some (c,b))/\(∀(s:Shared)(u:Value),BindsTo s fd ⟨[u],[]⟩ [("_law_script",u)])/\∀base:Heap,(K w.params).In base->base.Ns mainGlobals mg->(∀b,b∈ts->base.BuiltinsAt mg b)->FnOk l.prog w (K w.params) mg base CX0 8 fa fd ["_law_script"] (zgz (K w.params) ts)):
  PySem.W.WalkO q loose XP YP l.row.toRowW d [] (fun f vs=>PySem.call f vs):=
 L2.walk_ofT (n:=63) (k:=8) (x:="_law_script") (CX:=fun _=>CX0) (sp:=fun w ts=>zgz (K w.params) ts) (ds:=[Str.ofString "by_points"]) hn (by decide) hdf ⟨rfl,by decide,by decide⟩ hY hD F (fun _ _ a ns ts hl hO hS=>⟨a,ns,rfl,hS,hl,fun b hb=>zkz (hO.tabs b hb),fun _=>rfl⟩) fun _ _ _ _ _ z=>z
end Mine
namespace PySem.W.Fast
def tw14875872071146415463:Nat:=0
def tw3309939649044987238:Nat:=0
def tw8761379576723373439:Nat:=0
def tw17495244600100662190:Nat:=0
def tw16969607561548462205:Nat:=0
def tw6518547672360216665:Nat:=0
def tw4794982835283960158:Nat:=0
def tw15096309998877939173:Nat:=0
def tw5572351657472251145:Nat:=0
def tw2152263428690733703:Nat:=0
def tw5295221786179428912:Nat:=0
def tw8840647687598741204:Nat:=0
def tw12352407641138917395:Nat:=0
def tw5554824944215193503:Nat:=0
def tw14601053551811860970:Nat:=0
def tw16645351563680895439:Nat:=0
def tw11064217054762478444:Nat:=0
def tw9008953051327182657:Nat:=0
def tw2001695083218663409:Nat:=0
def tw2796359301022582476:Nat:=0
def tw13835962855596110002:Nat:=0
def tw5137212130118786985:Nat:=0
def tw3985670065077686842:Nat:=0
def tw14273448092539320042:Nat:=0
def tw9105121702663055542:Nat:=0
def tw2143923488420303801:Nat:=0
def tw10688328111338953716:Nat:=0
def tw12285239382991355193:Nat:=0
def tw3723349474559956237:Nat:=0
def tw1095359005245428395:Nat:=0
def tw6447097843956302274:Nat:=0
def tw13335892066661421071:Nat:=0
def tw5322244684205143063:Nat:=0
def tw10960400235414327410:Nat:=0
def tw6808746366679038097:Nat:=0
def tw9426557885349658648:Nat:=0
def tw7181170574061925405:Nat:=0
def tw8525239582175776627:Nat:=0
def tw2293871190607312693:Nat:=0
def tw17074895132938429549:Nat:=0
def tw7672259580142123627:Nat:=0
def tw7442575858448041930:Nat:=0
def tw18242450904297508725:Nat:=0
def tw6589626143163431699:Nat:=0
def tw10080142629547530262:Nat:=0
def tw13032931588850714038:Nat:=0
def tw13402310209013296302:Nat:=0
def tw595741410932397977:Nat:=0
def tw18278228224661131000:Nat:=0
def tw17555996576106024485:Nat:=0
def tw16747155210986174735:Nat:=0
def tw15037598442984824774:Nat:=0
def tw9275968473276585305:Nat:=0
def tw2641749291629943799:Nat:=0
def tw6493980995291050222:Nat:=0
def tw735378174262072269:Nat:=0
def tw13261384951038145253:Nat:=0
def tw7672126359003129001:Nat:=0
def tw18179997006035326088:Nat:=0
def tw12173642753092185027:Nat:=0
def tw2198839236624373156:Nat:=0
def tw9972520308491777274:Nat:=0
def tw18073031215684930278:Nat:=0
def tw16935613644637988068:Nat:=0
def tw7674585516822928134:Nat:=0
def tw8382090233794498069:Nat:=0
def tw18101602315863516015:Nat:=0
def tw11801398070136392480:Nat:=0
def tw1819348588776074050:Nat:=0
def tw3509783526270526247:Nat:=0
def tw7947290067032712692:Nat:=0
def tw9834032859091030759:Nat:=0
def tw243914439044556356:Nat:=0
def tw10106933069100315834:Nat:=0
def tw14018858961787525441:Nat:=0
def tw14230087495303066381:Nat:=0
def tw18265302453633723128:Nat:=0
def tw12154319574301147690:Nat:=0
def tw5193048166554512847:Nat:=0
def tw15352861217136337823:Nat:=0
def tw5492256122522370502:Nat:=0
def tw16712615118090443774:Nat:=0
def tw10041914483991843903:Nat:=0
def tw10404115981103274803:Nat:=0
def tw11681898674023892084:Nat:=0
def tw646493828528501017:Nat:=0
def tw6353076071714811514:Nat:=0
def tw10874270131301386126:Nat:=0
def tw14883546420312065065:Nat:=0
def tw6714628123317072500:Nat:=0
def tw17761835505145151777:Nat:=0
def tw8578955481628546099:Nat:=0
def tw786197814319108045:Nat:=0
def tw9148115470950708100:Nat:=0
def tw12642872029538601791:Nat:=0
def tw5569624030382981255:Nat:=0
def tw6853715112332811804:Nat:=0
def tw3368681425410998299:Nat:=0
def tw16133452521344319130:Nat:=0
def tw2508739678700984124:Nat:=0
def tw12437224796482544171:Nat:=0
def tw11247826013019385889:Nat:=0
def tw11516591211077839544:Nat:=0
def tw9803288508129533311:Nat:=0
def tw13194066260129873334:Nat:=0
def tw7221421235033846196:Nat:=0
def tw6846906100484036186:Nat:=0
def tw11770199532164036662:Nat:=0
def tw7311864191621395891:Nat:=0
def tw4435788027286548313:Nat:=0
def tw5607074496819373363:Nat:=0
def tw5165550198385441680:Nat:=0
def tw16603610497943223303:Nat:=0
def tw15738040368105011724:Nat:=0
def tw15193686637920263730:Nat:=0
def tw17464585093562557126:Nat:=0
def tw8037671161770709630:Nat:=0
def tw17075693779611476785:Nat:=0
def tw1071380471659961844:Nat:=0
def tw10274911631457454928:Nat:=0
def tw15902217345411291423:Nat:=0
def tw8298158535081755728:Nat:=0
def tw3045989538827334911:Nat:=0
def tw15867158182669637315:Nat:=0
def tw5768381718902385234:Nat:=0
def tw6314454220616590716:Nat:=0
def tw17059826062294362408:Nat:=0
def tw7215832900746897439:Nat:=0
def tw8129394525563076450:Nat:=0
def tw11520422634374697182:Nat:=0
def tw12482640286044137247:Nat:=0
def tw14786144730217944698:Nat:=0
def tw11681838853182671024:Nat:=0
def tw16260411538318078653:Nat:=0
def tw15803067262525739146:Nat:=0
def tw7316187844977879898:Nat:=0
def tw704357589275219094:Nat:=0
def tw9091553658964720585:Nat:=0
def tw16785235900291236669:Nat:=0
def tw18420354064140929292:Nat:=0
def tw11075986768762212909:Nat:=0
def tw12930279828821245829:Nat:=0
def tw12165020584543547538:Nat:=0
def tw419073649511172569:Nat:=0
def tw11890870184296739550:Nat:=0
def tw4573975506158833916:Nat:=0
def tw12488052995872181660:Nat:=0
def tw12111935104157348286:Nat:=0
def tw2587561685841525297:Nat:=0
def tw2626928160235786909:Nat:=0
def tw6582314182377398422:Nat:=0
def tw13644226742659786103:Nat:=0
end PySem.W.Fast
open PySem PySem.W PyProof.Rows
set_option maxRecDepth 100000 in
set_option maxHeartbeats 0 in
theorem PySem.Challenge.cw_acre_k46_many_wedges_holds : PySem.Challenge.rw_acre_k46_many_wedges.Holds := by
 w_on;o_law;k_head;(case hw=>w_witness2)
 k_fill
 refine Mine.walk (l:=PySem.Challenge.rw_acre_k46_many_wedges) rfl rfl (fun w h Y=>PySem.W.km_in_of Y) (fun y hy=>by rw[List.mem_singleton.mp hy];exact⟨_,rfl⟩) ?F
 case F=>
  intro w mg fa h KX G hmg
  refine' Mine.all_mk KX G hmg ?a0 ?l0 ?c0 ?k0 ?a1 ?l1 ?c1 ?k1 ?a2 ?l2 ?c2 ?k2 ?a3 ?l3 ?c3 ?k3 ?a4 ?l4 ?c4 ?k4 ?a5 ?l5 ?c5 ?k5 ?a6 ?l6 ?c6 ?k6 ?a7 ?l7 ?c7 ?k7 ?a8 ?l8 ?c8 ?k8 ?a9 ?l9 ?c9 ?k9 ?a10 ?l10 ?c10 ?k10 ?lT0 ?vT0 ?hT0 ?tT0 ?nT0 ?a11 ?l11 ?c11 ?k11 ?a12 ?l12 ?c12 ?k12 ?a13 ?l13 ?c13 ?k13 ?a14 ?l14 ?c14 ?k14 ?a15 ?l15 ?c15 ?k15 ?a16 ?l16 ?c16 ?k16 ?a17 ?l17 ?c17 ?k17 ?a18 ?l18 ?c18 ?k18 ?a19 ?l19 ?c19 ?k19 ?a20 ?l20 ?c20 ?k20 ?a21 ?l21 ?c21 ?k21 ?a22 ?l22 ?c22 ?k22 ?a23 ?l23 ?c23 ?k23 ?a24 ?l24 ?c24 ?k24 ?a25 ?l25 ?c25 ?k25 ?a26 ?l26 ?c26 ?k26 ?a27 ?l27 ?c27 ?k27 ?a28 ?l28 ?c28 ?k28 ?a29 ?l29 ?c29 ?k29 ?a30 ?l30 ?c30 ?k30 ?a31 ?l31 ?c31 ?k31 ?z0 ?z1 ?z2 ?z3 ?z4 ?z5 ?z6 ?z7 ?z8 ?z9 ?z10 ?z11 ?z12
  (case a0=>k_is)
  (case l0=>k_is)
  (case c0=>k_is)
  (case k0=>k_is)
  (case a1=>k_is)
  (case l1=>k_is)
  (case c1=>k_is)
  (case k1=>k_is)
  (case a2=>k_is)
  (case l2=>k_is)
  (case c2=>k_is)
  (case k2=>k_is)
  (case a3=>k_is)
  (case l3=>k_is)
  (case c3=>k_is)
  (case k3=>k_is)
  (case a4=>k_is)
  (case l4=>k_is)
  (case c4=>k_is)
  (case k4=>k_is)
  (case a5=>k_is)
  (case l5=>k_is)
  (case c5=>k_is)
  (case k5=>k_is)
  (case a6=>k_is)
  (case l6=>k_is)
  (case c6=>k_is)
  (case k6=>k_is)
  (case a7=>k_is)
  (case l7=>k_is)
  (case c7=>k_is)
  (case k7=>k_is)
  (case a8=>k_is)
  (case l8=>k_is)
  (case c8=>k_is)
  (case k8=>k_is)
  (case a9=>k_is)
  (case l9=>k_is)
  (case c9=>k_is)
  (case k9=>k_is)
  (case a10=>k_is)
  (case l10=>k_is)
  (case c10=>k_is)
  (case k10=>k_is)
  (case lT0=>k_is)
  (case vT0=>rfl)
  (case hT0=>kernel_rfl)
  (case tT0=>kernel_rfl)
  (case nT0=>kernel_rfl)
  (case a11=>k_is)
  (case l11=>k_is)
  (case c11=>k_is)
  (case k11=>k_is)
  (case a12=>k_is)
  (case l12=>k_is)
  (case c12=>k_is)
  (case k12=>k_is)
  (case a13=>k_is)
  (case l13=>k_is)
  (case c13=>k_is)
  (case k13=>k_is)
  (case a14=>k_is)
  (case l14=>k_is)
  (case c14=>k_is)
  (case k14=>k_is)
  (case a15=>k_is)
  (case l15=>k_is)
  (case c15=>k_is)
  (case k15=>k_is)
  (case a16=>k_is)
  (case l16=>k_is)
  (case c16=>k_is)
  (case k16=>k_is)
  (case a17=>k_is)
  (case l17=>k_is)
  (case c17=>k_is)
  (case k17=>k_is)
  (case a18=>k_is)
  (case l18=>k_is)
  (case c18=>k_is)
  (case k18=>k_is)
  (case a19=>k_is)
  (case l19=>k_is)
  (case c19=>k_is)
  (case k19=>k_is)
  (case a20=>k_is)
  (case l20=>k_is)
  (case c20=>k_is)
  (case k20=>k_is)
  (case a21=>k_is)
  (case l21=>k_is)
  (case c21=>k_is)
  (case k21=>k_is)
  (case a22=>k_is)
  (case l22=>k_is)
  (case c22=>k_is)
  (case k22=>k_is)
  (case a23=>k_is)
  (case l23=>k_is)
  (case c23=>k_is)
  (case k23=>k_is)
  (case a24=>k_is)
  (case l24=>k_is)
  (case c24=>k_is)
  (case k24=>k_is)
  (case a25=>k_is)
  (case l25=>k_is)
  (case c25=>k_is)
  (case k25=>k_is)
  (case a26=>k_is)
  (case l26=>k_is)
  (case c26=>k_is)
  (case k26=>k_is)
  (case a27=>k_is)
  (case l27=>k_is)
  (case c27=>k_is)
  (case k27=>k_is)
  (case a28=>k_is)
  (case l28=>k_is)
  (case c28=>k_is)
  (case k28=>k_is)
  (case a29=>k_is)
  (case l29=>k_is)
  (case c29=>k_is)
  (case k29=>k_is)
  (case a30=>k_is)
  (case l30=>k_is)
  (case c30=>k_is)
  (case k30=>k_is)
  (case a31=>k_is)
  (case l31=>k_is)
  (case c31=>k_is)
  (case k31=>k_is)
  (case z0=>k_is)
  (case z1=>k_is)
  (case z2=>k_is)
  (case z3=>k_is)
  (case z4=>k_is)
  (case z5=>k_is)
  (case z6=>k_is)
  (case z7=>k_is)
  (case z8=>k_is)
  (case z9=>k_is)
  (case z10=>k_is)
  (case z11=>k_is)
  (case z12=>k_is)
