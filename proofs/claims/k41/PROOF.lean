import PyProof.Rows.All
import Wide.All
import OpenK.AllK
import Wide.FinOn
import Lean
import PyProof.EqAt
import PyProof.EqKinds
import PyProof.TupleCall
import PySem.Challenge.RW_acre_k41_fences_in_rings
set_option Elab.async false
set_option linter.all false
set_option maxRecDepth 100000
set_option maxHeartbeats 4000000
namespace L2
open PySem PySem.Spec PyProof.Rows
abbrev Key:=Sum Int Str
def zn5:Key->Value->Bool
 |.inl k,v=>Value.isInt k v
 |.inr x,v=>Value.isStrOf x v
def keyH(w:World):Key->Int
 |.inl k=>hashInt k
 |.inr x=>hashStr w x
theorem zbd:∀{k:Key}{v:Value},zn5 k v=true->(∃i t,k=Sum.inl i/\v=Value.int i t)∨(∃x t,k=Sum.inr x/\v=Value.str x t)
 |.inl i,v,h=>by
  obtain⟨t,e⟩:=Value.isInt_shape (k:=i) (v:=v) h;exact .inl ⟨i,t,rfl,e⟩
 |.inr x,v,h=>by
  obtain⟨t,e⟩:=Value.isStrOf_shape (x:=x) (v:=v) h;exact .inr ⟨x,t,rfl,e⟩
theorem zn8(i:Int)(t:Tok):zn5 (.inl i) (.int i t)=true:=by simp[zn5,Value.isInt]
theorem znm(x:Str)(t:Tok):zn5 (.inr x) (.str x t)=true:=by simp[zn5,Value.isStrOf]
theorem key_ll(a b:Int):decide ((Sum.inl a:Key)=Sum.inl b)=(a==b):=by
 by_cases e:a=b
 ·subst e;simp
 ·have h:¬(Sum.inl a:Key)=Sum.inl b:=fun q=>e (Sum.inl.inj q);rw[decide_eq_false h];exact(beq_eq_false_iff_ne.mpr e).symm
theorem key_rr(a b:Str):decide ((Sum.inr a:Key)=Sum.inr b)=decide (a=b):=by
 by_cases e:a=b
 ·subst e;simp
 ·have h:¬(Sum.inr a:Key)=Sum.inr b:=fun q=>e (Sum.inr.inj q);rw[decide_eq_false h,decide_eq_false e]
theorem key_lr(a:Int)(b:Str):decide ((Sum.inl a:Key)=Sum.inr b)=false:=decide_eq_false (fun q=>nomatch q)
theorem key_rl(a:Str)(b:Int):decide ((Sum.inr a:Key)=Sum.inl b)=false:=decide_eq_false (fun q=>nomatch q)
def zaa(prog:Program)(w:World):PySem.KeyKind prog w Key where
 is:=zn5
 hash:=keyH w
 inj:=fun v a b ha hb=>by
  rcases zbd ha with⟨i,t,rfl,rfl⟩|⟨x,t,rfl,rfl⟩
  ·rcases zbd hb with⟨j,u,rfl,e⟩|⟨y,u,rfl,e⟩
   ·injection e with e1 _;rw[e1]
   ·exact nomatch e
  ·rcases zbd hb with⟨j,u,rfl,e⟩|⟨y,u,rfl,e⟩
   ·exact nomatch e
   ·injection e with e1 _;rw[e1]
 byValue:=fun k v h=>by
  rcases zbd h with⟨i,t,rfl,rfl⟩|⟨x,t,rfl,rfl⟩<;>rfl
 pyHash:=fun hv h=>by
  rcases zbd hv with⟨i,t,rfl,rfl⟩|⟨x,t,rfl,rfl⟩
  ·exact wpAny_pyHash_int h
  ·exact wpAny_pyHash_str h
 eqBool:=fun hu hv h=>by
  rcases zbd hu with⟨i,t,rfl,rfl⟩|⟨x,t,rfl,rfl⟩
  ·rcases zbd hv with⟨j,u,rfl,rfl⟩|⟨y,u,rfl,rfl⟩
   ·rw[key_ll] at h;exact wpAny_eqBool_int h
   ·rw[key_lr] at h;exact SeqAt.EqAt.int_str i t y u _ _ _ _ h
  ·rcases zbd hv with⟨j,u,rfl,rfl⟩|⟨y,u,rfl,rfl⟩
   ·rw[key_rl] at h;exact SeqAt.EqAt.str_int x t j u _ _ _ _ h
   ·rw[key_rr] at h;exact wpAny_eqBool_str h
 «strs»:=fun k x t v h=>by
  rcases zbd h with⟨i,u,rfl,e⟩|⟨y,u,rfl,e⟩
  ·exact nomatch e
  ·injection e with e1 _
   subst e1
   cases v<;>rfl
theorem zku(prog:Program)(w:World)(i:Int)(t:Tok):(zaa prog w).is (.inl i) (.int i t)=true:=zn8 i t
theorem zju(prog:Program)(w:World)(x:Str)(t:Tok):(zaa prog w).is (.inr x) (.str x t)=true:=znm x t
inductive V where
 |non|bl (b:Bool)|int (i:Int)|str (x:Str)|byt (b:Array UInt8)|flt (b:UInt64)|ref (a:Addr)|ty (n:String)
 deriving DecidableEq
def RelV:V->Value->Prop
 |.non,u=>u=Value.none
 |.bl b,u=>u=Value.bool b
 |.int i,u=>∃t,u=Value.int i t
 |.str x,u=>∃t,u=Value.str x t
 |.byt b,u=>∃t,u=Value.bytes b t
 |.flt b,u=>∃t,u=Value.float b t
 |.ref a,u=>u=Value.ref a
 |.ty n,u=>u=Value.type n
abbrev Vals:List V->List Value->Prop:=Paired RelV
theorem Vals.length{xs:List V}{us:List Value}(r:Vals xs us):xs.length=us.length:=Paired.length r
theorem Vals.get:∀{xs:List V}{us:List Value}{i:Nat}{x:V},Vals xs us->xs[i]?=some x->∃u,us[i]?=some u/\RelV x u
 |_,_,_,_,.nil,e=>by simp at e
 |_,_,0,_,.cons r _,e=>by simp at e;subst e;exact⟨_,rfl,r⟩
 |_,_,i+1,x,.cons _ t,e=>by
  obtain⟨u,h1,h2⟩:=Vals.get (i:=i) (x:=x) t (by simpa using e)
  exact⟨u,by simpa using h1,h2⟩
theorem Vals.append:∀{xs ys:List V}{us ws:List Value},Vals xs us->Vals ys ws->Vals (xs++ys) (us++ws)
 |_,_,_,_,.nil,s=>s
 |_,_,_,_,.cons r t,s=>.cons r (Vals.append t s)
theorem Vals.take:∀{xs:List V}{us:List Value}(n:Nat),Vals xs us->Vals (xs.take n) (us.take n)
 |_,_,0,_=>.nil
 |_,_,_+1,.nil=>.nil
 |_,_,n+1,.cons r t=>.cons r (Vals.take n t)
theorem Vals.drop:∀{xs:List V}{us:List Value}(n:Nat),Vals xs us->Vals (xs.drop n) (us.drop n)
 |_,_,0,r=>r
 |_,_,_+1,.nil=>.nil
 |_,_,n+1,.cons _ t=>Vals.drop n t
def RelO:Option V->Option Value->Prop
 |some v,some u=>RelV v u
 |none,none=>True
 |_,_=>False
def KV{κ:Type}:List (κ×V)->List (κ×Value)->Prop:=Paired fun(p:κ×V)(q:κ×Value)=>p.1=q.1/\RelV p.2 q.2
def kV:Key->V
 |.inl i=>.int i
 |.inr x=>.str x
inductive HO where
 /--a list-/
 |lst (xs:List V)
 /--a tuple (never changes)-/
 |tup (xs:List V)
 /--a dict whose keys are ints and texts;one whose keys are tuples of ints and texts (the empty one is both)-/
 |dK (kvs:List (Key×V))|dT (kvs:List (List Key×V))
 /--a set of ints:its members,its size-/
 |set (S:Int->Bool) (n:Nat)
 /--an instance of the class at C,its dict at dx,its attributes-/
 |ins (C dx:Addr) (fs:List (Str×V))
 /--the dict of the instance at x-/
 |own (x:Addr)
 /--the dict of an exception-/
 |xd (fs:List (Str×V))
 /--a bound method,f of x-/
 |met (f x:Addr)
 /--a range object lo,lo+1,.. below hi-/
 |rng (lo hi:Int)
 /--a thing that is known to the object (the script;a dict while a loop walks it):read,never written while it is so-/
 |frz (o:Obj) (u:HO)
 /--a code object's table-/
 |tbl (ps:Array Value)
 /--any other thing,by what is true of its one object (a def of one's own:SetO a S n:=HO.ext fun h=>..)-/
 |ext (φ:Heap->Prop)
abbrev Hp:=Addr->Option HO
def upd(H:Hp)(a:Addr)(o:HO):Hp:=fun b=>if b=a then some o else H b
theorem upd_same{H:Hp}{a:Addr}{o:HO}:upd H a o a=some o:=by unfold upd;rw[if_pos rfl]
theorem za5{H:Hp}{a b:Addr}{o:HO}(h:b≠a):upd H a o b=H b:=by unfold upd;rw[if_neg h]
theorem upd_upd{H:Hp}{a:Addr}{o u:HO}:upd (upd H a o) a u=upd H a u:=by
 funext b;unfold upd;split<;>rfl
theorem zkk{H:Hp}{a b:Addr}{o u:HO}(h:H a=some o)(h':H b=some u)(d:o≠u):a≠b:=by
 intro e;subst e;rw[h] at h';exact d (Option.some.inj h')
theorem zb5{H:Hp}{a b:Addr}{o:HO}(h:H a=some o)(h':H b=none):a≠b:=by
 intro e;subst e;rw[h] at h';cases h'
section
variable(P:Program)(w:World)
def zct(H:Hp)(h:Heap)(a:Addr):HO->Prop
 |.lst xs=>xs.length<=sizeLine/\∃(its:List Value)(n:Nat),Vals xs its/\h.get? a=some {cls:=.type "list",data:=.seq its.toArray n}
 |.tup xs=>xs.length<=sizeLine/\∃its:List Value,Vals xs its/\IsTup h a its.toArray
 |.dK kvs=>kvs.length<=sizeLine/\(a==sysModules)=false/\∃vs,KV kvs vs/\h.DictOf (zaa P w) a vs
 |.dT kvs=>kvs.length<=sizeLine/\(a==sysModules)=false/\∃xs:List (List Key×Addr×Value),
   Paired (fun(p:List Key×V)(q:List Key×Addr×Value)=>p.1=q.1/\H q.2.1=some (.tup (p.1.map kV))/\RelV p.2 q.2.2) kvs xs/\
   ∃o es ep,h.get? a=some o/\o.ExactDict/\o.data=.dict es ep/\es.toList=xs.map (entryOfKey (tupleKind (zaa P w)))/\(xs.map (·.1)).Nodup
 |.set S n=>h.SetOf (intKind P w) a S n
 |.ins C dx fs=>H dx=some (.own a)/\fs.length<=1000/\dx≠a/\h.get? a=some (PySem.W.instObj C dx)/\
   ∃mA,h.Ns1 dx mA/\(∀f,RelO (fs.lookup f) (mA f))/\PySem.Within mA (fs.map (·.1))
 |.own _=>∃o,h.get? a=some o
 |.xd fs=>∃mA,h.Ns1 a mA/\∀f,RelO (fs.lookup f) (mA f)
 |.rng lo hi=>∃t u v,h.get? a=some {cls:=.type "range",data:=.fields #[.int lo t,.int hi u,.int 1 v]}
 |.frz o u=>h.get? a=some o/\zct H h a u
 |.tbl ps=>h.get? a=some {cls:=.none,data:=.fields ps}
 |.met f x=>h.get? a=some (PySem.W.methodObj (.ref f) (.ref x))
 |.ext φ=>φ h/\(∃o,h.get? a=some o)/\∀h1 h2:Heap,φ h1->(∀o,h1.get? a=some o->h2.get? a=some o)->φ h2
def HOk(H:Hp)(h:Heap):Prop:=∀a o,H a=some o->zct P w H h a o
end
section
variable{P:Program}{w:World}{H H':Hp}{h h':Heap}{a:Addr}{o:HO}
theorem zct.lt(x:zct P w H h a o):a<h.objs.size:=by
 cases o with
 |lst xs=>obtain⟨_,_,_,_,e⟩:=x;exact Heap.lt_size e
 |tup xs=>obtain⟨_,_,_,p⟩:=x;exact p.lt
 |dK kvs=>obtain⟨_,_,_,_,o,_,_,e,_⟩:=x;exact Heap.lt_size e
 |dT kvs=>obtain⟨_,_,_,_,o,_,_,e,_⟩:=x;exact Heap.lt_size e
 |set S n=>obtain⟨o,_,_,_,e,_⟩:=x;exact Heap.lt_size e
 |ins C dx fs=>obtain⟨_,_,_,e,_⟩:=x;exact Heap.lt_size e
 |own y=>obtain⟨_,e⟩:=x;exact Heap.lt_size e
 |xd fs=>obtain⟨_,⟨_,_,_,e,_⟩,_⟩:=x;exact Heap.lt_size e
 |rng lo hi=>obtain⟨_,_,_,e⟩:=x;exact Heap.lt_size e
 |frz ob u=>obtain⟨e,_⟩:=x;exact Heap.lt_size e
 |tbl ps=>exact Heap.lt_size (show h.get? a=some _ from x)
 |met f y=>exact Heap.lt_size (show h.get? a=some _ from x)
 |ext φ=>obtain⟨_,⟨_,e⟩,_⟩:=x;exact Heap.lt_size e
theorem Paired.mapP{α β:Type}{F G:α->β->Prop}:∀{l₁:List α}{l₂:List β},Paired F l₁ l₂->(∀a b,F a b->G a b)->Paired G l₁ l₂
 |_,_,.nil,_=>.nil
 |_,_,.cons r t,f=>.cons (f _ _ r) (Paired.mapP t f)
theorem zct.stay(x:zct P w H h a o)(k:∀b u,(b=a∨H b=some (.own a))->h.get? b=some u->h'.get? b=some u)
  (ho:∀b,H b=some (.own a)->H' b=some (.own a))(ht:∀b xs,H b=some (.tup xs)->H' b=some (.tup xs)):zct P w H' h' a o:=by
 induction o with
 |lst xs=>obtain⟨z,its,n,r,e⟩:=x;exact⟨z,its,n,r,k _ _ (.inl rfl) e⟩
 |tup xs=>obtain⟨z,its,r,ob,e,c⟩:=x;exact⟨z,its,r,ob,k _ _ (.inl rfl) e,c⟩
 |dK kvs=>obtain⟨z,y,vs,r,ob,es,ep,e,c⟩:=x;exact⟨z,y,vs,r,ob,es,ep,k _ _ (.inl rfl) e,c⟩
 |dT kvs=>
  obtain⟨z,y,xs,r,ob,es,ep,e,c⟩:=x;exact⟨z,y,xs,Paired.mapP r fun p q z=>⟨z.1,ht _ _ z.2.1,z.2.2⟩,ob,es,ep,k _ _ (.inl rfl) e,c⟩
 |set S n=>obtain⟨ob,es,ep,t,e,c⟩:=x;exact⟨ob,es,ep,t,k _ _ (.inl rfl) e,c⟩
 |ins C dx fs=>
  obtain⟨d,z,ne,e,mA,⟨od,es,ep,e2,c⟩,r⟩:=x;exact⟨ho _ d,z,ne,k _ _ (.inl rfl) e,mA,⟨od,es,ep,k _ _ (.inr d) e2,c⟩,r⟩
 |own y=>obtain⟨ob,e⟩:=x;exact⟨ob,k _ _ (.inl rfl) e⟩
 |xd fs=>obtain⟨mA,⟨od,es,ep,e,c⟩,r⟩:=x;exact⟨mA,⟨od,es,ep,k _ _ (.inl rfl) e,c⟩,r⟩
 |rng lo hi=>obtain⟨t,u,v,e⟩:=x;exact⟨t,u,v,k _ _ (.inl rfl) e⟩
 |frz ob u ih=>obtain⟨e,q⟩:=x;exact⟨k _ _ (.inl rfl) e,ih q⟩
 |tbl ps=>
  have e:h.get? a=some {cls:=.none,data:=.fields ps}:=x;show h'.get? a=some {cls:=.none,data:=.fields ps};exact k a _ (.inl rfl) e
 |met f y=>
  have e:h.get? a=some (PySem.W.methodObj (.ref f) (.ref y)):=x;show h'.get? a=some (PySem.W.methodObj (.ref f) (.ref y));exact k a _ (.inl rfl) e
 |ext φ=>obtain⟨p,⟨o,e⟩,st⟩:=x;exact⟨st _ _ p fun o q=>k _ _ (.inl rfl) q,⟨o,k _ _ (.inl rfl) e⟩,st⟩
theorem HOk.lt(x:HOk P w H h)(e:H a=some o):a<h.objs.size:=(x a o e).lt
theorem HOk.fresh(x:HOk P w H h)(e:h.objs.size<=a):H a=none:=by
 cases q:H a with
 |none=>rfl
 |some u=>exact absurd (Nat.lt_of_lt_of_le (x.lt q) e) (Nat.lt_irrefl _)
theorem HOk.kept(x:HOk P w H h)(k:∀b u,h.get? b=some u->h'.get? b=some u):HOk P w H h':=fun a o e=>
 (x a o e).stay (fun b u _ q=>k b u q) (fun _ q=>q) fun _ _ q=>q
theorem HOk.laid(x:HOk P w H h)(k:∀b u,h.get? b=some u->h'.get? b=some u)(hp:h.objs.size<=a)(new:zct P w (upd H a o) h' a o):HOk P w (upd H a o) h':=fun b u e=>by
 have hn:=x.fresh hp
 by_cases hb:b=a
 ·subst hb;rw[upd_same] at e;cases e;exact new
 ·rw[za5 hb] at e;exact(x b u e).stay (fun c v _ q=>k c v q) (fun c q=>by rw[za5 (zb5 q hn)];exact q) fun c xs q=>by rw[za5 (zb5 q hn)];exact q
end
def Rd(H:Hp)(a:Addr)(u:HO):Prop:=H a=some u∨∃o,H a=some (.frz o u)
theorem Rd.of{H:Hp}{a:Addr}{u:HO}(h:H a=some u):Rd H a u:=.inl h
theorem Rd.ok{P:Program}{w:World}{H:Hp}{h:Heap}{a:Addr}{u:HO}(r:Rd H a u)(x:HOk P w H h):zct P w H h a u:=by
 rcases r with r|⟨o,r⟩
 ·exact x a u r
 ·obtain⟨_,q⟩:=x a _ r;exact q
def Mut:Option HO->Prop
 |some (.lst _)=>True
 |some (.dK _)=>True
 |some (.dT _)=>True
 |some (.set _ _)=>True
 |some (.ins _ _ _)=>True
 |some (.ext _)=>True
 |_=>False
section
variable{P:Program}{w:World}{H:Hp}{h h':Heap}{x e:Addr}{o':HO}
theorem HOk.write(ok:HOk P w H h)(mu:Mut (H x))(he:e=x∨H e=some (.own x))(k:∀b u,b≠e->h.get? b=some u->h'.get? b=some u)(heo:∃u,h'.get? e=some u)
  (new:zct P w (upd H x o') h' x o'):HOk P w (upd H x o') h':=fun b u q=>by
 have nown:∀c y,H c=some (.own y)->c≠x:=fun c y r z=>by subst z;rw[r] at mu;exact mu
 have ntup:∀c xs,H c=some (.tup xs)->c≠x:=fun c xs r z=>by subst z;rw[r] at mu;exact mu
 by_cases hb:b=x
 ·subst hb;rw[upd_same] at q;cases q;exact new
 ·rw[za5 hb] at q
  by_cases hbe:b=e
  ·have q':H b=some (.own x):=by
    rcases he with z|z
    ·exact absurd (hbe.trans z) hb
    ·rw[hbe];exact z
   rw[q] at q';cases q';obtain⟨v,hv⟩:=heo;exact⟨v,by rw[hbe];exact hv⟩
  ·refine(ok b u q).stay (fun c v hc r=>k c v ?_ r) (fun c r=>by rw[za5 (nown c b r)];exact r) fun c xs r=>by rw[za5 (ntup c xs r)];exact r
   rcases hc with rfl|hc
   ·exact hbe
   ·rintro rfl;rcases he with z|z
    ·exact nown c b hc z
    ·rw[hc] at z;cases z;exact hb rfl
end
structure Un(fs ex:List Addr)(H H':Hp)(h h':Heap):Prop where
 keep:∀b o,h.get? b=some o->H b=none->b∉fs->b∉ex->h'.get? b=some o
 slot:∀b o,h.get? b=some o->H b=none->b∈fs->b∉ex->∃sl,h'.get? b=some {o with slots:=sl}
 free:∀b o,h.get? b=some o->H b=none->b∉ex->H' b=none
 there:∀b o,h.get? b=some o->b∉ex->∃o',h'.get? b=some o'
 tups:∀b xs,H b=some (.tup xs)->H' b=some (.tup xs)
 frzs:∀b o u,H b=some (.frz o u)->H' b=some (.frz o u)
 tbls:∀b ps,H b=some (.tbl ps)->∃more,H' b=some (.tbl (ps++more))
section
variable{fs fs' ex ex':List Addr}{H H1 H2:Hp}{h h1 h2 h':Heap}{a x e:Addr}{o:HO}
theorem Un.any(u:Un fs ex H H1 h h1){b:Addr}{ob:Obj}(q:h.get? b=some ob)(n:H b=none)(hx:b∉ex):∃sl,h1.get? b=some {ob with slots:=sl}:=by
 by_cases hb:b∈fs
 ·exact u.slot b ob q n hb hx
 ·exact⟨ob.slots,u.keep b ob q n hb hx⟩
theorem Un.kept(k:∀b u,h.get? b=some u->h'.get? b=some u):Un fs ex H H h h':=
 ⟨fun b ob q _ _ _=>k b ob q,fun b ob q _ _ _=>⟨ob.slots,k b ob q⟩,fun _ _ _ n _=>n,fun b ob q _=>⟨ob,k b ob q⟩,fun _ _ q=>q,fun _ _ _ q=>q,fun _ ps q=>⟨#[],by rw[q];simp⟩⟩
theorem Un.refl:Un fs ex H H h h:=Un.kept fun _ _ q=>q
theorem Un.laid(k:∀b u,h.get? b=some u->h'.get? b=some u)(hp:h.objs.size<=a)(hn:H a=none):Un fs ex H (upd H a o) h h' where
 keep:=fun b u q _ _ _=>k b u q
 slot:=fun b u q _ _ _=>⟨u.slots,k b u q⟩
 free:=fun b u q n _=>by rw[za5 (Nat.ne_of_lt (Nat.lt_of_lt_of_le (Heap.lt_size q) hp))];exact n
 there:=fun b u q _=>⟨u,k b u q⟩
 tups:=fun b xs q=>by rw[za5 (zb5 q hn)];exact q
 frzs:=fun b u xs q=>by rw[za5 (zb5 q hn)];exact q
 tbls:=fun b ps q=>⟨#[],by rw[za5 (zb5 q hn),q];simp⟩
theorem Un.write(mu:Mut (H x))(he:e=x∨H e=some (.own x))(k:∀b u,b≠e->h.get? b=some u->h'.get? b=some u)(heo:∃u,h'.get? e=some u):Un fs ex H (upd H x o) h h':=by
 have hx:∀b,H b=none->b≠x:=fun b n z=>by subst z;rw[n] at mu;exact mu
 have hb:∀b,H b=none->b≠e:=fun b n z=>by
  subst z;rcases he with r|r
  ·exact hx b n r
  ·rw[n] at r;cases r
 have hm:∀b u,H b=some u->¬Mut (some u)->b≠x:=fun b u q nm z=>by subst z;rw[q] at mu;exact nm mu
 refine⟨fun b u q n _ _=>k b u (hb b n) q,fun b u q n _ _=>⟨u.slots,k b u (hb b n) q⟩,fun b u q n _=>by rw[za5 (hx b n)];exact n,fun b u q _=>?_,
  fun b xs q=>by rw[za5 (hm b _ q fun z=>z)];exact q,fun b u xs q=>by rw[za5 (hm b _ q fun z=>z)];exact q,fun b ps q=>⟨#[],by rw[za5 (hm b _ q fun z=>z),q];simp⟩⟩
 by_cases hbe:b=e
 ·subst hbe;exact heo
 ·exact⟨u,k b u hbe q⟩
end
def trk(h:Heap)(H:Hp):List Addr:=(List.range h.objs.size).filter fun a=>(H a).isSome
def hidT(h:Heap)(H:Hp):Heap:=PySem.W.hideAll h (trk h H)
theorem znk(h:Heap)(H:Hp):(hidT h H).objs.size=h.objs.size:=PySem.W.hideAll_size _ _
theorem hidT_get{h:Heap}{H:Hp}{b:Addr}{o:Obj}(e:h.get? b=some o)(n:H b=none):(hidT h H).get? b=some o:=
 PySem.W.hideAll_get _ e fun hm=>by
  have q:(H b).isSome=true:=(List.mem_filter.mp hm).2;rw[n] at q;simp at q
theorem of_hidT{h:Heap}{H:Hp}{b:Addr}{o:Obj}(e:(hidT h H).get? b=some o):h.get? b=some o/\H b=none:=by
 have e':h.get? b=some o:=PySem.W.of_hideAll (trk h H) e;refine⟨e',?_⟩
 cases q:H b with
 |none=>rfl
 |some x=>
  have hm:b∈trk h H:=List.mem_filter.mpr ⟨List.mem_range.mpr (Heap.lt_size e'),by simp[q]⟩
  have z:(hidT h H).get? b=none:=PySem.W.hideAll_none (trk h H) hm;rw[z] at e;cases e
def allNews(g h:Heap)(L:Addr):List (Addr×Obj):=(List.range h.objs.size).filterMap fun a=>if a=L∨(g.get? a).isSome=true then none else(h.get? a).map fun o=>(a,o)
def rest(g h:Heap)(L d:Addr):List (Addr×Obj):=(allNews g h L).filter fun p=>decide (p.1≠d)
structure Mod(K:PySem.W.Frag)(mg:Str->Option Value)(base:Heap):Prop where
 kin:K.In base
 glob:base.Ns mainGlobals mg
 blt:∃mb,base.Ns builtinsNs mb/\∀x:Str,x≠"__name__"->mb x=bootBuiltins x
 nolimit:base.NoLimit
structure Cx where
 prog:Program
 w:World
 K:PySem.W.Frag
 mg:Str->Option Value
 base:Heap
 A:Around
 N:List Str
 s₀:Shared
 H₀:Hp
 env:Env
 outer:List Env
 stack:List Env
 ex:List Addr
 fn:Str->Bool
 calm:Bool
 pn:List (Addr×Obj)
 xe:Value->Shared->Prop
def frs(l:List Env):List Addr:=l.filterMap (·.frame)
abbrev Cx.fs(X:Cx):List Addr:=frs X.outer
def Vis(sc:Scope)(x:Str):Prop:=sc.names.lookup x=some .local∨sc.names.lookup x=some .cell∨sc.names.lookup x=some .free
def Loc(sc:Scope)(x:Str):Prop:=sc.names.lookup x=some .local∨sc.names.lookup x=some .cell
def Look(env:Env)(h:Heap)(m:Str->Option Value)(x:Str)(u:Value):Prop:=
 (env.kindOf x=some .local/\m x=some u)∨((env.kindOf x=some .cell∨env.kindOf x=some .free)/\∃c,env.cells.lookup x=some c/\h.IsCell c (some u))
structure Cx.Ok(X:Cx):Prop where
 mod:Mod X.K X.mg X.base
 kind:X.env.scope.kind=.function
 glob:X.env.globals=mainGlobals
 blt:X.env.builtins=builtinsNs
 above:X.s₀.heap.objs.size<=X.env.locals
 inj:∀x y c,X.env.cells.lookup x=some c->X.env.cells.lookup y=some c->x=y
 has:∀x,(X.env.kindOf x=some .cell∨X.env.kindOf x=some .free)->∃c,X.env.cells.lookup x=some c
 cab:∀x c,X.fn x=true->X.env.cells.lookup x=some c->X.s₀.heap.objs.size<=c
 hd:X.calm=true->X.A.handled=none
 frames:X.A.frames=some X.stack
 stk:X.stack=X.outer∨(X.stack=X.env::X.outer/\X.env.frame=some X.env.locals)
 exf:∀b∈X.ex,b≠X.env.locals/\∀x c,X.env.cells.lookup x=some c->c≠b
 bs:∀b o,X.base.get? b=some o->X.s₀.heap.get? b=some o/\X.H₀ b=none
 bsz:X.base.objs.size<=X.s₀.heap.objs.size
 noex:∀b o,X.base.get? b=some o->b∉X.ex
 exfs:∀b∈X.ex,b∉X.fs
 funs:X.s₀.heap.FunFrames X.base X.outer
 frf:∀b∈X.fs,X.H₀ b=none
structure Inv(X:Cx)(pins:List (Addr×Obj))(σ:List (Option V))(H:Hp)(s:Shared):Prop where
 ok:X.Ok
 os:s.os=X.s₀.os
 bare:AllBare s.gens
 base:Un X.fs X.ex X.H₀ H X.s₀.heap s.heap
 loc:∃m,s.heap.Ns X.env.locals m/\∀(i:Nat)(x:Str)(v:V),X.N[i]?=some x->σ[i]?=some (some v)->Vis X.env.scope x->∃u,RelV v u/\Look X.env s.heap m x u
 cell:∀x c,X.env.cells.lookup x=some c->∃v,s.heap.IsCell c v
 free:H X.env.locals=none
 freeC:∀x c,X.env.cells.lookup x=some c->H c=none
 pin:∀p∈X.pn++pins,s.heap.get? p.1=some p.2/\H p.1=none/\p.1≠X.env.locals/\p.1∉X.fs/\∀v,p.2.data≠.cell v
 hok:HOk X.prog X.w H s.heap
 len:σ.length=X.N.length
section
variable{X:Cx}{pins:List (Addr×Obj)}{σ:List (Option V)}{H H':Hp}{s:Shared}{h':Heap}
theorem Cx.Ok.nofr(ok:X.Ok){b:Addr}{o:Obj}(e:X.base.get? b=some o):b∉X.fs:=fun hb=>by
 have:=(ok.funs.mem hb).1;rw[e] at this;cases this
theorem Inv.bs(I:Inv X pins σ H s):∀b o,X.base.get? b=some o->s.heap.get? b=some o/\H b=none:=fun b o e=>
 ⟨I.base.keep b o (I.ok.bs b o e).1 (I.ok.bs b o e).2 (I.ok.nofr e) (I.ok.noex b o e),I.base.free b o (I.ok.bs b o e).1 (I.ok.bs b o e).2 (I.ok.noex b o e)⟩
theorem Inv.bk(I:Inv X pins σ H s):∀b o,X.base.get? b=some o->s.heap.get? b=some o:=fun b o e=>(I.bs b o e).1
theorem Inv.mod(I:Inv X pins σ H s):Mod X.K X.mg X.base:=I.ok.mod
theorem Inv.kIn(I:Inv X pins σ H s):X.K.In s.heap:=I.ok.mod.kin.keeps I.bk
theorem Inv.nolimit(I:Inv X pins σ H s):s.heap.NoLimit:=I.ok.mod.nolimit.keeps I.bk
theorem Inv.lt(I:Inv X pins σ H s):X.env.locals<s.heap.objs.size:=let⟨_,hn,_⟩:=I.loc;hn.lt
theorem Inv.sz(I:Inv X pins σ H s):X.s₀.heap.objs.size<=s.heap.objs.size:=Nat.le_trans I.ok.above (Nat.le_of_lt I.lt)
theorem Inv.nofs(I:Inv X pins σ H s){a:Addr}(h:s.heap.objs.size<=a):a∉X.fs:=fun hb=>by
 obtain⟨_,o,ho,_⟩:=I.ok.funs.mem hb;exact absurd (Nat.lt_of_lt_of_le (Heap.lt_size ho) (Nat.le_trans I.sz h)) (Nat.lt_irrefl _)
theorem Inv.cne(I:Inv X pins σ H s):∀x c,X.env.cells.lookup x=some c->c≠X.env.locals:=fun x c e z=>by
 obtain⟨v,o,ho,hd⟩:=I.cell x c e;obtain⟨m,⟨o',es,ep,ho',hd',_⟩,_⟩:=I.loc;rw[z,ho'] at ho;cases ho;rw[hd'] at hd;cases hd
theorem Inv.funs(I:Inv X pins σ H s):s.heap.FunFrames X.base X.outer:=by
 have all:∀(l:List Env),(∀b∈frs l,b∈X.fs)->X.s₀.heap.FunFrames X.base l->s.heap.FunFrames X.base l:=by
  intro l
  induction l with
  |nil=>intro _ _;trivial
  |cons env r ih=>
   intro hs hl;obtain⟨hk,⟨L,o,hf,hn,ho,hd⟩,hr⟩:=hl;have hL:L∈X.fs:=hs L (by unfold frs;rw[List.filterMap_cons,hf];exact List.mem_cons_self)
   obtain⟨sl,e⟩:=I.base.slot L o ho (I.ok.frf L hL) hL fun z=>I.ok.exfs L z hL;exact⟨hk,⟨L,_,hf,hn,e,hd⟩,ih (fun b hb=>hs b (by unfold frs;rw[List.filterMap_cons,hf];exact List.mem_cons_of_mem _ hb)) hr⟩
 exact all X.outer (fun _ hb=>hb) I.ok.funs
theorem Inv.stack(I:Inv X pins σ H s):s.heap.FunFrames X.base X.stack:=by
 rcases I.ok.stk with e|⟨e,hf⟩
 ·rw[e];exact I.funs
 ·rw[e];obtain⟨m,hn,_⟩:=I.loc;refine .cons (by rw[I.ok.kind];decide) hf hn ?_ I.funs
  exact Heap.get?_none_of_le (Nat.le_trans I.ok.bsz I.ok.above)
theorem Inv.stkSub(I:Inv X pins σ H s):∀b∈frs X.stack,b∈X.env.locals::X.fs:=fun b hb=>by
 rcases I.ok.stk with e|⟨e,hf⟩
 ·rw[e] at hb;exact List.mem_cons_of_mem _ hb
 ·rw[e] at hb;unfold frs at hb;rw[List.filterMap_cons,hf] at hb;exact hb
theorem Inv.stkFree(I:Inv X pins σ H s):∀b∈frs X.stack,H b=none:=fun b hb=>by
 rcases List.mem_cons.mp (I.stkSub b hb) with e|hb
 ·rw[e];exact I.free
 ·obtain⟨_,o,ho,_⟩:=I.ok.funs.mem hb;exact I.base.free b o ho (I.ok.frf b hb) fun z=>I.ok.exfs b z hb
theorem Inv.step{g':Array GenState}{t':Nat}{d':Drawn}{ch:List Addr}(I:Inv X pins σ H s)
  (hch:∀b∈ch,(b∈X.ex∨X.s₀.heap.objs.size<=b)/\b≠X.env.locals/\(∀x c,X.env.cells.lookup x=some c->c≠b)/\∀p∈X.pn++pins,p.1≠b)
  (keep:∀b o,b≠X.env.locals->b∉X.fs->b∉ch->s.heap.get? b=some o->H b=none->h'.get? b=some o)
  (slot:∀b o,b≠X.env.locals->b∈X.fs->b∉ch->s.heap.get? b=some o->H b=none->∃sl,h'.get? b=some {o with slots:=sl})(free:∀b o,b∉ch->s.heap.get? b=some o->H b=none->H' b=none)
  (there:∀b o,b∉ch->s.heap.get? b=some o->∃o',h'.get? b=some o')
  (tups:∀b xs,H b=some (.tup xs)->H' b=some (.tup xs)) (frzs:∀b o u,H b=some (.frz o u)->H' b=some (.frz o u)) (tbls:∀b ps,H b=some (.tbl ps)->∃more,H' b=some (.tbl (ps++more)))
  (ns:∀m,s.heap.Ns X.env.locals m->h'.Ns X.env.locals m) (hok:HOk X.prog X.w H' h') (hg:AllBare g'):
  Inv X pins σ H' {s with heap:=h',gens:=g',drawn:=d',toks:=t'}:=by
 have neL:∀b o,X.s₀.heap.get? b=some o->b≠X.env.locals:=fun b o e=>Nat.ne_of_lt (Nat.lt_of_lt_of_le (Heap.lt_size e) I.ok.above);have neC:∀b o,X.s₀.heap.get? b=some o->b∉X.ex->b∉ch:=fun b o e hx hb=>by
  rcases(hch b hb).1 with z|z
  ·exact hx z
  ·exact absurd (Nat.lt_of_lt_of_le (Heap.lt_size e) z) (Nat.lt_irrefl _)
 have cellK:∀x c,X.env.cells.lookup x=some c->∀v,s.heap.IsCell c v->h'.IsCell c v:=fun x c e v⟨o,ho,hd⟩=>by
  have nch:c∉ch:=fun z=>(hch c z).2.2.1 x c e rfl
  by_cases hc:c∈X.fs
  ·obtain⟨sl,q⟩:=slot c o (I.cne x c e) hc nch ho (I.freeC x c e);exact⟨_,q,hd⟩
  ·exact⟨o,keep c o (I.cne x c e) hc nch ho (I.freeC x c e),hd⟩
 refine⟨I.ok,I.os,hg,⟨fun b o e n hb hx=>?_,fun b o e n hb hx=>?_,fun b o e n hx=>?_,fun b o e hx=>?_,fun b xs e=>tups b xs (I.base.tups b xs e),fun b o xs e=>frzs b o xs (I.base.frzs b o xs e),fun b ps e=>?_⟩,?_,fun x c e=>?_,?_,fun x c e=>?_,fun p hp=>?_,hok,I.len⟩
 ·exact keep b o (neL b o e) hb (neC b o e hx) (I.base.keep b o e n hb hx) (I.base.free b o e n hx)
 ·obtain⟨sl,e1⟩:=I.base.slot b o e n hb hx;obtain⟨sl',e2⟩:=slot b _ (neL b o e) hb (neC b o e hx) e1 (I.base.free b o e n hx);exact⟨sl',e2⟩
 ·obtain⟨o',e1⟩:=I.base.there b o e hx;exact free b o' (neC b o e hx) e1 (I.base.free b o e n hx)
 ·obtain⟨o',e1⟩:=I.base.there b o e hx;exact there b o' (neC b o e hx) e1
 ·obtain⟨m1,e1⟩:=I.base.tbls b ps e;obtain⟨m2,e2⟩:=tbls b _ e1;exact⟨m1++m2,by rw[e2,Array.append_assoc]⟩
 ·obtain⟨m,hn,hl⟩:=I.loc;refine⟨m,ns m hn,fun i x v e1 e2 e3=>?_⟩;obtain⟨u,r,l⟩:=hl i x v e1 e2 e3;refine⟨u,r,?_⟩;rcases l with l|⟨k,c,e,z⟩
  ·exact .inl l
  ·exact .inr ⟨k,c,e,cellK x c e _ z⟩
 ·obtain⟨v,z⟩:=I.cell x c e;exact⟨v,cellK x c e v z⟩
 ·obtain⟨m,⟨o,_,_,ho,_⟩,_⟩:=I.loc;exact free _ o (fun z=>(hch _ z).2.1 rfl) ho I.free
 ·obtain⟨v,o,ho,hd⟩:=I.cell x c e;exact free c o (fun z=>(hch c z).2.2.1 x c e rfl) ho (I.freeC x c e)
 ·obtain⟨e,n,ne,nf,d⟩:=I.pin p hp;have nch:p.1∉ch:=fun z=>(hch p.1 z).2.2.2 p hp rfl;exact⟨keep p.1 p.2 ne nf nch e n,free p.1 p.2 nch e n,ne,nf,d⟩
theorem Inv.un{t':Nat}(I:Inv X pins σ H s)(u:Un X.fs [] H H' s.heap h')(hok:HOk X.prog X.w H' h'):Inv X pins σ H' {s with heap:=h',toks:=t'}:=by
 obtain⟨m,⟨o,es,ep,ho,r⟩,_⟩:=id I.loc;obtain⟨sl,hL⟩:=u.any ho I.free (by simp)
 exact I.step (g':=s.gens) (d':=s.drawn) (ch:=[]) (fun _ z=>nomatch z) (fun b o _ hb _ e n=>u.keep b o e n hb (by simp)) (fun b o _ hb _ e n=>u.slot b o e n hb (by simp)) (fun b o _ e n=>u.free b o e n (by simp)) (fun b o _ e=>u.there b o e (by simp)) u.tups u.frzs u.tbls (fun m' hm=>by
  obtain⟨o',es',ep',ho',r'⟩:=hm;rw[ho] at ho';cases ho';exact⟨_,es',ep',hL,r'⟩) hok I.bare
theorem Inv.call{g':Array GenState}{t':Nat}{d':Drawn}{ch:List Addr}(I:Inv X pins σ H s)(u:Un (frs X.stack) ch H H' s.heap h')(hok:HOk X.prog X.w H' h')(hg:AllBare g')
  (hch:∀b∈ch,(b∈X.ex∨X.s₀.heap.objs.size<=b)/\b≠X.env.locals/\(∀x c,X.env.cells.lookup x=some c->c≠b)/\∀p∈X.pn++pins,p.1≠b):
  Inv X pins σ H' {s with heap:=h',gens:=g',drawn:=d',toks:=t'}:=by
 obtain⟨m,⟨o,es,ep,ho,r⟩,_⟩:=id I.loc;obtain⟨sl,hL⟩:=u.any ho I.free fun z=>(hch _ z).2.1 rfl;exact I.step (ch:=ch) hch (fun b o hL hb hc e n=>u.keep b o e n (fun z=>(List.mem_cons.mp (I.stkSub b z)).elim hL hb) hc) (fun b o _ _ hc e n=>u.any e n hc) (fun b o hc e n=>u.free b o e n hc) (fun b o hc e=>u.there b o e hc) u.tups u.frzs u.tbls (fun m' hm=>by
  obtain⟨o',es',ep',ho',r'⟩:=hm;rw[ho] at ho';cases ho';exact⟨_,es',ep',hL,r'⟩) hok hg
theorem Inv.turned{t':Nat}{it:Addr}(I:Inv X pins σ H s)(k:∀b o,b≠it->s.heap.get? b=some o->h'.get? b=some o)(hn:H it=none)(hL:it≠X.env.locals)
  (h1:it∈X.ex∨X.s₀.heap.objs.size<=it)(h2:∀x c,X.env.cells.lookup x=some c->c≠it)(h3:∀p∈X.pn++pins,p.1≠it):Inv X pins σ H {s with heap:=h',toks:=t'}:=by
 have nit:∀b u,H b=some u->b≠it:=fun b u e z=>by rw[z,hn] at e;cases e
 refine I.step (g':=s.gens) (d':=s.drawn) (ch:=[it]) (fun b hb=>?_) (fun b o _ _ hc e _=>k b o (fun z=>hc (by simp[z])) e) (fun b o _ _ hc e _=>⟨o.slots,k b o (fun z=>hc (by simp[z])) e⟩) (fun _ _ _ _ n=>n)
  (fun b o hc e=>⟨o,k b o (fun z=>hc (by simp[z])) e⟩) (fun _ _ e=>e) (fun _ _ _ e=>e) (fun b ps e=>⟨#[],by rw[e];simp⟩) (fun m hm=>?_) (fun b u e=>?_) I.bare
 ·have e:b=it:=by simpa using hb
  subst e;exact⟨h1,hL,h2,h3⟩
 ·obtain⟨o,es,ep,ho,r⟩:=hm;exact⟨o,es,ep,k _ o (Ne.symm hL) ho,r⟩
 ·refine(I.hok b u e).stay (fun c v hc q=>k c v ?_ q) (fun _ q=>q) fun _ _ q=>q;rcases hc with z|z
  ·rw[z];exact nit b u e
  ·exact nit c _ z
theorem Inv.tok(I:Inv X pins σ H s)(t:Nat):Inv X pins σ H {s with toks:=t}:=I.un (h':=s.heap) (t':=t) Un.refl I.hok
theorem Inv.kept{t':Nat}(I:Inv X pins σ H s)(k:∀b u,s.heap.get? b=some u->h'.get? b=some u):Inv X pins σ H {s with heap:=h',toks:=t'}:=I.un (Un.kept k) (I.hok.kept k)
theorem Inv.laid{a:Addr}{o:HO}{t':Nat}(I:Inv X pins σ H s)(k:∀b u,s.heap.get? b=some u->h'.get? b=some u)(hp:s.heap.objs.size<=a)(new:zct X.prog X.w (upd H a o) h' a o):
  Inv X pins σ (upd H a o) {s with heap:=h',toks:=t'}:=I.un (Un.laid k hp (I.hok.fresh hp)) (I.hok.laid k hp new)
theorem Inv.write{x e:Addr}{o:HO}{t':Nat}(I:Inv X pins σ H s)(mu:Mut (H x))(he:e=x∨H e=some (.own x))(k:∀b u,b≠e->s.heap.get? b=some u->h'.get? b=some u)(heo:∃u,h'.get? e=some u)
  (new:zct X.prog X.w (upd H x o) h' x o):Inv X pins σ (upd H x o) {s with heap:=h',toks:=t'}:=I.un (Un.write mu he k heo) (I.hok.write mu he k heo new)
theorem Inv.pins_of{pins':List (Addr×Obj)}(I:Inv X pins σ H s)(h:∀p∈pins',s.heap.get? p.1=some p.2/\H p.1=none/\p.1≠X.env.locals/\p.1∉X.fs/\∀v,p.2.data≠.cell v):Inv X pins' σ H s:=
 ⟨I.ok,I.os,I.bare,I.base,I.loc,I.cell,I.free,I.freeC,fun p hp=>(List.mem_append.mp hp).elim (fun z=>I.pin p (List.mem_append_left _ z)) (h p),I.hok,I.len⟩
theorem zm1{N:List Str}(hN:N.Nodup){i j:Nat}{x:Str}(a:N[i]?=some x)(b:N[j]?=some x):i=j:=by
 obtain⟨h1,e1⟩:=List.getElem?_eq_some_iff.mp a;obtain⟨h2,e2⟩:=List.getElem?_eq_some_iff.mp b;exact(List.getElem_inj hN).mp (e1.trans e2.symm)
theorem znd{M:Model}{A:Around}{E:Value->Shared->Prop}{i:Nat}{x:Str}{v:V}{u:Value}{Q:Unit->Shared->Prop}(I:Inv X pins σ H s)(hN:X.N.Nodup)(hi:X.N[i]?=some x)(hx:Loc X.env.scope x)(r:RelV v u)
  (h:∀s',Inv X pins (σ.set i (some v)) H s'->(∃a,Heap.SameBut a s.heap s'.heap/\(a=X.env.locals∨X.env.cells.lookup x=some a))->Q () s')(hf:X.fn x=true∨X.env.scope.names.lookup x=some .local:=by first|exact .inl rfl|exact .inr rfl|assumption):wpAny M A (storeName X.env x u) Q E s:=by
 obtain⟨m,hn,hl⟩:=id I.loc;have hcls:(X.env.scope.kind==.class||(X.env.scope.kind==.module&&X.env.locals !=X.env.globals))=false:=by rw[I.ok.kind];rfl
 have hiσ:i<σ.length:=by rw[I.len];exact(List.getElem?_eq_some_iff.mp hi).1
 have cne:=I.cne;have tracked:∀{a:Addr}{h':Heap},(∃o,s.heap.get? a=some o/\H a=none)->Heap.SameBut a s.heap h'->HOk X.prog X.w H h':=fun{a h'} ha hs b ob e=>by
  obtain⟨_,_,hfree⟩:=ha;refine(I.hok b ob e).stay (fun c w' hc q=>(hs.2 c ?_).trans q) (fun _ q=>q) fun _ _ q=>q;rintro rfl;rcases hc with rfl|hc
  ·rw[hfree] at e;cases e
  ·rw[hfree] at hc;cases hc
 rcases hx with hk|hk
 ·refine wpAny_storeName_local hk hn (fun h' hn' hs=>?_) hcls;obtain⟨oL,_,_,hoL,_⟩:=id hn;refine h _ ⟨I.ok,I.os,I.bare,⟨fun b o e n hb hx=>?_,fun b o e n hb hx=>?_,I.base.free,fun b o e hx=>?_,I.base.tups,I.base.frzs,I.base.tbls⟩,⟨_,hn',fun j y v' e1 e2 e3=>?_⟩,fun y c e=>?_,I.free,I.freeC,fun p hp=>?_,tracked ⟨oL,hoL,I.free⟩ hs,by simpa using I.len⟩ ⟨_,hs,.inl rfl⟩
  ·exact(hs.2 b (Nat.ne_of_lt (Nat.lt_of_lt_of_le (Heap.lt_size e) I.ok.above))).trans (I.base.keep b o e n hb hx)
  ·obtain⟨sl,e1⟩:=I.base.slot b o e n hb hx;exact⟨sl,(hs.2 b (Nat.ne_of_lt (Nat.lt_of_lt_of_le (Heap.lt_size e) I.ok.above))).trans e1⟩
  ·obtain⟨o',e1⟩:=I.base.there b o e hx;exact⟨o',(hs.2 b (Nat.ne_of_lt (Nat.lt_of_lt_of_le (Heap.lt_size e) I.ok.above))).trans e1⟩
  ·by_cases hj:j=i
   ·subst hj;rw[hi] at e1;cases e1;rw[List.getElem?_set_self hiσ] at e2
    cases e2;exact⟨u,r,.inl ⟨hk,by simp⟩⟩
   ·rw[List.getElem?_set_ne (Ne.symm hj)] at e2;obtain⟨u',r',q⟩:=hl j y v' e1 e2 e3;refine⟨u',r',?_⟩;rcases q with⟨k,e⟩|⟨k,c,e,z⟩
    ·refine .inl ⟨k,?_⟩;have:y≠x:=fun e=>hj (zm1 hN e1 (e▸hi))
     simp[this,e]
    ·exact .inr ⟨k,c,e,z.sameBut hs (cne y c e)⟩
  ·obtain⟨w',z⟩:=I.cell y c e;exact⟨w',z.sameBut hs (cne y c e)⟩
  ·obtain⟨e,n,ne,nf,d⟩:=I.pin p hp;exact⟨(hs.2 p.1 ne).trans e,n,ne,nf,d⟩
 ·have hfn:X.fn x=true:=by
   rcases hf with z|z
   ·exact z
   ·rw[z] at hk;cases hk
  obtain⟨c,hc⟩:=I.ok.has x (.inl hk);obtain⟨w',z⟩:=I.cell x c hc;refine wpAny_storeName_cell I.ok.kind hk hc z (fun h' hc' hs=>?_);obtain⟨oc,hoc,hocd⟩:=id z;refine h {s with heap:=h'} ⟨I.ok,I.os,I.bare,⟨fun b o e n hb hx=>?_,fun b o e n hb hx=>?_,I.base.free,fun b o e hx=>?_,I.base.tups,I.base.frzs,I.base.tbls⟩,⟨m,hn.sameBut hs (Ne.symm (cne x c hc)),fun j y v' e1 e2 e3=>?_⟩,fun y c' e=>?_,I.free,I.freeC,fun p hp=>?_,tracked ⟨oc,hoc,I.freeC x c hc⟩ hs,by simpa using I.len⟩ ⟨c,hs,.inr hc⟩
  ·exact(hs.2 b (Nat.ne_of_lt (Nat.lt_of_lt_of_le (Heap.lt_size e) (I.ok.cab x c hfn hc)))).trans (I.base.keep b o e n hb hx)
  ·obtain⟨sl,e1⟩:=I.base.slot b o e n hb hx;exact⟨sl,(hs.2 b (Nat.ne_of_lt (Nat.lt_of_lt_of_le (Heap.lt_size e) (I.ok.cab x c hfn hc)))).trans e1⟩
  ·obtain⟨o',e1⟩:=I.base.there b o e hx;exact⟨o',(hs.2 b (Nat.ne_of_lt (Nat.lt_of_lt_of_le (Heap.lt_size e) (I.ok.cab x c hfn hc)))).trans e1⟩
  ·by_cases hj:j=i
   ·subst hj;rw[hi] at e1;cases e1;rw[List.getElem?_set_self hiσ] at e2
    cases e2;exact⟨u,r,.inr ⟨.inl hk,c,hc,hc'⟩⟩
   ·rw[List.getElem?_set_ne (Ne.symm hj)] at e2;obtain⟨u',r',q⟩:=hl j y v' e1 e2 e3;refine⟨u',r',?_⟩;rcases q with q|⟨k,c',e,z'⟩
    ·exact .inl q
    ·refine .inr ⟨k,c',e,z'.sameBut hs ?_⟩;rintro rfl;exact hj (zm1 hN e1 (I.ok.inj _ _ _ e hc▸hi))
  ·by_cases hcc:c'=c
   ·subst hcc;exact⟨_,hc'⟩
   ·obtain⟨w2,z2⟩:=I.cell y c' e;exact⟨w2,z2.sameBut hs hcc⟩
  ·obtain⟨e,n,ne,nf,d⟩:=I.pin p hp;refine⟨(hs.2 p.1 ?_).trans e,n,ne,nf,d⟩;intro q;rw[q,hoc] at e;have q':oc=p.2:=Option.some.inj e;exact d w' (by rw[←q'];exact hocd)
theorem zez{M:Model}{A:Around}{E:Value->Shared->Prop}{i:Nat}{x:Str}{v:V}{u:Value}{Q:Unit->Shared->Prop}(I:Inv X pins σ H s)(hN:X.N.Nodup)(hi:X.N[i]?=some x)(hx:Loc X.env.scope x)(r:RelV v u)
  (h:∀s',Inv X pins (σ.set i (some v)) H s'->Q () s')(hf:X.fn x=true∨X.env.scope.names.lookup x=some .local:=by first|exact .inl rfl|exact .inr rfl|assumption):wpAny M A (storeName X.env x u) Q E s:=
 znd I hN hi hx r (fun s' I' _=>h s' I') hf
theorem Inv.call'{s':Shared}{ch:List Addr}(I:Inv X pins σ H s)(ho:s'.os=s.os)(u:Un (frs X.stack) ch H H' s.heap s'.heap)(hok:HOk X.prog X.w H' s'.heap)(hg:AllBare s'.gens)
  (hch:∀b∈ch,(b∈X.ex∨X.s₀.heap.objs.size<=b)/\b≠X.env.locals/\(∀x c,X.env.cells.lookup x=some c->c≠b)/\∀p∈X.pn++pins,p.1≠b):Inv X pins σ H' s':=by
 obtain⟨h',g',d',t',o'⟩:=s';have e:o'=s.os:=ho;subst e;exact I.call (g':=g') (t':=t') (d':=d') u hok hg hch
end
abbrev XK:=Value->Option Addr->Hp->Prop
abbrev St:=List (Option V)
abbrev VK:=V->Hp->Prop
abbrev TE:=St->Hp->VK->Prop
abbrev TT:=St->Hp->(Bool->Hp->Prop)->Prop
abbrev TA:=St->Hp->(List V->Hp->Prop)->Prop
structure Ends where
 nx:St->Hp->Prop
 rt:VK
 bk:St->Hp->Prop:=fun _ _=>False
 ct:St->Hp->Prop:=fun _ _=>False
abbrev TS:=Ends->St->Hp->Prop
def EP(X:Cx)(pins:List (Addr×Obj))(σ:St)(Q:VK)(u:Value)(s':Shared):Prop:=∃v H',Inv X pins σ H' s'/\RelV v u/\Q v H'
def TP(X:Cx)(pins:List (Addr×Obj))(σ:St)(Q:Bool->Hp->Prop)(b:Bool)(s':Shared):Prop:=∃H',Inv X pins σ H' s'/\Q b H'
def AP(X:Cx)(pins:List (Addr×Obj))(σ:St)(Q:List V->Hp->Prop)(us:List Value)(s':Shared):Prop:=∃vs H',Inv X pins σ H' s'/\Vals vs us/\Q vs H'
def SP(X:Cx)(pins:List (Addr×Obj))(D:Ends)(f:Flow)(s':Shared):Prop:=
 match f with
 |.next=>∃σ' H',Inv X pins σ' H' s'/\D.nx σ' H'
 |.brk=>∃σ' H',Inv X pins σ' H' s'/\D.bk σ' H'
 |.cont=>∃σ' H',Inv X pins σ' H' s'/\D.ct σ' H'
 |.ret u=>∃v σ' H',Inv X pins σ' H' s'/\RelV v u/\D.rt v H'
def PE(X:Cx)(e:Expr)(t:TE):Prop:=
 ∀(pins:List (Addr×Obj))(s:Shared)(σ:St)(H:Hp)(Q:VK),Inv X pins σ H s->t σ H Q->wpAny (model X.prog X.w) X.A (eval e X.env) (EP X pins σ Q) X.xe s
def PT(X:Cx)(e:Expr)(t:TT):Prop:=
 ∀(pins:List (Addr×Obj))(s:Shared)(σ:St)(H:Hp)(Q:Bool->Hp->Prop),Inv X pins σ H s->t σ H Q->wpAny (model X.prog X.w) X.A (isTrue e X.env (eval e X.env)) (TP X pins σ Q) X.xe s
def PW(X:Cx)(e:Expr)(t:TT):Prop:=
 ∀(whole:Sem Value)(pins:List (Addr×Obj))(s:Shared)(σ:St)(H:Hp)(Q:Bool->Hp->Prop),Inv X pins σ H s->t σ H Q->wpAny (model X.prog X.w) X.A (isTrue e X.env whole) (TP X pins σ Q) X.xe s
theorem PW.pt{X:Cx}{e:Expr}{t:TT}(h:PW X e t):PT X e t:=h _
def PA(X:Cx)(es:List Expr)(t:TA):Prop:=
 ∀(pos:Pos)(pins:List (Addr×Obj))(s:Shared)(σ:St)(H:Hp)(Q:List V->Hp->Prop),Inv X pins σ H s->t σ H Q->wpAny (model X.prog X.w) X.A (spliced (backTo pos (starEach es X.env))) (AP X pins σ Q) X.xe s
def PS(X:Cx)(st:Stmt)(t:TS):Prop:=
 ∀(pins:List (Addr×Obj))(s:Shared)(σ:St)(H:Hp)(D:Ends),Inv X pins σ H s->t D σ H->wpAny (model X.prog X.w) X.A (exec st X.env) (SP X pins D) X.xe s
def PSs(X:Cx)(st:List Stmt)(t:TS):Prop:=
 ∀(pins:List (Addr×Obj))(s:Shared)(σ:St)(H:Hp)(D:Ends),Inv X pins σ H s->t D σ H->wpAny (model X.prog X.w) X.A (execs st X.env) (SP X pins D) X.xe s
theorem thn{α:Type}{t:Sem α}{Q Q':α->Shared->Prop}{M:Model}{A:Around}{E:Value->Shared->Prop}{s:Shared}(h:wpAny M A t Q E s)(hQ:∀a s,Q a s->Q' a s):wpAny M A t Q' E s:=wpAny_mono h hQ fun _ _ x=>x
section
variable{X:Cx}
def tVar(i:Nat):TE:=fun σ H Q=>∃v,σ[i]?=some (some v)/\Q v H
def tC(v:V):TE:=fun _ H Q=>Q v H
theorem pe_var{i:Nat}{x:Str}{pos:Pos}(hN:X.N[i]?=some x)(hv:Vis X.env.scope x)(hd:(x==("__debug__":Str))=false:=by decide)(hcd:(x==("__classdict__":Str))=false:=by decide):PE X (.Name x pos) (tVar i):=by
 intro pins s σ H Q I h;obtain⟨v,e,h⟩:=h;obtain⟨m,hn,hl⟩:=I.loc;obtain⟨u,r,l⟩:=hl i x v hN e hv;have fin:EP X pins σ Q u s:=⟨v,H,I,r,h⟩;rcases l with⟨hk,hm⟩|⟨hk,c,hc,hcell⟩
 ·exact wpAny_Name (wpAny_loadName_local I.ok.kind hk hn hm fin) hd
 ·rcases hk with hk|hk
  ·exact wpAny_Name (wpAny_loadName_cell I.ok.kind hk hc hcell fin) hd
  ·exact wpAny_Name (wpAny_loadName_free I.ok.kind hk hc hcell fin hcd) hd
theorem zbt{i j pos}:PE X (.Constant (.int i) j pos) (tC (.int i)):=fun _ _ _ H _ I h=>wpAny_Constant_int ⟨.int i,H,I.tok _,⟨_,rfl⟩,h⟩
theorem znn{b j pos}:PE X (.Constant (.bool b) j pos) (tC (.bl b)):=fun _ _ _ H _ I h=>Constant_bool ⟨.bl b,H,I,rfl,h⟩
def Gl(X:Cx)(x:Str):Prop:=X.env.kindOf x=some .globalImplicit
theorem ld_glob{E:Value->Shared->Prop}{pins:List (Addr×Obj)}{s:Shared}{σ:St}{H:Hp}{x:Str}{u:Value}{pos:Pos}{Q:Value->Shared->Prop}(I:Inv X pins σ H s)(hg:Gl X x)(hm:X.mg x=some u)(h:Q u s)
  (hd:(x==("__debug__":Str))=false:=by decide):wpAny (model X.prog X.w) X.A (eval (.Name x pos) X.env) Q E s:=
 Calls.Name_function_global I.ok.kind hg (Calls.loadGlobal_global (by rw[I.ok.glob];exact I.mod.glob.keeps I.bk) hm h) hd
theorem zgu{E:Value->Shared->Prop}{pins:List (Addr×Obj)}{s:Shared}{σ:St}{H:Hp}{x:Str}{u:Value}{pos:Pos}{Q:Value->Shared->Prop}(I:Inv X pins σ H s)(hg:Gl X x)(hm:X.mg x=none)(hv:bootBuiltins x=some u)(h:Q u s)
  (hn:x≠"__name__":=by decide)(hd:(x==("__debug__":Str))=false:=by decide):wpAny (model X.prog X.w) X.A (eval (.Name x pos) X.env) Q E s:=by
 obtain⟨mb,h1,h2⟩:=I.mod.blt;exact Calls.Name_function_global I.ok.kind hg (Calls.loadGlobal_builtin (by rw[I.ok.glob];exact I.mod.glob.keeps I.bk) hm (by rw[I.ok.blt];exact h1.keeps I.bk) ((h2 x hn).trans hv) h) hd
theorem pe_bltn{x:Str}{v:V}{u:Value}{pos:Pos}(hg:Gl X x)(hm:X.mg x=none)(hv:bootBuiltins x=some u)(r:RelV v u)(hn:x≠"__name__":=by decide)(hd:(x==("__debug__":Str))=false:=by decide):PE X (.Name x pos) (tC v):=
 fun _ _ _ H _ I h=>zgu I hg hm hv ⟨v,H,I,r,h⟩ hn hd
variable{a b:Expr}{ta tb:TE}{pos:Pos}
def PC(X:Cx)(op:CmpOp)(a b:Expr)(t:TE):Prop:=
 ∀(pins:List (Addr×Obj))(s:Shared)(σ:St)(H:Hp)(Q:VK),Inv X pins σ H s->t σ H Q->
  wpAny (model X.prog X.w) X.A (eval a X.env) (fun v s₁=>wpAny (model X.prog X.w) X.A (eval b X.env) (fun u s₂=>wpAny (model X.prog X.w) X.A (compareOp op v u) (EP X pins σ Q) X.xe s₂) X.xe s₁) X.xe s
def tB(t:TE):TT:=fun σ H Q=>t σ H fun x H1=>∃c,x=.bl c/\Q c H1
theorem zi6{op:CmpOp}{t:TE}(h:PC X op a b t)(h1:behindInMarks op b=false:=by first|exact nobehind _ (by decide) (by decide)|rfl):PT X (.Compare a [op] [b] pos) (tB t):=by
 intro pins s σ H Q I hw;refine wpAny_isTrue_Compare1 (thn (h pins s σ H _ I hw) fun v s1 h1=>thn h1 fun u s2 h2=>thn h2 fun c s3⟨x,H1,I1,r1,q1⟩=>?_) h1;obtain⟨d,rfl,q⟩:=q1
 cases r1;exact wpAny_truthy_bool ⟨H1,I1,q⟩
theorem zgl{e:Expr}{t:TE}(h:PE X e t)(he:∀whole,isTrue e X.env whole=(do let v ←whole;standAt e.pos;holding [v] (truthy v)):=by intro _;rfl):PT X e (tB t):=by
 intro pins s σ H Q I hw;refine isTrue_plain (thn (h pins s σ H _ I hw) fun v s1⟨x,H1,I1,r1,q1⟩=>?_) (he _);obtain⟨d,rfl,q⟩:=q1
 cases r1;exact wpAny_truthy_bool ⟨H1,I1,q⟩
variable{tA tB':TT}{rest:List Expr}
def tAnd(t u:TT):TT:=fun σ H Q=>t σ H fun c H1=>if c=true then u σ H1 Q else Q false H1
def tOr(t u:TT):TT:=fun σ H Q=>t σ H fun c H1=>if c=true then Q true H1 else u σ H1 Q
def tNot(t:TT):TT:=fun σ H Q=>t σ H fun c H1=>Q (!c) H1
theorem zm3(ha:PT X a tA):PW X (.BoolOp .Or [a] pos) tA:=by
 intro wh pins s σ H Q I h;refine isTrue_or (thn (ha pins s σ H Q I h) fun c s1 e=>?_)
 cases c with
 |false=>exact isTrue_or_nil e
 |true=>exact e
theorem pw_or(ha:PT X a tA)(hb:PW X (.BoolOp .Or (b::rest) pos) tB'):PW X (.BoolOp .Or (a::b::rest) pos) (tOr tA tB'):=by
 intro wh pins s σ H Q I h;refine isTrue_or (thn (ha pins s σ H _ I h) fun c s1⟨H1,I1,q1⟩=>?_)
 cases c with
 |true=>exact⟨H1,I1,q1⟩
 |false=>exact hb wh pins s1 σ H1 Q I1 q1
theorem zot(ha:PT X a tA):PT X (.UnaryOp .Not a pos) (tNot tA):=by
 intro pins s σ H Q I h;exact isTrue_not (ha pins s σ H (fun c H1=>Q (!c) H1) I h)
def tAndV(ta tb:TE):TE:=fun σ H Q=>ta σ H fun x H1=>∃c,x=.bl c/\if c=true then tb σ H1 Q else Q (.bl false) H1
def tOrV(ta tb:TE):TE:=fun σ H Q=>ta σ H fun x H1=>∃c,x=.bl c/\if c=true then Q (.bl true) H1 else tb σ H1 Q
def tNotV(ta:TE):TE:=fun σ H Q=>ta σ H fun x H1=>∃c,x=.bl c/\Q (.bl (!c)) H1
theorem pe_one{op}{t:TE}(h:PE X a t):PE X (.BoolOp op [a] pos) t:=fun pins s σ H Q I hw=>BoolOp_one (h pins s σ H Q I hw)
theorem pe_and(ha:PE X a ta)(hb:PE X (.BoolOp .And (b::rest) pos) tb):PE X (.BoolOp .And (a::b::rest) pos) (tAndV ta tb):=by
 intro pins s σ H Q I h;refine BoolOp_and (thn (ha pins s σ H _ I h) fun v s1⟨x,H1,I1,r1,q1⟩=>?_);obtain⟨c,rfl,q1⟩:=q1
 cases r1;refine wpAny_truthy_bool ?_
 cases c with
 |true=>exact hb pins s1 σ H1 Q I1 q1
 |false=>exact⟨.bl false,H1,I1,rfl,q1⟩
def tIf(t:TT)(ta tb:TE):TE:=fun σ H Q=>t σ H fun c H1=>if c=true then ta σ H1 Q else tb σ H1 Q
end
def SqL(K:PySem.W.Frag)(H:Hp)(a:Addr)(xs:List V):Prop:=
 Rd H a (.lst xs)∨
  ∃(o:Obj)(its:Array Value)(n:Nat),K.lookup a=some o/\o.cls=.type "list"/\o.dict=none/\o.data=.seq its n/\its.size<=sizeLine/\Vals xs its.toList
def SqT(K:PySem.W.Frag)(H:Hp)(a:Addr)(xs:List V):Prop:=
 Rd H a (.tup xs)∨
  ∃(o:Obj)(its:Array Value)(n:Nat),K.lookup a=some o/\o.cls=.type "tuple"/\o.data=.seq its n/\its.size<=sizeLine/\Vals xs its.toList
def absV:Value->Option V
 |.none=>some .non
 |.bool b=>some (.bl b)
 |.int i _=>some (.int i)
 |.str x _=>some (.str x)
 |.bytes b _=>some (.byt b)
 |.float b _=>some (.flt b)
 |.ref a=>some (.ref a)
 |.type n=>some (.ty n)
 |_=>none
theorem RelV.abs{x:V}{u:Value}(r:RelV x u):absV u=some x:=by
 cases x with
 |non=>cases r;rfl
 |bl _=>cases r;rfl
 |int _=>obtain⟨t,rfl⟩:=r;rfl
 |str _=>obtain⟨t,rfl⟩:=r;rfl
 |byt _=>obtain⟨t,rfl⟩:=r;rfl
 |flt _=>obtain⟨t,rfl⟩:=r;rfl
 |ref _=>cases r;rfl
 |ty _=>cases r;rfl
theorem RelV.inj{x y:V}{u:Value}(r:RelV x u)(q:RelV y u):x=y:=Option.some.inj (r.abs.symm.trans q.abs)
theorem Vals.inj:∀{xs ys:List V}{us:List Value},Vals xs us->Vals ys us->xs=ys
 |_,_,_,.nil,.nil=>rfl
 |_,_,_,.cons r t,.cons r' t'=>by rw[r.inj r',Vals.inj t t']
section
variable{X:Cx}{pins:List (Addr×Obj)}{σ:St}{H:Hp}{s:Shared}{a:Addr}{xs ys:List V}
theorem SqL.of{K:PySem.W.Frag}(h:H a=some (.lst xs)):SqL K H a xs:=.inl (.inl h)
theorem SqT.of{K:PySem.W.Frag}(h:H a=some (.tup xs)):SqT K H a xs:=.inl (.inl h)
theorem Inv.list(I:Inv X pins σ H s)(h:SqL X.K H a xs):∃its:List Value,Vals xs its/\PlainL s.heap a its.toArray/\xs.length<=sizeLine:=by
 rcases h with h|⟨o,its,n,hk,hc,hd,hs,hz,r⟩
 ·obtain⟨z,its,n,r,e⟩:=h.ok I.hok;exact⟨its,r,⟨_,n,e,rfl,rfl,rfl⟩,z⟩
 ·refine⟨its.toList,r,⟨o,n,I.kIn a o hk,hc,hd,by simpa using hs⟩,?_⟩
  have e:=r.length;simp only[Array.length_toList] at e;omega
theorem Inv.tuple(I:Inv X pins σ H s)(h:SqT X.K H a xs):∃its:List Value,Vals xs its/\IsTup s.heap a its.toArray/\xs.length<=sizeLine:=by
 rcases h with h|⟨o,its,n,hk,hc,hs,hz,r⟩
 ·obtain⟨z,its,r,p⟩:=h.ok I.hok;exact⟨its,r,p,z⟩
 ·refine⟨its.toList,r,⟨o,I.kIn a o hk,hc,n,by simpa using hs⟩,?_⟩
  have e:=r.length;simp only[Array.length_toList] at e;omega
theorem Inv.list_inj(I:Inv X pins σ H s)(h:SqL X.K H a xs)(h':SqL X.K H a ys):xs=ys:=by
 obtain⟨its,r,⟨o,n,e,_,_,d⟩,_⟩:=I.list h;obtain⟨its',r',⟨o',n',e',_,_,d'⟩,_⟩:=I.list h';rw[e] at e';cases e';rw[d] at d'
 injection d' with d1 _
 have:its=its':=by simpa using congrArg Array.toList d1
 subst this;exact r.inj r'
end
abbrev Cx.wish(X:Cx)(E:Value->Shared->Prop):Cx:={X with xe:=E}
abbrev Cx.nox(X:Cx):Cx:=X.wish fun _ _=>False
theorem Cx.Ok.wish{X:Cx}(ok:X.Ok)(E:Value->Shared->Prop):(X.wish E).Ok:=
 ⟨ok.mod,ok.kind,ok.glob,ok.blt,ok.above,ok.inj,ok.has,ok.cab,ok.hd,ok.frames,ok.stk,ok.exf,ok.bs,ok.bsz,ok.noex,ok.exfs,ok.funs,ok.frf⟩
theorem Cx.Ok.unwish{X:Cx}{E:Value->Shared->Prop}(ok:(X.wish E).Ok):X.Ok:=
 ⟨ok.mod,ok.kind,ok.glob,ok.blt,ok.above,ok.inj,ok.has,ok.cab,ok.hd,ok.frames,ok.stk,ok.exf,ok.bs,ok.bsz,ok.noex,ok.exfs,ok.funs,ok.frf⟩
section
variable{X:Cx}{pins:List (Addr×Obj)}{σ:St}{H:Hp}{s:Shared}{E:Value->Shared->Prop}
theorem Inv.wish(I:Inv X pins σ H s)(E:Value->Shared->Prop):Inv (X.wish E) pins σ H s:=⟨I.ok.wish E,I.os,I.bare,I.base,I.loc,I.cell,I.free,I.freeC,I.pin,I.hok,I.len⟩
theorem Inv.unwish(I:Inv (X.wish E) pins σ H s):Inv X pins σ H s:=⟨I.ok.unwish,I.os,I.bare,I.base,I.loc,I.cell,I.free,I.freeC,I.pin,I.hok,I.len⟩
theorem SP.unwish{D:Ends}{f:Flow}{s':Shared}(h:SP (X.wish E) pins D f s'):SP X pins D f s':=by
 cases f with
 |next=>obtain⟨σ',H',I,q⟩:=h;exact⟨σ',H',I.unwish,q⟩
 |brk=>obtain⟨σ',H',I,q⟩:=h;exact⟨σ',H',I.unwish,q⟩
 |cont=>obtain⟨σ',H',I,q⟩:=h;exact⟨σ',H',I.unwish,q⟩
 |ret u=>obtain⟨v,σ',H',I,r,q⟩:=h;exact⟨v,σ',H',I.unwish,r,q⟩
theorem PSs.nox{st:List Stmt}{t:TS}(h:PSs X.nox st t):PSs X st t:=fun pins s σ H D I hw=>
 wpAny_mono (h pins s σ H D (I.wish _) hw) (fun _ _ q=>q.unwish) fun _ _ z=>False.elim z
end
section
variable{X:Cx}{st:Stmt}{rest:List Stmt}{t u:TS}{e:Expr}{te:TE}{pos:Pos}
def tNext:TS:=fun D σ H=>D.nx σ H
def tSeq(t u:TS):TS:=fun D σ H=>t {D with nx:=u D} σ H
theorem zc0:PSs X [] tNext:=fun _ _ σ H _ I h=>wpAny_execs_nil ⟨σ,H,I,h⟩
theorem zab(h1:PS X st t)(h2:PSs X rest u):PSs X (st::rest) (tSeq t u):=by
 intro pins s σ H D I h;refine wpAny_execs_cons (thn (h1 pins s σ H {D with nx:=u D} I h) fun f s1 q=>?_)
 cases f with
 |next=>
  obtain⟨σ',H',I',q⟩:=q;exact h2 pins s1 σ' H' D I' q
 |ret v=>exact q
 |brk=>exact q
 |cont=>exact q
theorem zaf(h1:PS X st t):PSs X [st] t:=by
 intro pins s σ H D I h;refine wpAny_execs_cons (thn (h1 pins s σ H D I h) fun f s1 q=>?_)
 cases f with
 |next=>exact wpAny_execs_nil q
 |ret v=>exact q
 |brk=>exact q
 |cont=>exact q
theorem Inv.quiet{pins:List (Addr×Obj)}{σ:St}{H:Hp}{s:Shared}(I:Inv X pins σ H s):interactive X.env=false:=by simp[interactive,I.ok.kind]
def tDrop(te:TE):TS:=fun D σ H=>te σ H fun _ H1=>D.nx σ H1
theorem zdb(he:PE X e te)(hs:swapsWith e none pos.line X.env=pure false:=by rfl):PS X (.Expr e pos) (tDrop te):=by
 intro pins s σ H D I h;exact wpAny_Expr_any (thn (he pins s σ H _ I h) fun v s1⟨x,H1,I1,r1,q1⟩=>⟨σ,H1,I1,q1⟩) I.quiet hs
def tRet(te:TE):TS:=fun D σ H=>te σ H D.rt
theorem zb3(he:PE X e te):PS X (.Return (some e) pos) (tRet te):=by
 intro pins s σ H D I h;exact wpAny_Return_some (thn (he pins s σ H _ I h) fun v s1⟨x,H1,I1,r1,q1⟩=>⟨x,σ,H1,I1,r1,q1⟩)
def tRetN:TS:=fun D _ H=>D.rt .non H
def tIfS(c:TT)(t u:TS):TS:=fun D σ H=>c σ H fun b H1=>if b=true then t D σ H1 else u D σ H1
theorem zen{c:Expr}{a b:List Stmt}{tc:TT}(hc:PT X c tc)(ha:PSs X a t)(hb:PSs X b u):PS X (.If c a b pos) (tIfS tc t u):=by
 intro pins s σ H D I h;refine wpAny_If (thn (hc pins s σ H _ I h) fun d s1⟨H1,I1,q1⟩=>?_)
 cases d with
 |true=>exact ha pins s1 σ H1 D I1 q1
 |false=>exact hb pins s1 σ H1 D I1 q1
end
abbrev TG:=V->St->Hp->(St->Hp->Prop)->Prop
abbrev TGs:=List V->St->Hp->(St->Hp->Prop)->Prop
def PG(X:Cx)(target:Expr)(t:TG):Prop:=
 ∀(pins:List (Addr×Obj))(s:Shared)(σ:St)(H:Hp)(v:V)(u:Value)(Q:St->Hp->Prop),Inv X pins σ H s->RelV v u->t v σ H Q->
  wpAny (model X.prog X.w) X.A (assign target X.env u) (fun _ s'=>∃σ' H',Inv X pins σ' H' s'/\Q σ' H') X.xe s
def PGs(X:Cx)(ts:List Expr)(t:TGs):Prop:=
 ∀(pins:List (Addr×Obj))(s:Shared)(σ:St)(H:Hp)(vs:List V)(us:List Value)(Q:St->Hp->Prop),Inv X pins σ H s->Vals vs us->t vs σ H Q->
  wpAny (model X.prog X.w) X.A (assignInOrder ((assignEach ts X.env).map (·.2)) us) (fun _ s'=>∃σ' H',Inv X pins σ' H' s'/\Q σ' H') X.xe s
section
variable{X:Cx}{pos:Pos}
def gName(i:Nat):TG:=fun v σ H Q=>Q (σ.set i (some v)) H
theorem zbw{i:Nat}{x:Str}(hN:X.N.Nodup)(hi:X.N[i]?=some x)(hx:Loc X.env.scope x)(hf:X.fn x=true∨X.env.scope.names.lookup x=some .local:=by first|exact .inl rfl|exact .inr rfl|assumption):PG X (.Name x pos) (gName i):=by
 intro pins s σ H v u Q I r h;exact wpAny_assign_Name (zez I hN hi hx r (fun s' I'=>⟨_,H,I',h⟩) hf)
def gNil:TGs:=fun vs σ H Q=>vs=[]/\Q σ H
def gCons(t:TG)(u:TGs):TGs:=fun vs σ H Q=>∃v r,vs=v::r/\t v σ H fun σ' H'=>u r σ' H' Q
theorem zfd:PGs X [] gNil:=by
 intro pins s σ H vs us Q I r h;obtain⟨e,h⟩:=h;subst e
 cases r;exact assignInOrder_nil ⟨σ,H,I,h⟩
theorem ze8{e:Expr}{es:List Expr}{t:TG}{u:TGs}(h1:PG X e t)(h2:PGs X es u)
  (hs:(assignEach (e::es) X.env).map (·.2)=assign e X.env::(assignEach es X.env).map (·.2):=by rfl):PGs X (e::es) (gCons t u):=by
 intro pins s σ H vs us Q I r h;obtain⟨v,vr,e1,h⟩:=h;subst e1
 cases r with
 |cons r rr=>
  rw[hs];refine assignInOrder_cons (thn (h1 pins s σ H _ _ _ I r h) fun _ s1⟨σ1,H1,I1,q1⟩=>?_);exact h2 pins s1 σ1 H1 _ _ Q I1 rr q1
def gTup(K:PySem.W.Frag)(n:Nat)(t:TGs):TG:=fun v σ H Q=>∃a xs,v=.ref a/\SqT K H a xs/\xs.length=n/\t xs σ H Q
theorem pg_tup{es:List Expr}{k:Nat}{t:TGs}{n:Nat}(hc:X.calm=true)(h:PGs X es t)
  (hn:(assignEach es X.env).length=n:=by rfl)(hst:(assignEach es X.env).findIdx? (·.1)=none:=by rfl):PG X (.Tuple es k pos) (gTup X.K n t):=by
 intro pins s σ H v u Q I r hw;obtain⟨a,xs,e1,hq,hl,hw⟩:=hw;subst e1
 cases r;obtain⟨its,rv,ht,hz⟩:=I.tuple hq;refine assign_Tuple_tuple (I.ok.hd hc) ht (by simp[hn,←hl,rv.length]) hst fun h' hx=>?_
 have I1:Inv X pins σ H {s with heap:=h'}:=I.kept (t':=s.toks) fun b o e=>hx b o (Nat.ne_of_lt (Heap.lt_size e)) e;exact h pins _ σ H xs _ Q I1 (by simpa using rv) hw
def tAsg(te:TE)(g:TG):TS:=fun D σ H=>te σ H fun x H1=>g x σ H1 D.nx
theorem zbu{i:Nat}{x:Str}{e:Expr}{te:TE}{pos':Pos}(hN:X.N.Nodup)(hi:X.N[i]?=some x)(hx:Loc X.env.scope x)(he:PE X e te)(hs:swapsWith e (some (.Name x pos')) pos.line X.env=pure false:=by rfl)(hf:X.fn x=true∨X.env.scope.names.lookup x=some .local:=by first|exact .inl rfl|exact .inr rfl|assumption):
  PS X (.Assign [.Name x pos'] e pos) (tAsg te (gName i)):=by
 intro pins s σ H D I h;refine wpAny_Assign_Name (thn (he pins s σ H _ I h) fun v s1⟨y,H1,I1,r1,q1⟩=>?_) hs;exact zez I1 hN hi hx r1 (fun s2 I2=>⟨_,H1,I2,q1⟩) hf
def tPar(i j:Nat)(ta:TA):TS:=fun D σ H=>ta σ H fun vs H1=>∃v w,vs=[v,w]/\D.nx ((σ.set i (some v)).set j (some w)) H1
theorem ps_par{i j:Nat}{x y:Str}{a b:Expr}{ta:TA}{px py pt:Pos}{kt k2 pt2}(hc:X.calm=true)(hN:X.N.Nodup)(hi:X.N[i]?=some x)(hj:X.N[j]?=some y)(hij:i≠j)
  (hx:X.env.scope.names.lookup x=some .local)(hy:X.env.scope.names.lookup y=some .local)(ha:PA X [a,b] ta)
  (hw:swappedStores [.Tuple [.Name x px,.Name y py] kt pt] (.Tuple [a,b] k2 pt2) X.env=pure (some [x,y]))
  (hs:swapsWithSole [.Tuple [.Name x px,.Name y py] kt pt] (.Tuple [a,b] k2 pt2) pos.line X.env=pure false:=by rfl):
  PS X (.Assign [.Tuple [.Name x px,.Name y py] kt pt] (.Tuple [a,b] k2 pt2) pos) (tPar i j ta):=by
 intro pins s σ H D I h;rw[exec_Assign_arm];refine wpAny_bind (wpAny_standAt ?_);rw[hs];refine wpAny_bind (wpAny_pure ?_);rw[if_neg (by decide)]
 refine wpAny_bind (Tuple_ (thn (ha _ pins s σ H _ I h) fun us s1⟨vs,H1,I1,r1,q1⟩=>?_));obtain⟨v,w,e1,q1⟩:=q1;subst e1;obtain⟨u1,u2,rfl,rv,rw'⟩:∃u1 u2,us=[u1,u2]/\RelV v u1/\RelV w u2:=by
  cases r1 with
  |cons p q=>
   cases q with
   |cons p' q'=>
    cases q';exact⟨_,_,rfl,p,p'⟩
 refine wpAny_newObj_type ?_ (by show 2<=sizeLine;decide)
 have I2:Inv X pins σ H1 {s1 with heap:=s1.heap.push {cls:=.type "tuple",data:=.seq [u1,u2].toArray}}:=I1.kept (t':=s1.toks) fun b o e=>Heap.get?_push_of_some _ e;rw[hw];refine wpAny_bind (wpAny_pure ?_)
 show wpAny (model X.prog X.w) X.A (do rule "assign.swapped-stores";let items ←unpackItems (.ref s1.heap.objs.size) 2 none;assignInOrder [fun v=>bindName X.env y v,fun v=>bindName X.env x v] items.reverse;pure Flow.next) _ _ _
 refine wpAny_bind (wpAny_rule (wpAny_bind (unpackItems_tuple (items:=#[u1,u2]) (I.ok.hd hc) (IsTup.new s1.heap _) fun h' hx'=>?_)));have I3:=I2.kept (h':=h') (t':=s1.toks) fun b o e=>hx' b o (Nat.ne_of_lt (Heap.lt_size e)) e
 show wpAny _ _ (assignInOrder [fun v=>bindName X.env y v,fun v=>bindName X.env x v] [u2,u1]>>=fun _=>pure Flow.next) _ _ _
 refine wpAny_bind (assignInOrder_cons (wpAny_bindName (zez I3 hN hj (.inl hy) rw' (fun s2 I4=>?_) (.inr hy))));refine assignInOrder_cons (wpAny_bindName (zez I4 hN hi (.inl hx) rv (fun s3 I5=>assignInOrder_nil (wpAny_pure ?_)) (.inr hx)));rw[List.set_comm _ _ (Ne.symm hij)] at I5;exact⟨_,H1,I5,q1⟩
end
section
variable{X:Cx}{pos:Pos}
def zlh(c:TT)(tb:TS):TS:=fun D σ H=>∃W:Nat->St->Hp->Prop,(∃m,W m σ H)/\∀m σ H,W m σ H->
 c σ H fun b H1=>if b=true then ∃N:St->Hp->Prop,(∀σ' H',N σ' H'->∃m',m'<m/\W m' σ' H')/\tb {D with nx:=N,ct:=N,bk:=D.nx} σ H1 else D.nx σ H1
theorem zha{c:Expr}{body:List Stmt}{tc:TT}{tb:TS}(hp:PassesOwn (model X.prog X.w) X.A X.env X.xe)(hc:PT X c tc)(hb:PSs X body tb):PS X (.While c body [] pos) (zlh tc tb):=by
 intro pins s σ H D I h;obtain⟨W,⟨m0,w0⟩,turn⟩:=h;refine wpAny_While (codeAny_whileLoop (fun n s'=>∃σ' H',Inv X pins σ' H' s'/\W n σ' H') ?_ m0 ⟨σ,H,I,w0⟩);rintro n s1 ⟨σ1,H1,I1,w1⟩;refine wpAny_passesOwn hp (thn (hc pins s1 σ1 H1 _ I1 (turn n σ1 H1 w1)) fun b s2⟨H2,I2,q2⟩=>?_)
 cases b with
 |true=>
  obtain⟨N,hN,q2⟩:=q2;rw[if_pos rfl];refine wpAny_passesOwn hp (thn (hb pins s2 σ1 H2 _ I2 q2) fun f s3 q3=>?_)
  cases f with
  |next=>
   obtain⟨σ3,H3,I3,n3⟩:=q3;obtain⟨m',hm,w3⟩:=hN σ3 H3 n3;exact⟨m',hm,σ3,H3,I3,w3⟩
  |cont=>
   obtain⟨σ3,H3,I3,n3⟩:=q3;obtain⟨m',hm,w3⟩:=hN σ3 H3 n3;exact⟨m',hm,σ3,H3,I3,w3⟩
  |brk=>exact q3
  |ret v=>exact q3
 |false=>
  rw[if_neg Bool.false_ne_true];exact wpAny_execs_nil ⟨σ1,H2,I2,q2⟩
end
structure It where
 go:Nat->Hp->Prop
 yld:Nat->Hp->V->Hp->Prop
 stop:Nat->Hp->Prop
def FpOk(X:Cx)(pins:List (Addr×Obj))(H:Hp)(b:Addr):Prop:=
 H b=none/\b≠X.env.locals/\b∉X.fs/\(b∈X.ex∨X.s₀.heap.objs.size<=b)/\(∀x c,X.env.cells.lookup x=some c->c≠b)/\∀p∈X.pn++pins,p.1≠b
theorem Inv.fpOk{X:Cx}{pins:List (Addr×Obj)}{σ:St}{H H':Hp}{s:Shared}{b:Addr}(I:Inv X pins σ H s)(hb:s.heap.objs.size<=b)(hn:H' b=none):FpOk X pins H' b:=by
 refine⟨hn,Nat.ne_of_gt (Nat.lt_of_lt_of_le I.lt hb),I.nofs hb,.inr (Nat.le_trans I.sz hb),fun x c e z=>?_,fun p hp z=>?_⟩
 ·obtain⟨v,q⟩:=I.cell x c e;exact absurd (Nat.lt_of_lt_of_le q.lt (by rw[z];exact hb)) (Nat.lt_irrefl _)
 ·exact absurd (Nat.lt_of_lt_of_le (Heap.lt_size (I.pin p hp).1) (by rw[z];exact hb)) (Nat.lt_irrefl _)
structure Turn(P:Program)(w:World)(K:PySem.W.Frag)(tg:Expr)(J:It)(fp:List Addr)(it:Addr)(tn:Nat->Heap->Prop):Prop where
 mem:it∈fp
 obj:∀i h,tn i h->∀b∈fp,∃o,h.get? b=some o/\∀v,o.data≠.cell v
 keep:∀i h h',tn i h->(∀b∈fp,∀o,h.get? b=some o->h'.get? b=some o)->tn i h'
 item:∀(X:Cx),X.prog=P->X.w=w->X.K=K->X.calm=true->∀(i:Nat)(pins:List (Addr×Obj))(s:Shared)(σ:St)(H:Hp)(E:Value->Shared->Prop),Inv X pins σ H s->(∀b∈fp,FpOk X pins H b)->tn i s.heap->J.go i H->
  wpAny (model P w) X.A (pyNext (.ref it)) (fun r s1=>∃u,r=some u/\
   wpAny (model P w) X.A (letOwnedTupleGo tg (.ref it) u) (fun _ s2=>∃x H',Inv X pins σ H' s2/\RelV x u/\J.yld i H x H'/\tn (i+1) s2.heap/\∀b∈fp,H' b=none) E s1) E s
 done:∀(X:Cx),X.prog=P->X.w=w->X.K=K->X.calm=true->∀(i:Nat)(pins:List (Addr×Obj))(s:Shared)(σ:St)(H:Hp)(E:Value->Shared->Prop),Inv X pins σ H s->(∀b∈fp,FpOk X pins H b)->tn i s.heap->J.stop i H->
  wpAny (model P w) X.A (pyNext (.ref it)) (fun r s1=>r=none/\Inv X pins σ H s1) E s
 self:∀(A:Around)(i:Nat)(s:Shared)(Q:Value->Shared->Prop)(E:Value->Shared->Prop),tn i s.heap->Q (.ref it) s->wpAny (model P w) A (pyIter (.ref it)) Q E s
abbrev TI:=St->Hp->(It->Hp->Prop)->Prop
def PIE(X:Cx)(pins:List (Addr×Obj))(σ:St)(tg:Expr)(R:It->Hp->Prop)(itv:Value)(s2:Shared):Prop:=
 ∃(it:Addr)(fp:List Addr)(tn:Nat->Heap->Prop)(J:It)(H':Hp),itv=.ref it/\Inv X pins σ H' s2/\Turn X.prog X.w X.K tg J fp it tn/\tn 0 s2.heap/\(∀b∈fp,FpOk X pins H' b)/\R J H'
def PI(X:Cx)(tg iter:Expr)(wi:TI):Prop:=
 ∀(pins:List (Addr×Obj))(s:Shared)(σ:St)(H:Hp)(R:It->Hp->Prop),Inv X pins σ H s->wi σ H R->
  wpAny (model X.prog X.w) X.A (eval iter X.env) (fun v s1=>wpAny (model X.prog X.w) X.A (pyIter v) (PIE X pins σ tg R) X.xe s1) X.xe s
theorem go_of{M:Model}{A:Around}{E:Value->Shared->Prop}{s:Shared}{tg:Expr}{it:Addr}{u:Value}{o:Obj}{n:String}{vs:Array Value}{Q:Unit->Shared->Prop}(ho:s.heap.get? it=some o)(hc:o.cls=.type n)(hd:o.data=.fields vs)
  (hn:["enumerate","zip","dict_itemiterator","dict_reverseitemiterator","odict_iterator","itertools.zip_longest","itertools.pairwise"].contains n=false)(hQ:Q () s):wpAny M A (letOwnedTupleGo tg (.ref it) u) Q E s:=by
 unfold letOwnedTupleGo
 cases tg<;>first
  |exact wpAny_pure hQ
  |(cases u<;>first
    |exact wpAny_pure hQ
    |(refine wpAny_bind (wpAny_load ho ?_)
      rw[hc,hd];show wpAny M A (if(["enumerate","zip","dict_itemiterator","dict_reverseitemiterator","odict_iterator","itertools.zip_longest","itertools.pairwise"].contains n&&vs[0]?==some (rawInt _))=true then _ else _) Q E s;rw[if_neg (by intro h;rw[hn,Bool.false_and] at h;cases h)]
      exact wpAny_pure hQ))
def Itl(K:PySem.W.Frag)(a:Addr):It:=
 ⟨fun i H=>∃xs x,SqL K H a xs/\xs[i]?=some x,fun i H x H'=>H'=H/\∀xs,SqL K H a xs->xs[i]?=some x,fun i H=>∃xs,SqL K H a xs/\xs.length<=i⟩
def Itr(lo:Int)(n:Nat):It:=⟨fun i _=>i<n,fun i H x H'=>H'=H/\x=.int (lo+i),fun i _=>n<=i⟩
theorem znj{P:Program}{w:World}{K:PySem.W.Frag}{tg:Expr}(a it:Addr):Turn P w K tg (Itl K a) [it] it (fun i h=>h.IsListIter it a i) where
 mem:=by simp
 obj:=fun i h st b hb=>by
  have e:b=it:=by simpa using hb
  subst e;obtain⟨o,e,c,d⟩:=st;exact⟨o,e,fun v z=>by rw[d] at z;cases z⟩
 keep:=fun i h h' st k=>st.at fun o e=>k it (by simp) o e
 item:=by
  intro X hP hw hK hc i pins s σ H E I hf st hg;subst hP hw hK;obtain⟨xs,x,hq,hx⟩:=hg;obtain⟨its,rv,p,hz⟩:=I.list hq;obtain⟨u,hu,ru⟩:=rv.get hx;obtain⟨f0,f1,f2,f3,f4,f5⟩:=hf it (by simp)
  refine wpAny_pyNext_list_item st p.isList (x:=u) (by simpa using hu) fun h' st' sb=>?_
  have I1:Inv X pins σ H {s with heap:=h'}:=I.turned (t':=s.toks) (fun b o hb e=>(sb.2 b hb).trans e) f0 f1 f3 f4 f5;obtain⟨o,e,c,d⟩:=id st';exact⟨u,rfl,go_of (s:={s with heap:=h'}) e c d (by decide) ⟨x,H,I1,ru,⟨rfl,fun ys hy=>by rw[I.list_inj hy hq];exact hx⟩,st',fun b hb=>(hf b hb).1⟩⟩
 done:=by
  intro X hP hw hK hc i pins s σ H E I hf st hg;subst hP hw hK;obtain⟨xs,hq,hx⟩:=hg;obtain⟨its,rv,p,hz⟩:=I.list hq;obtain⟨f0,f1,f2,f3,f4,f5⟩:=hf it (by simp)
  have hl:=rv.length;exact wpAny_pyNext_list_end (I.ok.hd hc) st p.isList (by simp;omega) fun h' eb=>⟨rfl,I.turned (t':=s.toks) (fun b o hb e=>eb b o hb e) f0 f1 f3 f4 f5⟩
 self:=fun _ _ _ _ _ st h=>wpAny_pyIter_listiter st h
theorem zmt{P:Program}{w:World}{K:PySem.W.Frag}{tg:Expr}(it:Addr)(lo:Int)(n:Nat):Turn P w K tg (Itr lo n) [it] it (fun i h=>IsRangeIter h it (lo+(i:Nat)*1) ((n:Int)-(i:Nat)) 1) where
 mem:=by simp
 obj:=fun i h st b hb=>by
  have e:b=it:=by simpa using hb
  subst e;exact⟨_,st,fun v z=>by
   have z':Data.fields _=Data.cell v:=z
   cases z'⟩
 keep:=fun i h h' st k=>k it (by simp) _ st
 item:=by
  intro X hP hw hK hc i pins s σ H E I hf st hg;subst hP hw hK;obtain⟨f0,f1,f2,f3,f4,f5⟩:=hf it (by simp)
  have W:=Walks.range (prog:=X.prog) (w:=X.w) (I.ok.hd hc) it lo 1 n;refine W.item i s _ _ hg st fun v h' tk hv st' kk=>?_;obtain⟨t,rfl⟩:=hv;have I1:Inv X pins σ H {s with heap:=h',toks:=tk}:=I.turned (fun b o hb e=>kk b o (by simpa using hb) e) f0 f1 f3 f4 f5
  refine⟨_,rfl,go_of (s:={s with heap:=h',toks:=tk}) (n:="range_iterator") st' rfl rfl (by decide) ⟨.int (lo+i),H,I1,⟨t,?_⟩,⟨rfl,rfl⟩,st',fun b hb=>(hf b hb).1⟩⟩
  rw[Int.mul_one]
 done:=by
  intro X hP hw hK hc i pins s σ H E I hf st hg;subst hP hw hK;obtain⟨f0,f1,f2,f3,f4,f5⟩:=hf it (by simp)
  exact wpAny_pyNext_range_end (I.ok.hd hc) st (by have:n<=i:=hg;omega) fun h' eb=>⟨rfl,I.turned (t':=s.toks) (fun b o hb e=>eb b o hb e) f0 f1 f3 f4 f5⟩
 self:=fun _ _ _ _ _ st h=>wpAny_pyIter_rangeiter st h
section
variable{X:Cx}{tg:Expr}
def zcx(K:PySem.W.Frag)(tl:TE):TI:=fun σ H R=>tl σ H fun x H1=>∃a,x=.ref a/\(∃xs,SqL K H1 a xs)/\R (Itl K a) H1
theorem zc1{l:Expr}{tl:TE}(hl:PE X l tl):PI X tg l (zcx X.K tl):=by
 intro pins s σ H R I h;refine thn (hl pins s σ H _ I h) fun v s1⟨x,H1,I1,r1,q1⟩=>?_;obtain⟨a,e,⟨xs,hq⟩,q⟩:=q1;subst e
 cases r1;obtain⟨its,rv,p,hz⟩:=I1.list hq;refine wpAny_pyIter_list p.isList ?_;refine⟨s1.heap.objs.size,[s1.heap.objs.size],_,_,H1,rfl,I1.kept (t':=s1.toks) fun b o e=>Heap.get?_push_of_some _ e,znj a _,⟨_,Heap.get?_push_size _ rfl,rfl,rfl⟩,fun b hb=>?_,q⟩;have e:b=s1.heap.objs.size:=by simpa using hb
 subst e;exact I1.fpOk (Nat.le_refl _) (I1.hok.fresh (Nat.le_refl _))
theorem range_it{pins:List (Addr×Obj)}{σ:St}{H:Hp}{s:Shared}{R:It->Hp->Prop}{E:Value->Shared->Prop}{lo hi:Int}{t u v:Tok}{tk:Nat}(I:Inv X pins σ H s)(h1: -(2^62)<=lo)(h2:lo<2^62)(h3: -(2^62)<=hi)(h4:hi<2^62)
  (q:R (Itr lo (hi-lo).toNat) H):wpAny (model X.prog X.w) X.A (pyIter (.ref s.heap.objs.size)) (PIE X pins σ tg R) E {s with heap:=s.heap.push {cls:=.type "range",data:=.fields #[.int lo t,.int hi u,.int 1 v]},toks:=tk}:=by
 refine wpAny_pyIter_range (IsRange.new ..) (small_one h1 h2 h3 h4) ?_;have I1:Inv X pins σ H {s with heap:=s.heap.push {cls:=.type "range",data:=.fields #[.int lo t,.int hi u,.int 1 v]},toks:=tk}:=I.kept fun b o e=>Heap.get?_push_of_some _ e;refine⟨(s.heap.push {cls:=.type "range",data:=.fields #[.int lo t,.int hi u,.int 1 v]}).objs.size,[(s.heap.push {cls:=.type "range",data:=.fields #[.int lo t,.int hi u,.int 1 v]}).objs.size],_,_,H,rfl,
  I1.kept (t':=tk) fun b o e=>Heap.get?_push_of_some _ e,zmt _ lo (hi-lo).toNat,?_,fun b hb=>?_,q⟩
 ·have e1:lo+((0:Nat):Int)*1=lo:=by simp
  have e2:(((hi-lo).toNat:Nat):Int)-((0:Nat):Int)=Builtin.Range.rangeSize lo hi 1:=by rw[rangeSize_one];split<;>omega
  show IsRangeIter _ _ (lo+((0:Nat):Int)*1) ((((hi-lo).toNat:Nat):Int)-((0:Nat):Int)) 1
  rw[e1,e2];exact Heap.get?_push_size _ rfl
 ·have e:b=(s.heap.push {cls:=.type "range",data:=.fields #[.int lo t,.int hi u,.int 1 v]}).objs.size:=by simpa using hb
  subst e;exact I1.fpOk (Nat.le_refl _) (I1.hok.fresh (Nat.le_refl _))
def zp0(ta:TA):TI:=fun σ H R=>ta σ H fun vs H1=>∃j:Int,vs=[.int j]/\ -(2^62)<=j/\j<2^62/\R (Itr 0 j.toNat) H1
theorem zf2{a:Expr}{ta:TA}{p pos:Pos}(hg:Gl X "range")(hm:X.mg "range"=none)(ha:PA X [a] ta)(hs:starEach [a] X.env=[(false,eval a X.env)]:=by rfl):PI X tg (.Call (.Name "range" p) [a] [] pos) (zp0 ta):=by
 intro pins s σ H R I h;refine Call_ (zgu I hg hm boot_range (PyProof.Rows.callWith_type1 (thn (ha pos pins s σ H _ I h) fun us s1⟨vs,H1,I1,r1,q1⟩=>?_) hs rfl));obtain⟨j,e,q1,q2,q⟩:=q1;subst e
 cases r1 with
 |cons r rr=>
  cases rr;obtain⟨t,rfl⟩:=r;exact call_range_1 (range_it I1 (by omega) (by omega) q1 q2 (by simpa using q))
def tFor(wi:TI)(g:TG)(tb:TS):TS:=fun D σ H=>wi σ H fun J H1=>∃W:Nat->Nat->St->Hp->Prop,(∃m,W 0 m σ H1)/\∀i m σ H,W i m σ H->
 (J.stop i H/\D.nx σ H)∨(J.go i H/\∃N:St->Hp->Prop,(∀σ' H',N σ' H'->∃m',m'<m/\W (i+1) m' σ' H')/\∀x H',J.yld i H x H'->g x σ H' fun σ2 H2=>tb {D with nx:=N,ct:=N,bk:=D.nx} σ2 H2)
def zj1(fp:List Addr)(h:Heap):List (Addr×Obj):=fp.filterMap fun b=>(h.get? b).map fun o=>(b,o)
theorem ze7{fp:List Addr}{h:Heap}{b:Addr}{o:Obj}(hb:b∈fp)(e:h.get? b=some o):(b,o)∈zj1 fp h:=List.mem_filterMap.mpr ⟨b,hb,by rw[e];rfl⟩
theorem zoj{fp:List Addr}{h:Heap}{p:Addr×Obj}(hp:p∈zj1 fp h):p.1∈fp/\h.get? p.1=some p.2:=by
 obtain⟨b,hb,e⟩:=List.mem_filterMap.mp hp
 cases q:h.get? b with
 |none=>rw[q] at e;cases e
 |some o=>
  rw[q] at e;have e':(b,o)=p:=Option.some.inj e;subst e';exact⟨hb,q⟩
theorem Inv.pinned{pins:List (Addr×Obj)}{σ:St}{H:Hp}{s:Shared}{fp:List Addr}(I:Inv X pins σ H s)(hf:∀b∈fp,FpOk X pins H b)(ho:∀b∈fp,∃o,s.heap.get? b=some o/\∀v,o.data≠.cell v):Inv X (pins++zj1 fp s.heap) σ H s:=
 I.pins_of fun p hp=>(List.mem_append.mp hp).elim (fun z=>I.pin p (List.mem_append_right _ z)) fun z=>by
  obtain⟨hb,e⟩:=zoj z;obtain⟨f0,f1,f2,_⟩:=hf p.1 hb;obtain⟨o,e',d⟩:=ho p.1 hb;rw[e] at e';cases e';exact⟨e,f0,f1,f2,d⟩
theorem Inv.unpinned{pins pl:List (Addr×Obj)}{σ:St}{H:Hp}{s:Shared}(I:Inv X (pins++pl) σ H s):Inv X pins σ H s:=I.pins_of fun p hp=>I.pin p (List.mem_append_right _ (List.mem_append_left _ hp))
theorem zd8{iter:Expr}{body:List Stmt}{wi:TI}{g:TG}{tb:TS}{pos:Pos}(hp:PassesOwn (model X.prog X.w) X.A X.env X.xe)(hc:X.calm=true)(hi:PI X tg iter wi)(hg:PG X tg g)(hb:PSs X body tb)
  (hs:∀x,foldedSetIterable iter X.env x=pure x:=by intro _;rfl):PS X (.For tg iter body [] pos) (tFor wi g tb):=by
 intro pins s σ H D I h;refine wpAny_For (thn (hi pins s σ H _ I h) fun v s1 h1=>thn h1 fun itv s2 h2=>?_) hs;obtain⟨it,fp,tn,J,H2,e,I2,T,st2,f2,W,⟨m0,w0⟩,turn⟩:=h2;subst e;have stat:∀{H':Hp},(∀b∈fp,H' b=none)->∀b∈fp,FpOk X pins H' b:=fun hn b hb=>⟨hn b hb,(f2 b hb).2⟩;refine codeAny_forLoop_any (fun n s'=>∃i σ' H',Inv X pins σ' H' s'/\tn i s'.heap/\(∀b∈fp,H' b=none)/\W i n σ' H') ?_ m0 ⟨0,σ,H2,I2,st2,fun b hb=>(f2 b hb).1,w0⟩;rintro n s3 ⟨i,σ3,H3,I3,st3,fr3,w3⟩;rcases turn i n σ3 H3 w3 with⟨stop,qn⟩|⟨go,N,hN,step⟩
 ·refine wpAny_passesOwn hp (thn (T.done X rfl rfl rfl hc i pins s3 σ3 H3 X.xe I3 (stat fr3) st3 stop) fun r s4⟨hr,I4⟩=>?_);subst hr;exact wpAny_execs_nil ⟨σ3,H3,I4,qn⟩
 ·refine wpAny_passesOwn hp (thn (T.item X rfl rfl rfl hc i pins s3 σ3 H3 X.xe I3 (stat fr3) st3 go) fun r s4⟨u,hr,h4⟩=>?_);subst hr;refine wpAny_passesOwn hp (thn h4 fun _ s5⟨x,H5,I5,r5,y5,st5,fr5⟩=>?_);have I5':=I5.pinned (stat fr5) (T.obj _ _ st5);refine wpAny_passesOwn hp (thn (hg _ s5 σ3 H5 x u _ I5' r5 (step x H5 y5)) fun _ s6⟨σ6,H6,I6,q6⟩=>?_);refine wpAny_passesOwn hp (thn (hb _ s6 σ6 H6 _ I6 q6) fun f s7 q7=>?_);have again:∀{σ7:St}{H7:Hp},Inv X (pins++zj1 fp s5.heap) σ7 H7 s7->N σ7 H7->∃m,m<n/\∃i σ' H',Inv X pins σ' H' s7/\tn i s7.heap/\(∀b∈fp,H' b=none)/\W i m σ' H':=fun{σ7 H7} I7 n7=>by
   obtain⟨m',hm,w7⟩:=hN σ7 H7 n7;refine⟨m',hm,i+1,σ7,H7,I7.unpinned,T.keep _ _ _ st5 fun b hb o e=>(I7.pin (b,o) (List.mem_append_right _ (List.mem_append_right _ (ze7 hb e)))).1,fun b hb=>?_,w7⟩;obtain⟨o,e,d⟩:=T.obj _ _ st5 b hb;exact(I7.pin (b,o) (List.mem_append_right _ (List.mem_append_right _ (ze7 hb e)))).2.1
  cases f with
  |next=>obtain⟨σ7,H7,I7,n7⟩:=q7;exact again I7 n7
  |cont=>obtain⟨σ7,H7,I7,n7⟩:=q7;exact again I7 n7
  |brk=>obtain⟨σ7,H7,I7,q7⟩:=q7;exact⟨σ7,H7,I7.unpinned,q7⟩
  |ret v=>obtain⟨x7,σ7,H7,I7,r7,q7⟩:=q7;exact⟨x7,σ7,H7,I7.unpinned,r7,q7⟩
end
theorem for_list{K:PySem.W.Frag}{a:Addr}{xs:List V}{g:TG}{tb:TS}{D:Ends}{σ:St}{H:Hp}(Pv:Nat->St->Hp->Prop)(h0:Pv 0 σ H)(hl:∀i σ H,i<=xs.length->Pv i σ H->SqL K H a xs)
  (hs:∀i x σ H,xs[i]?=some x->Pv i σ H->g x σ H fun σ2 H2=>tb {D with nx:=Pv (i+1),ct:=Pv (i+1),bk:=D.nx} σ2 H2)(hd:∀σ H,Pv xs.length σ H->D.nx σ H):
  ∃W:Nat->Nat->St->Hp->Prop,(∃m,W 0 m σ H)/\∀i m σ H,W i m σ H->
   ((Itl K a).stop i H/\D.nx σ H)∨((Itl K a).go i H/\∃N:St->Hp->Prop,(∀σ' H',N σ' H'->∃m',m'<m/\W (i+1) m' σ' H')/\∀x H',(Itl K a).yld i H x H'->g x σ H' fun σ2 H2=>tb {D with nx:=N,ct:=N,bk:=D.nx} σ2 H2):=by
 refine⟨fun i m σ H=>m=xs.length-i/\i<=xs.length/\Pv i σ H,⟨xs.length,by simp,Nat.zero_le _,h0⟩,?_⟩
 rintro i m σ H ⟨rfl,hi,p⟩;have q:=hl i σ H hi p
 by_cases hlt:i<xs.length
 ·refine .inr ⟨⟨xs,xs[i],q,by simp[hlt]⟩,Pv (i+1),fun σ' H' p'=>⟨xs.length-(i+1),by omega,rfl,hlt,p'⟩,fun x H' y=>?_⟩
  obtain⟨e,y⟩:=y;subst e;exact hs i x σ _ (y xs q) p
 ·have e:i=xs.length:=by omega
  subst e;exact .inl ⟨⟨xs,q,Nat.le_refl _⟩,hd σ H p⟩
theorem zoc{lo:Int}{n:Nat}{g:TG}{tb:TS}{D:Ends}{σ:St}{H:Hp}(Pv:Nat->St->Hp->Prop)(h0:Pv 0 σ H)
  (hs:∀i σ H,i<n->Pv i σ H->g (.int (lo+i)) σ H fun σ2 H2=>tb {D with nx:=Pv (i+1),ct:=Pv (i+1),bk:=D.nx} σ2 H2)(hd:∀σ H,Pv n σ H->D.nx σ H):
  ∃W:Nat->Nat->St->Hp->Prop,(∃m,W 0 m σ H)/\∀i m σ H,W i m σ H->
   ((Itr lo n).stop i H/\D.nx σ H)∨((Itr lo n).go i H/\∃N:St->Hp->Prop,(∀σ' H',N σ' H'->∃m',m'<m/\W (i+1) m' σ' H')/\∀x H',(Itr lo n).yld i H x H'->g x σ H' fun σ2 H2=>tb {D with nx:=N,ct:=N,bk:=D.nx} σ2 H2):=by
 refine⟨fun i m σ H=>m=n-i/\i<=n/\Pv i σ H,⟨n,by simp,Nat.zero_le _,h0⟩,?_⟩
 rintro i m σ H ⟨rfl,hi,p⟩
 by_cases hlt:i<n
 ·refine .inr ⟨hlt,Pv (i+1),fun σ' H' p'=>⟨n-(i+1),by omega,rfl,hlt,p'⟩,fun x H' y=>?_⟩
  obtain⟨e,y⟩:=y;subst e y;exact hs i σ _ hlt p
 ·have e:i=n:=by omega
  subst e;exact .inl ⟨Nat.le_refl _,hd σ H p⟩
theorem while_by{c:TT}{tb:TS}{D:Ends}{σ:St}{H:Hp}(Pv:St->Hp->Prop)(μ:St->Hp->Nat)(h0:Pv σ H)
  (hs:∀σ H,Pv σ H->c σ H fun b H1=>if b=true then tb {D with nx:=fun σ' H'=>Pv σ' H'/\μ σ' H'<μ σ H,ct:=fun σ' H'=>Pv σ' H'/\μ σ' H'<μ σ H,bk:=D.nx} σ H1 else D.nx σ H1)
  (mono:∀σ H Q Q',(∀b H1,Q b H1->Q' b H1)->c σ H Q->c σ H Q'):zlh c tb D σ H:=by
 refine⟨fun m σ H=>m=μ σ H/\Pv σ H,⟨_,rfl,h0⟩,?_⟩;rintro m σ H ⟨rfl,p⟩;refine mono σ H _ _ (fun b H1 q=>?_) (hs σ H p)
 cases b with
 |true=>exact⟨_,fun σ' H'⟨p',l⟩=>⟨_,l,rfl,p'⟩,q⟩
 |false=>exact q
abbrev R2:=V->V->Hp->VK->Prop
def OpR(X:Cx)(f:Value->Value->Sem Value)(r:R2):Prop:=
 ∀(pins:List (Addr×Obj))(s:Shared)(σ:St)(H:Hp)(x y:V)(v u:Value)(Q:VK),Inv X pins σ H s->RelV x v->RelV y u->r x y H Q->
  wpAny (model X.prog X.w) X.A (f v u) (EP X pins σ Q) X.xe s
def UnR(X:Cx)(f:Value->Sem Value)(r:V->Hp->VK->Prop):Prop:=
 ∀(pins:List (Addr×Obj))(s:Shared)(σ:St)(H:Hp)(x:V)(v:Value)(Q:VK),Inv X pins σ H s->RelV x v->r x H Q->
  wpAny (model X.prog X.w) X.A (f v) (EP X pins σ Q) X.xe s
def zdo(X:Cx)(f:Value)(r:List V->Hp->VK->Prop):Prop:=
 ∀(pins:List (Addr×Obj))(s:Shared)(σ:St)(H:Hp)(xs:List V)(us:List Value)(Q:VK),Inv X pins σ H s->Vals xs us->r xs H Q->
  wpAny (model X.prog X.w) X.A (call f us) (EP X pins σ Q) X.xe s
def tOp(r:R2)(ta tb:TE):TE:=fun σ H Q=>ta σ H fun x H1=>tb σ H1 fun y H2=>r x y H2 Q
def tUn(r:V->Hp->VK->Prop)(ta:TE):TE:=fun σ H Q=>ta σ H fun x H1=>r x H1 Q
def rI(C:Int->Int->Prop)(g:Int->Int->V):R2:=fun x y H Q=>∃i j,x=.int i/\y=.int j/\C i j/\Q (g i j) H
def rI0(g:Int->Int->V):R2:=fun x y H Q=>∃i j,x=.int i/\y=.int j/\Q (g i j) H
def rU(g:Int->V):V->Hp->VK->Prop:=fun x H Q=>∃i,x=.int i/\Q (g i) H
section
variable{X:Cx}{a b c:Expr}{ta tb tc:TE}{pos:Pos}
theorem binT(ha:PE X a ta)(hb:PE X b tb){pins:List (Addr×Obj)}{s:Shared}{σ:St}{H:Hp}{R:V->V->Hp->Prop}(I:Inv X pins σ H s)
  (h:ta σ H fun x H1=>tb σ H1 fun y H2=>R x y H2){Q:Value->Shared->Prop}{f:Value->Value->Sem Value}
  (hf:∀v u s2 x y H2,Inv X pins σ H2 s2->RelV x v->RelV y u->R x y H2->wpAny (model X.prog X.w) X.A (f v u) Q X.xe s2):
  wpAny (model X.prog X.w) X.A (eval a X.env) (fun v s₁=>wpAny (model X.prog X.w) X.A (eval b X.env) (fun u s₂=>wpAny (model X.prog X.w) X.A (f v u) Q X.xe s₂) X.xe s₁) X.xe s:=by
 refine thn (ha pins s σ H _ I h) fun v s1⟨x,H1,I1,r1,q1⟩=>?_;refine thn (hb pins s1 σ H1 _ I1 q1) fun u s2⟨y,H2,I2,r2,q2⟩=>?_;exact hf v u s2 x y H2 I2 r1 r2 q2
theorem zdv{op:Operator}{r:R2}(ho:OpR X (binaryOp op) r)(ha:PE X a ta)(hb:PE X b tb):PE X (.BinOp a op b pos) (tOp r ta tb):=by
 intro pins s σ H Q I h;exact wpAny_BinOp (binT ha hb I h fun v u s2 x y H2 I2 rx ry q=>ho pins s2 σ H2 x y v u Q I2 rx ry q)
theorem pe_un{op:UnaryOp}{r:V->Hp->VK->Prop}(ho:UnR X (unaryOp op) r)(ha:PE X a ta):PE X (.UnaryOp op a pos) (tUn r ta):=by
 intro pins s σ H Q I h;exact UnaryOp_ (thn (ha pins s σ H _ I h) fun v s1⟨x,H1,I1,r1,q1⟩=>ho pins s1 σ H1 x v Q I1 r1 q1)
theorem opI{f:Value->Value->Sem Value}{C:Int->Int->Prop}{g:Int->Int->Int}
  (rule:∀(i j:Int)(t u:Tok)(s:Shared)(Q:Value->Shared->Prop)(E:Value->Shared->Prop),C i j->Q (.int (g i j) s.toks) {s with toks:=s.toks+1}->wpAny (model X.prog X.w) X.A (f (.int i t) (.int j u)) Q E s):
  OpR X f (rI C fun i j=>.int (g i j)):=by
 intro pins s σ H x y v u Q I rx ry h;obtain⟨i,j,rfl,rfl,hc,q⟩:=h;obtain⟨t,rfl⟩:=rx;obtain⟨t',rfl⟩:=ry;exact rule i j t t' s _ _ hc ⟨.int (g i j),H,I.tok _,⟨_,rfl⟩,q⟩
theorem opI0{f:Value->Value->Sem Value}{g:Int->Int->Int}
  (rule:∀(i j:Int)(t u:Tok)(s:Shared)(Q:Value->Shared->Prop)(E:Value->Shared->Prop),Q (.int (g i j) s.toks) {s with toks:=s.toks+1}->wpAny (model X.prog X.w) X.A (f (.int i t) (.int j u)) Q E s):
  OpR X f (rI0 fun i j=>.int (g i j)):=by
 intro pins s σ H x y v u Q I rx ry h;obtain⟨i,j,rfl,rfl,q⟩:=h;obtain⟨t,rfl⟩:=rx;obtain⟨t',rfl⟩:=ry;exact rule i j t t' s _ _ ⟨.int (g i j),H,I.tok _,⟨_,rfl⟩,q⟩
theorem opB0{f:Value->Value->Sem Value}{g:Int->Int->Bool}
  (rule:∀(i j:Int)(t u:Tok)(s:Shared)(Q:Value->Shared->Prop)(E:Value->Shared->Prop),Q (.bool (g i j)) s->wpAny (model X.prog X.w) X.A (f (.int i t) (.int j u)) Q E s):
  OpR X f (rI0 fun i j=>.bl (g i j)):=by
 intro pins s σ H x y v u Q I rx ry h;obtain⟨i,j,rfl,rfl,q⟩:=h;obtain⟨t,rfl⟩:=rx;obtain⟨t',rfl⟩:=ry;exact rule i j t t' s _ _ ⟨.bl (g i j),H,I,rfl,q⟩
def CDiv(i j:Int):Prop:=0<j/\j<1073741824
def CMul(i j:Int):Prop:=(-(2^64)<i/\i<2^64)∨(-(2^64)<j/\j<2^64)
theorem CMul.ok{i j:Int}(h:CMul i j):IntMulOk i j:=by
 rcases h with⟨h1,h2⟩|⟨h1,h2⟩
 ·exact .of_left (intBits_le_64 h1 h2)
 ·exact .of_right (intBits_le_64 h1 h2)
theorem zb7:OpR X (binaryOp .Add) (rI0 fun i j=>.int (i+j)):=opI0 fun _ _ _ _ _ _ _ q=>add_int q
theorem zde:OpR X (binaryOp .Sub) (rI0 fun i j=>.int (i-j)):=opI0 fun _ _ _ _ _ _ _ q=>sub_int q
theorem zdf:OpR X (binaryOp .Mult) (rI CMul fun i j=>.int (i*j)):=opI fun _ _ _ _ _ _ _ hc q=>mul_int q hc.ok
theorem zej:OpR X (binaryOp .FloorDiv) (rI CDiv fun i j=>.int (i/j)):=opI fun i j _ _ _ _ _ hc q=>by
 have h1:(0:Int)<j:=hc.1;have h2:j<1073741824:=hc.2;exact floordiv_int (by omega) (by rw[Int.fdiv_eq_ediv_of_nonneg i (by omega)];exact q) (.inl (PyProof.noPylong_small (by omega)))
theorem zcm:OpR X (binaryOp .Mod) (rI (fun _ j=>0<j) fun i j=>.int (i%j)):=opI fun i j _ _ _ _ _ hc q=>by
 have h1:(0:Int)<j:=hc;exact mod_int' (by omega) (by rw[Int.fmod_eq_emod_of_nonneg i (by omega)];exact q)
theorem zhs:OpR X (binaryOp .Mod) (rI (fun _ j=>j≠0) fun i j=>.int (i.fmod j)):=opI fun _ _ _ _ _ _ _ hc q=>mod_int' hc q
theorem unI{f:Value->Sem Value}{g:Int->Int}
  (rule:∀(i:Int)(t:Tok)(s:Shared)(Q:Value->Shared->Prop)(E:Value->Shared->Prop),Q (.int (g i) s.toks) {s with toks:=s.toks+1}->wpAny (model X.prog X.w) X.A (f (.int i t)) Q E s):
  UnR X f (rU fun i=>.int (g i)):=by
 intro pins s σ H x v Q I rx h;obtain⟨i,rfl,q⟩:=h;obtain⟨t,rfl⟩:=rx;exact rule i t s _ _ ⟨.int (g i),H,I.tok _,⟨_,rfl⟩,q⟩
theorem un_neg:UnR X (unaryOp .USub) (rU fun i=>.int (-i)):=unI fun _ _ _ _ _ q=>neg_int q
end
def scal:V->V->Bool
 |.non,.non=>true|.non,.int _=>true|.int _,.non=>true|.non,.bl _=>true|.bl _,.non=>true|.non,.str _=>true|.str _,.non=>true
 |.int _,.int _=>true|.bl _,.bl _=>true|.str _,.str _=>true|.byt _,.byt _=>true
 |.int _,.str _=>true|.str _,.int _=>true|.bl _,.str _=>true|.str _,.bl _=>true
 |_,_=>false
def rEq:R2:=fun x y H Q=>scal x y=true/\Q (.bl (decide (x=y))) H
def rNe:R2:=fun x y H Q=>scal x y=true/\Q (.bl (!decide (x=y))) H
theorem zov{i j:Int}:decide (V.int i=V.int j)=(i==j):=by
 rw[Bool.eq_iff_iff]
 simp
theorem dec_bl{i j:Bool}:decide (V.bl i=V.bl j)=(i==j):=by
 rw[Bool.eq_iff_iff]
 simp
theorem zpa{i j:Str}:decide (V.str i=V.str j)=(i==j):=by
 rw[Bool.eq_iff_iff]
 simp
theorem zo5{i j:Array UInt8}:decide (V.byt i=V.byt j)=(i.toList==j.toList):=by
 rw[Bool.eq_iff_iff]
 cases i
 cases j
 simp
section
variable{X:Cx}{a b c:Expr}{ta tb tc:TE}{pos:Pos}
theorem zau{pins:List (Addr×Obj)}{σ:St}{H:Hp}{s:Shared}{Q:VK}{k k':Bool}(I:Inv X pins σ H s)(q:Q (.bl k) H)(e:k=k'):EP X pins σ Q (.bool k') s:=by
 subst e;exact⟨.bl k,H,I,rfl,q⟩
theorem op_eq:OpR X (compareOp .Eq) rEq:=by
 intro pins s σ H x y v u Q I rx ry h;obtain⟨hs,q⟩:=h
 cases x with
 |non=>
  cases rx
  cases y with
  |non=>cases ry;exact PySem.EqNone.eq_none_none (zau I q (by simp))
  |bl j=>cases ry;exact PySem.EqNone.eq_none_bool (zau I q (by simp))
  |int j=>obtain⟨t',rfl⟩:=ry;exact PySem.EqNone.eq_none_int (zau I q (by simp))
  |str j=>obtain⟨t',rfl⟩:=ry;exact PySem.EqNone.eq_none_str (zau I q (by simp))
  |_=>exact absurd (show false=true from hs) Bool.false_ne_true
 |bl i=>
  cases rx
  cases y with
  |non=>cases ry;exact PySem.EqNone.eq_bool_none (zau I q (by simp))
  |bl j=>cases ry;exact eq_bool (zau I q dec_bl)
  |str j=>obtain⟨t',rfl⟩:=ry;exact PySem.EqMixed.eq_bool_str (zau I q (by simp))
  |_=>exact absurd (show false=true from hs) Bool.false_ne_true
 |int i=>
  obtain⟨t,rfl⟩:=rx
  cases y with
  |non=>cases ry;exact PySem.EqNone.eq_int_none (zau I q (by simp))
  |int j=>obtain⟨t',rfl⟩:=ry;exact eq_int (zau I q zov)
  |str j=>obtain⟨t',rfl⟩:=ry;exact PySem.EqMixed.eq_int_str (zau I q (by simp))
  |_=>exact absurd (show false=true from hs) Bool.false_ne_true
 |str i=>
  obtain⟨t,rfl⟩:=rx
  cases y with
  |non=>cases ry;exact PySem.EqNone.eq_str_none (zau I q (by simp))
  |bl j=>cases ry;exact PySem.EqMixed.eq_str_bool (zau I q (by simp))
  |int j=>obtain⟨t',rfl⟩:=ry;exact PySem.EqMixed.eq_str_int (zau I q (by simp))
  |str j=>obtain⟨t',rfl⟩:=ry;exact eq_str (zau I q zpa)
  |_=>exact absurd (show false=true from hs) Bool.false_ne_true
 |byt i=>
  obtain⟨t,rfl⟩:=rx
  cases y with
  |byt j=>obtain⟨t',rfl⟩:=ry;exact PySem.W.eq_bytes (zau I q zo5)
  |_=>exact absurd (show false=true from hs) Bool.false_ne_true
 |_=>cases y<;>exact absurd (show false=true from hs) Bool.false_ne_true
theorem op_ne:OpR X (compareOp .NotEq) rNe:=by
 intro pins s σ H x y v u Q I rx ry h;obtain⟨hs,q⟩:=h
 cases x with
 |non=>
  cases rx
  cases y with
  |non=>cases ry;exact PySem.EqNone.ne_none_none (zau I q (by simp))
  |bl j=>cases ry;exact PySem.EqNone.ne_none_bool (zau I q (by simp))
  |int j=>obtain⟨t',rfl⟩:=ry;exact PySem.EqNone.ne_none_int (zau I q (by simp))
  |str j=>obtain⟨t',rfl⟩:=ry;exact PySem.EqNone.ne_none_str (zau I q (by simp))
  |_=>exact absurd (show false=true from hs) Bool.false_ne_true
 |bl i=>
  cases rx
  cases y with
  |non=>cases ry;exact PySem.EqNone.ne_bool_none (zau I q (by simp))
  |bl j=>cases ry;exact ne_bool (zau I q (congrArg not dec_bl))
  |str j=>obtain⟨t',rfl⟩:=ry;exact PySem.EqMixed.ne_bool_str (zau I q (by simp))
  |_=>exact absurd (show false=true from hs) Bool.false_ne_true
 |int i=>
  obtain⟨t,rfl⟩:=rx
  cases y with
  |non=>cases ry;exact PySem.EqNone.ne_int_none (zau I q (by simp))
  |int j=>obtain⟨t',rfl⟩:=ry;exact ne_int (zau I q (congrArg not zov))
  |str j=>obtain⟨t',rfl⟩:=ry;exact PySem.EqMixed.ne_int_str (zau I q (by simp))
  |_=>exact absurd (show false=true from hs) Bool.false_ne_true
 |str i=>
  obtain⟨t,rfl⟩:=rx
  cases y with
  |non=>cases ry;exact PySem.EqNone.ne_str_none (zau I q (by simp))
  |bl j=>cases ry;exact PySem.EqMixed.ne_str_bool (zau I q (by simp))
  |int j=>obtain⟨t',rfl⟩:=ry;exact PySem.EqMixed.ne_str_int (zau I q (by simp))
  |str j=>obtain⟨t',rfl⟩:=ry;exact ne_str (zau I q (congrArg not zpa))
  |_=>exact absurd (show false=true from hs) Bool.false_ne_true
 |byt i=>
  obtain⟨t,rfl⟩:=rx
  cases y with
  |byt j=>obtain⟨t',rfl⟩:=ry;exact PySem.W.ne_bytes (zau I q (congrArg not zo5))
  |_=>exact absurd (show false=true from hs) Bool.false_ne_true
 |_=>cases y<;>exact absurd (show false=true from hs) Bool.false_ne_true
theorem zkj:OpR X (compareOp .Lt) (rI0 fun i j=>.bl (decide (i<j))):=opB0 fun _ _ _ _ _ _ _ q=>lt_int q
theorem op_gt:OpR X (compareOp .Gt) (rI0 fun i j=>.bl (decide (j<i))):=opB0 fun _ _ _ _ _ _ _ q=>gt_int q
theorem nomark(b:Expr){op:CmpOp}(h:op≠.In:=by decide)(h2:op≠.NotIn:=by decide):behindInMarks op b=false:=by
 have e1:(op==CmpOp.In)=false:=by cases op<;>first|rfl|exact absurd rfl h
 have e2:(op==CmpOp.NotIn)=false:=by cases op<;>first|rfl|exact absurd rfl h2
 cases b<;>simp[behindInMarks,e1,e2]
theorem zfh{op:CmpOp}{r:R2}(ho:OpR X (compareOp op) r)(ha:PE X a ta)(hb:PE X b tb)(hm:behindInMarks op b=false):PE X (.Compare a [op] [b] pos) (tOp r ta tb):=by
 intro pins s σ H Q I h;exact wpAny_Compare1 (binT ha hb I h fun v u s2 x y H2 I2 rx ry q=>ho pins s2 σ H2 x y v u Q I2 rx ry q) hm
def tTest(t:TE):TT:=fun σ H Q=>t σ H fun x H'=>∃k,x=.bl k/\Q k H'
theorem zd1{op:CmpOp}{r:R2}(ho:OpR X (compareOp op) r)(ha:PE X a ta)(hb:PE X b tb)(hm:behindInMarks op b=false):PT X (.Compare a [op] [b] pos) (tTest (tOp r ta tb)):=by
 intro pins s σ H Q I h;refine wpAny_isTrue_Compare1 (thn (ha pins s σ H _ I h) fun v s1⟨x,H1,I1,r1,q1⟩=>thn (hb pins s1 σ H1 _ I1 q1) fun u s2⟨y,H2,I2,r2,q2⟩=>
  thn (ho pins s2 σ H2 x y v u _ I2 r1 r2 q2) fun c s3⟨z,H3,I3,r3,k,e,q3⟩=>?_) hm
 subst e
 cases r3;exact wpAny_truthy_bool ⟨H3,I3,q3⟩
theorem line63:(sizeLine:Nat)<2^63:=by rw[sizeLine_eq];decide
theorem vals1{x:V}{us:List Value}(r:Vals [x] us):∃u,us=[u]/\RelV x u:=by
 cases r with
 |cons r1 r2=>cases r2;exact⟨_,rfl,r1⟩
theorem vals2{x y:V}{us:List Value}(r:Vals [x,y] us):∃u w',us=[u,w']/\RelV x u/\RelV y w':=by
 cases r with
 |cons r1 r2=>
  cases r2 with
  |cons r3 r4=>cases r4;exact⟨_,_,rfl,r1,r3⟩
theorem call_abs:zdo X (.builtin "abs") (fun xs H Q=>∃i,xs=[.int i]/\Q (.int (if i<0 then-i else i)) H):=by
 intro pins s σ H xs us Q I r h;obtain⟨i,rfl,q⟩:=h;obtain⟨u,rfl,t,rfl⟩:=vals1 r;exact call_abs_int fun u tk=>⟨.int (if i<0 then-i else i),H,I.tok _,⟨_,rfl⟩,q⟩
end
theorem RelO.some_of{v:V}{o:Option Value}(r:RelO (some v) o):∃u,o=some u/\RelV v u:=by
 cases o with
 |none=>exact(show False from r).elim
 |some u=>exact⟨u,rfl,r⟩
structure Room(k:Nat)(A:Around):Prop where
 hd:A.handled=none
 dp:A.depth+3*k+5<recursionLimit
 un:A.units+16*k+200<cLine
theorem Room.mono{j k:Nat}{A:Around}(r:Room k A)(h:j<=k):Room j A:=⟨r.hd,by have:=r.dp;omega,by have:=r.un;omega⟩
theorem Room.deeper{k:Nat}{A:Around}(r:Room (k+1) A)(env:Env):Room k (A.deeper env):=
 ⟨r.hd,by have:=r.dp;show A.depth+1+3*k+5<_;omega,by have:=r.un;show A.units+3+16*k+200<_;omega⟩
theorem Room.in1{k:Nat}{A:Around}(r:Room (k+1) A):Room k A.in1:=
 ⟨r.hd,by have:=r.dp;show A.depth+3*k+5<_;omega,by have:=r.un;show A.units+1+16*k+200<_;omega⟩
theorem Room.depth{k:Nat}{A:Around}(r:Room k A):A.depth<recursionLimit:=by have:=r.dp;omega
theorem Room.units{k:Nat}{A:Around}(r:Room k A):A.units+64<cLine:=by have:=r.un;omega
def tNil:TA:=fun _ H Q=>Q [] H
def zcc(ta:TE)(tr:TA):TA:=fun σ H Q=>ta σ H fun x H1=>tr σ H1 fun xs H2=>Q (x::xs) H2
section
variable{X:Cx}{e:Expr}{es:List Expr}{te:TE}{t:TA}{pos:Pos}
theorem zcl:PA X [] tNil:=fun _ _ _ _ H Q I h=>Calls.spliced_nil ⟨[],H,I,.nil,h⟩
theorem zav(ha:PE X e te)(hr:PA X es t)(hs:starEach (e::es) X.env=(false,eval e X.env)::starEach es X.env:=by rfl):PA X (e::es) (zcc te t):=by
 intro pos pins s σ H Q I h;rw[hs];show wpAny _ _ (spliced ((false,eval e X.env)::backTo pos (starEach es X.env))) _ _ s;refine Calls.spliced_cons (thn (ha pins s σ H _ I h) fun u s1⟨x,H1,I1,r1,q1⟩=>?_);exact thn (hr pos pins s1 σ H1 _ I1 q1) fun us s2⟨xs,H2,I2,r2,q2⟩=>⟨x::xs,H2,I2,.cons r1 r2,q2⟩
def tTup(t:TA):TE:=fun σ H Q=>t σ H fun xs H1=>xs.length<=sizeLine/\∀p,H1 p=none->Q (.ref p) (upd H1 p (.tup xs))
def tLst(t:TA):TE:=fun σ H Q=>t σ H fun xs H1=>xs.length<=sizeLine/\∀p,H1 p=none->Q (.ref p) (upd H1 p (.lst xs))
theorem zcv{x1}(h:PA X es t):PE X (.Tuple es x1 pos) (tTup t):=by
 intro pins s σ H Q I hq;refine wpAny_Tuple_spliced (thn (h pos pins s σ H _ I hq) fun us s1⟨xs,H1,I1,r,z,q⟩=>⟨by rw[←r.length];exact z,?_⟩)
 have hf:H1 s1.heap.objs.size=none:=I1.hok.fresh (Nat.le_refl _);refine⟨.ref s1.heap.objs.size,upd H1 s1.heap.objs.size (.tup xs),I1.laid (t':=s1.toks) (fun b u e=>Heap.get?_push_of_some _ e) (Nat.le_refl _) ?_,rfl,q _ hf⟩;exact⟨z,us,r,⟨_,Heap.get?_push_size _ rfl,rfl,_,rfl⟩⟩
theorem zdr(h:PA X es t):PE X (.List es pos) (tLst t):=by
 intro pins s σ H Q I hq;refine wpAny_List_spliced (thn (h pos pins s σ H _ I hq) fun us s1⟨xs,H1,I1,r,z,q⟩=>⟨by rw[←r.length];exact z,?_⟩)
 have hf:H1 s1.heap.objs.size=none:=I1.hok.fresh (Nat.le_refl _);refine⟨.ref s1.heap.objs.size,upd H1 s1.heap.objs.size (.lst xs),I1.laid (t':=s1.toks) (fun b u e=>Heap.get?_push_of_some _ e) (Nat.le_refl _) ?_,rfl,q _ hf⟩;exact⟨z,us,0,r,Heap.get?_push_size _ rfl⟩
end
abbrev Sp:=List V->Hp->VK->XK->Prop
abbrev CXT:=List Env->Hp->Shared->XK->Value->Shared->Prop
structure Env0(P:Program)(w:World)(K:PySem.W.Frag)(mg:Str->Option Value)(base:Heap)(A:Around)(outer:List Env)(s:Shared)(H:Hp):Prop where
 frames:A.frames=some outer
 mod:Mod K mg base
 bs:∀b o,base.get? b=some o->s.heap.get? b=some o/\H b=none
 bsz:base.objs.size<=s.heap.objs.size
 funs:s.heap.FunFrames base outer
 frf:∀b∈frs outer,H b=none
 hok:HOk P w H s.heap
 bare:AllBare s.gens
def CE(outer:List Env)(P:Program)(w:World)(H:Hp)(s:Shared)(Q:VK)(u:Value)(s':Shared):Prop:=
 ∃v H',s'.os=s.os/\AllBare s'.gens/\Un (frs outer) [] H H' s.heap s'.heap/\HOk P w H' s'.heap/\RelV v u/\Q v H'
def CR(CX:CXT)(outer:List Env)(P:Program)(w:World)(H:Hp)(s:Shared)(Q:VK)(E:XK)(r:Result)(s':Shared):Prop:=
 match r with
 |.ok (.ret u)=>CE outer P w H s Q u s'
 |.ok _=>False
 |.error e=>CX outer H s E e s'
structure FnOk(P:Program)(w:World)(K:PySem.W.Frag)(mg:Str->Option Value)(base:Heap)(CX:CXT)(k:Nat)(f:Addr)(fd:FuncData)(ps:List Str)(sp:Sp):Prop where
 len:∀vs H Q E,sp vs H Q E->vs.length=ps.length
 run:∀(A:Around)(outer:List Env)(s:Shared)(H:Hp)(args:Args)(us:List Value)(vs:List V)(Q:VK)(E:XK),Room k A->Env0 P w K mg base A outer s H->BindsTo s fd args (ps.zip us)->Vals vs us->sp vs H Q E->
  codeAny (model P w) A (.call (.ref f) args) (CR CX outer P w H s Q E) s
theorem Env0.in1{P:Program}{w:World}{K:PySem.W.Frag}{mg:Str->Option Value}{base:Heap}{A:Around}{outer:List Env}{s:Shared}{H:Hp}(e:Env0 P w K mg base A outer s H):
  Env0 P w K mg base A.in1 outer s H:=⟨e.frames,e.mod,e.bs,e.bsz,e.funs,e.frf,e.hok,e.bare⟩
section
variable{X:Cx}{pins:List (Addr×Obj)}{σ:St}{H:Hp}{s s':Shared}
theorem Inv.env0(I:Inv X pins σ H s):Env0 X.prog X.w X.K X.mg X.base X.A X.stack s H:=
 ⟨I.ok.frames,I.ok.mod,I.bs,Nat.le_trans I.ok.bsz I.sz,I.stack,I.stkFree,I.hok,I.bare⟩
theorem Inv.after{Q:VK}{u:Value}(I:Inv X pins σ H s)(h:CE X.stack X.prog X.w H s Q u s'):EP X pins σ Q u s':=by
 obtain⟨v,H',os,bare,un,hok,r,q⟩:=h;obtain⟨hh,g,d,t,os'⟩:=s';obtain rfl:os'=s.os:=os;exact⟨v,H',I.call (h':=hh) (g':=g) (d':=d) (t':=t) (ch:=[]) un hok bare (fun b z=>absurd z (by simp)),r,q⟩
end
def tCall(sp:Sp)(dvs:List V)(E:XK)(t:TA):TE:=fun σ H Q=>t σ H fun vs H1=>sp (vs++dvs) H1 Q E
def Binds(K:PySem.W.Frag)(fd:FuncData)(ps:List Str)(ds:List Value):Prop:=
 ∀(s:Shared)(us:List Value),K.In s.heap->(us++ds).length=ps.length->BindsTo s fd ⟨us,[]⟩ (ps.zip (us++ds))
theorem Binds.all{K:PySem.W.Frag}{fd:FuncData}{ps:List Str}(h:∀us:List Value,us.length=ps.length->bindArgs fd ⟨us,[]⟩=pure (ps.zip us)):Binds K fd ps []:=fun s us _ hl=>by
 rw[List.append_nil] at hl⊢;exact .of_eq (h us hl)
def Passes(CX:CXT)(X:Cx)(E:XK):Prop:=∀(pins:List (Addr×Obj))(σ:St)(H:Hp)(s:Shared)(e:Value)(s':Shared),Inv X pins σ H s->CX X.stack H s E e s'->X.xe e s'
section
variable{X:Cx}{CX:CXT}{k:Nat}{f C:Addr}{fd:FuncData}{ps:List Str}{sp:Sp}{dvs:List V}{ds:List Value}{E:XK}{x m:Str}{p pos apos:Pos}{e o:Expr}{es:List Expr}{ta:TE}{t:TA}
theorem run_fn{pins:List (Addr×Obj)}{σ:St}{H:Hp}{s:Shared}{Q:VK}{us:List Value}{vs:List V}(F:FnOk X.prog X.w X.K X.mg X.base CX k f fd ps sp)(hr:Room k X.A)(hb:Binds X.K fd ps ds)(hd:Vals dvs ds)(hx:Passes CX X E)
  (I:Inv X pins σ H s)(r:Vals vs us)(h:sp (vs++dvs) H Q E):wpAny (model X.prog X.w) X.A (call (.ref f) us) (EP X pins σ Q) X.xe s:=by
 have r2:Vals (vs++dvs) (us++ds):=r.append hd;have hl:(us++ds).length=ps.length:=by rw[←r2.length];exact F.len _ _ _ _ h
 refine wpAny_call (codeAny_mono (F.run X.A X.stack s H ⟨us,[]⟩ (us++ds) (vs++dvs) Q E hr I.env0 (hb s us I.kIn hl) r2 h) fun r s' hq=>?_)
 cases r with
 |error e=>exact hx pins σ H s e s' I hq
 |ok fl=>
  cases fl with
  |ret u=>exact I.after hq
  |next=>exact False.elim hq
  |brk=>exact False.elim hq
  |cont=>exact False.elim hq
theorem zbv(F:FnOk X.prog X.w X.K X.mg X.base CX k f fd ps sp)(hr:Room k X.A)(hg:Gl X x)(hm:X.mg x=some (.ref f))(hk:PySem.W.keepIn X.K (.ref f)=true)(hb:Binds X.K fd ps ds)(hd:Vals dvs ds)(hx:Passes CX X E)
  (ha:PA X (e::es) t)(hdb:(x==("__debug__":Str))=false:=by decide)(he:starEach (e::es) X.env=(false,eval e X.env)::starEach es X.env:=by rfl)(hpl:(backTo pos (starEach es X.env)).any (·.1)=false:=by rfl):
  PE X (.Call (.Name x p) (e::es) [] pos) (tCall sp dvs E t):=by
 intro pins s σ H Q I h;refine wpAny_Call_Name_kw (ld_glob I hg hm ?_ hdb);refine PySem.W.callWith_K (h₀:=X.base) I.ok.mod.kin hk (thn (ha pos pins s σ H _ I h) fun us s1⟨vs,H1,I1,r,q⟩=>⟨I1.kIn,?_⟩) he hpl;exact run_fn F hr hb hd hx I1 r q
end
def PK(X:Cx)(kws:List Keyword)(t:TA):Prop:=
 ∀(pos:Pos)(pins:List (Addr×Obj))(s:Shared)(σ:St)(H:Hp)(Q:List V->Hp->Prop),Inv X pins σ H s->t σ H Q->wpAny (model X.prog X.w) X.A (evalAll ((backToKw pos (keywordEach kws X.env)).map (·.2))) (AP X pins σ Q) X.xe s
section
variable{X:Cx}{CX:CXT}{k:Nat}{f C:Addr}{fd:FuncData}{ps ks:List Str}{sp:Sp}{E:XK}{x m:Str}{p pos apos kpos:Pos}{e o:Expr}{es:List Expr}{kws:List Keyword}{te ta:TE}{t tk:TA}{nm:Option Str}
theorem pk_nil:PK X [] tNil:=fun _ _ _ _ H Q I h=>wpAny_evalAll_nil ⟨[],H,I,.nil,h⟩
theorem pk_cons(ha:PE X e te)(hr:PK X kws t):PK X (⟨nm,e,kpos⟩::kws) (zcc te t):=by
 intro pos pins s σ H Q I h;show wpAny _ _ (evalAll ((do let v ←eval e X.env;standAt pos;pure v)::(backToKw pos (keywordEach kws X.env)).map (·.2))) _ _ s;refine wpAny_evalAll_cons (wpAny_bind (thn (ha pins s σ H _ I h) fun u s1⟨x,H1,I1,r1,q1⟩=>wpAny_bind (wpAny_standAt (wpAny_pure ?_))));exact thn (hr pos pins s1 σ H1 _ I1 q1) fun us s2⟨xs,H2,I2,r2,q2⟩=>⟨x::xs,H2,I2,.cons r1 r2,q2⟩
variable{g:List Value->List Value->List Value}{gV:List V->List V->List V}
end
structure zae(N P:List Str)(sc:Scope):Prop where
 kind:sc.kind=.function
 co:sc.isCoroutine=false
 gen:sc.isGenerator=false
 nd:N.Nodup
 pre:N.take P.length=P
 par:∀x∈P,sc.names.lookup x=some .local∨sc.names.lookup x=some .cell
 nofree:∀y∈sc.names,y.2≠.free
theorem zia{kindOf:Str->Option NameKind}{x:Str}:∀{binds:List (Str×Value)}{m:Str->Option Value},(∀v,(x,v)∉binds)->bindL kindOf binds m x=m x
 |[],_,_=>rfl
 |(n,v)::r,m,h=>by
  unfold bindL;rw[zia fun w hw=>h w (List.mem_cons_of_mem _ hw)]
  split
  ·have:x≠n:=by rintro rfl;exact h v List.mem_cons_self
   simp[this]
  ·rfl
theorem ziv{kindOf:Str->Option NameKind}{x:Str}:∀{binds:List (Str×Value)}{m:Str->Option Value},(∀v,(x,v)∉binds)->bindC kindOf binds m x=m x
 |[],_,_=>rfl
 |(n,v)::r,m,h=>by
  unfold bindC;rw[ziv fun w hw=>h w (List.mem_cons_of_mem _ hw)]
  split
  ·rfl
  ·have:x≠n:=by rintro rfl;exact h v List.mem_cons_self
   simp[this]
theorem zij{kindOf:Str->Option NameKind}{x:Str}{v:Value}:∀{P:List Str}{vs:List Value}{i:Nat}{m:Str->Option Value},P.Nodup->P[i]?=some x->vs[i]?=some v->kindOf x=some .local->
  bindL kindOf (P.zip vs) m x=some v
 |[],_,_,_,_,h,_,_=>by simp at h
 |_::_,[],_,_,_,_,h,_=>by simp at h
 |p::P,w::vs,0,m,nd,h1,h2,hk=>by
  simp at h1 h2;subst h1;subst h2
  show bindL kindOf ((p,w)::P.zip vs) m p=_
  unfold bindL;rw[zia fun v hv=>(List.nodup_cons.mp nd).1 (List.of_mem_zip hv).1,if_pos hk]
  simp
 |p::P,w::vs,i+1,m,nd,h1,h2,hk=>by
  show bindL kindOf ((p,w)::P.zip vs) m x=_
  unfold bindL;exact zij (i:=i) (List.nodup_cons.mp nd).2 (by simpa using h1) (by simpa using h2) hk
theorem zic{kindOf:Str->Option NameKind}{x:Str}{v:Value}:∀{P:List Str}{vs:List Value}{i:Nat}{m:Str->Option Value},P.Nodup->P[i]?=some x->vs[i]?=some v->kindOf x≠some .local->
  bindC kindOf (P.zip vs) m x=some v
 |[],_,_,_,_,h,_,_=>by simp at h
 |_::_,[],_,_,_,_,h,_=>by simp at h
 |p::P,w::vs,0,m,nd,h1,h2,hk=>by
  simp at h1 h2;subst h1;subst h2
  show bindC kindOf ((p,w)::P.zip vs) m p=_
  unfold bindC;rw[ziv fun v hv=>(List.nodup_cons.mp nd).1 (List.of_mem_zip hv).1,if_neg hk]
  simp
 |p::P,w::vs,i+1,m,nd,h1,h2,hk=>by
  show bindC kindOf ((p,w)::P.zip vs) m x=_
  unfold bindC;exact zic (i:=i) (List.nodup_cons.mp nd).2 (by simpa using h1) (by simpa using h2) hk
def start(N:List Str)(vs:List V):St:=vs.map some++List.replicate (N.length-vs.length) none
def cxOf(CX:CXT)(P:Program)(w:World)(K:PySem.W.Frag)(mg:Str->Option Value)(base:Heap)(N:List Str)(qual:Str)(scope:Scope)(f:Addr)(cd:Value)(A:Around)(outer:List Env)(s:Shared)(H:Hp)(E:XK):Cx where
 prog:=P
 w:=w
 K:=K
 mg:=mg
 base:=base
 A:=A.deeper (envOfC qual scope s.heap.objs.size f cd)
 N:=N
 s₀:=s
 H₀:=H
 env:=envOfC qual scope s.heap.objs.size f cd
 outer:=outer
 stack:=envOfC qual scope s.heap.objs.size f cd::outer
 ex:=[]
 calm:=true
 fn:=fun _=>true
 pn:=[]
 xe:=fun e s'=>wpAny (model P w) (A.deeper (envOfC qual scope s.heap.objs.size f cd)) (leaving (envOfC qual scope s.heap.objs.size f cd) e) (fun _ s''=>CX outer H s E e s'') (fun e' s''=>CX outer H s E e' s'') s'
theorem zlr{sc:Scope}{n:Nat}{x:Str}(h:sc.names.lookup x=some .cell):∃c,(cellsFrom n sc.names []).lookup x=some c:=by
 have q:=PySem.W.cellsFrom_some sc.names n [] (.inl h);exact Option.isSome_iff_exists.mp q
theorem zp7{CX:CXT}{P:Program}{w:World}{K:PySem.W.Frag}{mg:Str->Option Value}{base:Heap}{N ps:List Str}{qual:Str}{scope:Scope}{f:Addr}{cd:Value}{A:Around}{outer:List Env}{s s1:Shared}{H:Hp}{E:XK}{us:List Value}{vs:List V}
  (S:zae N ps scope)(hd:A.handled=none)(e0:Env0 P w K mg base A outer s H)(hl:vs.length=ps.length)(r:Vals vs us)
  (x:InCallC s s.heap.objs.size (bindL (envOfC qual scope s.heap.objs.size f cd).kindOf (ps.zip us) fun _=>none) (cellsFrom (s.heap.objs.size+1) scope.names []) (bindC (envOfC qual scope s.heap.objs.size f cd).kindOf (ps.zip us) fun _=>none) s1):
  Inv (cxOf CX P w K mg base N qual scope f cd A outer s H E) [] (start N vs) H s1:=by
 have hpl:ps.length<=N.length:=by have:=congrArg List.length S.pre;rw[List.length_take] at this;omega
 obtain⟨h1,tk,rfl,hk⟩:=x.done;have noA:∀b:Addr,b∉(cxOf CX P w K mg base N qual scope f cd A outer s H E).ex:=fun b z=>absurd (show b∈([]:List Addr) from z) (by simp)
 refine⟨⟨e0.mod,S.kind,rfl,rfl,Nat.le_refl _,fun y z c h1 h2=>?_,fun y hy=>?_,fun y c _ h=>?_,fun _=>hd,Around.frames_deeper e0.frames,.inr ⟨rfl,rfl⟩,fun b z=>absurd z (noA b),e0.bs,e0.bsz,fun b _ _=>noA b,fun b z=>absurd z (noA b),e0.funs,e0.frf⟩,
  rfl,e0.bare,Un.kept hk,⟨_,x.toInCall.ns,fun i y v h1 h2 h3=>?_⟩,fun y c h=>⟨_,x.cell y c h⟩,e0.hok.fresh (Nat.le_refl _),fun y c h=>?_,fun p hp=>absurd (show p∈([]:List (Addr×Obj)) from hp) (by simp),e0.hok.kept hk,?_⟩
 ·exact name_of_addr x.apart (PySem.mem_of_lookup h1) (PySem.mem_of_lookup h2)
 ·have hy:scope.names.lookup y=some .cell∨scope.names.lookup y=some .free:=hy;rcases hy with hy|hy
  ·exact zlr hy
  ·exact absurd rfl (S.nofree _ (PySem.mem_of_lookup hy))
 ·exact Nat.le_of_lt (x.above y c (PySem.mem_of_lookup h))
 ·have hi:i<vs.length:=by
   unfold start at h2
   by_cases hi:i<vs.length
   ·exact hi
   ·rw[List.getElem?_append_right (by simpa using hi)] at h2
    rw[List.getElem?_replicate] at h2
    split at h2<;>cases h2
  have ha:vs[i]?=some v:=by
   unfold start at h2;rw[List.getElem?_append_left (by simpa using hi),List.getElem?_map] at h2
   cases e:vs[i]? with
   |none=>rw[e] at h2;cases h2
   |some a=>rw[e] at h2;cases h2;rfl
  obtain⟨u,hu,rv⟩:=r.get ha;have hp:ps[i]?=some y:=by
   rw[←S.pre,List.getElem?_take_of_lt (by omega)];exact h1
  have ndP:ps.Nodup:=by rw[←S.pre];exact S.nd.sublist (List.take_sublist _ _)
  refine⟨u,rv,?_⟩;rcases S.par y (List.mem_of_getElem? hp) with k|k
  ·exact .inl ⟨k,zij ndP hp hu k⟩
  ·obtain⟨c,e⟩:=zlr (n:=s.heap.objs.size+1) k;refine .inr ⟨.inl k,c,e,?_⟩;have q:=x.cell y c e;rw[zic ndP hp hu (by show scope.names.lookup y≠_;rw[k];decide)] at q
   exact q
 ·exact e0.hok.fresh (Nat.le_of_lt (x.above y c (PySem.mem_of_lookup h)))
 ·unfold start;show _=N.length;rw[List.length_append,List.length_map,List.length_replicate];omega
theorem fn_of{CX:CXT}{P:Program}{w:World}{K:PySem.W.Frag}{mg:Str->Option Value}{base:Heap}{k:Nat}{f:Addr}{name qual:Str}{params:Arguments}{body:List Stmt}{scope:Scope}{dV kV doc pm cdv ct oc:Value}{an od:Option Addr}
  {osl:Array (Option Value)}{N ps:List Str}{sp:Sp}(lk:K.lookup f=some ⟨oc,od,.func (PySem.W.fnOf name qual params body scope dV kV doc pm an cdv ct),osl⟩)(hcd:PySem.W.codeIn K cdv qual=true)(S:zae N ps scope)
  (len:∀vs H Q E,sp vs H Q E->vs.length=ps.length)
  (hbody:∀(A:Around)(outer:List Env)(s:Shared)(H:Hp)(vs:List V)(Q:VK)(E:XK),Room k (A.deeper (envOfC qual scope s.heap.objs.size f cdv))->sp vs H Q E->
   ∃t,PSs (cxOf CX P w K mg base N qual scope f cdv A outer s H E) body t/\t {nx:=fun _ H'=>Q .non H',rt:=Q} (start N vs) H):
  FnOk P w K mg base CX (k+1) f (PySem.W.fnOf name qual params body scope dV kV doc pm an cdv ct) ps sp:=by
 refine⟨len,fun A outer s H args us vs Q E hr e0 hb r hsp=>?_⟩;have hl:=len _ _ _ _ hsp;have KX:K.In s.heap:=e0.mod.kin.keeps fun b o e=>(e0.bs b o e).1;have lim:s.heap.NoLimit:=e0.mod.nolimit.keeps fun b o e=>(e0.bs b o e).1;have hkind:∀y∈ps.zip us,scope.names.lookup y.1=some .local∨(scope.names.lookup y.1=some .cell/\((cellsFrom (s.heap.objs.size+1) scope.names []).lookup y.1).isSome=true):=fun⟨n,v⟩ hy=>by
  rcases S.par n (List.of_mem_zip hy).1 with q|q
  ·exact .inl q
  ·exact .inr ⟨q,PySem.W.cellsFrom_some _ _ _ (.inl q)⟩
 refine codeAny_call_function hr.depth (KX _ _ lk) rfl S.co S.gen rfl (PySem.W.codeRec_of KX hcd) (hb _ _ _ _ ?_);refine wpAny_newFunctionEnv_cells S.kind hkind fun env he s1 x=>?_;subst he;refine⟨lim.keeps x.toInCall.keep,codeAny_func ?_⟩;obtain⟨t,ht,hq⟩:=hbody A outer s H vs Q E (hr.deeper _) hsp;have I:Inv (cxOf CX P w K mg base N qual scope f cdv A outer s H E) [] (start N vs) H s1:=zp7 S hr.hd e0 hl r x;refine wpAny_mono (ht [] s1 (start N vs) H _ I hq) (fun fl s' hs=>?_) fun e s' hs=>hs;have fin:∀{σ':St}{H':Hp}{v:V}{u:Value},Inv (cxOf CX P w K mg base N qual scope f cdv A outer s H E) [] σ' H' s'->RelV v u->Q v H'->CE outer P w H s Q u s':=
  fun{σ' H' v u} J rv q=>⟨v,H',J.os,J.bare,J.base,J.hok,rv,q⟩
 cases fl with
 |ret u=>
  obtain⟨v,σ',H',J,rv,q⟩:=hs;exact fin J rv q
 |next=>
  obtain⟨σ',H',J,q⟩:=hs;exact fin (v:=V.non) (u:=Value.none) J rfl q
 |brk=>
  obtain⟨_,_,_,q⟩:=hs;exact False.elim q
 |cont=>
  obtain⟨_,_,_,q⟩:=hs;exact False.elim q
section
variable{X:Cx}{x:Str}{p pos:Pos}{e:Expr}{es:List Expr}{t:TA}{id T:String}{r:List V->Hp->VK->Prop}
def tCB(r:List V->Hp->VK->Prop)(t:TA):TE:=fun σ H Q=>t σ H fun vs H1=>r vs H1 Q
theorem zd7(hc:zdo X (.builtin id) r)(hg:Gl X x)(hm:X.mg x=none)(hv:bootBuiltins x=some (.builtin id))(ha:PA X (e::es) t)(hn:x≠"__name__":=by decide)(hdb:(x==("__debug__":Str))=false:=by decide)
  (he:starEach (e::es) X.env=(false,eval e X.env)::starEach es X.env:=by rfl) (hpl:(backTo pos (starEach es X.env)).any (·.1)=false:=by rfl):PE X (.Call (.Name x p) (e::es) [] pos) (tCB r t):=by
 intro pins s σ H Q I h;refine wpAny_Call_Name_kw (zgu I hg hm hv ?_ hn hdb);exact PyProof.Rows.callWith_builtin1 (thn (ha pos pins s σ H _ I h) fun us s1⟨vs,H1,I1,r1,q1⟩=>hc pins s1 σ H1 vs us Q I1 r1 q1) he hpl
theorem zj5(hc:zdo X (.type T) r)(hg:Gl X x)(hm:X.mg x=none)(hv:bootBuiltins x=some (.type T))(ha:PA X (e::es) t)(hn:x≠"__name__":=by decide)(hdb:(x==("__debug__":Str))=false:=by decide)
  (he:starEach (e::es) X.env=(false,eval e X.env)::starEach es X.env:=by rfl) (hpl:(backTo pos (starEach es X.env)).any (·.1)=false:=by rfl):PE X (.Call (.Name x p) (e::es) [] pos) (tCB r t):=by
 intro pins s σ H Q I h;refine wpAny_Call_Name_kw (zgu I hg hm hv ?_ hn hdb);exact PyProof.Rows.callWith_type1 (thn (ha pos pins s σ H _ I h) fun us s1⟨vs,H1,I1,r1,q1⟩=>hc pins s1 σ H1 vs us Q I1 r1 q1) he hpl
end
end L2
namespace HT
open PySem PyProof.Rows
def lexLt:List Int->List Int->Bool
 |[],[]=>false
 |[],_::_=>true
 |_::_,[]=>false
 |x::xs,y::ys=>if x=y then lexLt xs ys else decide (x<y)
theorem lexLt_cons(x y:Int)(xs ys:List Int):lexLt (x::xs) (y::ys)=if x=y then lexLt xs ys else decide (x<y):=rfl
theorem lexLt_nil_nil:lexLt [] []=false:=rfl
theorem eqAt_int(A:Around)(s:Shared)(a:Int)(t:Tok)(c:Int)(u:Tok):∃e,SeqAt.EqAt A s (.int a t) (.int c u) e/\(e=true↔a=c):=
 ⟨(a==c),SeqAt.EqAt.int_int a t c u,by simp⟩
section
variable{prog:Program}{w:World}{A:Around}{E:Value->Shared->Prop}{s:Shared}
def sIx(n d:Nat):Option Int->Nat
 |none=>d
 |some v=>if v<0 then(v+(n:Int)).toNat else min v.toNat n
theorem sIx_none(n d:Nat):sIx n d none=d:=rfl
theorem sIx_nat(n d k:Nat):sIx n d (some (k:Int))=min k n:=by
 show(if(k:Int)<0 then((k:Int)+(n:Int)).toNat else min (k:Int).toNat n)=min k n
 rw[if_neg (by omega),Int.toNat_natCast]
end
end HT
namespace L2
open PySem PySem.Spec PyProof.Rows
abbrev TO:=St->Hp->(Option Int->Hp->Prop)->Prop
def PO(X:Cx)(e:Option Expr)(t:TO):Prop:=
 ∀(pins:List (Addr×Obj))(s:Shared)(σ:St)(H:Hp)(Q:Option Int->Hp->Prop),Inv X pins σ H s->t σ H Q->
  wpAny (model X.prog X.w) X.A (evalPart e X.env) (fun u s'=>∃o H',Inv X pins σ H' s'/\IsPart u o/\Q o H') X.xe s
def znx:TO:=fun _ H Q=>Q none H
def tPart(t:TE):TO:=fun σ H Q=>t σ H fun x H1=>∃i,x=.int i/\Q (some i) H1
theorem zgm{ns:List Int}:∀{us:List Value},Vals (ns.map V.int) us->IntsAre us ns:=by
 induction ns with
 |nil=>intro us r;rw[List.map_nil] at r;cases r;exact .nil
 |cons n ns ih=>
  intro us r;rw[List.map_cons] at r
  cases r with
  |cons r1 r2=>
   obtain⟨t,e⟩:=r1;subst e;exact .cons n t (ih r2)
section
variable{X:Cx}{e:Expr}{te:TE}{lo hi:Option Expr}{tl th:TO}{pos p2:Pos}
theorem zkd:PO X none znx:=by
 intro pins s σ H Q I h;rw[evalPart_none];exact wpAny_pure ⟨none,H,I,.none,h⟩
theorem zkx(h:PE X e te):PO X (some e) (tPart te):=by
 intro pins s σ H Q I hw;rw[evalPart_some];refine thn (h pins s σ H _ I hw) fun u s1⟨x,H1,I1,r1,q1⟩=>?_;obtain⟨i,rfl,q⟩:=q1;obtain⟨t,rfl⟩:=r1;exact⟨some i,H1,I1,.int i t,q⟩
def SlR(X:Cx)(r:V->Option Int->Option Int->Hp->VK->Prop):Prop:=
 ∀(pins:List (Addr×Obj))(s:Shared)(σ:St)(H:Hp)(x:V)(v vl vu:Value)(lo hi:Option Int)(sl:Addr)(Q:VK),Inv X pins σ H s->RelV x v->s.heap.IsSliceOf sl vl vu .none->IsPart vl lo->IsPart vu hi->r x lo hi H Q->
  ∃T id,typeLookup (.type T) "__getitem__"=pure (some (.builtin id))/\s.TypeIs v T/\wpAny (model X.prog X.w) X.A (getItem v (.ref sl)) (EP X pins σ Q) X.xe s
def tSl(r:V->Option Int->Option Int->Hp->VK->Prop)(te:TE)(tl th:TO):TE:=fun σ H Q=>te σ H fun x H1=>tl σ H1 fun l H2=>th σ H2 fun u H3=>r x l u H3 Q
theorem zhe{r:V->Option Int->Option Int->Hp->VK->Prop}(hr:SlR X r)(he:PE X e te)(hl:PO X lo tl)(hu:PO X hi th):PE X (.Subscript e (.Slice lo hi none p2) pos) (tSl r te tl th):=by
 intro pins s σ H Q I h;refine Subscript_ (thn (he pins s σ H _ I h) fun v s1⟨x,H1,I1,r1,q1⟩=>?_);refine wpAny_Slice (thn (hl pins s1 σ H1 _ I1 q1) fun vl s2⟨l,H2,I2,pl,q2⟩=>thn (hu pins s2 σ H2 _ I2 q2) fun vu s3⟨u,H3,I3,pu,q3⟩=>?_);rw[evalPart_none];refine wpAny_pure ?_;have I4:Inv X pins σ H3 {s3 with heap:=s3.heap.push {cls:=.type "slice",data:=.fields #[vl,vu,.none]}}:=I3.kept (t':=s3.toks) fun b ob q=>Heap.get?_push_of_some _ q;obtain⟨T,id,hT,ht,hg⟩:=hr pins {s3 with heap:=s3.heap.push {cls:=.type "slice",data:=.fields #[vl,vu,.none]}} σ H3 x v vl vu l u s3.heap.objs.size Q I4 r1 (Heap.IsSliceOf.new ..) pl pu q3;show wpAny (model X.prog X.w) X.A (subscriptTail e (.Slice lo hi none p2) v (.ref s3.heap.objs.size)) (EP X pins σ Q) X.xe {s3 with heap:=s3.heap.push {cls:=.type "slice",data:=.fields #[vl,vu,.none]}};exact tail_any (ops:=[.ref s3.heap.objs.size,v]) ht hT hg (by with_unfolding_all rfl)
def cutV(xs:List V)(lo hi:Option Int):List V:=(xs.drop (HT.sIx xs.length 0 lo)).take (HT.sIx xs.length xs.length hi-HT.sIx xs.length 0 lo)
theorem zkl(xs:List V)(lo hi:Option Int):(cutV xs lo hi).length<=xs.length:=by
 unfold cutV;rw[List.length_take,List.length_drop];omega
end
def ixN(n:Nat)(i:Int):Option Nat:=if 0<=i then(if i<n then some i.toNat else none) else if-(n:Int)<=i then some (i+n).toNat else none
def atI{α:Type}(xs:List α)(i:Int):Option α:=(ixN xs.length i).bind fun j=>xs[j]?
theorem ixN_seq{n:Nat}{i:Int}{j:Nat}(h:ixN n i=some j):seqIndex? i n=some j/\j<n/\ -(n:Int)<=i/\i<n:=by
 unfold ixN at h
 by_cases h0:0<=i
 ·rw[if_pos h0] at h
  by_cases h1:i<n
  ·rw[if_pos h1] at h;have e:i.toNat=j:=Option.some.inj h;exact⟨by rw[seqIndex_of h0 h1,e],by omega,by omega,h1⟩
  ·rw[if_neg h1] at h;cases h
 ·rw[if_neg h0] at h
  by_cases h1: -(n:Int)<=i
  ·rw[if_pos h1] at h;have e:(i+n).toNat=j:=Option.some.inj h;exact⟨by rw[seqIndex_neg (by omega) h1,e],by omega,h1,by omega⟩
  ·rw[if_neg h1] at h;cases h
theorem zpl{α:Type}{xs:List α}{i:Int}{v:α}(h:atI xs i=some v):∃j,seqIndex? i xs.length=some j/\xs[j]?=some v/\j<xs.length/\ -(xs.length:Int)<=i/\i<xs.length:=by
 unfold atI at h
 cases e:ixN xs.length i with
 |none=>rw[e] at h;cases h
 |some j=>
  rw[e] at h;obtain⟨h1,h2,h3,h4⟩:=ixN_seq e;exact⟨j,h1,h,h2,h3,h4⟩
theorem zc5{α:Type}{xs:List α}{j:Nat}{v:α}(h:xs[j]?=some v):atI xs (j:Int)=some v:=by
 have hj:j<xs.length:=(List.getElem?_eq_some_iff.mp h).1;have e:ixN xs.length (j:Int)=some j:=by
  unfold ixN;rw[if_pos (by omega),if_pos (by omega)];simp
 unfold atI;rw[e];exact h
def PlainIx(b:Expr):Prop:=∀o i,subscripted b false o i=operate [o,i] (getItem o i)
def IxR(X:Cx)(r:R2):Prop:=
 ∀(value slice:Expr)(pins:List (Addr×Obj))(s:Shared)(σ:St)(H:Hp)(x y:V)(v u:Value)(Q:VK),Inv X pins σ H s->RelV x v->RelV y u->r x y H Q->
  subscripted slice false v u=operate [v,u] (getItem v u)->wpAny (model X.prog X.w) X.A (subscriptTail value slice v u) (EP X pins σ Q) X.xe s
def MtR(X:Cx)(id:String)(r:V->List V->Hp->VK->Prop):Prop:=
 ∀(pins:List (Addr×Obj))(s:Shared)(σ:St)(H:Hp)(x:V)(xs:List V)(v:Value)(us:List Value)(Q:VK),Inv X pins σ H s->RelV x v->Vals xs us->r x xs H Q->
  wpAny (model X.prog X.w) X.A (call (.builtin id) (v::us)) (EP X pins σ Q) X.xe s
section
variable{X:Cx}{a b:Expr}{ta tb:TE}{pos:Pos}
theorem ze3{r:R2}(hr:IxR X r)(ha:PE X a ta)(hb:PE X b tb)(hs:PlainIx b):PE X (.Subscript a b pos) (tOp r ta tb):=by
 intro pins s σ H Q I h;exact Subscript_ (binT ha hb I h fun v u s2 x y H2 I2 rx ry q=>hr a b pins s2 σ H2 x y v u Q I2 rx ry q (hs _ _))
def rIxL(K:PySem.W.Frag):R2:=fun x y H Q=>∃p xs i v,x=.ref p/\y=.int i/\SqL K H p xs/\atI xs i=some v/\Q v H
def rIxT(K:PySem.W.Frag):R2:=fun x y H Q=>∃p xs i v,x=.ref p/\y=.int i/\SqT K H p xs/\atI xs i=some v/\Q v H
theorem zl1:IxR X (rIxL X.K):=by
 intro value slice pins s σ H x y v u Q I rx ry h hs;obtain⟨p,xs,i,z,rfl,rfl,hq,he,q⟩:=h
 cases rx;obtain⟨t,rfl⟩:=ry;obtain⟨its,r,pl,hz⟩:=I.list hq;obtain⟨j,h1,h2,h3,h4,h5⟩:=zpl he;obtain⟨w,ew,rw'⟩:=r.get h2;have hl:=r.length;have hn:=line63;have fin:EP X pins σ Q w s:=⟨z,H,I,rw',q⟩
 by_cases h0:0<=i
 ·have hj:i.toNat=j:=by
   rw[seqIndex_of h0 h5] at h1;exact Option.some.inj h1
  exact item_listR pl.isList h0 (by omega) (by rw[hj];simpa using ew) fin hs
 ·have hj:(i+(its.toArray.size:Int)).toNat=j:=by
   rw[seqIndex_neg (by omega) h4] at h1
   rw[List.size_toArray,←hl];exact Option.some.inj h1
  exact subscriptTail_builtinR (x:=w) pl.isList.typeIs slot_list_getitem.lookup
   (wpAny_getItem_list_neg (Q:=fun r s'=>r=w/\EP X pins σ Q r s') pl.isList (by omega) (by rw[List.size_toArray]<;>omega) (by omega) (by rw[hj];simpa using ew) ⟨rfl,fin⟩) hs
theorem ix_tup:IxR X (rIxT X.K):=by
 intro value slice pins s σ H x y v u Q I rx ry h hs;obtain⟨p,xs,i,z,rfl,rfl,hq,he,q⟩:=h
 cases rx;obtain⟨t,rfl⟩:=ry;obtain⟨its,r,pl,hz⟩:=I.tuple hq;obtain⟨j,h1,h2,h3,h4,h5⟩:=zpl he;obtain⟨w,ew,rw'⟩:=r.get h2;have hl:=r.length;have hn:=line63;have fin:EP X pins σ Q w s:=⟨z,H,I,rw',q⟩;exact subscriptTail_builtinR (x:=w) pl.typeIs slot_tuple_getitem.lookup
  (getItem_tuple (j:=j) (Q:=fun r s'=>r=w/\EP X pins σ Q r s') pl (by omega) (by omega) (by rw[List.size_toArray,←hl];exact h1) (by simpa using ew) ⟨rfl,fin⟩) hs
theorem zjl(lo hi:Option Int)(n:Nat):(sliceBounds lo hi none n).1=((HT.sIx n 0 lo:Nat):Int)/\(sliceBounds lo hi none n).2.1=((HT.sIx n n hi:Nat):Int)/\(sliceBounds lo hi none n).2.2=1:=by
 refine⟨?_,?_,rfl⟩
 ·cases lo with
  |none=>simp[sliceBounds,HT.sIx]
  |some i=>
   simp only[sliceBounds,HT.sIx,Option.getD_none,show(1:Int)>0 by decide,if_true]
   by_cases h:i<0
   ·simp only[h,if_true]<;>omega
   ·simp only[h,if_false]<;>omega
 ·cases hi with
  |none=>simp[sliceBounds,HT.sIx]
  |some i=>
   simp only[sliceBounds,HT.sIx,Option.getD_none,show(1:Int)>0 by decide,if_true]
   by_cases h:i<0
   ·simp only[h,if_true]<;>omega
   ·simp only[h,if_false]<;>omega
theorem zi4(its:List Value)(lo hi:Option Int):slicePick its.toArray lo hi none=((its.drop (HT.sIx its.length 0 lo)).take (HT.sIx its.length its.length hi-HT.sIx its.length 0 lo)).toArray:=by
 obtain⟨h1,h2,h3⟩:=zjl lo hi its.toArray.size;unfold slicePick;rw[h1,h2,h3];simp only[sliceRange_one,pick_run,List.size_toArray]<;>rfl
def rSlL(K:PySem.W.Frag):V->Option Int->Option Int->Hp->VK->Prop:=fun x lo hi H Q=>∃a xs,x=.ref a/\SqL K H a xs/\∀p,H p=none->Q (.ref p) (upd H p (.lst (cutV xs lo hi)))
theorem sl_list:SlR X (rSlL X.K):=by
 intro pins s σ H x v vl vu lo hi sl Q I rx hs pl pu h;obtain⟨a,xs,rfl,hx,q⟩:=h
 cases rx;obtain⟨its,r,ht,hz⟩:=I.list hx;have hlen:=r.length;refine⟨"list",_,slot_list_getitem.lookup,ht.isList.typeIs,?_⟩;refine wpAny_getItem_list_slice ht.isList hs pl pu .none (by simp) ?_ (by rw[List.size_toArray]<;>omega)
 rw[zi4,←hlen];refine⟨.ref s.heap.objs.size,_,I.laid (t':=s.toks) (o:=.lst (cutV xs lo hi)) (fun b ob q=>Heap.get?_push_of_some _ q) (Nat.le_refl _) ?_,rfl,q _ (I.hok.fresh (Nat.le_refl _))⟩;exact⟨Nat.le_trans (zkl xs lo hi) hz,_,0,(r.drop (HT.sIx xs.length 0 lo)).take (HT.sIx xs.length xs.length hi-HT.sIx xs.length 0 lo),Heap.get?_push_size _ rfl⟩
theorem zd4:zdo X (.builtin "len") (fun xs H Q=>∃p ys,xs=[.ref p]/\(SqL X.K H p ys∨SqT X.K H p ys)/\Q (.int ys.length) H):=by
 intro pins s σ H xs us Q I r h;obtain⟨p,ys,rfl,hq,q⟩:=h;obtain⟨u,rfl,rx⟩:=vals1 r
 cases rx;have hn:=line63;rcases hq with hq|hq
 ·obtain⟨its,r',pl,hz⟩:=I.list hq;have hlen:=r'.length;exact Calls.call_len_list pl.isList (by simp only[List.size_toArray]<;>omega) ⟨.int ys.length,H,I.tok _,⟨s.toks+1,by rw[List.size_toArray,hlen]⟩,q⟩
 ·obtain⟨its,r',pl,hz⟩:=I.tuple hq;have hlen:=r'.length;exact len_tuple pl (by simp only[List.size_toArray]<;>omega) ⟨.int ys.length,H,I.tok _,⟨s.toks+1,by rw[List.size_toArray,hlen]⟩,q⟩
theorem zjm:zdo X (.type "list") (fun xs H Q=>∃p ys,xs=[.ref p]/\(SqL X.K H p ys∨SqT X.K H p ys)/\∀l,H l=none->Q (.ref l) (upd H l (.lst ys))):=by
 intro pins s σ H xs us Q I r h;obtain⟨p,ys,rfl,hq,q⟩:=h;obtain⟨u,rfl,rx⟩:=vals1 r
 cases rx;have fin:∀(its:List Value),Vals ys its->ys.length<=sizeLine->∀(h':Heap)(c':Nat),(∀b o',s.heap.get? b=some o'->h'.get? b=some o')->
   h'.get? s.heap.objs.size=some {cls:=.type "list",dict:=none,data:=.seq its.toArray c',slots:=#[]}->EP X pins σ Q (.ref s.heap.objs.size) {s with heap:=h'}:=fun its r' hz h' c' kp e=>
  ⟨.ref s.heap.objs.size,_,I.laid (t':=s.toks) kp (Nat.le_refl _) (show zct X.prog X.w _ h' _ (.lst ys) from⟨hz,its,c',r',e⟩),rfl,q _ (I.hok.fresh (Nat.le_refl _))⟩
 rcases hq with hq|hq
 ·obtain⟨its,r',pl,hz⟩:=I.list hq;have hlen:=r'.length;obtain⟨o,ho,hc,n,hd⟩:=pl.isList;exact call_list_seq p (.inl rfl) ho hc hd (fun h' c' kp e=>fin its r' hz h' c' kp e) (by simp only[List.size_toArray]<;>omega)
 ·obtain⟨its,r',pl,hz⟩:=I.tuple hq;have hlen:=r'.length;obtain⟨o,ho,hc,n,hd⟩:=pl;exact call_list_seq p (.inr rfl) ho hc hd (fun h' c' kp e=>fin its r' hz h' c' kp e) (by simp only[List.size_toArray]<;>omega)
def tyV(K:PySem.W.Frag)(T:String)(x:V)(H:Hp):Prop:=match x with
 |.str _=>T="str"
 |.int _=>T="int"
 |.ref p=>(T="list"/\∃xs,SqL K H p xs)∨(T="tuple"/\∃o,K.lookup p=some o/\o.cls=.type "tuple"/\o.dict=none)∨
   (T="dict"/\((∃kvs,H p=some (.dK kvs))∨∃kvs,H p=some (.dT kvs)))∨(T="set"/\∃S n,H p=some (.set S n))
 |_=>False
theorem tyV_is{pins:List (Addr×Obj)}{σ:St}{H:Hp}{s:Shared}{T:String}{x:V}{v:Value}(I:Inv X pins σ H s)(r:RelV x v)(ty:tyV X.K T x H):
  s.TypeIs v T/\∀a,v=.ref a->∃ob,s.heap.get? a=some ob/\ob.dict=none:=by
 cases x with
 |str z=>
  obtain⟨t,rfl⟩:=r
  cases(show T="str" from ty);exact⟨typeIs_str s z t,fun _ e=>nomatch e⟩
 |int i=>
  obtain⟨t,rfl⟩:=r
  cases(show T="int" from ty);exact⟨typeIs_int s i t,fun _ e=>nomatch e⟩
 |ref p=>
  cases r;rcases ty with⟨rfl,xs,hq⟩|⟨rfl,o,hk,hc,hd⟩|⟨rfl,hk⟩|⟨rfl,S,n,hk⟩
  ·obtain⟨its,_,pl,_⟩:=I.list hq;refine⟨pl.isList.typeIs,fun a e=>?_⟩
   cases e;obtain⟨o,n,e,c,hd,_⟩:=pl;exact⟨o,e,hd⟩
  ·refine⟨⟨o,I.kIn p o hk,hc⟩,fun a e=>?_⟩
   cases e;exact⟨o,I.kIn _ o hk,hd⟩
  ·have z:∃o,s.heap.get? p=some o/\o.ExactDict:=by
    rcases hk with⟨kvs,hk⟩|⟨kvs,hk⟩
    ·obtain⟨_,_,_,_,o,_,_,e,ex,_⟩:=I.hok p _ hk;exact⟨o,e,ex⟩
    ·obtain⟨_,_,_,_,o,_,_,e,ex,_⟩:=I.hok p _ hk;exact⟨o,e,ex⟩
   obtain⟨o,e,ex⟩:=z;refine⟨⟨o,e,ex.1⟩,fun a e2=>?_⟩
   cases e2;exact⟨o,e,ex.2.1⟩
  ·obtain⟨o,_,_,_,e,ex,_⟩:=I.hok p _ hk;refine⟨⟨o,e,ex.1⟩,fun a e2=>?_⟩
   cases e2;exact⟨o,e,ex.2.1⟩
 |_=>exact False.elim ty
def tBM0(K:PySem.W.Frag)(T:String)(r:V->List V->Hp->VK->Prop)(to:TE):TE:=fun σ H Q=>to σ H fun x H1=>tyV K T x H1/\r x [] H1 Q
def tBM(K:PySem.W.Frag)(T:String)(r:V->List V->Hp->VK->Prop)(to:TE)(t:TA):TE:=fun σ H Q=>to σ H fun x H1=>tyV K T x H1/\t σ H1 fun xs H2=>r x xs H2 Q
variable{o e:Expr}{es:List Expr}{to:TE}{t:TA}{name:Str}{apos cpos:Pos}{T id:String}{r:V->List V->Hp->VK->Prop}
theorem pe_bm0(pa:PlainAttrs T)(slot:Slot T name id)(hty:typeOf (.builtin id)=pure (.type "method_descriptor"))(hm:MtR X id r)(ho:PE X o to)
  (hbase:attributeBase o name X.env (eval o X.env)=eval o X.env:=by rfl)(hline:(apos.endLine==cpos.line)=true:=by rfl):PE X (.Call (.Attribute o name apos) [] [] cpos) (tBM0 X.K T r to):=by
 intro pins s σ H Q I h;refine wpAny_Call_method0_late hbase hline (thn (ho pins s σ H _ I h) fun v s1⟨x,H1,I1,r1,ty,q1⟩=>?_);obtain⟨h1,h2⟩:=tyV_is I1 r1 ty;exact⟨T,id,pa,slot,hty,h1,h2,Calls.callWith_builtin rfl (PySem.evalArgs_none (hm pins s1 σ H1 x [] v [] Q I1 r1 .nil q1))⟩
theorem zhk(pa:PlainAttrs T)(slot:Slot T name id)(hty:typeOf (.builtin id)=pure (.type "method_descriptor"))(hm:MtR X id r)(ho:PE X o to)(ha:PA X (e::es) t)
  (hbase:attributeBase o name X.env (eval o X.env)=eval o X.env:=by rfl)
  (hfew:((backTo cpos (starEach (e::es) X.env)).all (fun x=> !x.1)&&(backToKw cpos (keywordEach [] X.env)).all (fun x=>x.1.isSome)
   &&decide ((e::es).length+([]:List Keyword).length+(if([]:List Keyword).isEmpty then 0 else 1)<30))=true:=by rfl)
  (hline:(apos.endLine==cpos.line)=true:=by rfl) (hs:starEach (e::es) X.env=(false,eval e X.env)::starEach es X.env:=by rfl) (hplain:(backTo cpos (starEach es X.env)).any (·.1)=false:=by rfl):
  PE X (.Call (.Attribute o name apos) (e::es) [] cpos) (tBM X.K T r to t):=by
 intro pins s σ H Q I h;refine wpAny_Call_method_late hbase hfew hline rfl (thn (ho pins s σ H _ I h) fun v s1⟨x,H1,I1,r1,ty,q1⟩=>?_);obtain⟨h1,h2⟩:=tyV_is I1 r1 ty;refine⟨T,id,pa,slot,hty,h1,h2,?_⟩;have hA:=ha cpos pins s1 σ H1 _ I1 q1;rw[hs] at hA⊢;refine Calls.callWith_builtin (by show(false||(backTo cpos (starEach es X.env)).any (·.1))=false;rw[hplain]<;>rfl) (Calls.evalArgs_plain ?_)
 exact thn hA fun us s2⟨vs,H2,I2,r2,q2⟩=>hm pins s2 σ H2 x vs v us Q I2 r1 r2 q2
end
def MtM(X:Cx)(id:String)(r:V->List V->Hp->VK->Prop):Prop:=
 ∀(pins:List (Addr×Obj))(s:Shared)(σ:St)(H:Hp)(x:V)(xs:List V)(v:Value)(us:List Value)(Q:VK),Inv X pins σ H s->RelV x v->Vals xs us->r x xs H Q->
  wpAny (model X.prog X.w) X.A (call (.builtin id) (v::us)) (EP X pins σ Q) X.xe s
theorem Vals.one:∀{x:V}{us:List Value},Vals [x] us->∃u,us=[u]/\RelV x u
 |_,_,.cons r .nil=>⟨_,rfl,r⟩
theorem Vals.zero:∀{us:List Value},Vals [] us->us=[]
 |_,.nil=>rfl
section
variable{X:Cx}{pins:List (Addr×Obj)}{σ:St}{H:Hp}{s:Shared}{l b:Addr}{xs ys zs:List V}
theorem Inv.lset{its its':List Value}{n:Nat}{f:Array Value->Array Value}{t':Nat}(I:Inv X pins σ H s)(hH:H l=some (.lst xs))
  (e:s.heap.get? l=some {cls:=.type "list",data:=.seq its.toArray n})(hf:f its.toArray=its'.toArray)(hv:Vals ys its')(hz:ys.length<=sizeLine):
  Inv X pins σ (upd H l (.lst ys)) {s with heap:=s.heap.update l (Obj.mapSeq f),toks:=t'}:=by
 have q:=PySem.IsL.update e f;rw[hf] at q;refine I.write (x:=l) (e:=l) (by rw[hH];exact trivial) (.inl rfl) (fun b' u hb hu=>(Heap.get?_update_other s.heap (Obj.mapSeq f) (Ne.symm hb)).trans hu) ⟨_,q⟩ ?_
 exact⟨hz,its',_,hv,q⟩
theorem Inv.lnew{its:List Value}{t':Nat}(I:Inv X pins σ H s)(hv:Vals ys its)(hz:ys.length<=sizeLine):
  Inv X pins σ (upd H s.heap.objs.size (.lst ys)) {s with heap:=s.heap.push {cls:=.type "list",data:=.seq its.toArray},toks:=t'}:=
 I.laid (fun _ _ q=>Heap.get?_push_of_some _ q) (Nat.le_refl _) ⟨hz,its,0,hv,Heap.get?_push_size _ rfl⟩
theorem Inv.fresh(I:Inv X pins σ H s):H s.heap.objs.size=none:=I.hok.fresh (Nat.le_refl _)
theorem Inv.lstM(I:Inv X pins σ H s)(hH:H l=some (.lst xs)):xs.length<=sizeLine/\∃(its:List Value)(n:Nat),Vals xs its/\xs.length=its.length/\s.heap.get? l=some {cls:=.type "list",data:=.seq its.toArray n}:=by
 obtain⟨z,its,n,r,e⟩:=I.hok l _ hH;exact⟨z,its,n,r,r.length,e⟩
theorem notLongL{n:Nat}(h:n<=sizeLine):Builtin.List.listTooLong n=false:=by
 unfold Builtin.List.listTooLong;exact decide_eq_false (by omega)
end
section
variable{X:Cx}
def rAppend:V->List V->Hp->VK->Prop:=fun x vs H Q=>∃l xs y,x=.ref l/\vs=[y]/\H l=some (.lst xs)/\xs.length<sizeLine/\Q .non (upd H l (.lst (xs++[y])))
theorem zbo:MtM X "list.append" rAppend:=by
 intro pins s σ H x vs v us Q I rx rv h;obtain⟨l,xs,y,rfl,rfl,hH,hz,q⟩:=h
 cases rx;obtain⟨u,rfl,ru⟩:=rv.one;obtain⟨z,its,n,r,hl,e⟩:=I.lstM hH;refine call_meets F.slot_list_append ⟨_,e,rfl⟩ F.entry_list_append (F.args_list_append_2 _ _) (PySem.list_append l its.toArray n u (by rw[List.size_toArray];omega)) ⟨e,?_⟩
 refine⟨.non,_,I.lset (its':=its++[u]) hH e (by simp) (r.append (.cons ru .nil)) ?_,rfl,q⟩
 rw[List.length_append,List.length_singleton];omega
def zkt:V->List V->Hp->VK->Prop:=fun x vs H Q=>∃l b xs zs,x=.ref l/\vs=[.ref b]/\H l=some (.lst xs)/\H b=some (.lst zs)/\xs.length+zs.length<=sizeLine/\Q .non (upd H l (.lst (xs++zs)))
theorem ziy:MtM X "list.extend" zkt:=by
 intro pins s σ H x vs v us Q I rx rv h;obtain⟨l,b,xs,zs,rfl,rfl,hH,hB,hz,q⟩:=h
 cases rx;obtain⟨u,rfl,ru⟩:=rv.one
 cases ru;obtain⟨z,its,n,r,hl,e⟩:=I.lstM hH;obtain⟨z2,its2,n2,r2,hl2,e2⟩:=I.lstM hB;have hsz:its.toArray.size+its2.toArray.size<=sizeLine:=by rw[List.size_toArray,List.size_toArray];omega
 have hlong:¬(!its.toArray.isEmpty&&Builtin.List.listTooLong (its.toArray.size+its2.toArray.size))=true:=by
  rw[notLongL hsz,Bool.and_false];exact Bool.false_ne_true
 refine call_meets F.slot_list_extend ⟨_,e,rfl⟩ F.entry_list_extend (F.args_list_extend_2 _ _)
  (AutoSeq1.list_extend_list_list_0 l its.toArray n b its2.toArray n2 hlong (by rw[List.size_toArray];omega) (by omega)) ⟨e,e2,?_⟩
 refine⟨.non,_,I.lset (its':=its++its2) hH e (by simp) (r.append r2) ?_,rfl,q⟩
 rw[List.length_append];omega
def rClear:V->List V->Hp->VK->Prop:=fun x vs H Q=>∃l xs,x=.ref l/\vs=[]/\H l=some (.lst xs)/\Q .non (upd H l (.lst []))
theorem mt_clear:MtM X "list.clear" rClear:=by
 intro pins s σ H x vs v us Q I rx rv h;obtain⟨l,xs,rfl,rfl,hH,q⟩:=h
 cases rx;have hus:=rv.zero;subst hus;obtain⟨z,its,n,r,hl,e⟩:=I.lstM hH;refine call_meets F.slot_list_clear ⟨_,e,rfl⟩ F.entry_list_clear (F.args_list_clear_1 _) (AutoSeq1.list_clear_list_0 l its.toArray n (by rw[List.size_toArray];omega)) ⟨e,?_⟩
 exact⟨.non,_,I.lset (its':=[]) (ys:=[]) hH e rfl .nil (Nat.zero_le _),rfl,q⟩
def rCat:R2:=fun x y H Q=>∃l b xs zs,x=.ref l/\y=.ref b/\H l=some (.lst xs)/\H b=some (.lst zs)/\xs.length+zs.length<=sizeLine/\∀p,H p=none->Q (.ref p) (upd H p (.lst (xs++zs)))
theorem op_cat:OpR X (binaryOp .Add) rCat:=by
 intro pins s σ H x y v u Q I rx ry h;obtain⟨l,b,xs,zs,rfl,rfl,hH,hB,hz,q⟩:=h
 cases rx
 cases ry;obtain⟨z,its,n,r,hl,e⟩:=I.lstM hH;obtain⟨z2,its2,n2,r2,hl2,e2⟩:=I.lstM hB;refine PySem.P.add_list e e2 ?_ (by rw[List.size_toArray,List.size_toArray];omega)
 have ea:its.toArray++its2.toArray=(its++its2).toArray:=by simp
 rw[ea];exact⟨.ref _,_,I.lnew (t':=s.toks) (r.append r2) (by rw[List.length_append];omega),rfl,q _ I.fresh⟩
end
end L2
namespace Att
open PySem PySem.W PySem.Calls PyProof.Rows
theorem zg7{P:Params}{h:Heap}:∀(ns:List Int)(vs:List Value),WellAll P h vs (ns.map WData.int)->IntsAre vs ns:=by
 intro ns
 induction ns with
 |nil=>
  intro vs w;rw[List.map_nil] at w
  cases w;exact .nil
 |cons n ns ih=>
  intro vs w;rw[List.map_cons] at w
  cases w with
  |cons a b=>
   cases a;exact .cons _ _ (ih _ b)
theorem zpx{l:OpenLaw}{n:Nat}(hn:l.most=some n){P:Params}{h:Heap}{args:List WData}{vals:List Value}
  (hpre:l.row.toRowW.claim.pre args=true)(hwl:WellAll P h vals args):
  ∃a vs ns,vals=[Value.ref a]/\args=[WData.list (ns.map WData.int)]/\h.get? a=some {cls:=.type "list",data:=.seq vs.toArray}/\IntsAre vs ns/\ns.length<=n:=by
 have hsh:WShape.hasAll [] args [.list .int]=true:=(pre_splitW hpre).1;have hc:l.pre.holds [] {args:=args}=true:=(pre_splitW hpre).2;obtain⟨d,r,rfl,h1,h2⟩:=hasAllW_cons hsh;obtain rfl:=hasAllW_nil h2;obtain⟨xs,rfl,h3⟩:=hasW_list h1;obtain⟨ns,rfl⟩:=items_int h3;have hlen:ns.length<=n:=by
  unfold OpenLaw.pre at hc;have h4:(WTm.not (.lt (.lit (.int (n:Int))) (.len (.arg 0)))).holds [] {args:=[.list (ns.map .int)]}=true:=by
   have h4:=(holds_andW hc).1;rw[hn] at h4;exact h4
  have h5:=condW_of h4 (w_not (w_lt w_lit (w_len_list (w_arg rfl))));rw[List.length_map] at h5;refine Nat.le_of_not_lt fun q=>?_;have q':(n:Int)<((ns.length:Nat):Int):=by omega
  first
   |(rw[decide_eq_true q'] at h5;exact absurd h5 (by decide))
   |(simp at h5;omega)
 cases hwl with
 |cons w1 w2=>
  cases w2
  cases w1 with
  |list ho hall=>exact⟨_,_,ns,rfl,rfl,ho,zg7 ns _ hall,hlen⟩
theorem zok(l:OpenLaw)(args:List WData):l.row.toRowW.claim.post args (.bool true) args=true:=
 postW_of (r:=l.row.toRowW) (X:=(true==true))
  (show WShape.has [] (.bool true) .bool=true by first|rfl|decide|simp[WShape.has,WShape.arms,WShape.armsAll])
  (show(WTm.eq .res (.lit (.bool true))).value [] {args:=args,res:=some (.bool true),after:=args}=some (.bool (true==true)) from w_eq_bool (w_res rfl) w_lit) rfl
theorem attach_call{l:OpenLaw}{n:Nat}{q:Program}{loose:List Str}{XP:(Str->Option Value)->Heap->Prop}{YP:World->Heap->Prop}{d:DefRec}
  (hn:l.most=some n)(hdf:d.params.defaults=[])
  (call:∀(w:World)(s₀ s₁:Shared)(mg mb:Str->Option Value)(fa:Addr)(o:Obj)(pm cd doc:Value)(a:Addr)(vs:List Value)(ns:List Int),
   Ground q loose [] XP w s₀ mg mb s₁.heap->YP w s₁.heap->
   s₁.heap.get? fa=some o->o.data=.func (docDef d.name d.params d.body d.scope pm cd doc)->s₁.heap.CodeRec cd d.name->mg d.name=some (.ref fa)->
   s₁.heap.get? a=some {cls:=.type "list",data:=.seq vs.toArray}->IntsAre vs ns->ns.length<=n->s₁.gens=#[]->
   codeAny (model l.prog w) callerA (.call (.ref fa) ⟨[.ref a],[]⟩) (fun r s'=>r=.ok (.ret (.bool true))/\OldK s₁.heap s'.heap/\s'.os=s₁.os/\AllBare s'.gens) s₁):
  WalkO q loose XP YP l.row.toRowW d [] (fun f vs=>PySem.call f vs):=by
 intro w s₀ s₁ mg mb G Y fa o pm cd doc dV kV ho hd hcd hD hmg hg args vals as hpre hlay hrd hwl hlo;obtain rfl:dV=.none:=Dflts.none hD hdf;obtain rfl:kV=.none:=Dflts.noKw hD;obtain⟨a,vs,ns,rfl,rfl,hobj,hints,hlen⟩:=zpx hn hpre hwl;refine enter_call (codeAny_mono (call w s₀ s₁ mg mb fa o pm cd doc a vs ns G Y ho (fd_plain hd) hcd hmg hobj hints hlen hg) fun r s' hq=>?_);obtain⟨rfl,h2,h3,h4⟩:=hq;exact⟨.inl ⟨.bool true,.bool true,[],rfl,fun _=>rfl,.bool true,zok l _,fun _=>⟨List.Pairwise.nil,fun _ hm=>(nomatch hm)⟩⟩,h2,h3,h4⟩
end Att
namespace L2
open PySem PySem.Spec PyProof.Rows
theorem ziw:∀{vs:List Value}{ns:List Int},IntsAre vs ns->Vals (ns.map V.int) vs
 |_,_,.nil=>.nil
 |_,_,.cons n t h=>.cons ⟨t,rfl⟩ (ziw h)
def za7(s:Stmt):Arguments:=match s with
 |.FunctionDef _ a _ _ _ _ _ _ _ _=>a
 |_=>{posonlyargs:=[],args:=[],vararg:=none,kwonlyargs:=[],kw_defaults:=[],kwarg:=none,defaults:=[]}
def za4(s:Stmt):List Stmt:=match s with
 |.FunctionDef _ _ b _ _ _ _ _ _ _=>b
 |_=>[]
def za0(s:Stmt):Scope:=match s with
 |.FunctionDef _ _ _ _ _ _ sc _ _ _=>sc
 |_=>{kind:=.function,names:=[],isGenerator:=false,isCoroutine:=false}
abbrev CX0:CXT:=fun _ _ _ _ _ _=>False
abbrev E0:XK:=fun _ _ _=>False
theorem pass0{X:Cx}:Passes CX0 X E0:=fun _ _ _ _ _ _ _ h=>h.elim
structure Fun(K:PySem.W.Frag)(x qual:Str)(st:Stmt)(f:Addr)(fd:FuncData):Prop where
 ex:∃(oc:Value)(od:Option Addr)(kV doc pm:Value)(an:Option Addr)(cdv ct:Value)(osl:Array (Option Value)),
  fd=PySem.W.fnOf x qual (za7 st) (za4 st) (za0 st) .none kV doc pm an cdv ct/\K.lookup f=some ⟨oc,od,.func fd,osl⟩/\PySem.W.codeIn K cdv qual=true
 kp:PySem.W.keepIn K (.ref f)=true
section
variable{P:Program}{w:World}{K:PySem.W.Frag}{mg:Str->Option Value}{base:Heap}
theorem Fun.ok{x qual:Str}{st:Stmt}{f:Addr}{fd:FuncData}{N ps:List Str}{k:Nat}{sp:Sp}(F:Fun K x qual st f fd)(S:zae N ps (za0 st))(len:∀vs H Q E,sp vs H Q E->vs.length=ps.length)
  (hbody:∀(cdv:Value)(A:Around)(outer:List Env)(s:Shared)(H:Hp)(vs:List V)(Q:VK)(E:XK),Room k (A.deeper (envOfC qual (za0 st) s.heap.objs.size f cdv))->sp vs H Q E->
   ∃t,PSs (cxOf CX0 P w K mg base N qual (za0 st) f cdv A outer s H E).nox (za4 st) t/\t {nx:=fun _ H'=>Q .non H',rt:=Q} (start N vs) H):FnOk P w K mg base CX0 (k+1) f fd ps sp:=by
 obtain⟨oc,od,kV,doc,pm,an,cdv,ct,osl,rfl,lk,hcd⟩:=F.ex;refine fn_of lk hcd S len fun A outer s H vs Q E hr hsp=>?_;obtain⟨t,h,q⟩:=hbody cdv A outer s H vs Q E hr hsp;exact⟨t,h.nox,q⟩
theorem Fun.binds{x qual:Str}{st:Stmt}{f:Addr}{fd:FuncData}{ps:List Str}(F:Fun K x qual st f fd)
  (h:∀(kV doc pm:Value)(an:Option Addr)(cdv ct:Value)(us:List Value),us.length=ps.length->bindArgs (PySem.W.fnOf x qual (za7 st) (za4 st) (za0 st) .none kV doc pm an cdv ct) ⟨us,[]⟩=pure (ps.zip us)):Binds K fd ps []:=by
 obtain⟨oc,od,kV,doc,pm,an,cdv,ct,osl,rfl,lk,hcd⟩:=F.ex;exact .all (h kV doc pm an cdv ct)
theorem zb4{x qual:Str}{st:Stmt}{f:Addr}{oc:Value}{od an:Option Addr}{osl:Array (Option Value)}{kV doc pm cdv ct:Value}(l:K.lookup f=some ⟨oc,od,.func (PySem.W.fnOf x qual (za7 st) (za4 st) (za0 st) .none kV doc pm an cdv ct),osl⟩)
  (c:PySem.W.codeIn K cdv qual=true)(k:PySem.W.keepIn K (.ref f)=true):Fun K x qual st f (PySem.W.fnOf x qual (za7 st) (za4 st) (za0 st) .none kV doc pm an cdv ct):=⟨⟨oc,od,kV,doc,pm,an,cdv,ct,osl,rfl,l,c⟩,k⟩
end
theorem zda{A:Around}{k:Nat}(hr:Room k A):A.units+1<cLine:=Nat.lt_of_le_of_lt (Nat.add_le_add_left (by decide:1<=64) _) hr.units
theorem small1000{n:Nat}(h:n<=1000):n<sizeLine:=Nat.lt_of_le_of_lt h (by decide)
section
variable{X:Cx}
theorem pv(i:Nat){x:Str}{pos:Pos}(hN:X.N[i]?=some x:=by rfl)(hv:Vis X.env.scope x:=by first|exact Or.inl rfl|exact Or.inr (Or.inl rfl)|exact Or.inr (Or.inr rfl))(hd:(x==("__debug__":Str))=false:=by decide)
  (hcd:(x==("__classdict__":Str))=false:=by decide):PE X (.Name x pos) (tVar i):=pe_var hN hv hd hcd
end
theorem iteF{A B:Prop}(h:B):if false=true then A else B:=by
 rw[if_neg Bool.false_ne_true];exact h
theorem iteT{A B:Prop}(h:A):if true=true then A else B:=by
 rw[if_pos rfl];exact h
theorem ite2{c A B:Prop}[Decidable c](h1:c->A)(h2:¬c->B):if c then A else B:=by
 by_cases h:c
 ·rw[if_pos h];exact h1 h
 ·rw[if_neg h];exact h2 h
def Same(H H':Hp):Prop:=∀b o,H b=some o->H' b=some o
theorem Same.refl(H:Hp):Same H H:=fun _ _ h=>h
theorem Same.trans{H H1 H2:Hp}(a:Same H H1)(b:Same H1 H2):Same H H2:=fun c o h=>b c o (a c o h)
theorem Same.free{H H':Hp}(e:Same H H'){l:Addr}(h:H' l=Option.none):H l=Option.none:=by
 cases q:H l with
 |none=>rfl
 |some o=>
  rw[e l o q] at h
  cases h
theorem Same.seq{K:PySem.W.Frag}{H H':Hp}{a:Addr}{xs:List V}(e:Same H H')(h:SqL K H a xs):SqL K H' a xs:=by
 rcases h with(h|⟨o,h⟩)|h
 ·exact .inl (.inl (e _ _ h))
 ·exact .inl (.inr ⟨o,e _ _ h⟩)
 ·exact .inr h
section
variable{X:Cx}
def CBig(i j:Int):Prop:=i.natAbs<2^1000000/\j.natAbs<2^1000000
theorem CBig.ok{i j:Int}(h:CBig i j):IntMulOk i j:=
 PySem.IntMulOk.of_le (PySem.intBits_le_iff.mpr h.1) (PySem.intBits_le_iff.mpr h.2) (by decide)
theorem zas:OpR X (binaryOp .Mult) (rI CBig fun i j=>.int (i*j)):=opI fun _ _ _ _ _ _ _ hc q=>mul_int q hc.ok
def CDivB(_i j:Int):Prop:=j≠0/\j.natAbs<2^8999
theorem zdn:OpR X (binaryOp .FloorDiv) (rI CDivB fun i j=>.int (i.fdiv j)):=opI fun _ j _ _ _ _ _ hc q=>by
 refine floordiv_int hc.1 q (.inl (PyProof.noPylong_of_log2 ?_));have h0:j.natAbs≠0:=by have:=hc.1;omega
 have:=(Nat.log2_lt h0).mpr hc.2;omega
theorem bt_abs:bootBuiltins "abs"=some (.builtin "abs"):=by decide+kernel
theorem zee:bootBuiltins "len"=some (.builtin "len"):=by decide+kernel
theorem zer:bootBuiltins "isinstance"=some (.builtin "isinstance"):=by decide+kernel
theorem zhz:bootBuiltins "list"=some (.type "list"):=by decide+kernel
def dictO(a:Addr):HO:=.ext fun h=>∃o,h.get? a=some o/\o.cls=.type "dict"
def tyN(K:PySem.W.Frag)(H:Hp)(x:V)(T:String):Prop:=match x with
 |.non=>T="NoneType"
 |.bl _=>T="bool"
 |.int _=>T="int"
 |.str _=>T="str"
 |.ref p=>(T="list"/\∃xs,SqL K H p xs)∨(T="tuple"/\∃xs,SqT K H p xs)∨(T="dict"/\H p=some (dictO p))
 |_=>False
theorem tyN_is{pins:List (Addr×Obj)}{σ:St}{H:Hp}{s:Shared}{T:String}{x:V}{v:Value}(I:Inv X pins σ H s)(r:RelV x v)(ty:tyN X.K H x T):s.TypeIs v T:=by
 cases x with
 |non=>cases r;cases(show T="NoneType" from ty);rfl
 |bl b=>cases r;cases(show T="bool" from ty);rfl
 |int i=>obtain⟨t,rfl⟩:=r;cases(show T="int" from ty);exact typeIs_int s i t
 |str z=>obtain⟨t,rfl⟩:=r;cases(show T="str" from ty);exact typeIs_str s z t
 |ref p=>
  cases r;rcases ty with⟨rfl,xs,hq⟩|⟨rfl,xs,hq⟩|⟨rfl,hq⟩
  ·obtain⟨its,_,pl,_⟩:=I.list hq;exact pl.isList.typeIs
  ·obtain⟨its,_,⟨o,e,c,_⟩,_⟩:=I.tuple hq;exact⟨o,e,c⟩
  ·obtain⟨⟨o,e,c⟩,_⟩:=I.hok p _ hq;exact⟨o,e,c⟩
 |_=>exact False.elim ty
theorem zek{pins:List (Addr×Obj)}{σ:St}{H:Hp}{s:Shared}{Tx T:String}{b:Bool}{x:V}{v:Value}{Q:VK}(hne:b=false->(Value.type Tx==Value.type T)=false)
  (hty:typeOf (.type T)=pure (.type "type"))(hsub:isSubtype (.type Tx) (.type T)=pure b)(I:Inv X pins σ H s)(r:RelV x v)(ht:tyN X.K H x Tx)(q:Q (.bl b) H):
  wpAny (model X.prog X.w) X.A (call (.builtin "isinstance") [v,.type T]) (EP X pins σ Q) X.xe s:=by
 cases b with
 |true=>exact call_isinstance_yes (tyN_is I r ht) hty hsub ⟨.bl true,H,I,rfl,q⟩
 |false=>
  have hq:EP X pins σ Q (.bool false) {s with toks:=s.toks+1}:=⟨.bl false,H,I.tok _,rfl,q⟩
  cases x with
  |non=>cases r;cases(show Tx="NoneType" from ht);exact call_isinstance (isinstance_false_none (hne rfl) hty hsub) hq
  |bl b=>cases r;cases(show Tx="bool" from ht);exact call_isinstance (isinstance_false_bool (hne rfl) hty hsub) hq
  |int i=>obtain⟨t,rfl⟩:=r;cases(show Tx="int" from ht);exact call_isinstance (isinstance_false_int (hne rfl) hty hsub) hq
  |str z=>obtain⟨t,rfl⟩:=r;cases(show Tx="str" from ht);exact call_isinstance (isinstance_false_str (hne rfl) hty hsub) hq
  |ref p=>
   have ty:=tyN_is I r ht
   cases r;rcases ht with⟨rfl,xs,hs⟩|⟨rfl,xs,hs⟩|⟨rfl,hs⟩
   ·exact call_isinstance (isinstance_false_list (hne rfl) hty hsub) ⟨ty,hq⟩
   ·exact call_isinstance (isinstance_false_tuple (hne rfl) hty hsub) ⟨ty,hq⟩
   ·exact call_isinstance (isinstance_false_dict (hne rfl) hty hsub) ⟨ty,hq⟩
  |_=>exact False.elim ht
def isiB(Tx T:String):Bool:=(Tx==T)||(Tx=="bool"&&T=="int")
theorem zo3:typeOf (.type "list")=pure (.type "type"):=by kernel_rfl
theorem tyN_in{K:PySem.W.Frag}{H:Hp}{x:V}{T:String}(h:tyN K H x T):T="NoneType"∨T="bool"∨T="int"∨T="str"∨T="list"∨T="tuple"∨T="dict":=by
 cases x with
 |non=>exact .inl h
 |bl b=>exact .inr (.inl h)
 |int i=>exact .inr (.inr (.inl h))
 |str z=>exact .inr (.inr (.inr (.inl h)))
 |ref p=>
  rcases h with⟨h,_⟩|⟨h,_⟩|⟨h,_⟩
  ·exact .inr (.inr (.inr (.inr (.inl h))))
  ·exact .inr (.inr (.inr (.inr (.inr (.inl h)))))
  ·exact .inr (.inr (.inr (.inr (.inr (.inr h)))))
 |_=>exact False.elim h
def rIsi(K:PySem.W.Frag)(T:String):List V->Hp->VK->Prop:=fun xs H Q=>∃x Tx,xs=[x,.ty T]/\tyN K H x Tx/\Q (.bl (isiB Tx T)) H
theorem isi_T{T:String}(hty:typeOf (.type T)=pure (.type "type"))(h1:isSubtype (.type "NoneType") (.type T)=pure (isiB "NoneType" T))(h2:isSubtype (.type "bool") (.type T)=pure (isiB "bool" T))(h3:isSubtype (.type "int") (.type T)=pure (isiB "int" T))
  (h4:isSubtype (.type "str") (.type T)=pure (isiB "str" T))(h5:isSubtype (.type "list") (.type T)=pure (isiB "list" T))(h6:isSubtype (.type "tuple") (.type T)=pure (isiB "tuple" T))(h7:isSubtype (.type "dict") (.type T)=pure (isiB "dict" T))
  (hn:∀Tx∈["NoneType","bool","int","str","list","tuple","dict"],isiB Tx T=false->(Value.type Tx==Value.type T)=false):zdo X (.builtin "isinstance") (rIsi X.K T):=by
 intro pins s σ H xs us Q I r h;obtain⟨x,Tx,rfl,ht,q⟩:=h;obtain⟨u,w',rfl,ru,rw'⟩:=vals2 r
 cases rw';rcases tyN_in ht with rfl|rfl|rfl|rfl|rfl|rfl|rfl
 ·exact zek (hn _ (by simp)) hty h1 I ru ht q
 ·exact zek (hn _ (by simp)) hty h2 I ru ht q
 ·exact zek (hn _ (by simp)) hty h3 I ru ht q
 ·exact zek (hn _ (by simp)) hty h4 I ru ht q
 ·exact zek (hn _ (by simp)) hty h5 I ru ht q
 ·exact zek (hn _ (by simp)) hty h6 I ru ht q
 ·exact zek (hn _ (by simp)) hty h7 I ru ht q
theorem zf5:zdo X (.builtin "isinstance") (rIsi X.K "list"):=isi_T zo3 (by rw[isSubtype_type];kernel_rfl) (by rw[isSubtype_type];kernel_rfl) (by rw[isSubtype_type];kernel_rfl) (by rw[isSubtype_type];kernel_rfl) (by rw[isSubtype_type];kernel_rfl) (by rw[isSubtype_type];kernel_rfl) (by rw[isSubtype_type];kernel_rfl) (by decide+kernel)
end
theorem cx_K{CX:CXT}{P:Program}{w:World}{K:PySem.W.Frag}{mg:Str->Option Value}{base:Heap}{N:List Str}{qual:Str}{scope:Scope}{f:Addr}{cd:Value}{A:Around}{outer:List Env}{s:Shared}{H:Hp}{E:XK}:
  (cxOf CX P w K mg base N qual scope f cd A outer s H E).K=K:=rfl
theorem tyN_non{K:PySem.W.Frag}{H:Hp}{T:String}:tyN K H .non T=(T="NoneType"):=rfl
theorem tyN_bl{K:PySem.W.Frag}{H:Hp}{T:String}{b:Bool}:tyN K H (.bl b) T=(T="bool"):=rfl
theorem tyN_int{K:PySem.W.Frag}{H:Hp}{T:String}{i:Int}:tyN K H (.int i) T=(T="int"):=rfl
theorem tyN_str{K:PySem.W.Frag}{H:Hp}{T:String}{x:Str}:tyN K H (.str x) T=(T="str"):=rfl
theorem isi_ii:isiB "int" "int"=true:=by decide+kernel
theorem isi_ib:isiB "int" "bool"=false:=by decide+kernel
theorem isi_it:isiB "int" "tuple"=false:=by decide+kernel
theorem isi_il:isiB "int" "list"=false:=by decide+kernel
theorem isi_bi:isiB "bool" "int"=true:=by decide+kernel
theorem isi_bb:isiB "bool" "bool"=true:=by decide+kernel
theorem isi_ni:isiB "NoneType" "int"=false:=by decide+kernel
theorem isi_si:isiB "str" "int"=false:=by decide+kernel
theorem isi_ti:isiB "tuple" "int"=false:=by decide+kernel
theorem isi_li:isiB "list" "int"=false:=by decide+kernel
theorem isi_di:isiB "dict" "int"=false:=by decide+kernel
theorem isi_tt:isiB "tuple" "tuple"=true:=by decide+kernel
theorem isi_ll:isiB "list" "list"=true:=by decide+kernel
theorem scal_ii{i j:Int}:scal (.int i) (.int j)=true:=rfl
theorem scal_bb{i j:Bool}:scal (.bl i) (.bl j)=true:=rfl
theorem za1{H:Hp}{p:Addr}(h:H p=none)(o:HO):Same H (upd H p o):=fun b u q=>by rw[za5 (zb5 q h)];exact q
theorem cbig{i j:Int}{m n:Nat}(h1:i.natAbs<2^m)(h2:j.natAbs<2^n)(hm:m<=1000000:=by decide)(hn:n<=1000000:=by decide):CBig i j:=
 ⟨Nat.lt_of_lt_of_le h1 (Nat.pow_le_pow_right (by decide) hm),Nat.lt_of_lt_of_le h2 (Nat.pow_le_pow_right (by decide) hn)⟩
theorem cdivb{i j:Int}{n:Nat}(h0:j≠0)(h:j.natAbs<2^n)(hn:n<=8999:=by decide):CDivB i j:=⟨h0,Nat.lt_of_lt_of_le h (Nat.pow_le_pow_right (by decide) hn)⟩
def getI(σ:St)(i:Nat):Int:=match σ[i]? with
 |some (some (.int x))=>x
 |_=>0
theorem sz0:(0<=sizeLine)=True:=eq_true (by decide)
theorem sz1:(1<=sizeLine)=True:=eq_true (by decide)
theorem sz2:(2<=sizeLine)=True:=eq_true (by decide)
theorem sz3:(3<=sizeLine)=True:=eq_true (by decide)
theorem sz4:(4<=sizeLine)=True:=eq_true (by decide)
def NS(e:Expr):Prop:=∀es env,starEach (e::es) env=(false,eval e env)::starEach es env
theorem za3{a b c}:NS (Expr.Constant a b c):=fun _ _=>rfl
theorem za2{a b}:NS (Expr.Name a b):=fun _ _=>rfl
theorem zck{a b c d}:NS (Expr.Call a b c d):=fun _ _=>rfl
theorem zac{a b c d}:NS (Expr.BinOp a b c d):=fun _ _=>rfl
theorem zai{a b c}:NS (Expr.Tuple a b c):=fun _ _=>rfl
theorem zjt{a b}:NS (Expr.List a b):=fun _ _=>rfl
theorem za8{a b c}:NS (Expr.Subscript a b c):=fun _ _=>rfl
theorem zg2{a b c d}:NS (Expr.ListComp a b c d):=fun _ _=>rfl
section
variable{X:Cx}
theorem pa1{e1:Expr}{t1:TE}(h1:PE X e1 t1)(n1:NS e1):PA X [e1] (zcc t1 tNil):=(zav h1 zcl (n1 _ _))
theorem pa2{e1 e2:Expr}{t1 t2:TE}(h1:PE X e1 t1)(n1:NS e1)(h2:PE X e2 t2)(n2:NS e2):PA X [e1,e2] (zcc t1 (zcc t2 tNil)):=(zav h1 (zav h2 zcl (n2 _ _)) (n1 _ _))
theorem pa3{e1 e2 e3:Expr}{t1 t2 t3:TE}(h1:PE X e1 t1)(n1:NS e1)(h2:PE X e2 t2)(n2:NS e2)(h3:PE X e3 t3)(n3:NS e3):PA X [e1,e2,e3] (zcc t1 (zcc t2 (zcc t3 tNil))):=(zav h1 (zav h2 (zav h3 zcl (n3 _ _)) (n2 _ _)) (n1 _ _))
theorem pa4{e1 e2 e3 e4:Expr}{t1 t2 t3 t4:TE}(h1:PE X e1 t1)(n1:NS e1)(h2:PE X e2 t2)(n2:NS e2)(h3:PE X e3 t3)(n3:NS e3)(h4:PE X e4 t4)(n4:NS e4):PA X [e1,e2,e3,e4] (zcc t1 (zcc t2 (zcc t3 (zcc t4 tNil)))):=(zav h1 (zav h2 (zav h3 (zav h4 zcl (n4 _ _)) (n3 _ _)) (n2 _ _)) (n1 _ _))
theorem pa5{e1 e2 e3 e4 e5:Expr}{t1 t2 t3 t4 t5:TE}(h1:PE X e1 t1)(n1:NS e1)(h2:PE X e2 t2)(n2:NS e2)(h3:PE X e3 t3)(n3:NS e3)(h4:PE X e4 t4)(n4:NS e4)(h5:PE X e5 t5)(n5:NS e5):PA X [e1,e2,e3,e4,e5] (zcc t1 (zcc t2 (zcc t3 (zcc t4 (zcc t5 tNil))))):=(zav h1 (zav h2 (zav h3 (zav h4 (zav h5 zcl (n5 _ _)) (n4 _ _)) (n3 _ _)) (n2 _ _)) (n1 _ _))
theorem pa7{e1 e2 e3 e4 e5 e6 e7:Expr}{t1 t2 t3 t4 t5 t6 t7:TE}(h1:PE X e1 t1)(n1:NS e1)(h2:PE X e2 t2)(n2:NS e2)(h3:PE X e3 t3)(n3:NS e3)(h4:PE X e4 t4)(n4:NS e4)(h5:PE X e5 t5)(n5:NS e5)(h6:PE X e6 t6)(n6:NS e6)(h7:PE X e7 t7)(n7:NS e7):PA X [e1,e2,e3,e4,e5,e6,e7] (zcc t1 (zcc t2 (zcc t3 (zcc t4 (zcc t5 (zcc t6 (zcc t7 tNil))))))):=(zav h1 (zav h2 (zav h3 (zav h4 (zav h5 (zav h6 (zav h7 zcl (n7 _ _)) (n6 _ _)) (n5 _ _)) (n4 _ _)) (n3 _ _)) (n2 _ _)) (n1 _ _))
theorem pss2{e1 e2:Stmt}{t1 t2:TS}(h1:PS X e1 t1)(h2:PS X e2 t2):PSs X [e1,e2] (tSeq t1 t2):=(zab h1 (zaf h2))
theorem pss3{e1 e2 e3:Stmt}{t1 t2 t3:TS}(h1:PS X e1 t1)(h2:PS X e2 t2)(h3:PS X e3 t3):PSs X [e1,e2,e3] (tSeq t1 (tSeq t2 t3)):=(zab h1 (zab h2 (zaf h3)))
theorem pss4{e1 e2 e3 e4:Stmt}{t1 t2 t3 t4:TS}(h1:PS X e1 t1)(h2:PS X e2 t2)(h3:PS X e3 t3)(h4:PS X e4 t4):PSs X [e1,e2,e3,e4] (tSeq t1 (tSeq t2 (tSeq t3 t4))):=(zab h1 (zab h2 (zab h3 (zaf h4))))
theorem pss5{e1 e2 e3 e4 e5:Stmt}{t1 t2 t3 t4 t5:TS}(h1:PS X e1 t1)(h2:PS X e2 t2)(h3:PS X e3 t3)(h4:PS X e4 t4)(h5:PS X e5 t5):PSs X [e1,e2,e3,e4,e5] (tSeq t1 (tSeq t2 (tSeq t3 (tSeq t4 t5)))):=(zab h1 (zab h2 (zab h3 (zab h4 (zaf h5)))))
theorem pss8{e1 e2 e3 e4 e5 e6 e7 e8:Stmt}{t1 t2 t3 t4 t5 t6 t7 t8:TS}(h1:PS X e1 t1)(h2:PS X e2 t2)(h3:PS X e3 t3)(h4:PS X e4 t4)(h5:PS X e5 t5)(h6:PS X e6 t6)(h7:PS X e7 t7)(h8:PS X e8 t8):PSs X [e1,e2,e3,e4,e5,e6,e7,e8] (tSeq t1 (tSeq t2 (tSeq t3 (tSeq t4 (tSeq t5 (tSeq t6 (tSeq t7 t8))))))):=(zab h1 (zab h2 (zab h3 (zab h4 (zab h5 (zab h6 (zab h7 (zaf h8))))))))
theorem pss16{e1 e2 e3 e4 e5 e6 e7 e8 e9 e10 e11 e12 e13 e14 e15 e16:Stmt}{t1 t2 t3 t4 t5 t6 t7 t8 t9 t10 t11 t12 t13 t14 t15 t16:TS}(h1:PS X e1 t1)(h2:PS X e2 t2)(h3:PS X e3 t3)(h4:PS X e4 t4)(h5:PS X e5 t5)(h6:PS X e6 t6)(h7:PS X e7 t7)(h8:PS X e8 t8)(h9:PS X e9 t9)(h10:PS X e10 t10)(h11:PS X e11 t11)(h12:PS X e12 t12)(h13:PS X e13 t13)(h14:PS X e14 t14)(h15:PS X e15 t15)(h16:PS X e16 t16):PSs X [e1,e2,e3,e4,e5,e6,e7,e8,e9,e10,e11,e12,e13,e14,e15,e16] (tSeq t1 (tSeq t2 (tSeq t3 (tSeq t4 (tSeq t5 (tSeq t6 (tSeq t7 (tSeq t8 (tSeq t9 (tSeq t10 (tSeq t11 (tSeq t12 (tSeq t13 (tSeq t14 (tSeq t15 t16))))))))))))))):=(zab h1 (zab h2 (zab h3 (zab h4 (zab h5 (zab h6 (zab h7 (zab h8 (zab h9 (zab h10 (zab h11 (zab h12 (zab h13 (zab h14 (zab h15 (zaf h16))))))))))))))))
end
theorem zfy{α β:Type}(g:α->β->β){f:α->β->Sem (ForInStep β)}:∀{l:List α}(c:β),(∀x∈l,∀c,f x c=pure (.yield (g x c)))->forIn l c f=pure (l.foldl (fun c x=>g x c) c)
 |[],c,_=>rfl
 |x::l,c,h=>by
  have hx:=h x List.mem_cons_self c;rw[List.forIn_cons,hx,pure_bind];exact zfy g (g x c) fun y hy=>h y (List.mem_cons_of_mem _ hy)
def zcw(env:Env)(x:Str×NameKind)(c:List (Str×Addr)):List (Str×Addr):=
 if x.2==NameKind.free then(match env.cells.lookup x.1 with|some a=>(x.1,a)::c|none=>c) else c
theorem zfl{env:Env}:∀(l:List (Str×NameKind))(acc:List (Str×Addr)),(∀n c,acc.lookup n=some c->env.cells.lookup n=some c)->
  ∀n c,(l.foldl (fun c x=>zcw env x c) acc).lookup n=some c->env.cells.lookup n=some c
 |[],acc,h,n,c,e=>h n c e
 |x::l,acc,h,n,c,e=>by
  refine zfl l (zcw env x acc) (fun n c e=>?_) n c e;unfold zcw at e
  split at e
  ·split at e
   ·rename_i a ha
    rw[List.lookup_cons] at e
    split at e
    ·rename_i hb
     have hn:n=x.1:=by simpa using hb
     cases e;rw[hn];exact ha
    ·exact h n c e
   ·exact h n c e
  ·exact h n c e
theorem zfk{env:Env}:∀(l:List (Str×NameKind))(acc:List (Str×Addr))(n:Str),((∃c,acc.lookup n=some c)∨((n,NameKind.free)∈l/\∃c,env.cells.lookup n=some c))->
  ∃c,(l.foldl (fun c x=>zcw env x c) acc).lookup n=some c
 |[],acc,n,h=>by
  rcases h with h|⟨h,_⟩
  ·exact h
  ·cases h
 |x::l,acc,n,h=>by
  refine zfk l (zcw env x acc) n ?_;rcases h with⟨c,h⟩|⟨h,c,hc⟩
  ·left;unfold zcw
   split
   ·split
    ·rw[List.lookup_cons]
     split
     ·exact⟨_,rfl⟩
     ·exact⟨c,h⟩
    ·exact⟨c,h⟩
   ·exact⟨c,h⟩
  ·rcases List.mem_cons.mp h with e|h
   ·left;subst e;unfold zcw;have ef:(NameKind.free==NameKind.free)=true:=rfl;have en:(n==n)=true:=by simp
    simp only[ef,if_true,hc,List.lookup_cons,en];exact⟨c,rfl⟩
   ·exact .inr ⟨h,c,hc⟩
theorem zmh{scope:Scope}{env:Env}(hf:∀n,(n,NameKind.free)∈scope.names->∃c,env.cells.lookup n=some c):
  ∃cl,closureFor scope env=pure cl/\(∀n c,cl.lookup n=some c->env.cells.lookup n=some c)/\∀n,(n,NameKind.free)∈scope.names->∃c,cl.lookup n=some c:=by
 refine⟨scope.names.foldl (fun c x=>zcw env x c) [],?_,zfl _ _ (fun n c e=>by simp at e),fun n h=>zfk _ _ n (.inr ⟨h,hf n h⟩)⟩
 simp only[closureFor];rw[zfy (zcw env) [] (fun x hx c=>?_)]
 ·rfl
 ·obtain⟨n,kind⟩:=x
  by_cases hk:kind=.free
  ·subst hk;obtain⟨a,ha⟩:=hf n hx;have ef:(NameKind.free==NameKind.free)=true:=rfl
   simp[cellOf,ha,zcw,ef]
  ·have e:(kind==NameKind.free)=false:=by simpa using hk
   simp[e,zcw]
theorem zd9(env:Env)(x:Str):∀names:List (Str×NameKind),
  (names.map fun(n,k)=>if(k==NameKind.free&&env.scope.kind==.function&&env.kindOf n==some .cell) then(n,NameKind.cell) else(n,k)).lookup x=
  (names.lookup x).map fun k=>if(k==NameKind.free&&env.scope.kind==.function&&env.kindOf x==some .cell) then NameKind.cell else k
 |[]=>rfl
 |(n,k)::r=>by
  have ih:=zd9 env x r;rw[List.map_cons]
  by_cases e:x=n
  ·subst e;have ex:(x==x)=true:=by simp
   by_cases c:(k==NameKind.free&&env.scope.kind==.function&&env.kindOf x==some .cell)=true
   ·dsimp only;rw[if_pos c,List.lookup_cons,ex,List.lookup_cons,ex];exact congrArg some (if_pos c).symm
   ·dsimp only;rw[if_neg c,List.lookup_cons,ex,List.lookup_cons,ex];exact congrArg some (if_neg c).symm
  ·have e':(x==n)=false:=by simpa using e
   by_cases c:(k==NameKind.free&&env.scope.kind==.function&&env.kindOf n==some .cell)=true
   ·dsimp only;rw[if_pos c,List.lookup_cons,e',List.lookup_cons,e'];exact ih
   ·dsimp only;rw[if_neg c,List.lookup_cons,e',List.lookup_cons,e'];exact ih
structure zdh(dsc:Scope)(N:List Str)(scope:Scope)(own:List Str)(ix:List Nat):Prop where
 kind:scope.kind=.function
 nocell:∀y∈scope.names,y.2≠NameKind.cell
 names:∀y∈scope.names,y.2=NameKind.local->scope.names.lookup y.1=some .local
 free:∀y∈scope.names,y.2=NameKind.free->dsc.names.lookup y.1=some .cell∨dsc.names.lookup y.1=some .free
 ix:∀i∈ix,i<N.length/\scope.names.lookup (N.getD i "")=some .free
def Cx.comp(X:Cx)(scope:Scope)(own:List Str)(ix:List Nat)(cl:List (Str×Addr))(C:Addr)(fp:List Addr)(s:Shared)(H:Hp)(xe:Value->Shared->Prop):Cx:=
 {X with N:=own++ix.map (fun i=>X.N.getD i ""),s₀:=s,H₀:=H,env:=compEnvC scope cl C X.env,outer:=X.stack,ex:=fp,fn:=fun _=>false,pn:=[],xe:=xe}
theorem comp_K{X:Cx}{scope:Scope}{own:List Str}{ix:List Nat}{cl:List (Str×Addr)}{C:Addr}{fp:List Addr}{s:Shared}{H:Hp}{xe:Value->Shared->Prop}:(X.comp scope own ix cl C fp s H xe).K=X.K:=rfl
def selC(k:Nat)(ix:List Nat)(σ:St):St:=List.replicate k none++ix.map (fun i=>(σ[i]?).join)
section
variable{X:Cx}{pins:List (Addr×Obj)}{σ:St}{H H4:Hp}{s s4:Shared}{dsc scope:Scope}{own:List Str}{ix:List Nat}{cl:List (Str×Addr)}{C:Addr}{fp:List Addr}{xe:Value->Shared->Prop}
theorem comp_fp(I:Inv X pins σ H s)(hf:∀b∈fp,FpOk X pins H b){b:Addr}(hb:b∈fp):b∉frs X.stack:=fun hs=>by
 obtain⟨_,f1,f2,_⟩:=hf b hb;rcases List.mem_cons.mp (I.stkSub b hs) with e|e
 ·exact f1 e
 ·exact f2 e
theorem Inv.comp(I:Inv X pins σ H s)(hd:X.env.scope=dsc)(S:zdh dsc X.N scope own ix)(cs:∀n c,cl.lookup n=some c->X.env.cells.lookup n=some c)(ch:∀n,(n,NameKind.free)∈scope.names->∃c,cl.lookup n=some c)
  (hf:∀b∈fp,FpOk X pins H b)(ho:∀b∈fp,∃o,s.heap.get? b=some o)(I4:Inv X pins σ H4 s4)(un:Un (frs X.stack) fp H H4 s.heap s4.heap)(hC:s.heap.objs.size<=C)(hn:∃m,s4.heap.Ns C m)(hC0:H4 C=none):
  Inv (X.comp scope own ix cl C fp s H xe) [] (selC own.length ix σ) H4 s4:=by
 have kfree:∀x,scope.names.lookup x=some .free->(compEnvC scope cl C X.env).kindOf x=some .cell∨(compEnvC scope cl C X.env).kindOf x=some .free:=fun x h=>by
  have e:(compEnvC scope cl C X.env).kindOf x=_:=zd9 X.env x scope.names;rw[e,h,Option.map_some]
  split
  ·exact .inl rfl
  ·exact .inr rfl
 have kback:∀x,((compEnvC scope cl C X.env).kindOf x=some .cell∨(compEnvC scope cl C X.env).kindOf x=some .free)->scope.names.lookup x=some .free:=fun x h=>by
  have e:(compEnvC scope cl C X.env).kindOf x=_:=zd9 X.env x scope.names;rw[e] at h
  cases q:scope.names.lookup x with
  |none=>rw[q] at h;rcases h with h|h<;>cases h
  |some k=>
   have nc:=S.nocell _ (PySem.mem_of_lookup q);rw[q,Option.map_some] at h
   cases k<;>first|rfl|exact absurd rfl nc|(rcases h with h|h<;>cases h)
 refine⟨⟨I.ok.mod,S.kind,I.ok.glob,I.ok.blt,hC,fun x y c h1 h2=>I.ok.inj x y c (cs x c h1) (cs y c h2),fun x hx=>ch x (PySem.mem_of_lookup (kback x hx)),fun x c h=>(nomatch h),I.ok.hd,I.ok.frames,.inl rfl,fun b hb=>⟨fun z=>?_,fun x c e=>(hf b hb).2.2.2.2.1 x c (cs x c e)⟩,
  I.bs,Nat.le_trans I.ok.bsz I.sz,fun b o e hb=>?_,fun b hb=>comp_fp I hf hb,I.stack,I.stkFree⟩,I4.os.trans I.os.symm,I4.bare,un,?_,fun x c e=>I4.cell x c (cs x c e),hC0,fun x c e=>I4.freeC x c (cs x c e),fun p hp=>(nomatch hp),I4.hok,?_⟩
 ·obtain⟨o,e⟩:=ho b hb;have z':b=C:=z;exact absurd (Nat.lt_of_lt_of_le (Heap.lt_size e) (by rw[z'];exact hC)) (Nat.lt_irrefl _)
 ·rcases(hf b hb).2.2.2.1 with z|z
  ·exact I.ok.noex b o e z
  ·exact absurd (Nat.lt_of_lt_of_le (Heap.lt_size e) (Nat.le_trans I.ok.bsz z)) (Nat.lt_irrefl _)
 ·obtain⟨m,hm⟩:=hn;refine⟨m,hm,fun i x v e1 e2 _=>?_⟩;have e1':(own++ix.map (fun i=>X.N.getD i ""))[i]?=some x:=e1;unfold selC at e2
  by_cases hi:i<own.length
  ·rw[List.getElem?_append_left (by rw[List.length_replicate];exact hi),List.getElem?_replicate,if_pos hi] at e2
   cases e2
  ·rw[List.getElem?_append_right (by rw[List.length_replicate];omega),List.length_replicate,List.getElem?_map] at e2
   rw[List.getElem?_append_right (by omega),List.getElem?_map] at e1'
   cases q:ix[i-own.length]? with
   |none=>rw[q] at e2;cases e2
   |some j=>
    rw[q] at e1' e2;rw[Option.map_some,Option.some.injEq] at e1' e2;obtain⟨hj,hfr⟩:=S.ix j (List.mem_of_getElem? q);rw[e1'] at hfr;have eN:X.N[j]?=some x:=by
     rw[List.getElem?_eq_getElem hj,←e1',List.getD_eq_getElem?_getD,List.getElem?_eq_getElem hj];rfl
    have es:σ[j]?=some (some v):=by
     cases w:σ[j]? with
     |none=>rw[w] at e2;cases e2
     |some o=>rw[w] at e2;exact congrArg some e2
    have kd:=S.free _ (PySem.mem_of_lookup hfr) rfl;rw[←hd] at kd;obtain⟨m4,hm4,hl⟩:=I4.loc;obtain⟨u,r,l⟩:=hl j x v eN es (.inr kd);refine⟨u,r,.inr ⟨kfree x hfr,?_⟩⟩;rcases l with⟨k,_⟩|⟨_,c,ec,cell⟩
    ·have k':X.env.scope.names.lookup x=some .local:=k;rcases kd with z|z<;>(rw[k'] at z;cases z)
    ·obtain⟨c',ec'⟩:=ch x (PySem.mem_of_lookup hfr);have z:=cs x c' ec';rw[ec] at z
     cases z;exact⟨c,ec',cell⟩
 ·show(selC own.length ix σ).length=(own++ix.map (fun i=>X.N.getD i "")).length
  unfold selC;rw[List.length_append,List.length_append,List.length_replicate,List.length_map,List.length_map]
theorem Inv.outOf{pins':List (Addr×Obj)}{σ':St}{H':Hp}{s':Shared}(I:Inv X pins σ H s)(hf:∀b∈fp,FpOk X pins H b)(J:Inv (X.comp scope own ix cl C fp s H xe) pins' σ' H' s'):Inv X pins σ H' s':=
 I.call' J.os J.base J.hok J.bare fun b hb=>by
  obtain⟨_,f1,_,f3,f4,f5⟩:=hf b hb;exact⟨f3,f1,f4,f5⟩
end
abbrev zoy(ifs:List Expr)(env:Env):Sem Bool:=forIn ifs true fun c r=>if r=true then do let ok ←isTrue c env (eval c env);pure (ForInStep.yield ok) else pure (ForInStep.yield r)
def PIf(X:Cx)(ifs:List Expr)(t:TT):Prop:=
 ∀(pins:List (Addr×Obj))(s:Shared)(σ:St)(H:Hp)(Q:Bool->Hp->Prop),Inv X pins σ H s->t σ H Q->wpAny (model X.prog X.w) X.A (zoy ifs X.env) (TP X pins σ Q) X.xe s
def tYes:TT:=fun _ H Q=>Q true H
theorem zel{X:Cx}:PIf X [] tYes:=fun _ _ _ H _ I h=>wpAny_tests_nil ⟨H,I,h⟩
theorem pif_one{X:Cx}{c:Expr}{t:TT}(h:PT X c t):PIf X [c] t:=fun pins s σ H Q I q=>wpAny_tests_one (h pins s σ H Q I q)
section
variable{prog:Program}{w:World}{A:Around}{R:Result->Shared->Prop}{s:Shared}
abbrev nb(prog:Program)(w:World)(A:Around)(env:Env)(R:Result->Shared->Prop):Value->Shared->Prop:=notedBy (model prog w) A env fun e s'=>R (.error e) s'
theorem zod{elt target iter:Expr}{ifs:List Expr}{scope:Scope}{pos:Pos}{it acc:Value}{env:Env}(I:Nat->Shared->Prop)
  (turn:∀n s,I n s->wpAny (model prog w) A (pyNext it) (fun r s₁=>(r=none/\R (.ok .next) s₁)∨∃v,r=some v/\
   wpAny (model prog w) A (letOwnedTupleGo target it v) (fun _ s₂=>wpAny (model prog w) A (assign target env v) (fun _ s₃=>wpAny (model prog w) A (zoy ifs env) (fun ok s₄=>
    if ok=true then wpAny (model prog w) A (eval elt env) (fun x s₅=>wpAny (model prog w) A (call (.builtin "list.append") [acc,x]) (fun _ s₆=>∃m,m<n/\I m s₆) (nb prog w A env R) s₅) (nb prog w A env R) s₄
    else ∃m,m<n/\I m s₄) (nb prog w A env R) s₃) (nb prog w A env R) s₂) (nb prog w A env R) s₁) (nb prog w A env R) s)
  (n:Nat) (h:I n s):codeAny (model prog w) A (.compLoop (.ListComp elt [⟨target,iter,ifs,0⟩] scope pos) 0 it acc env) R s:=by
 refine codeAny_loop rfl I (fun n s hI=>?_) n h;refine wpAny_noted ?_;have e:=compTurn_list elt target iter ifs scope pos it acc env;show wpAny (model prog w) A (compTurn (.ListComp elt [⟨target,iter,ifs,0⟩] scope pos) 0 it acc env) _ _ s;rw[e];refine wpAny_bind (wpAny_standAt (wpAny_bind (thn (turn n s hI) fun r s₁ h₁=>?_)));rcases h₁ with⟨rfl,h₁⟩|⟨v,rfl,h₁⟩
 ·exact wpAny_pure h₁
 ·refine wpAny_bind (thn h₁ fun _ s₂ h₂=>wpAny_bind (thn h₂ fun _ s₃ h₃=>wpAny_bind (thn h₃ fun ok s₄ h₄=>?_)))
  cases ok with
  |false=>exact wpAny_pure ⟨rfl,h₄⟩
  |true=>
   refine wpAny_bind (wpAny_bind (thn h₄ fun x s₅ h₅=>wpAny_bind (thn h₅ fun _ s₆ h₆=>?_)));exact wpAny_pure (wpAny_pure ⟨rfl,h₆⟩)
end
def tComp(k:Nat)(ix:List Nat)(wi:TI)(g:TG)(ti:TT)(te:TE):TE:=fun σ H Q=>wi σ H fun J H1=>∀D,H1 D=none->∃W:Nat->Nat->Hp->Prop,(∃m,W 0 m (upd H1 D (.lst [])))/\∀i m H2,W i m H2->
 (J.stop i H2/\Q (.ref D) H2)∨(J.go i H2/\∀x H3,J.yld i H2 x H3->g x (selC k ix σ) H3 fun σ4 H4=>ti σ4 H4 fun b H5=>if b=true then te σ4 H5 fun y H6=>∃ys,H6 D=some (.lst ys)/\ys.length<sizeLine/\∃m',m'<m/\W (i+1) m' (upd H6 D (.lst (ys++[y])))
  else ∃m',m'<m/\W (i+1) m' H5)
section
variable{X:Cx}{pins:List (Addr×Obj)}{σ:St}{H:Hp}{s:Shared}{dsc scope:Scope}{own:List Str}{ix:List Nat}{elt tg iter:Expr}{ifs:List Expr}{pos:Pos}{wi:TI}{g:TG}{ti:TT}{te:TE}
def CompBody(X:Cx)(scope:Scope)(own:List Str)(ix:List Nat)(tg:Expr)(ifs:List Expr)(elt:Expr)(g:TG)(ti:TT)(te:TE):Prop:=
 ∀cl C fp s H xe,PG (X.comp scope own ix cl C fp s H xe) tg g/\PIf (X.comp scope own ix cl C fp s H xe) ifs ti/\PE (X.comp scope own ix cl C fp s H xe) elt te
theorem zl8{use:Option (Value->Sem Unit)}{RQ:Value->Shared->Prop}{Q:VK}{p0:Pos}(hc:X.calm=true)(hd:X.env.scope=dsc)(S:zdh dsc X.N scope own ix)(hi:PI X tg iter wi)(hb:CompBody X scope own ix tg ifs elt g ti te)
  (hs:∀x,foldedSetIterable iter X.env x=pure x)(I:Inv X pins σ H s)(h:tComp own.length ix wi g ti te σ H Q)
  (fin:∀D C H' s',Inv X pins σ H' s'->FpOk X pins H' C->(∃m,s'.heap.Ns C m)->Q (.ref D) H'->compPost (model X.prog X.w) X.A X.xe use RQ (.ref D) C (.ok .next) s'):
  wpAny (model X.prog X.w) X.A (comprehension (.ListComp elt [⟨tg,iter,ifs,0⟩] scope pos) scope X.env p0 (newList []) false (eval iter X.env) use) RQ X.xe s:=by
 obtain⟨cl,hcl,cs,ch⟩:=zmh (scope:=scope) (env:=X.env) fun n hn=>I.ok.has n (by
  have z:=S.free _ hn rfl;rw[←hd] at z;exact z)
 refine wpAny_comprehension_free rfl hs hcl S.kind S.names (thn (hi pins s σ H _ I h) fun v s1 h1=>thn h1 fun itv s2 h2=>?_);obtain⟨it,fp,tn,J,H2,e,I2,T,st2,f2,W⟩:=h2;subst e;have hD0:H2 s2.heap.objs.size=none:=I2.fresh;obtain⟨W,⟨m0,w0⟩,turn⟩:=W _ hD0;have I3:=I2.lnew (ys:=[]) (its:=[]) (t':=s2.toks) .nil (Nat.zero_le _);refine wpAny_newObj_type (wpAny_newFunctionEnv S.nocell (by intro y hy;cases hy) (fun h₁ hns₁ hsb₁=>?_) S.kind)
 dsimp only at hns₁ hsb₁⊢;generalize hH3:s2.heap.push {cls:=.type "list",dict:=none,data:=.seq ([]:List Value).toArray}=g3 at hns₁ hsb₁⊢;have hC:g3.objs.size=s2.heap.objs.size+1:=by rw[←hH3,Heap.size_push]
 have old3:∀b o,g3.get? b=some o->h₁.get? b=some o:=fun b o e=>hsb₁.extBut b o (Nat.ne_of_lt (Heap.lt_size e)) (Heap.get?_push_of_some _ e);have old:∀b o,s2.heap.get? b=some o->h₁.get? b=some o:=fun b o e=>old3 b o (by rw[←hH3];exact Heap.get?_push_of_some _ e)
 have I4:Inv X pins σ (upd H2 s2.heap.objs.size (.lst [])) {s2 with heap:=h₁,toks:=s2.toks+0}:=I3.kept (t':=s2.toks+0) fun b o e=>old3 b o (by rw[←hH3];exact e)
 have fpo:∀b∈fp,∃o,s2.heap.get? b=some o:=fun b hb=>let⟨o,e,_⟩:=T.obj _ _ st2 b hb;⟨o,e⟩;have hC0:upd H2 s2.heap.objs.size (.lst []) g3.objs.size=none:=by
  rw[za5 (by rw[hC];exact Nat.succ_ne_self _)]
  exact I2.hok.fresh (by rw[hC];exact Nat.le_succ _)
 have hCs:s2.heap.objs.size<=g3.objs.size:=by rw[hC];exact Nat.le_succ _
 have into:∀{H':Hp}{s':Shared}{xe:Value->Shared->Prop},Inv X pins σ H' s'->Un (frs X.stack) fp H2 H' s2.heap s'.heap->(∃m,s'.heap.Ns g3.objs.size m)->H' g3.objs.size=none->Inv (X.comp scope own ix cl g3.objs.size fp s2 H2 xe) [] (selC own.length ix σ) H' s':=
  fun I' un hn h0=>I2.comp hd S cs ch f2 fpo I' un hCs hn h0
 have stat:∀{H':Hp}{xe:Value->Shared->Prop}{σ':St}{s':Shared},Inv (X.comp scope own ix cl g3.objs.size fp s2 H2 xe) [] σ' H' s'->(∀b∈fp,H' b=none)->∀b∈fp,FpOk (X.comp scope own ix cl g3.objs.size fp s2 H2 xe) [] H' b:=fun{H' xe σ' s'} K hn b hb=>
  ⟨hn b hb,(K.ok.exf b hb).1,K.ok.exfs b hb,.inl hb,(K.ok.exf b hb).2,fun p hp=>nomatch hp⟩
 have loop:∀s₃:Shared,s₃={s2 with heap:=h₁,toks:=s2.toks+0}->
   codeAny (model X.prog X.w) X.A (.compLoop (.ListComp elt [⟨tg,iter,ifs,0⟩] scope pos) 0 (.ref it) (.ref s2.heap.objs.size) (compEnvC scope cl g3.objs.size X.env)) (compPost (model X.prog X.w) X.A X.xe use RQ (.ref s2.heap.objs.size) g3.objs.size) s₃:=by
  rintro s₃ rfl;generalize hxe:nb X.prog X.w X.A (compEnvC scope cl g3.objs.size X.env) (compPost (model X.prog X.w) X.A X.xe use RQ (.ref s2.heap.objs.size) g3.objs.size)=xe;obtain⟨hg,hif,hel⟩:=hb cl g3.objs.size fp s2 H2 xe;refine zod (fun n s'=>∃i H',Inv (X.comp scope own ix cl g3.objs.size fp s2 H2 xe) [] (selC own.length ix σ) H' s'/\tn i s'.heap/\(∀b∈fp,H' b=none)/\W i n H') ?_ m0
   ⟨0,_,into I4 (Un.laid old (Nat.le_refl _) hD0) ⟨_,hns₁⟩ hC0,T.keep _ _ _ st2 fun b hb o e=>old b o e,fun b hb=>?_,w0⟩
  ·rintro n s3 ⟨i,H3,K3,st3,fr3,w3⟩;rw[hxe];rcases turn i n H3 w3 with⟨stop,qn⟩|⟨go,step⟩
   ·refine thn (T.done (X.comp scope own ix cl g3.objs.size fp s2 H2 xe) rfl rfl rfl hc i [] s3 _ H3 xe K3 (stat K3 fr3) st3 stop) fun r s4⟨hr,K4⟩=>.inl ⟨hr,?_⟩;obtain⟨m,hm,_⟩:=K4.loc;exact fin _ _ H3 s4 (I2.outOf f2 K4) (I2.fpOk hCs K4.free) ⟨m,hm⟩ qn
   ·refine thn (T.item (X.comp scope own ix cl g3.objs.size fp s2 H2 xe) rfl rfl rfl hc i [] s3 _ H3 xe K3 (stat K3 fr3) st3 go) fun r s4⟨u,hr,h4⟩=>.inr ⟨u,hr,?_⟩;refine thn h4 fun _ s5⟨x,H5,K5,r5,y5,st5,fr5⟩=>?_;have K5':=K5.pinned (stat K5 fr5) (T.obj _ _ st5);refine thn (hg _ s5 _ H5 x u _ K5' r5 (step x H5 y5)) fun _ s6⟨σ6,H6,K6,q6⟩=>?_;refine thn (hif _ s6 σ6 H6 _ K6 q6) fun b s7⟨H7,K7,q7⟩=>?_;have again:∀{σ8:St}{H8:Hp}{s8:Shared},Inv (X.comp scope own ix cl g3.objs.size fp s2 H2 xe) ([]++zj1 fp s5.heap) σ8 H8 s8->(∃m',m'<n/\W (i+1) m' H8)->∃m,m<n/\∃i H',Inv (X.comp scope own ix cl g3.objs.size fp s2 H2 xe) [] (selC own.length ix σ) H' s8/\tn i s8.heap/\(∀b∈fp,H' b=none)/\W i m H':=fun{σ8 H8 s8} K8⟨m',hm,w8⟩=>by
     obtain⟨m,hm8,_⟩:=K8.loc;refine⟨m',hm,i+1,H8,into (I2.outOf f2 K8) K8.base ⟨m,hm8⟩ K8.free,T.keep _ _ _ st5 fun b hb o e=>(K8.pin (b,o) (List.mem_append_right _ (List.mem_append_right _ (ze7 hb e)))).1,fun b hb=>?_,w8⟩;obtain⟨o,e,d⟩:=T.obj _ _ st5 b hb;exact(K8.pin (b,o) (List.mem_append_right _ (List.mem_append_right _ (ze7 hb e)))).2.1
    cases b with
    |false=>exact again K7 q7
    |true=>
     refine thn (hel _ s7 σ6 H7 _ K7 q7) fun v s8⟨y,H8,K8,r8,ys,e8,z8,q8⟩=>?_;refine thn (zbo (X:=X.comp scope own ix cl g3.objs.size fp s2 H2 xe) _ s8 σ6 H8 (.ref s2.heap.objs.size) [y] (.ref s2.heap.objs.size) [v] (fun _ H'=>∃m',m'<n/\W (i+1) m' H') K8 rfl (.cons r8 .nil) ⟨_,ys,y,rfl,rfl,e8,z8,q8⟩) ?_;rintro u9 s9 ⟨v9,H9,K9,r9,q9⟩;exact again K9 q9
  ·have z:=(f2 b hb).1;obtain⟨o,e⟩:=fpo b hb;rw[za5 (Nat.ne_of_lt (Heap.lt_size e))];exact z
 exact codeAny_compStart_list (loop _ rfl) (T.self _ 0 _ _ _ (T.keep _ _ _ st2 fun b hb o e=>old b o e) (loop _ rfl))
theorem zg8{N:List Str}(hc:X.calm=true)(hd:X.env.scope=dsc)(hN:X.N=N)(S':zdh dsc N scope own ix)(hi:PI X tg iter wi)(hb:CompBody X scope own ix tg ifs elt g ti te)
  (hs:∀x,foldedSetIterable iter X.env x=pure x:=by intro _;rfl):PE X (.ListComp elt [⟨tg,iter,ifs,0⟩] scope pos) (tComp own.length ix wi g ti te):=by
 have S:zdh dsc X.N scope own ix:=by rw[hN];exact S'
 intro pins s σ H Q I h;rw[eval_ListComp];refine zl8 (use:=none) hc hd S hi hb hs I h fun D C H' s' I' f' hn q=>?_;obtain⟨m,hm⟩:=hn;obtain⟨f0,f1,f2,f3,f4,f5⟩:=f';exact⟨m,hm,fun h' sb=>⟨.ref D,H',I'.turned (t':=s'.toks) (fun b o hb e=>(sb.2 b hb).trans e) f0 f1 f3 f4 f5,rfl,q⟩⟩
theorem zkb{i:Nat}{x:Str}{N:List Str}{pos' pos1:Pos}(hN:X.N.Nodup)(hx0:X.N[i]?=some x)(hx:Loc X.env.scope x)(hc:X.calm=true)(hd:X.env.scope=dsc)(hN':X.N=N)(S':zdh dsc N scope own ix)(hi:PI X tg iter wi)(hb:CompBody X scope own ix tg ifs elt g ti te)
  (hsw:swapsWith (.ListComp elt [⟨tg,iter,ifs,0⟩] scope pos) (some (.Name x pos')) pos1.line X.env=pure true:=by rfl)(hf:X.fn x=true∨X.env.scope.names.lookup x=some .local:=by first|exact .inl rfl|exact .inr rfl|assumption)
  (hs:∀x,foldedSetIterable iter X.env x=pure x:=by intro _;rfl):PS X (.Assign [.Name x pos'] (.ListComp elt [⟨tg,iter,ifs,0⟩] scope pos) pos1) (tAsg (tComp own.length ix wi g ti te) (gName i)):=by
 have S:zdh dsc X.N scope own ix:=by rw[hN'];exact S'
 intro pins s σ H D I h;rw[exec_Assign_Name_used _ _ _ _ hsw]
 have main:=zl8 (p0:=iter.pos) (pos:=pos) (use:=some (assign (.Name x pos') X.env)) (RQ:=fun _ s'=>SP X pins D .next s') hc hd S hi hb hs I h fun l C H' s' I' f' hn q=>by
  obtain⟨m,o,es,ep,ho,hdt,hr⟩:=hn;obtain⟨f0,f1,f2,f3,f4,f5⟩:=f';have Ip:Inv X (pins++[(C,o)]) σ H' s':=I'.pins_of fun p hp=>(List.mem_append.mp hp).elim (fun z=>I'.pin p (List.mem_append_right _ z)) fun z=>by
   have e:p=(C,o):=by simpa using z
   subst e;exact⟨ho,f0,f1,f2,fun v z=>by rw[hdt] at z;cases z⟩
  refine wpAny_assign_Name (zez (v:=.ref l) Ip hN hx0 hx rfl (fun s2 I2=>?_) hf);have pc:=I2.pin (C,o) (List.mem_append_right _ (List.mem_append_right _ (by simp)))
  refine⟨m,⟨o,es,ep,pc.1,hdt,hr⟩,fun h' sb=>⟨_,H',I2.unpinned.turned (t':=s2.toks) (fun b o hb e=>(sb.2 b hb).trans e) pc.2.1 f1 f3 f4 f5,q⟩⟩
 refine wpAny_bind (wpAny_standAt (wpAny_bind ?_));exact wpAny_bind (thn main fun _ s' hq=>wpAny_pure (wpAny_pure hq))
end
def CW(n:Nat)(Pv:Nat->List V->Hp->Prop):Nat->Nat->Hp->Prop:=fun i m H=>m=n-i/\i<=n/\∃ys,Pv i ys H
abbrev CPut(n:Nat)(Pv:Nat->List V->Hp->Prop)(D:Addr)(i:Nat)(y:V)(H:Hp):Prop:=∃ys,H D=some (.lst ys)/\ys.length<sizeLine/\∃m',m'<n-i/\CW n Pv (i+1) m' (upd H D (.lst (ys++[y])))
abbrev CSkip(n:Nat)(Pv:Nat->List V->Hp->Prop)(i:Nat)(H:Hp):Prop:=∃m',m'<n-i/\CW n Pv (i+1) m' H
theorem cw_put{n i:Nat}{Pv:Nat->List V->Hp->Prop}{D:Addr}{y:V}{ys:List V}{H:Hp}(hi:i<n)(hD:H D=some (.lst ys))(hz:ys.length<sizeLine)(p:Pv (i+1) (ys++[y]) (upd H D (.lst (ys++[y])))):CPut n Pv D i y H:=
 ⟨ys,hD,hz,n-(i+1),by omega,rfl,hi,_,p⟩
theorem cw_skip{n i:Nat}{Pv:Nat->List V->Hp->Prop}{ys:List V}{H:Hp}(hi:i<n)(p:Pv (i+1) ys H):CSkip n Pv i H:=⟨n-(i+1),by omega,rfl,hi,_,p⟩
def CompW(J:It)(D:Addr)(g:TG)(ti:TT)(te:TE)(σ':St)(H:Hp)(Q:VK):Prop:=
 ∃W:Nat->Nat->Hp->Prop,(∃m,W 0 m (upd H D (.lst [])))/\∀i m H2,W i m H2->
  (J.stop i H2/\Q (.ref D) H2)∨(J.go i H2/\∀x H3,J.yld i H2 x H3->g x σ' H3 fun σ4 H4=>ti σ4 H4 fun b H5=>if b=true then te σ4 H5 fun y H6=>∃ys,H6 D=some (.lst ys)/\ys.length<sizeLine/\∃m',m'<m/\W (i+1) m' (upd H6 D (.lst (ys++[y])))
   else ∃m',m'<m/\W (i+1) m' H5)
theorem zd2{k:Nat}{ix:List Nat}{wi:TI}{g:TG}{ti:TT}{te:TE}{σ:St}{H:Hp}{Q:VK}(h:wi σ H fun J H1=>∀D,H1 D=none->CompW J D g ti te (selC k ix σ) H1 Q):tComp k ix wi g ti te σ H Q:=h
theorem zoo{J:It}{D:Addr}{g:TG}{ti:TT}{te:TE}{σ':St}{H:Hp}{Q:VK}(n:Nat)(Pv:Nat->List V->Hp->Prop)(h0:Pv 0 [] (upd H D (.lst [])))(hgo:∀i ys H,i<n->Pv i ys H->J.go i H)(hst:∀ys H,Pv n ys H->J.stop n H)
  (hs:∀i ys H x H3,i<n->Pv i ys H->J.yld i H x H3->g x σ' H3 fun σ4 H4=>ti σ4 H4 fun b H5=>if b=true then te σ4 H5 fun y H6=>CPut n Pv D i y H6 else CSkip n Pv i H5)
  (hd:∀ys H,Pv n ys H->Q (.ref D) H):CompW J D g ti te σ' H Q:=by
 refine⟨CW n Pv,⟨n,rfl,Nat.zero_le _,[],h0⟩,?_⟩;rintro i m H2 ⟨rfl,hi,ys,p⟩
 by_cases hlt:i<n
 ·exact .inr ⟨hgo i ys H2 hlt p,fun x H3 y=>hs i ys H2 x H3 hlt p y⟩
 ·have e:i=n:=by omega
  subst e;exact .inl ⟨hst ys H2 p,hd ys H2 p⟩
theorem zcs{K:PySem.W.Frag}{a D:Addr}{xs:List V}{g:TG}{ti:TT}{te:TE}{σ':St}{H:Hp}{Q:VK}(Pv:Nat->List V->Hp->Prop)(h0:Pv 0 [] (upd H D (.lst [])))(hl:∀i ys H,Pv i ys H->SqL K H a xs)
  (hs:∀i ys H x,i<xs.length->xs[i]?=some x->Pv i ys H->g x σ' H fun σ4 H4=>ti σ4 H4 fun b H5=>if b=true then te σ4 H5 fun y H6=>CPut xs.length Pv D i y H6 else CSkip xs.length Pv i H5)
  (hd:∀ys H,Pv xs.length ys H->Q (.ref D) H):CompW (Itl K a) D g ti te σ' H Q:=by
 refine zoo xs.length Pv h0 (fun i ys H hi p=>⟨xs,xs[i],hl i ys H p,by simp[hi]⟩) (fun ys H p=>⟨xs,hl _ ys H p,Nat.le_refl _⟩) (fun i ys H x H3 hi p y=>?_) hd
 obtain⟨e,y⟩:=y;subst e;exact hs i ys _ x hi (y xs (hl i ys _ p)) p
mutual
def RdD(K:PySem.W.Frag)(H:Hp):PyData->V->Prop
 |.none,v=>v=.non
 |.bool b,v=>v=.bl b
 |.int i,v=>v=.int i
 |.str x,v=>v=.str x
 |.list ds,v=>∃p xs,v=.ref p/\SqL K H p xs/\RdDs K H ds xs
 |.tuple ds,v=>∃p xs,v=.ref p/\SqT K H p xs/\RdDs K H ds xs
 |.dict _,_=>False
def RdDs(K:PySem.W.Frag)(H:Hp):List PyData->List V->Prop
 |[],xs=>xs=[]
 |d::ds,xs=>∃x r,xs=x::r/\RdD K H d x/\RdDs K H ds r
end
section
variable{X:Cx}{pins:List (Addr×Obj)}{σ:St}{H:Hp}{s:Shared}
mutual
theorem zdl(I:Inv X pins σ H s):∀(d:PyData)(v:V)(u:Value),RdD X.K H d v->RelV v u->∃as,Reads s.heap u d as
 |.none,v,u,h,r=>by
  rw[RdD] at h;subst h;cases r;exact⟨_,.none⟩
 |.bool b,v,u,h,r=>by
  rw[RdD] at h;subst h;cases r;exact⟨_,.bool b⟩
 |.int i,v,u,h,r=>by
  rw[RdD] at h;subst h;obtain⟨t,rfl⟩:=r;exact⟨_,.int i t⟩
 |.str x,v,u,h,r=>by
  rw[RdD] at h;subst h;obtain⟨t,rfl⟩:=r;exact⟨_,.str x t⟩
 |.list ds,v,u,h,r=>by
  rw[RdD] at h;obtain⟨p,xs,rfl,hq,hs⟩:=h
  cases r;obtain⟨its,rv,pl,hz⟩:=I.list hq;obtain⟨o,ho,hc,n,hd⟩:=pl.isList;obtain⟨as,ra⟩:=zfv I ds xs its hs rv;exact⟨_,reads_list_at ho hc hd (by simpa using ra)⟩
 |.tuple ds,v,u,h,r=>by
  rw[RdD] at h;obtain⟨p,xs,rfl,hq,hs⟩:=h
  cases r;obtain⟨its,rv,pl,hz⟩:=I.tuple hq;obtain⟨o,ho,hc,n,hd⟩:=pl;obtain⟨as,ra⟩:=zfv I ds xs its hs rv;exact⟨_,reads_tuple_at ho hc hd (by simpa using ra)⟩
 |.dict kvs,v,u,h,r=>by
  rw[RdD] at h;exact h.elim
theorem zfv(I:Inv X pins σ H s):∀(ds:List PyData)(xs:List V)(us:List Value),RdDs X.K H ds xs->Vals xs us->∃as,ReadsAll s.heap us ds as
 |[],xs,us,h,r=>by
  rw[RdDs] at h;subst h;cases r;exact⟨_,.nil⟩
 |d::ds,xs,us,h,r=>by
  rw[RdDs] at h;obtain⟨x,xr,rfl,hx,hr⟩:=h
  cases r with
  |cons r1 r2=>
   obtain⟨as,ra⟩:=zdl I d _ _ hx r1;obtain⟨bs,rb⟩:=zfv I ds _ _ hr r2;exact⟨_,.cons ra rb⟩
end
end
def rEqD(K:PySem.W.Frag):R2:=fun x y H Q=>∃d e,RdD K H d x/\RdD K H e y/\SeqAt.shaped d=true/\SeqAt.shaped e=true/\Q (.bl (PyData.eqv d e)) H
def rNeD(K:PySem.W.Frag):R2:=fun x y H Q=>∃d e,RdD K H d x/\RdD K H e y/\SeqAt.shaped d=true/\SeqAt.shaped e=true/\Q (.bl (!PyData.eqv d e)) H
theorem hu64{A:Around}{k:Nat}(hr:Room k A):A.units+64<cLine:=by have:=hr.un;omega
section
variable{X:Cx}
theorem zj3(hu:X.A.units+64<cLine):OpR X (compareOp .Eq) (rEqD X.K):=by
 intro pins s σ H x y v u Q I rx ry h;obtain⟨d,e,hd,he,sd,se,q⟩:=h;obtain⟨as,ra⟩:=zdl I d x v hd rx;obtain⟨bs,rb⟩:=zdl I e y u he ry;exact eq_dataH ra rb sd se hu ⟨.bl (PyData.eqv d e),H,I,rfl,q⟩
theorem zol(hu:X.A.units+64<cLine):OpR X (compareOp .NotEq) (rNeD X.K):=by
 intro pins s σ H x y v u Q I rx ry h;obtain⟨d,e,hd,he,sd,se,q⟩:=h;obtain⟨as,ra⟩:=zdl I d x v hd rx;obtain⟨bs,rb⟩:=zdl I e y u he ry;exact ne_dataH ra rb sd se hu ⟨.bl (!PyData.eqv d e),H,I,rfl,q⟩
end
section
variable{X:Cx}
theorem IxR.imp{r r':R2}(h:IxR X r)(i:∀x y H Q,r' x y H Q->r x y H Q):IxR X r':=fun value slice pins s σ H x y v u Q I rx ry q hs=>h value slice pins s σ H x y v u Q I rx ry (i x y H Q q) hs
theorem zdo.imp{f:Value}{r r':List V->Hp->VK->Prop}(h:zdo X f r)(i:∀xs H Q,r' xs H Q->r xs H Q):zdo X f r':=fun pins s σ H xs us Q I rv q=>h pins s σ H xs us Q I rv (i xs H Q q)
def rIxTH:R2:=fun x y H Q=>∃p xs i v,x=.ref p/\y=.int i/\H p=some (.tup xs)/\atI xs i=some v/\Q v H
def rIxLH:R2:=fun x y H Q=>∃p xs i v,x=.ref p/\y=.int i/\H p=some (.lst xs)/\atI xs i=some v/\Q v H
theorem za6:IxR X rIxTH:=ix_tup.imp fun x y H Q⟨p,xs,i,v,e1,e2,h,e3,q⟩=>⟨p,xs,i,v,e1,e2,.of h,e3,q⟩
theorem zak:IxR X rIxLH:=zl1.imp fun x y H Q⟨p,xs,i,v,e1,e2,h,e3,q⟩=>⟨p,xs,i,v,e1,e2,.of h,e3,q⟩
def rLenH:List V->Hp->VK->Prop:=fun xs H Q=>∃p ys,xs=[.ref p]/\(H p=some (.lst ys)∨H p=some (.tup ys))/\Q (.int ys.length) H
theorem zdg:zdo X (.builtin "len") rLenH:=zd4.imp fun xs H Q⟨p,ys,e,h,q⟩=>⟨p,ys,e,h.imp .of .of,q⟩
def tyF(H:Hp)(x:V):Option String:=match x with
 |.non=>some "NoneType"
 |.bl _=>some "bool"
 |.int _=>some "int"
 |.str _=>some "str"
 |.ref p=>match H p with
  |some (.lst _)=>some "list"
  |some (.tup _)=>some "tuple"
  |_=>none
 |_=>none
theorem tyF_tyN{K:PySem.W.Frag}{H:Hp}{x:V}{T:String}(h:tyF H x=some T):tyN K H x T:=by
 cases x with
 |non=>exact(Option.some.inj h).symm
 |bl b=>exact(Option.some.inj h).symm
 |int i=>exact(Option.some.inj h).symm
 |str z=>exact(Option.some.inj h).symm
 |ref p=>
  unfold tyF at h;dsimp only at h
  cases q:H p with
  |none=>rw[q] at h;cases h
  |some o=>
   rw[q] at h
   cases o with
   |lst xs=>exact .inl ⟨(Option.some.inj h).symm,xs,.of q⟩
   |tup xs=>exact .inr (.inl ⟨(Option.some.inj h).symm,xs,.of q⟩)
   |_=>cases h
 |_=>cases h
def rIsiF(T:String):List V->Hp->VK->Prop:=fun xs H Q=>∃x Tx,xs=[x,.ty T]/\tyF H x=some Tx/\Q (.bl (isiB Tx T)) H
theorem isiF{T:String}(h:zdo X (.builtin "isinstance") (rIsi X.K T)):zdo X (.builtin "isinstance") (rIsiF T):=h.imp fun xs H Q⟨x,Tx,e,t,q⟩=>⟨x,Tx,e,tyF_tyN t,q⟩
end
theorem zp2{H:Hp}{p:Addr}{xs:List V}(h:H p=some (.lst xs)):tyF H (.ref p)=some "list":=by unfold tyF;dsimp only;rw[h]
theorem tyF_non{H:Hp}:tyF H .non=some "NoneType":=rfl
theorem tyF_bl{H:Hp}{b:Bool}:tyF H (.bl b)=some "bool":=rfl
theorem tyF_int{H:Hp}{i:Int}:tyF H (.int i)=some "int":=rfl
theorem tyF_str{H:Hp}{z:Str}:tyF H (.str z)=some "str":=rfl
theorem at0{α:Type}{x:α}{r:List α}:atI (x::r) 0=some x:=zc5 (j:=0) rfl
theorem at1{α:Type}{x y:α}{r:List α}:atI (x::y::r) 1=some y:=zc5 (j:=1) rfl
theorem at2{α:Type}{x y z:α}{r:List α}:atI (x::y::z::r) 2=some z:=zc5 (j:=2) rfl
theorem at3{α:Type}{x y z t:α}{r:List α}:atI (x::y::z::t::r) 3=some t:=zc5 (j:=3) rfl
theorem at4{α:Type}{x y z t u:α}{r:List α}:atI (x::y::z::t::u::r) 4=some u:=zc5 (j:=4) rfl
theorem zat{H H':Hp}{D:Addr}{o:HO}(g:Same H H')(h:H D=none):Same H (upd H' D o):=fun b u q=>by
 rw[za5 (zb5 q h)];exact g b u q
section
variable{X:Cx}
theorem SlR.imp{r r':V->Option Int->Option Int->Hp->VK->Prop}(h:SlR X r)(i:∀x lo hi H Q,r' x lo hi H Q->r x lo hi H Q):SlR X r':=fun pins s σ H x v vl vu lo hi sl Q I rx hs pl pu q=>h pins s σ H x v vl vu lo hi sl Q I rx hs pl pu (i x lo hi H Q q)
def rSlH:V->Option Int->Option Int->Hp->VK->Prop:=fun x lo hi H Q=>∃a xs,x=.ref a/\H a=some (.lst xs)/\∀p,H p=none->Q (.ref p) (upd H p (.lst (cutV xs lo hi)))
theorem ze9:SlR X rSlH:=sl_list.imp fun x lo hi H Q⟨a,xs,e,h,q⟩=>⟨a,xs,e,.of h,q⟩
def rListH:List V->Hp->VK->Prop:=fun xs H Q=>∃p ys,xs=[.ref p]/\(H p=some (.lst ys)∨H p=some (.tup ys))/\∀l,H l=none->Q (.ref l) (upd H l (.lst ys))
theorem zh2:zdo X (.type "list") rListH:=zjm.imp fun xs H Q⟨p,ys,e,h,q⟩=>⟨p,ys,e,h.imp .of .of,q⟩
theorem zd5{K:PySem.W.Frag}{H:Hp}{p:Addr}{xs:List V}(h:H p=some (.lst xs)):tyV K "list" (.ref p) H:=.inl ⟨rfl,xs,.of h⟩
theorem bt_min:bootBuiltins "min"=some (.builtin "min"):=by decide+kernel
theorem bt_max:bootBuiltins "max"=some (.builtin "max"):=by decide+kernel
end
def ForW(J:It)(g:TG)(tb:TS)(D:Ends)(σ:St)(H:Hp):Prop:=∃W:Nat->Nat->St->Hp->Prop,(∃m,W 0 m σ H)/\∀i m σ H,W i m σ H->
 (J.stop i H/\D.nx σ H)∨(J.go i H/\∃N:St->Hp->Prop,(∀σ' H',N σ' H'->∃m',m'<m/\W (i+1) m' σ' H')/\∀x H',J.yld i H x H'->g x σ H' fun σ2 H2=>tb {D with nx:=N,ct:=N,bk:=D.nx} σ2 H2)
theorem zbk{wi:TI}{g:TG}{tb:TS}{D:Ends}{σ:St}{H:Hp}(h:wi σ H fun J H1=>ForW J g tb D σ H1):tFor wi g tb D σ H:=h
section
variable{X:Cx}{pos:Pos}
def gTupH(n:Nat)(t:TGs):TG:=fun v σ H Q=>∃a xs,v=.ref a/\H a=some (.tup xs)/\xs.length=n/\t xs σ H Q
theorem zfb{es:List Expr}{k:Nat}{t:TGs}{n:Nat}(hc:X.calm=true)(h:PGs X es t)(hn:(assignEach es X.env).length=n:=by rfl)(hst:(assignEach es X.env).findIdx? (·.1)=none:=by rfl):PG X (.Tuple es k pos) (gTupH n t):=
 fun pins s σ H v u Q I r hw=>pg_tup hc h hn hst pins s σ H v u Q I r (by
  obtain⟨a,xs,e,q,l,z⟩:=hw;exact⟨a,xs,e,.of q,l,z⟩)
end
open PySem.Builtin PySem.Builtin.Str
open PySem.W (KasT kas_asc kas_desc kas_rev kas_tail3 kas_descPart kas_count kas_place kas_bin kas_sort kas_ask kas_item)
def ansT{α:Type}(ans:Nat->Nat->Bool):KasT α->α
 |.ret a=>a
 |.ask i j k=>ansT ans (k (ans i j))
def Asks{α:Type}(n:Nat)(R:α->Prop):KasT α->Prop
 |.ret a=>R a
 |.ask i j k=>i<n/\j<n/\∀b,Asks n R (k b)
theorem Asks.bind{α β:Type}{n:Nat}{R:α->Prop}{S:β->Prop}{f:α->KasT β}:∀{t:KasT α},Asks n R t->(∀a,R a->Asks n S (f a))->Asks n S (t.bind f)
 |.ret a,h,k=>k a h
 |.ask i j g,h,k=>⟨h.1,h.2.1,fun b=>Asks.bind (h.2.2 b) k⟩
theorem Asks.ends{α:Type}{n:Nat}{R:α->Prop}{ans:Nat->Nat->Bool}:∀{t:KasT α},Asks n R t->R (ansT ans t)
 |.ret _,h=>h
 |.ask i j g,h=>Asks.ends (n:=n) (t:=g (ans i j)) (h.2.2 (ans i j))
theorem Asks.wp{α:Type}{n:Nat}{R:α->Prop}{ans:Nat->Nat->Bool}{cmp:Nat->Nat->(Bool->Shared->Prop)->Shared->Prop}{s:Shared}{Q:α->Shared->Prop}(hc:∀i j C,i<n->j<n->C (ans i j) s->cmp i j C s):
  ∀{t:KasT α},Asks n R t->Q (ansT ans t) s->t.kasWp cmp Q s
 |.ret _,_,q=>q
 |.ask i j g,h,q=>hc i j _ h.1 h.2.1 (Asks.wp (n:=n) (t:=g (ans i j)) hc (h.2.2 (ans i j)) q)
def Ord(n:Nat)(p:Array Nat):Prop:=p.toList.Perm (List.range n)
theorem Ord.get{n:Nat}{p:Array Nat}(h:Ord n p)(hn:0<n)(i:Nat):p.getD i 0<n:=by
 by_cases hi:i<p.size
 ·have e:p.getD i 0=p[i]:=by simp[Array.getD,hi]
  rw[e];exact List.mem_range.mp (h.mem_iff.mp (by simp))
 ·have e:p.getD i 0=0:=by simp[Array.getD,hi]
  rw[e];exact hn
theorem Ord.of{n:Nat}{p q:Array Nat}(h:Ord n p)(e:q.Perm p):Ord n q:=(Array.perm_iff_toList_perm.mp e).trans h
theorem Ord.rev{n:Nat}{p:Array Nat}(h:Ord n p)(i j:Nat):Ord n (kas_rev p i j):=h.of (mirror_perm _ _ _ _)
theorem zhv{n:Nat}{p:Array Nat}(h:Ord n p)(hn:0<n):∀(f m:Nat),Asks n (fun _=>True) (kas_asc p f m)
 |0,_=>trivial
 |f+1,m=>⟨h.get hn _,h.get hn _,fun b=>by
  cases b with
  |true=>dsimp only;rw[if_pos rfl];trivial
  |false=>dsimp only;rw[if_neg (by decide)];exact zhv h hn f (m+1)⟩
theorem zf3{n:Nat}(hn:0<n):∀(f:Nat){p:Array Nat}(m q:Nat),Ord n p->Asks n (fun r=>Ord n r.1) (kas_desc f p m q)
 |0,_,_,_,h=>h
 |f+1,p,m,q,h=>⟨h.get hn _,h.get hn _,fun b=>by
  cases b with
  |true=>
   dsimp only;rw[if_pos rfl]
   by_cases z:q>0
   ·rw[if_pos z];exact zf3 hn f _ _ (h.rev _ _)
   ·rw[if_neg z];exact zf3 hn f _ _ h
  |false=>
   dsimp only;rw[if_neg (by decide)]
   refine⟨h.get hn _,h.get hn _,fun d=>?_⟩
   cases d with
   |true=>dsimp only;rw[if_pos rfl];exact h
   |false=>dsimp only;rw[if_neg (by decide)];exact zf3 hn f _ _ h⟩
theorem zh8{n a b:Nat}{p:Array Nat}(hn:0<n)(h:Ord n p):Asks n (fun r=>Ord n r.2) (kas_tail3 a b p):=
 Asks.bind (zhv (h.rev _ _) hn _ _) fun _ _=>h.rev _ _
theorem zf7{n a b:Nat}{p:Array Nat}(hn:0<n)(h:Ord n p):Asks n (fun r=>Ord n r.2) (kas_descPart a b p):=
 Asks.bind (zf3 hn _ _ _ h) fun r hr=>by
  by_cases z:r.2.2>0
  ·rw[if_pos z];exact zh8 hn (hr.rev _ _)
  ·rw[if_neg z];exact zh8 hn hr
theorem zgo{n b:Nat}{p:Array Nat}(hn:0<n)(h:Ord n p):Asks n (fun r=>Ord n r.2) (kas_count b p):=
 Asks.bind (zhv h hn _ _) fun m _=>by
  by_cases z:(m==b)=true
  ·rw[if_pos z];exact h
  ·rw[if_neg z]
   by_cases y:m>1
   ·rw[if_pos y];refine⟨h.get hn _,h.get hn _,fun c=>?_⟩
    cases c with
    |true=>dsimp only;rw[if_pos rfl];exact h
    |false=>dsimp only;rw[if_neg (by decide)];exact zf7 hn (h.rev _ _)
   ·rw[if_neg y];exact zf7 hn h
theorem zff{n:Nat}{p:Array Nat}(hn:0<n)(h:Ord n p)(k:Nat):∀(f l r:Nat),Asks n (fun _=>True) (kas_place p k f l r)
 |0,_,_=>trivial
 |f+1,l,r=>by
  unfold kas_place
  by_cases z:l≥r
  ·rw[if_pos z];trivial
  ·rw[if_neg z];refine⟨h.get hn _,h.get hn _,fun c=>?_⟩
   cases c with
   |true=>dsimp only;rw[if_pos rfl];exact zff hn h k f _ _
   |false=>dsimp only;rw[if_neg (by decide)];exact zff hn h k f _ _
theorem zl3{n:Nat}(hn:0<n):∀(f:Nat){p:Array Nat}(k:Nat),Ord n p->Asks n (Ord n) (kas_bin f p k)
 |0,_,_,h=>h
 |f+1,p,k,h=>Asks.bind (zff hn h k _ _ _) fun l _=>zl3 hn f (k+1) (h.of (bubble_perm _ _ _))
theorem zf6{n:Nat}(hn:0<n):Asks n (Ord n) (kas_sort n):=
 Asks.bind (zgo hn (by unfold Ord;simp)) fun r hr=>by
  by_cases z:r.1<n
  ·rw[if_pos z];exact zl3 hn _ _ hr
  ·rw[if_neg z];exact hr
def Keeps(g h:Heap):Prop:=∀b o,g.get? b=some o->h.get? b=some o
theorem Keeps.push{g h:Heap}(k:Keeps g h)(o:Obj):Keeps g (h.push o):=fun b x e=>Heap.get?_push_of_some _ (k b x e)
theorem Keeps.upd{g h:Heap}{a:Addr}{f:Obj->Obj}(k:Keeps g h)(ha:g.objs.size<=a):Keeps g (h.update a f):=fun b x e=>by
 rw[Heap.get?_update_ne _ _ _ _ (Nat.ne_of_lt (Nat.lt_of_lt_of_le (Heap.lt_size e) ha))];exact k b x e
theorem zgp(vs:List Value):((List.range vs.length).map fun i=>vs.getD i Value.none)=vs:=by
 refine List.ext_getElem (by simp) fun i h1 h2=>?_
 have hi:i<vs.length:=h2
 simp[hi]
section
variable{prog:Program}{w:World}{A:Around}{E:Value->Shared->Prop}{s:Shared}{vs:List Value}{κ:SortKind}{ans:Nat->Nat->Bool}{g:Heap}
theorem sort_at{a:Addr}{n:Nat}{P:PySem.Fin->Shared->Prop}(hg:Keeps g s.heap)(ga:g.objs.size<=a)(ho:s.heap.get? a=some (seqObj "list" vs.toArray n))(h64:vs.length<64)
  (hk:2<=vs.length->∀h',Keeps g h'->∀Q',Q' κ {s with heap:=h'}->wpAny (model prog w) A (keyKind' vs.toArray) Q' (fun _ _=>False) {s with heap:=h'})
  (ha:2<=vs.length->∀h',Keeps g h'->∀i j C,i<vs.length->j<vs.length->C (ans i j) {s with heap:=h'}->kas_ask prog w A κ vs i j C {s with heap:=h'})
  (q:∀(p:Array Nat) h' c,Keeps g h'->Ord vs.length p->(2<=vs.length->p=ansT ans (kas_sort vs.length))->h'.get? a=some (seqObj "list" (List.toArray (p.toList.map fun i=>vs.getD i Value.none)) c)->P (.done (.ret .none)) {s with heap:=h'}):
  wpAny (model prog w) A (Builtin.«list.sort» ⟨[.ref a],[]⟩) P E s:=by
 have z0:vs.toArray.size=vs.length:=rfl;have zl:vs.length<=sizeLine:=Nat.le_trans (Nat.le_of_lt h64) (by decide)
 have k1:Keeps g (s.heap.update a (Obj.mapSeq fun _=>(#[]:Array Value))):=hg.upd ga;obtain⟨e1,o1⟩:∃e1,(s.heap.update a (Obj.mapSeq fun _=>(#[]:Array Value))).get? a=some (seqObj "list" #[] e1):=⟨_,get?_update_seq ho _⟩;have k3:=(k1.push (seqObj "tuple" vs.toArray 0)).push (seqObj "list" #[] 0);have o3:=Heap.get?_push_of_some (seqObj "list" #[] 0) (Heap.get?_push_of_some (seqObj "tuple" vs.toArray 0) o1);have fin:∀(p:Array Nat),p.size=vs.length->Ord vs.length p->(2<=vs.length->p=ansT ans (kas_sort vs.length))->∀(st:SortSt),(arrOf st).map (·.2)=List.toArray (p.toList.map fun i=>vs.getD i Value.none)->failedOf st=none->
   P (.done (.ret .none)) {s with heap:=(((s.heap.update a (Obj.mapSeq fun _=>(#[]:Array Value))).push (seqObj "tuple" vs.toArray 0)).push (seqObj "list" #[] 0)).update a (Obj.mapSeq fun _=>(arrOf st).map (·.2))}:=fun p hp or e st hs _=>by
  rw[hs];exact q p _ _ (k3.upd ga) or e (get?_update_seq o3 fun _=>List.toArray (p.toList.map fun i=>vs.getD i Value.none))
 rw[list_sort_plain];refine wpAny_bind (listItems_at ho rfl (wpAny_bind (listUpdate_at ho rfl (wpAny_bind (seqEpoch_at o1 rfl (wpAny_bind (wpAny_newTuple (wpAny_bind (wpAny_newList (wpAny_holding ?_) (Nat.zero_le _))) zl)))) zl (Nat.zero_le _))));dsimp only
 by_cases h2:vs.length<2
 ·rw[z0,if_pos h2,if_pos h2,pure_bind];have hs:(arrOf (SortSt.mk' general' (vs.toArray.zip vs.toArray) #[] 7 none)).map (·.2)=List.toArray ((List.toArray (List.range vs.length)).toList.map fun i=>vs.getD i Value.none):=by
   show(vs.toArray.zip vs.toArray).map (·.2)=_
   rw[show(List.toArray (List.range vs.length)).toList=List.range vs.length from rfl,zgp]
   apply Array.toList_inj.mp
   simp[List.map_snd_zip]
  rw[StateT.run_pure];refine wpAny_bind (wpAny_pure (wpAny_bind (seqEpoch_at o3 rfl (wpAny_bind (listUpdate_at o3 rfl ?_ (Nat.zero_le _) ?_)))))
  ·simp only[show failedOf (SortSt.mk' general' (vs.toArray.zip vs.toArray) #[] 7 none)=none from rfl,bne_self_eq_false,Bool.false_eq_true,if_false];exact wpAny_pure (fin (List.toArray (List.range vs.length)) (by simp) (by unfold Ord;simp) (fun z=>absurd h2 (Nat.not_lt.mpr z)) _ hs rfl)
  ·rw[hs]
   simp
   omega
 ·have h2':2<=vs.length:=by omega
  rw[z0,if_neg h2,if_neg h2];refine wpAny_bind (hk h2' _ k3 _ ?_|>fun x=>wpAny_mono x (fun _ _ y=>y) fun _ _ z=>z.elim);have run:=Asks.wp (R:=Ord vs.length) (Q:=fun p s'=>s'={s with heap:=((s.heap.update a (Obj.mapSeq fun _=>(#[]:Array Value))).push (seqObj "tuple" vs.toArray 0)).push (seqObj "list" #[] 0)}/\Ord vs.length p/\p=ansT ans (kas_sort vs.length)) (fun i j C hi hj=>ha h2' _ k3 i j C hi hj) (zf6 (by omega)) ⟨rfl,Asks.ends (zf6 (by omega)),rfl⟩
  refine wpAny_bind (wpAny_mono (PySem.W.kat_run (E:=E) (ks:=vs) (vs:=vs) (Q:=fun st s'=>∃p:Array Nat,p.size=vs.length/\arrOf st=p.map (kas_item (vs.toArray.zip vs.toArray))/\failedOf st=none/\s'={s with heap:=((s.heap.update a (Obj.mapSeq fun _=>(#[]:Array Value))).push (seqObj "tuple" vs.toArray 0)).push (seqObj "list" #[] 0)}/\Ord vs.length p/\p=ansT ans (kas_sort vs.length)) rfl h2' h64 (fun p st s' b1 b2 b3 b4=>⟨p,b1,b2,b3,b4⟩) run) ?_ fun _ _ e=>e);rintro⟨⟨⟩,st⟩ s' ⟨p,hp,har,hf,rfl,or,e⟩;have hs:=PySem.W.kat_snds (ks:=vs) (vs:=vs) rfl har;dsimp only;refine wpAny_bind (seqEpoch_at o3 rfl (wpAny_bind (listUpdate_at o3 rfl ?_ (Nat.zero_le _) ?_)))
  ·rw[hf];simp only[bne_self_eq_false,Bool.false_eq_true,if_false];exact wpAny_pure (fin p hp or (fun _=>e) st hs hf)
  ·rw[hs]
   simp[hp]
   omega
theorem zpw{l:Addr}{Q:Value->Shared->Prop}(hl:s.heap.IsList l vs.toArray)(h64:vs.length<64)
  (hk:2<=vs.length->∀h',Keeps s.heap h'->∀Q',Q' κ {s with heap:=h'}->wpAny (model prog w) A.in1.in1 (keyKind' vs.toArray) Q' (fun _ _=>False) {s with heap:=h'})
  (ha:2<=vs.length->∀h',Keeps s.heap h'->∀i j C,i<vs.length->j<vs.length->C (ans i j) {s with heap:=h'}->kas_ask prog w A.in1.in1 κ vs i j C {s with heap:=h'})
  (q:∀(p:Array Nat) h' c,Keeps s.heap h'->Ord vs.length p->(2<=vs.length->p=ansT ans (kas_sort vs.length))->h'.get? (s.heap.objs.size+1)=some (seqObj "list" (List.toArray (p.toList.map fun i=>vs.getD i Value.none)) c)->Q (.ref (s.heap.objs.size+1)) {s with heap:=h'}):
  wpAny (model prog w) A (call (.builtin "sorted") [.ref l]) Q E s:=by
 have zl:vs.length<=sizeLine:=Nat.le_trans (Nat.le_of_lt h64) (by decide)
 have k0:Keeps s.heap s.heap:=fun _ _ e=>e;have k2:=((k0.push (seqObj "list" #[] 0)).upd (a:=s.heap.objs.size) (f:=Obj.mapSeq (·++vs.toArray)) (Nat.le_refl _)).push (seqObj "list" vs.toArray 0);have z2:((s.heap.push (seqObj "list" #[] 0)).update s.heap.objs.size (Obj.mapSeq (·++vs.toArray))).objs.size=s.heap.objs.size+1:=by
  rw[Heap.size_update,size_push']
 have o2:(((s.heap.push (seqObj "list" #[] 0)).update s.heap.objs.size (Obj.mapSeq (·++vs.toArray))).push (seqObj "list" vs.toArray 0)).get? (s.heap.objs.size+1)=some (seqObj "list" vs.toArray 0):=
  z2▸Heap.get?_push_size _ rfl
 refine Calls.call_function_entry kind_sorted plain_sorted entry_sorted (args_sorted1 _) ?_;unfold Builtin.«sorted»;refine wpAny_bind (m:=checkCount _ _ _ _) (wpAny_pure (wpAny_bind (collect_list hl (wpAny_bind (wpAny_newList ?_ zl)) zl)));rw[show(({s with heap:=(s.heap.push (seqObj "list" #[] 0)).update s.heap.objs.size (Obj.mapSeq (·++vs.toArray))}:Shared).heap.objs.size)=s.heap.objs.size+1 from z2];refine wpAny_bind (wpAny_holding (wpAny_call_entry slot_list_sort ⟨_,o2,rfl⟩ entry_list_sort (sort_at (s:={s with heap:=_}) (κ:=κ) (ans:=ans) k2 (Nat.le_succ _) o2 h64 hk ha fun p h' c b1 b2 b3 b4=>⟨_,rfl,?_⟩) (args_list_sort _)));exact wpAny_pure ⟨_,rfl,q p h' c b1 b2 b3 b4⟩
end
open PySem.W (KasT kas_sort kas_ask)
section
open PySem.SeqAt
open PySem.AutoSeq1 (wpAny_loadPart')
open PySem.MeetsSeq PySem.MeetsSeq2 PySem.MeetsSeq3
theorem ltRc{A:Around}{s:Shared}{a c:Int}{t u:Tok}(prog:Program)(w:World)(E:Value->Shared->Prop)(Q:Value->Shared->Prop)(h:Q (.bool (decide (a<c))) s):wpAny (model prog w) A (richCompare .Lt (.int a t) (.int c u)) Q E s:=
 (PyProof.Rows.lt_int h:wpAny (model prog w) A (compareOp .Lt (.int a t) (.int c u)) Q E s)
theorem zpv(l b:Addr)(items items2:Array Value)(n n2:Nat)(dd dd2:Option Addr)(sl sl2:Array (Option Value))(ns ms:List Int)(hlen:ns.length=ms.length)(hi:IntsAre items.toList ns)(hj:IntsAre items2.toList ms):
  Meets (Builtin.«tuple.__lt__» ⟨[.ref l,.ref b],[]⟩)
   (fun _ R s=>s.heap.get? l=some {cls:=.type "tuple",dict:=dd,data:=.seq items n,slots:=sl}/\s.heap.get? b=some {cls:=.type "tuple",dict:=dd2,data:=.seq items2 n2,slots:=sl2}/\R (.ok (.ret (.bool (HT.lexLt ns ms)))) s):=
 .of_wp fun prog w A R s h=>by
  obtain⟨hp,g,d,tk,os⟩:=s;obtain⟨hl,hb,h⟩:=h;have f2:=AutoSeq1.sub_tuple_tuple;have z1:items.size=ns.length:=by rw[←hi.length];simp
  have z2:items2.size=ms.length:=by rw[←hj.length];simp
  wp_walk using wpAny_loadPart' hl,wpAny_loadPart' hb,wpAny_forIn_list _ (fun rest b s'=>b.1=none/\s'=⟨hp,g,d,tk,os⟩/\∃(vs ws:List Value)(ns' ms':List Int),rest=vs.zip ws/\IntsAre vs ns'/\IntsAre ws ms'/\ns'.length=ms'.length/\R (.ok (.ret (.bool (HT.lexLt ns' ms')))) ⟨hp,g,d,tk,os⟩) _
  case turn=>
   rintro⟨y,x⟩ rest b s' ⟨hb',rfl,vs,ws,ns',ms',hz,hvi,hwi,hln,hR⟩
   cases hvi with
   |nil=>rw[List.zip_nil_left] at hz;cases hz
   |cons a t hv=>
    cases hwi with
    |nil=>rw[List.zip_nil_right] at hz;cases hz
    |cons c u hw=>
     rw[List.zip_cons_cons] at hz
     injection hz with q1 q2
     injection q1 with q3 q4
     subst q3 q4;rw[HT.lexLt_cons] at hR;simp only[List.length_cons] at hln;obtain⟨e,he,hiff⟩:=HT.eqAt_int A.in1 ⟨hp,g,d,tk,os⟩ a t c u;refine wpAny_bind (he prog w _ _ ?_)
     cases e with
     |true=>
      rw[if_pos (hiff.mp rfl)] at hR
      wp_walk
      exact⟨rfl,rfl,_,_,_,_,q2,hv,hw,by omega,hR⟩
     |false=>
      rw[if_neg (fun q=>absurd (hiff.mpr q) Bool.false_ne_true)] at hR;have hri:=ltRc (A:=A.in1) (s:=⟨hp,g,d,tk,os⟩) (a:=a) (c:=c) (t:=t) (u:=u) prog w
      wp_walk using hri
      exact⟨_,rfl,by simpa using hR⟩
  case fin=>
   rintro⟨b1,b2⟩ s' ⟨hb',rfl,vs,ws,ns',ms',hz,hvi,hwi,hln,hR⟩
   simp only at hb'
   subst hb';have hv:HT.lexLt ns' ms'=decide (items.size<items2.size):=by
    rw[decide_eq_false (by omega)]
    cases hvi with
    |nil=>
     cases hwi with
     |nil=>rfl
     |cons c u hw=>cases hln
    |cons a t hv=>
     cases hwi with
     |nil=>cases hln
     |cons c u hw=>rw[List.zip_cons_cons] at hz;cases hz
   rw[hv] at hR
   wp_walk
   exact⟨_,rfl,by simpa[Builtin.Tuple.tupleCompareSizes] using hR⟩
  case h=>
   exact⟨rfl,rfl,items.toList,items2.toList,ns,ms,rfl,hi,hj,hlen,h⟩
end
def TupI(h:Heap)(v:Value)(ns:List Int):Prop:=∃(a:Addr)(its:Array Value)(n:Nat)(dd:Option Addr)(sl:Array (Option Value)),v=.ref a/\h.get? a=some {cls:=.type "tuple",dict:=dd,data:=.seq its n,slots:=sl}/\IntsAre its.toList ns
def TupP(h:Heap)(v:Value)(ns ms:List Int):Prop:=∃(a:Addr)(x y:Value)(n:Nat)(dd:Option Addr)(sl:Array (Option Value)),v=.ref a/\h.get? a=some {cls:=.type "tuple",dict:=dd,data:=.seq #[x,y] n,slots:=sl}/\TupI h x ns/\TupI h y ms
theorem TupI.keeps{g h:Heap}{v:Value}{ns:List Int}(t:TupI g v ns)(k:Keeps g h):TupI h v ns:=by
 obtain⟨a,its,n,dd,sl,e,o,i⟩:=t;exact⟨a,its,n,dd,sl,e,k _ _ o,i⟩
theorem TupP.keeps{g h:Heap}{v:Value}{ns ms:List Int}(t:TupP g v ns ms)(k:Keeps g h):TupP h v ns ms:=by
 obtain⟨a,x,y,n,dd,sl,e,o,i,j⟩:=t;exact⟨a,x,y,n,dd,sl,e,k _ _ o,i.keeps k,j.keeps k⟩
theorem zgs{h:Heap}:∀{us:List Value}{ns:List Int},IntsAre us ns->∃as,ReadsAll h us (ns.map PyData.int) as
 |_,_,.nil=>⟨_,.nil⟩
 |_,_,.cons n t r=>let⟨_,q⟩:=zgs r;⟨_,.cons (.int n t) q⟩
theorem TupI.reads{h:Heap}{v:Value}{ns:List Int}(t:TupI h v ns):∃as,Reads h v (.tuple (ns.map PyData.int)) as:=by
 obtain⟨a,its,n,dd,sl,rfl,o,i⟩:=t;obtain⟨as,r⟩:=zgs (h:=h) i;exact⟨_,reads_tuple_at o rfl rfl (by simpa using r)⟩
theorem zlz:∀ns:List Int,PyData.canLayAll0 (ns.map PyData.int)=true
 |[]=>rfl
 |n::ns=>by simp only[List.map_cons,PyData.canLayAll0,zlz ns,PyData.canLay0,Bool.and_self]
theorem znr(ns:List Int):PyData.canLay0 (.tuple (ns.map PyData.int))=true:=by
 simp only[PyData.canLay0,zlz ns]
theorem zlq:∀ns:List Int,PyData.depthAll (ns.map PyData.int)<=1
 |[]=>by simp[PyData.depthAll]
 |n::ns=>by
  have:=zlq ns;simp only[List.map_cons,PyData.depthAll,PyData.depth];omega
theorem zl6:∀{ns ms:List Int},PyData.eqvAll (ns.map PyData.int) (ms.map PyData.int)=decide (ns=ms)
 |[],[]=>rfl
 |[],m::ms=>rfl
 |n::ns,[]=>rfl
 |n::ns,m::ms=>by
  simp only[List.map_cons,PyData.eqvAll,PyData.eqv,zl6]
  by_cases h1:n=m<;>by_cases h2:ns=ms<;>simp[h1,h2]
section
variable{prog:Program}{w:World}{A:Around}{E:Value->Shared->Prop}{s:Shared}{C:Bool->Shared->Prop}
theorem zko{x y:Value}{ns ms:List Int}(hx:TupI s.heap x ns)(hy:TupI s.heap y ms)(hu:A.units+64<cLine)(q:C (decide (ns=ms)) s):wpAny (model prog w) A (eqBool x y) C E s:=by
 obtain⟨as,ra⟩:=hx.reads;obtain⟨bs,rb⟩:=hy.reads;refine PySem.SeqAt.eqBoolOverData prog w A E s x y _ _ as bs C ra rb (znr ns) (znr ms) ?_ ?_
 ·have:=zlq ns;have:(PyData.tuple (ns.map PyData.int)).depth<=2:=by simp only[PyData.depth];omega
  have:=Nat.min_le_left (PyData.tuple (ns.map PyData.int)).depth (PyData.tuple (ms.map PyData.int)).depth;omega
 ·simp only[PyData.eqv];rw[zl6];exact q
theorem zpf{x y:Value}{ns ms:List Int}(hx:TupI s.heap x ns)(hy:TupI s.heap y ms)(hl:ns.length=ms.length)(hu:A.units+64<cLine)(q:C (HT.lexLt ns ms) s):wpAny (model prog w) A (oneLt' false x y) C E s:=by
 obtain⟨a,its,n,dd,sl,rfl,o,i⟩:=hx;obtain⟨b,its2,n2,dd2,sl2,rfl,o2,i2⟩:=hy;refine PySem.W.kat_one _ _ ?_;exact richCompare_meets_room (op:=.Lt) ⟨_,o,rfl⟩ ⟨_,o2,rfl⟩ PySem.F.slot_tuple_lt PySem.F.entry_tuple_lt (PySem.F.args_tuple_lt_2 _ _) (zpv a b its its2 n n2 dd dd2 sl sl2 ns ms hl i i2) ⟨o,o2,(fun z=>nomatch z),q⟩ (by omega)
def ltP(a b:List Int×List Int):Bool:=if a.1=b.1 then(if a.2=b.2 then false else HT.lexLt a.2 b.2) else HT.lexLt a.1 b.1
theorem zow{x y:Value}{a b:List Int×List Int}(hx:TupP s.heap x a.1 a.2)(hy:TupP s.heap y b.1 b.2)(l1:a.1.length=b.1.length)(l2:a.2.length=b.2.length)(hu:A.units+64<cLine)(q:C (ltP a b) s):wpAny (model prog w) A (keyLt' (tuples' false) x y) C E s:=by
 obtain⟨p,x1,x2,n,dd,sl,rfl,o,i1,i2⟩:=hx;obtain⟨p',y1,y2,n',dd',sl',rfl,o',j1,j2⟩:=hy;unfold ltP at q;refine PySem.W.kat_lt o rfl o' rfl (PySem.W.kat_cons (zko i1 j1 hu ?_))
 by_cases c:a.1=b.1
 ·rw[if_pos c] at q;rw[decide_eq_true c];refine PySem.W.kat_yes (PySem.W.kat_cons (zko i2 j2 hu ?_))
  by_cases c2:a.2=b.2
  ·rw[if_pos c2] at q;rw[decide_eq_true c2];exact PySem.W.kat_yes (PySem.W.kat_nil q)
  ·rw[if_neg c2] at q;rw[decide_eq_false c2];exact PySem.W.kat_no (zpf i2 j2 l2 hu q)
 ·rw[if_neg c] at q;rw[decide_eq_false c];exact PySem.W.kat_no (zpf i1 j1 l1 hu q)
end
open PySem.W (KatTups) in
theorem ktups{h:Heap}:∀vs:List Value,(∀v,v∈vs->∃a b,a≠[]/\TupP h v a b)->∃fs,fs.length=vs.length/\KatTups h vs fs/\∀f,f∈fs->∃ns,TupI h f ns
 |[],_=>⟨[],rfl,.nil,fun f hf=>by cases hf⟩
 |v::vs,hv=>by
  obtain⟨fs,l,t,r⟩:=ktups vs fun u hu=>hv u (List.mem_cons_of_mem _ hu);obtain⟨a,b,ne,p,x,y,n,dd,sl,rfl,o,i,j⟩:=hv v (List.mem_cons_self ..);refine⟨x::fs,by simp[l],.cons o rfl rfl rfl t,fun f hf=>?_⟩
  rcases List.mem_cons.mp hf with rfl|hf
  ·exact⟨_,i⟩
  ·exact r f hf
theorem zgy{M:Model}{A:Around}{E:Value->Shared->Prop}{s:Shared}{vs:List Value}{Q:SortKind->Shared->Prop}(hn:0<vs.length)(hv:∀v,v∈vs->∃a b,a≠[]/\TupP s.heap v a b)(q:Q (tuples' false) s):wpAny M A (keyKind' vs.toArray) Q E s:=by
 obtain⟨fs,l,t,r⟩:=ktups vs hv;refine PySem.W.kat_kind (T:=.type "tuple") t (by omega) (fun f hf=>?_) (by decide) ?_
 ·obtain⟨ns,a,its,n,dd,sl,rfl,o,_⟩:=r f hf;exact(PySem.W.Looks.ld o).andThen .now
 ·rw[show(Value.type "tuple"!=Value.type "tuple")=false from by decide]
  exact q
theorem zfa:∀{xs:List V}{us:List Value},Vals xs us->∀i,i<xs.length->RelV (xs.getD i .non) (us.getD i Value.none)
 |_,_,.nil,i,h=>by cases h
 |_,_,.cons r t,0,_=>r
 |_,_,.cons r t,i+1,h=>zfa t i (Nat.lt_of_succ_lt_succ h)
theorem zhc{f:Nat->V}{g:Nat->Value}:∀l:List Nat,(∀i,i∈l->RelV (f i) (g i))->Vals (l.map f) (l.map g)
 |[],_=>.nil
 |i::l,h=>.cons (h i (List.mem_cons_self ..)) (zhc l fun j hj=>h j (List.mem_cons_of_mem _ hj))
section
variable{X:Cx}{pins:List (Addr×Obj)}{σ:St}{H:Hp}{s:Shared}
theorem zf8(I:Inv X pins σ H s){a:Addr}{ns:List Int}(h:H a=some (.tup (ns.map V.int))):TupI s.heap (.ref a) ns:=by
 obtain⟨its,r,⟨⟨cls,dd,data,sl⟩,ho,hc,n,hd⟩,_⟩:=I.tuple (.of h)
 simp only at hc hd
 subst hc hd;exact⟨a,_,n,dd,sl,rfl,ho,zgm r⟩
theorem zg6:bootBuiltins "sorted"=some (.builtin "sorted"):=by decide+kernel
theorem hu100{A:Around}{k:Nat}(hr:Room k A):A.units+100<cLine:=by have:=hr.un;omega
end
structure OnlyT(ts:List Addr)(H:Hp):Prop where
 only:∀b,H b=none∨(∃o xs,H b=some (.frz o (.lst xs)))∨(b∈ts/\H b=some (.tbl #[]))
 tabs:∀b,b∈ts->H b=some (.tbl #[])
theorem zox{P:Program}{w:World}{K:PySem.W.Frag}{mg mb:Str->Option Value}{CX:CXT}{k:Nat}{fa a:Addr}{fd:FuncData}{x:Str}{sp:Sp}{s₁:Shared}{vs:List Value}{ns:List Int}{ts:List Addr}
  (KX:K.In s₁.heap)(hns:s₁.heap.Ns mainGlobals mg)(hb:s₁.heap.Ns builtinsNs mb)(hbb:∀x:Str,x≠"__name__"->mb x=bootBuiltins x)(hlim:s₁.heap.NoLimit)(hg:s₁.gens=#[])
  (ha:s₁.heap.get? a=some {cls:=.type "list",data:=.seq vs.toArray})(hi:IntsAre vs ns)(hl:ns.length<=sizeLine)(hr:Room k callerA)
  (hT:∀b,b∈ts->s₁.heap.get? b=some (PySem.W.tabObj #[])/\K.lookup b=none/\isCodeTable s₁.heap b)
  (hbm:∃bm ob,mg "__builtins__"=some (.ref bm)/\bm≠builtinsNs/\s₁.heap.get? bm=some ob/\ob.cls=.type "module"/\ob.dict=some builtinsNs/\ob.data=.plain)
  (F:∀base:Heap,K.In base->base.Ns mainGlobals mg->(∀b,b∈ts->base.BuiltinsAt mg b)->FnOk P w K mg base CX k fa fd [x] sp) (hbind:∀(s:Shared)(u:Value),BindsTo s fd ⟨[u],[]⟩ [(x,u)])
  (hsp:∀H:Hp,OnlyT ts H->SqL K H a (ns.map V.int)->sp [.ref a] H (fun v _=>v=.bl true) fun _ _ _=>False)
  (hCX:∀H e s',CX [] H s₁ (fun _ _ _=>False) e s'->False):
  codeAny (model P w) callerA (.call (.ref fa) ⟨[.ref a],[]⟩) (fun r s'=>r=.ok (.ret (.bool true))/\OldK s₁.heap s'.heap/\s'.os=s₁.os/\AllBare s'.gens) s₁:=by
 have rv:=ziw hi;have lenV:=hi.length;have naT:a∉ts:=fun z=>by
  have e:=(hT a z).1;rw[ha] at e
  cases e
 have core:∀H:Hp,OnlyT ts H->SqL K H a (ns.map V.int)->HOk P w H s₁.heap->(∀b,H b≠none->b=a∨b∈ts)->(H a≠none->K.lookup a=none)->
   codeAny (model P w) callerA (.call (.ref fa) ⟨[.ref a],[]⟩) (fun r s'=>r=.ok (.ret (.bool true))/\OldK s₁.heap s'.heap/\s'.os=s₁.os/\AllBare s'.gens) s₁:=by
  intro H hO hS hok hA hK;have base_of:∀{b:Addr}{o:Obj},s₁.heap.get? b=some o->H b=none->(hidT s₁.heap H).get? b=some o:=fun e n=>hidT_get e n;have noD:∀{b:Addr}{o:Obj},s₁.heap.get? b=some o->o.cls≠.none->o.cls≠.type "list"->H b=none:=fun{b o} e d1 d2=>by
   cases q:H b with
   |none=>rfl
   |some u=>
    rcases hA b (by rw[q];simp) with e'|e'
    ·subst e';rw[ha] at e;cases e;exact absurd rfl d2
    ·rw[(hT b e').1] at e;cases e;exact absurd rfl d1
  have noA:∀{b:Addr}{o:Obj}{es:Array DictEntry}{ep:Nat},s₁.heap.get? b=some o->o.data=.dict es ep->H b=none:=fun{b o es ep} e d=>by
   cases q:H b with
   |none=>rfl
   |some u=>
    rcases hA b (by rw[q];simp) with e'|e'
    ·subst e';rw[ha] at e;cases e;have d':Data.seq vs.toArray _=Data.dict es ep:=d
     cases d'
    ·rw[(hT b e').1] at e;cases e;have d':Data.fields #[]=Data.dict es ep:=d
     cases d'
  have nsK:∀{b:Addr}{m:Str->Option Value},s₁.heap.Ns b m->(hidT s₁.heap H).Ns b m:=fun{b m}⟨o,es,ep,e,d,r⟩=>⟨o,es,ep,base_of e (noA e d),d,r⟩;have hKb:K.In (hidT s₁.heap H):=fun b o e=>base_of (KX b o e) (by
   cases q:H b with
   |none=>rfl
   |some u=>
    rcases hA b (by rw[q];simp) with e'|e'
    ·subst e';rw[hK (by rw[q];simp)] at e;cases e
    ·rw[(hT b e').2.1] at e;cases e)
  have hM:Mod K mg (hidT s₁.heap H):=⟨hKb,nsK hns,⟨mb,nsK hb,hbb⟩,let⟨mc,h1,h2⟩:=hlim;⟨mc,nsK h1,h2⟩⟩;have hB:∀b,b∈ts->(hidT s₁.heap H).BuiltinsAt mg b:=fun b hb'=>by
   obtain⟨bm,ob,b1,b2,b3,b4,b5,b6⟩:=hbm;refine⟨bm,ob,b1,b2,fun q=>?_,fun q=>?_,base_of b3 (noD b3 (by rw[b4];simp) (by rw[b4];simp)),b4,b5,b6⟩
   ·obtain⟨o,es,ep,e,d,_⟩:=hns;rw[←q,b3] at e;cases e;rw[b6] at d;cases d
   ·rw[q,(hT b hb').1] at b3;cases b3;cases b4
  have e0:Env0 P w K mg (hidT s₁.heap H) callerA [] s₁ H:=⟨rfl,hM,fun b o e=>of_hidT e,Nat.le_of_eq (znk _ _),trivial,fun b hb=>absurd (show b∈([]:List Addr) from hb) (by simp),hok,.of_eq hg⟩
  refine codeAny_mono ((F _ hKb (nsK hns) hB).run callerA [] s₁ H ⟨[.ref a],[]⟩ [.ref a] [.ref a] _ _ hr e0 (hbind s₁ (.ref a)) (.cons rfl .nil) (hsp H hO hS)) fun r s' h=>?_
  cases r with
  |error e=>exact(hCX H e s' h).elim
  |ok fl=>
   cases fl with
   |next=>exact False.elim h
   |brk=>exact False.elim h
   |cont=>exact False.elim h
   |ret u=>
    obtain⟨v,H',os,bare,un,hok',r',q⟩:=h;have q':v=.bl true:=q;subst q';obtain rfl:u=Value.bool true:=r';have at':∀b o,s₁.heap.get? b=some o->asItWas s₁.heap s'.heap b o:=fun b o e=>by
     cases q:H b with
     |none=>exact .inl (un.keep b o e q (by intro z;exact absurd (show b∈([]:List Addr) from z) (by simp)) (by simp))
     |some u=>
      rcases hO.only b with z|⟨ob,xs,z⟩|⟨hbt,z⟩
      ·rw[q] at z;cases z
      ·have z2:=un.frzs b ob _ z;obtain⟨e1,_⟩:=hok b _ z;obtain⟨e2,_⟩:=hok' b _ z2;rw[e] at e1;cases e1;exact .inl e2
      ·obtain⟨more,z2⟩:=un.tbls b _ z;have e2:s'.heap.get? b=some {cls:=.none,data:=.fields (#[]++more)}:=hok' b _ z2;have e1:=(hT b hbt).1;rw[e] at e1;cases e1;exact .inr (.inl ⟨(hT b hbt).2.2,rfl,#[],more,rfl,e2⟩)
    exact⟨rfl,⟨at',fun b o e=>un.there b o e (by simp)⟩,os,bare⟩
 cases hk:K.lookup a with
 |some o=>
  have e:=KX a o hk;rw[ha] at e
  cases e;refine core (fun b=>if b∈ts then some (.tbl #[]) else none) ⟨fun b=>?_,fun b hb'=>if_pos hb'⟩ (.inr ⟨_,vs.toArray,_,hk,rfl,rfl,rfl,by rw[List.size_toArray,lenV];exact hl,by simpa using rv⟩) (fun b u z=>?_) (fun b z=>?_) fun z=>absurd (if_neg naT) z
  ·by_cases hbt:b∈ts
   ·exact .inr (.inr ⟨hbt,if_pos hbt⟩)
   ·exact .inl (if_neg hbt)
  ·by_cases hbt:b∈ts
   ·have z':=(if_pos hbt).symm.trans z
    cases z';exact(hT b hbt).1
   ·have z':=(if_neg hbt).symm.trans z
    cases z'
  ·by_cases hbt:b∈ts
   ·exact .inr hbt
   ·exact absurd (if_neg hbt) z
 |none=>
  refine core (fun b=>if b=a then some (.frz {cls:=.type "list",data:=.seq vs.toArray} (.lst (ns.map V.int))) else if b∈ts then some (.tbl #[]) else none) ⟨fun b=>?_,fun b hb'=>?_⟩ (.inl (.inr ⟨{cls:=.type "list",data:=.seq vs.toArray},if_pos rfl⟩)) (fun b u z=>?_) (fun b z=>?_) fun _=>hk
  ·by_cases hb:b=a
   ·exact .inr (.inl ⟨_,_,if_pos hb⟩)
   ·by_cases hbt:b∈ts
    ·exact .inr (.inr ⟨hbt,(if_neg hb).trans (if_pos hbt)⟩)
    ·exact .inl ((if_neg hb).trans (if_neg hbt))
  ·have hb:¬b=a:=fun z=>naT (z▸hb');exact(if_neg hb).trans (if_pos hb')
  ·by_cases hb:b=a
   ·have z':=(if_pos hb).symm.trans z
    cases z';subst hb;exact⟨ha,by rw[List.length_map];exact hl,vs,_,rv,ha⟩
   ·by_cases hbt:b∈ts
    ·have z':=((if_neg hb).trans (if_pos hbt)).symm.trans z
     cases z';exact(hT b hbt).1
    ·have z':=((if_neg hb).trans (if_neg hbt)).symm.trans z
     cases z'
  ·by_cases hb:b=a
   ·exact .inl hb
   ·by_cases hbt:b∈ts
    ·exact .inr hbt
    ·exact absurd ((if_neg hb).trans (if_neg hbt)) z
theorem walk_ofT{l:PySem.W.OpenLaw}{n k:Nat}{q:Program}{loose:List Str}{XP:(Str->Option Value)->Heap->Prop}{YP:World->Heap->Prop}{d:DefRec}{K:Params->PySem.W.Frag}{CX:World->CXT}{sp:World->List Addr->Sp}{x:Str}{ds:List Str}
  (hn:l.most=some n)(hn2:n<=sizeLine)(hdf:d.params.defaults=[])(hr:Room k callerA)
  (hY:∀(w:World)(h:Heap),YP w h->(K w.params).In h)
  (hD:∀y,y∈ds->∃e,(recsOf q).find? (fun e=>e.name==y)=some e)
  (F:∀(w:World)(mg:Str->Option Value)(fa:Addr)(h:Heap),(K w.params).In h->h.Ns mainGlobals mg->mg d.name=some (.ref fa)->
   ∃(fd:FuncData)(ts:List Addr),(∀b,b∈ts->(K w.params).lookup b=none/\∃y c,y∈ds/\PySem.W.tabIn (K w.params) y=some (c,b))/\(∀(s:Shared)(u:Value),BindsTo s fd ⟨[u],[]⟩ [(x,u)])/\
    ∀base:Heap,(K w.params).In base->base.Ns mainGlobals mg->(∀b,b∈ts->base.BuiltinsAt mg b)->FnOk l.prog w (K w.params) mg base (CX w) k fa fd [x] (sp w ts))
  (hsp:∀(w:World)(H:Hp)(a:Addr)(ns:List Int)(ts:List Addr),ns.length<=n->OnlyT ts H->SqL (K w.params) H a (ns.map V.int)->sp w ts [.ref a] H (fun v _=>v=.bl true) fun _ _ _=>False)
  (hCX:∀(w:World)(H:Hp)(s:Shared)(e:Value)(s':Shared),CX w [] H s (fun _ _ _=>False) e s'->False):
  PySem.W.WalkO q loose XP YP l.row.toRowW d [] (fun f vs=>PySem.call f vs):=by
 refine Att.attach_call hn hdf fun w s₀ s₁ mg mb fa o pm cd doc a vs ns G Y ho hd hcd hmg hobj hints hlen hg=>?_;have KX:=hY w _ Y;obtain⟨fd,ts,ht,hb,hF⟩:=F w mg fa _ KX G.T.g hmg;refine zox (ts:=ts) KX G.T.g G.T.b G.T.builtins G.T.nolimit hg hobj hints (Nat.le_trans hlen hn2) hr (fun b hb'=>?_) G.T.bmain hF hb (fun H hO hS=>hsp w H a ns ts hlen hO hS) fun H e s'=>hCX w H s₁ e s';obtain⟨hk,y,c,hy,e⟩:=ht b hb';obtain⟨r,hr'⟩:=hD y hy;obtain⟨C,hP⟩:=PySem.W.tab_of G.T KX hr' e;exact⟨hP,hk,(C.tab hP).isCodeTable⟩
open PySem.W (kla_fn kla_obj envX tabObj CodeHd)
structure zfu(x y:Str)(sc:Scope):Prop where
 kind:sc.kind=.function
 co:sc.isCoroutine=false
 gen:sc.isGenerator=false
 par:sc.names.lookup x=some .local
 cap:sc.names.lookup y=some .free
 nocell:∀z,z∈sc.names->z.2≠.cell
 free:∀z,z∈sc.names->z.2=.free->z.1=y
def zo1(P:Program)(w:World)(K:PySem.W.Frag)(mg:Str->Option Value)(base:Heap)(x y:Str)(qual:Str)(sc:Scope)(f:Addr)(cd:Value)(c:Addr)(A:Around)(outer:List Env)(s:Shared)(H:Hp):Cx where
 prog:=P
 w:=w
 K:=K
 mg:=mg
 base:=base
 A:=A.deeper (envX qual sc s.heap.objs.size f cd [(y,c)])
 N:=[x,y]
 s₀:=s
 H₀:=H
 env:=envX qual sc s.heap.objs.size f cd [(y,c)]
 outer:=outer
 stack:=envX qual sc s.heap.objs.size f cd [(y,c)]::outer
 ex:=[]
 calm:=true
 fn:=fun _=>false
 pn:=[]
 xe:=fun _ _=>False
theorem zea{y z:Str}{c d:Addr}(h:([(y,c)]:List (Str×Addr)).lookup z=some d):z=y/\d=c:=by
 rw[List.lookup_cons] at h
 by_cases e:z=y
 ·subst e;rw[beq_self_eq_true] at h
  cases h;exact⟨rfl,rfl⟩
 ·rw[beq_eq_false_iff_ne.mpr e] at h
  cases h
theorem zgc(y:Str)(c:Addr):([(y,c)]:List (Str×Addr)).lookup y=some c:=by rw[List.lookup_cons,beq_self_eq_true]
theorem inv_lam{P:Program}{w:World}{K:PySem.W.Frag}{mg:Str->Option Value}{base:Heap}{x y qual:Str}{sc:Scope}{f c:Addr}{cd:Value}{A:Around}{outer:List Env}{s:Shared}{H:Hp}{u uy:Value}{v vy:V}{h₁:Heap}{tk:Nat}
  (S:zfu x y sc)(hd:A.handled=none)(e0:Env0 P w K mg base A outer s H)(ru:RelV v u)(ry:RelV vy uy)(hc:s.heap.IsCell c (some uy))(hcn:H c=none)
  (hns:h₁.Ns s.heap.objs.size (fun z=>([(x,u)]:List (Str×Value)).reverse.lookup z))(hk:∀b o,s.heap.get? b=some o->h₁.get? b=some o):
  Inv (zo1 P w K mg base x y qual sc f cd c A outer s H) [] [some v,some vy] H {s with heap:=h₁,toks:=tk}:=by
 have noA:∀b:Addr,b∉(zo1 P w K mg base x y qual sc f cd c A outer s H).ex:=fun b z=>absurd (show b∈([]:List Addr) from z) (by simp)
 refine⟨⟨e0.mod,S.kind,rfl,rfl,Nat.le_refl _,fun y1 z1 d h1 h2=>?_,fun z hz=>?_,fun z d hf _=>?_,fun _=>hd,Around.frames_deeper e0.frames,.inr ⟨rfl,rfl⟩,fun b z=>absurd z (noA b),e0.bs,e0.bsz,fun b _ _=>noA b,fun b z=>absurd z (noA b),e0.funs,e0.frf⟩,
  rfl,e0.bare,Un.kept hk,⟨_,hns,fun i z v' h1 h2 h3=>?_⟩,fun z d h=>?_,e0.hok.fresh (Nat.le_refl _),fun z d h=>?_,fun p hp=>absurd (show p∈([]:List (Addr×Obj)) from hp) (by simp),e0.hok.kept hk,rfl⟩
 ·exact(zea h1).1.trans (zea h2).1.symm
 ·have hz:sc.names.lookup z=some .cell∨sc.names.lookup z=some .free:=hz;rcases hz with hz|hz
  ·exact absurd rfl (S.nocell _ (PySem.mem_of_lookup hz))
  ·have e:=S.free _ (PySem.mem_of_lookup hz) rfl;have e:z=y:=e;subst e;exact⟨c,zgc _ _⟩
 ·cases hf
 ·match i,h1,h2 with
  |0,h1,h2=>
   cases h1
   cases h2;refine⟨u,ru,.inl ⟨S.par,?_⟩⟩;show([(x,u)]:List (Str×Value)).reverse.lookup x=some u
   simp
  |1,h1,h2=>
   cases h1
   cases h2;obtain⟨o,ho,hd'⟩:=hc;exact⟨uy,ry,.inr ⟨.inr S.cap,c,zgc _ _,o,hk _ _ ho,hd'⟩⟩
 ·obtain⟨_,rfl⟩:=zea h;obtain⟨o,ho,hd'⟩:=hc;exact⟨_,o,hk _ _ ho,hd'⟩
 ·obtain⟨_,rfl⟩:=zea h;exact hcn
section
variable{X:Cx}{pins:List (Addr×Obj)}{σ:St}{H:Hp}{s:Shared}
theorem lam_run{A:Around}{k:Nat}{x y name qual:Str}{params:Arguments}{body:Expr}{sc:Scope}{fa c c':Addr}{pm ctv u uy:Value}{v vy:V}{te:TE}{Q:VK}(I:Inv X pins σ H s)
  (e0:Env0 X.prog X.w X.K X.mg X.base A X.stack s H)(hr:Room k A)(S:zfu x y sc)(ho:s.heap.get? fa=some (kla_obj name qual params body sc [(y,c)] pm c' ctv))(hcd:s.heap.CodeRec (.ref c') qual)
  (hb:bindArgs (kla_fn name qual params body sc [(y,c)] pm (.ref c') ctv) ⟨[u],[]⟩=pure [(x,u)])(ru:RelV v u)(ry:RelV vy uy)(hc:s.heap.IsCell c (some uy))(hcn:H c=none)
  (hbody:PE (zo1 X.prog X.w X.K X.mg X.base x y qual sc fa (.ref c') c A X.stack s H) body te)(q:te [some v,some vy] H Q):
  wpAny (model X.prog X.w) A (call (.ref fa) [u]) (EP X pins σ Q) (fun _ _=>False) s:=by
 refine wpAny_call (codeAny_mono (R:=CR CX0 X.stack X.prog X.w H s Q E0) ?_ fun r s' hq=>?_)
 ·refine PySem.W.kla_callFunE hr.depth ho rfl S.co S.gen rfl hcd ?_;rw[hb];refine wpAny_pure (wpAny_newFunctionEnv S.nocell (fun z hz=>?_) (fun h₁ hns hsb=>⟨I.nolimit.fresh _ hsb,?_⟩) S.kind)
  ·rw[List.mem_singleton] at hz;rw[hz];exact S.par
  ·show codeAny _ _ (.expr body (envX qual sc s.heap.objs.size fa (.ref c') [(y,c)])) _ _
   have kp:∀d u,s.heap.get? d=some u->h₁.get? d=some u:=fun d u z=>hsb.extBut d u (Nat.ne_of_lt (Heap.lt_size z)) (Heap.get?_push_of_some _ z);have J:=inv_lam (tk:=s.toks+1) (f:=fa) (qual:=qual) (cd:=.ref c') S hr.hd e0 ru ry hc hcn hns kp;refine PySem.W.kla_codeExpr (wpAny_mono (hbody [] _ _ H Q J q) (fun r s' hs=>?_) fun e s' hs=>hs.elim);obtain⟨v',H',J',r',q'⟩:=hs;exact⟨v',H',J'.os,J'.bare,J'.base,J'.hok,r',q'⟩
 ·cases r with
  |error e=>exact hq.elim
  |ok fl=>
   cases fl with
   |ret u=>exact I.after hq
   |next=>exact False.elim hq
   |brk=>exact False.elim hq
   |cont=>exact False.elim hq
end
open PySem.W (kla_fn kla_obj envX tabObj CodeHd)
def zjb(c:Addr)(q:Str):HO:=.ext fun h=>h.CodeRec (.ref c) q
def zbq(H:Hp)(P:Addr)(pos:Pos)(q:Str):Prop:=∃ps,H P=some (.tbl ps)/\TriplesOk ps.toList/\(codeAmong pos ps.toList=none∨∃c,codeAmong pos ps.toList=some (.ref c)/\H c=some (zjb c q))
def zb0(P:Addr)(H H':Hp):Prop:=∀b o,b≠P->H b=some o->H' b=some o
theorem zb0.refl(P:Addr)(H:Hp):zb0 P H H:=fun _ _ _ h=>h
theorem zb0.of{P:Addr}{H H':Hp}(g:Same H H'):zb0 P H H':=fun b o _ h=>g b o h
theorem zb0.trans{P:Addr}{H H1 H2:Hp}(a:zb0 P H H1)(b:zb0 P H1 H2):zb0 P H H2:=fun c o n h=>b c o n (a c o n h)
theorem zbq.same{H H':Hp}{P:Addr}{pos:Pos}{q:Str}(h:zbq H P pos q)(g:Same H H'):zbq H' P pos q:=by
 obtain⟨ps,e,t,z⟩:=h;refine⟨ps,g _ _ e,t,?_⟩;rcases z with z|⟨c,z,y⟩
 ·exact .inl z
 ·exact .inr ⟨c,z,g _ _ y⟩
section
variable{X:Cx}{pins:List (Addr×Obj)}{σ:St}{H:Hp}{s:Shared}
theorem lam_make{params:Arguments}{body:Expr}{sc:Scope}{pos:Pos}{c0 P:Addr}{clos:List (Str×Addr)}{Q:Value->Shared->Prop}(I:Inv X pins σ H s)(hcode:X.env.code=.ref c0)(C:CodeHd X.base c0 P)(hB:X.base.BuiltinsAt X.mg P)
  (hcl:closureFor sc X.env=pure clos)(hdef:defaultsOf params X.env=([],[]))(ht:zbq H P pos (X.env.qual++"<lambda>"))
  (q:∀(fa c':Addr)(ctv:Value)(H':Hp)(s':Shared),Inv X pins σ H' s'->zb0 P H H'->zbq H' P pos (X.env.qual++"<lambda>")->s'.heap.get? fa=some (kla_obj "<lambda>" (X.env.qual++"<lambda>") params body sc clos ((X.mg "__name__").getD .none) c' ctv)->
   H' c'=some (zjb c' (X.env.qual++"<lambda>"))->FpOk X pins H' fa->Q (.ref fa) s'):
  wpAny (model X.prog X.w) X.A (eval (.Lambda params body sc pos) X.env) Q X.xe s:=by
 obtain⟨ps,hP,tr,alt⟩:=ht;have hPh:s.heap.get? P=some (tabObj ps):=I.hok P _ hP;have kb:=I.bk;have hg:s.heap.Ns mainGlobals X.mg:=I.ok.mod.glob.keeps kb;have Cs:=C.keeps kb;have Bs:s.heap.BuiltinsAt X.mg P:=by
  obtain⟨bm,o,b1,b2,b3,b4,b5,b6⟩:=hB;exact⟨bm,o,b1,b2,b3,b4,kb _ _ b5,b6⟩
 have neG:mainGlobals≠P:=fun z=>by
  obtain⟨o,es,ep,e,hd,_⟩:=hg;rw[z,hPh] at e;cases e;cases hd
 refine PySem.W.kla_eval hdef ?_;rcases alt with hn|⟨c',hf,hc'⟩
 ·refine PySem.W.kla_makeFunction hcl I.ok.glob hg hcode Cs hPh tr hn neG Bs fun c' ctv h' tk hx hge hlt hrec htb=>?_;have neC:∀b u,H b=some u->b≠c':=fun b u e z=>by
   rw[z,I.hok.fresh hge] at e;cases e
  have nP:∀b,H b=none->b≠P:=fun b n z=>by rw[z,hP] at n;cases n
  have cP:c'≠P:=fun z=>by rw[←z,I.hok.fresh hge] at hP;cases hP
  have keep:∀b o,b≠P->s.heap.get? b=some o->(h'.push (kla_obj "<lambda>" (X.env.qual++"<lambda>") params body sc clos ((X.mg "__name__").getD .none) c' ctv)).get? b=some o:=fun b o n e=>Heap.get?_push_of_some _ (hx b o n e);have hP':=Heap.get?_push_of_some (kla_obj "<lambda>" (X.env.qual++"<lambda>") params body sc clos ((X.mg "__name__").getD .none) c' ctv) htb;have upP:∀b u,b≠P->H b=some u->upd (upd H P (.tbl (ps++#[rawInt pos.line,rawInt pos.col,.ref c']))) c' (zjb c' (X.env.qual++"<lambda>")) b=some u:=fun b u n e=>by rw[za5 (neC b u e),za5 n];exact e
  have up0:upd (upd H P (.tbl (ps++#[rawInt pos.line,rawInt pos.col,.ref c']))) c' (zjb c' (X.env.qual++"<lambda>")) P=some (.tbl (ps++#[rawInt pos.line,rawInt pos.col,.ref c'])):=by rw[za5 cP.symm,upd_same]
  have J:Inv X pins σ (upd (upd H P (.tbl (ps++#[rawInt pos.line,rawInt pos.col,.ref c']))) c' (zjb c' (X.env.qual++"<lambda>"))) {s with heap:=h'.push (kla_obj "<lambda>" (X.env.qual++"<lambda>") params body sc clos ((X.mg "__name__").getD .none) c' ctv),toks:=tk}:=by
   refine I.step (g':=s.gens) (d':=s.drawn) (ch:=[]) (fun _ z=>nomatch z) (fun b o _ _ _ e n=>keep b o (nP b n) e) (fun b o _ _ _ e n=>⟨o.slots,keep b o (nP b n) e⟩) (fun b o _ e n=>?_) (fun b o _ e=>?_) (fun b xs e=>?_) (fun b o u e=>?_) (fun b qs e=>?_) (fun m hm=>?_) (fun b u e=>?_) I.bare
   ·rw[za5 (Nat.ne_of_lt (Nat.lt_of_lt_of_le (Heap.lt_size e) hge)),za5 (nP b n)];exact n
   ·by_cases z:b=P
    ·exact⟨_,z▸hP'⟩
    ·exact⟨o,keep b o z e⟩
   ·exact upP b _ (fun z=>by rw[z,hP] at e;cases e) e
   ·exact upP b _ (fun z=>by rw[z,hP] at e;cases e) e
   ·by_cases z:b=P
    ·subst z;rw[hP] at e
     cases e;exact⟨_,up0⟩
    ·exact⟨#[],by rw[upP b _ z e];simp⟩
   ·obtain⟨o,es,ep,ho,r⟩:=hm;exact⟨o,es,ep,keep _ o (nP _ I.free) ho,r⟩
   ·by_cases z:b=c'
    ·subst z;rw[upd_same] at e
     cases e;have hr2:=hrec.push (kla_obj "<lambda>" (X.env.qual++"<lambda>") params body sc clos ((X.mg "__name__").getD .none) b ctv);obtain⟨c2,oc,vs,t,e2,hoc,hd,hv⟩:=id hr2
     cases e2;refine⟨hr2,⟨oc,hoc⟩,fun h1 h2 ph k=>?_⟩;obtain⟨c3,oc3,vs3,t3,e3,hoc3,hd3,hv3⟩:=ph
     cases e3;exact⟨_,oc3,vs3,t3,rfl,k _ hoc3,hd3,hv3⟩
    ·rw[za5 z] at e
     by_cases y:b=P
     ·subst y;rw[upd_same] at e
      cases e;exact hP'
     ·rw[za5 y] at e;refine(I.hok b u e).stay (fun d v hd hv=>keep d v ?_ hv) (fun d hd=>?_) fun d xs hd=>?_
      ·rcases hd with rfl|hd
       ·exact y
       ·intro z';rw[z',hP] at hd;cases hd
      ·exact upP d _ (fun z'=>by rw[z',hP] at hd;cases hd) hd
      ·exact upP d _ (fun z'=>by rw[z',hP] at hd;cases hd) hd
  refine q h'.objs.size c' ctv _ _ J (fun b o n e=>upP b o n e) ⟨_,up0,?_,.inr ⟨c',?_,upd_same⟩⟩ (Heap.get?_push_size _ rfl) upd_same ?_
  ·rw[Array.toList_append];exact TriplesOk_snoc _ _ _ _ tr
  ·rw[Array.toList_append];exact codeAmong_snoc _ tr hn
  ·have hsz:s.heap.objs.size<=h'.objs.size:=Nat.le_trans hge (Nat.le_of_lt hlt);have nf:upd (upd H P (.tbl (ps++#[rawInt pos.line,rawInt pos.col,.ref c']))) c' (zjb c' (X.env.qual++"<lambda>")) h'.objs.size=none:=by
    rw[za5 (Nat.ne_of_gt hlt),za5]
    ·exact I.hok.fresh hsz
    ·intro z;rw[←z,I.hok.fresh hsz] at hP
     cases hP
   exact I.fpOk hsz nf
 ·have hrec:s.heap.CodeRec (.ref c') (X.env.qual++"<lambda>"):=(I.hok c' _ hc').1;refine PySem.W.kla_makeFunctionHit hcl I.ok.glob hg hcode Cs hPh tr hf Bs fun ctv h' tk hk hsz=>?_;have J:Inv X pins σ H {s with heap:=h'.push {cls:=.type "function",data:=.func (kla_fn "<lambda>" (X.env.qual++"<lambda>") params body sc clos ((X.mg "__name__").getD .none) (.ref c') ctv)},toks:=tk}:=I.kept fun b o e=>Heap.get?_push_of_some _ (hk b o e);exact q h'.objs.size c' ctv H _ J (.refl P H) ⟨ps,hP,tr,.inr ⟨c',hf,hc'⟩⟩ (Heap.get?_push_size _ rfl) hc' (I.fpOk hsz (I.hok.fresh hsz))
end
open PySem.W (KasT kas_sort kas_ask kas_item)
section
variable{prog:Program}{w:World}{A:Around}{E:Value->Shared->Prop}{s:Shared}{vs ks:List Value}{g:Heap}{a kS:Addr}{e e1:Nat}{f:Value}
def KeyFin(prog:Program)(w:World)(A:Around)(a kS:Addr)(e1:Nat)(vs ks:List Value)(P:PySem.Fin->Shared->Prop)(s:Shared):Prop:=
 s.heap.get? a=some (seqObj "list" #[] e1)/\∃(κ:SortKind)(ans:Nat->Nat->Bool),
  (2<=vs.length->∀Q':SortKind->Shared->Prop,Q' κ s->wpAny (model prog w) A (keyKind' ks.toArray) Q' (fun _ _=>False) s)/\
  (2<=vs.length->∀i j C,i<vs.length->j<vs.length->C (ans i j) s->kas_ask prog w A κ ks i j C s)/\
  ∀p:Array Nat,Ord vs.length p->(2<=vs.length->p=ansT ans (kas_sort vs.length))->P (.done (.ret .none)) {s with heap:=(s.heap.update kS (Obj.mapSeq fun _=>(#[]:Array Value))).update a (Obj.mapSeq fun _=>List.toArray (p.toList.map fun i=>vs.getD i Value.none))}
theorem zh0{st:SortSt}{p:Array Nat}{P:PySem.Fin->Shared->Prop}(hs:(arrOf st).map (·.2)=List.toArray (p.toList.map fun i=>vs.getD i Value.none))(hf:failedOf st=none)(hz:p.size=vs.length)(h64:vs.length<64)(hkl:ks.length<64)(nak:a≠kS)
  (hk:s.heap.get? kS=some (seqObj "list" ks.toArray e))(ha:s.heap.get? a=some (seqObj "list" #[] e1))
  (q:P (.done (.ret .none)) {s with heap:=(s.heap.update kS (Obj.mapSeq fun _=>(#[]:Array Value))).update a (Obj.mapSeq fun _=>List.toArray (p.toList.map fun i=>vs.getD i Value.none))}):
  wpAny (model prog w) A (ksk_tail a false e1 (.ref kS) st) P E s:=by
 have ha2:(s.heap.update kS (Obj.mapSeq fun _=>(#[]:Array Value))).get? a=some (seqObj "list" #[] e1):=by rw[Heap.get?_update_ne _ _ _ _ nak];exact ha
 have hsz:(List.toArray (p.toList.map fun i=>vs.getD i Value.none)).size=vs.length:=by simp[hz]
 unfold ksk_tail;dsimp only;rw[hs];refine wpAny_bind (listUpdate_at hk rfl ?_ (by rw[List.size_toArray,sizeLine_eq];omega) (Nat.zero_le _))
 refine wpAny_bind (wpAny_letGo ?_);refine wpAny_bind (seqEpoch_at ha2 rfl ?_);refine wpAny_bind (listUpdate_at ha2 rfl ?_ (Nat.zero_le _) (by simp only[Bool.false_eq_true,if_false];rw[hsz,sizeLine_eq];omega))
 rw[hf];simp only[bne_self_eq_false,Bool.false_eq_true,if_false];exact wpAny_pure q
theorem zo8{P:PySem.Fin->Shared->Prop}(hl:ks.length=vs.length)(h64:vs.length<64)(nak:a≠kS)(hk:s.heap.get? kS=some (seqObj "list" ks.toArray e))(h:KeyFin prog w A a kS e1 vs ks P s):
  wpAny (model prog w) A (ksk_end a false vs.toArray e1 (.ref kS) ks.toArray) P E s:=by
 obtain⟨ha,κ,ans,hkind,hask,q⟩:=h;have z0:vs.toArray.size=vs.length:=rfl;unfold ksk_end;dsimp only;simp only[Bool.false_eq_true,if_false]
 by_cases h2:vs.length<2
 ·rw[z0,if_pos h2,if_pos h2,pure_bind];rw[StateT.run_pure];refine wpAny_bind (wpAny_pure ?_);refine zh0 (p:=List.toArray (List.range vs.length)) ?_ rfl (by simp) h64 (by omega) nak hk ha (q _ (by unfold Ord;simp) fun z=>absurd h2 (Nat.not_lt.mpr z))
  show(ks.toArray.zip vs.toArray).map (·.2)=_
  rw[show(List.toArray (List.range vs.length)).toList=List.range vs.length from rfl,zgp]
  apply Array.toList_inj.mp
  simp[List.map_snd_zip,hl]
 ·have h2':2<=vs.length:=by omega
  rw[z0,if_neg h2,if_neg h2];refine wpAny_bind (wpAny_mono (hkind h2' (fun κ' s'=>κ'=κ/\s'=s) ⟨rfl,rfl⟩) (fun κ' s' hs=>?_) fun _ _ z=>z.elim);obtain⟨rfl,rfl⟩:=hs;have run:=Asks.wp (R:=Ord vs.length) (Q:=fun p s''=>s''=s'/\Ord vs.length p/\p=ansT ans (kas_sort vs.length)) (fun i j C hi hj=>hask h2' i j C hi hj) (zf6 (by omega)) ⟨rfl,Asks.ends (zf6 (by omega)),rfl⟩
  refine wpAny_bind (wpAny_mono (PySem.W.kat_run (E:=E) (ks:=ks) (vs:=vs) (Q:=fun st s''=>∃p:Array Nat,p.size=vs.length/\arrOf st=p.map (kas_item (ks.toArray.zip vs.toArray))/\failedOf st=none/\s''=s'/\Ord vs.length p/\p=ansT ans (kas_sort vs.length)) hl h2' h64 (fun p st s'' b1 b2 b3 b4=>⟨p,b1,b2,b3,b4⟩) run) ?_ fun _ _ z=>z);rintro⟨⟨⟩,st⟩ s'' ⟨p,hp,har,hf,rfl,or,ep⟩;exact zh0 (PySem.W.kat_snds hl har) hf hp h64 (by omega) nak hk ha (q p or fun _=>ep)
structure zlu(prog:Program)(w:World)(A:Around)(a kS:Addr)(e1:Nat)(f:Value)(vs:List Value)(P:PySem.Fin->Shared->Prop)(J:Nat->List Value->Nat->Shared->Prop):Prop where
 store:∀i ks e s,J i ks e s->s.heap.get? kS=some (seqObj "list" ks.toArray e)/\ks.length=i
 turn:∀i x ks e s,vs[i]?=some x->J i ks e s->wpAny (model prog w) A (call f [x]) (fun k s'=>s'.heap.get? kS=some (seqObj "list" ks.toArray e)/\
  ∀c,(s'.heap.update kS (Obj.mapSeq (·.push k))).get? kS=some (seqObj "list" (ks++[k]).toArray c)->J (i+1) (ks++[k]) c {s' with heap:=s'.heap.update kS (Obj.mapSeq (·.push k))}) (fun _ _=>False) s
 fin:∀ks e s,J vs.length ks e s->KeyFin prog w A a kS e1 vs ks P s
theorem zh5{P:PySem.Fin->Shared->Prop}{J:Nat->List Value->Nat->Shared->Prop}{body:Value->PUnit->Sem (ForInStep PUnit)}(R:zlu prog w A a kS e1 f vs P J)
  (hb:∀i x ks e(s:Shared),vs[i]?=some x->J i ks e s->wpAny (model prog w) A (body x ⟨⟩) (fun r s'=>r=.yield ⟨⟩/\∃k c,J (i+1) (ks++[k]) c s') E s):
  ∀(r:List Value)(i:Nat)(ks:List Value)(e:Nat)(s:Shared),i<=vs.length->vs.drop i=r->J i ks e s->wpAny (model prog w) A (forIn r PUnit.unit body) (fun _ s'=>∃ks e,J vs.length ks e s') E s
 |[],i,ks,e,s,hi,hr,h=>by
  rw[List.forIn_nil];have e0:i=vs.length:=Nat.le_antisymm hi (List.drop_eq_nil_iff.mp hr);subst e0;exact wpAny_pure ⟨ks,e,h⟩
 |x::r,i,ks,e,s,hi,hr,h=>by
  rw[List.forIn_cons];have hx:vs[i]?=some x:=by
   have z:=congrArg (fun l=>l[0]?) hr
   simpa[List.getElem?_drop] using z
  have hr2:vs.drop (i+1)=r:=by
   have z:=congrArg (List.drop 1) hr
   simpa[List.drop_drop,Nat.add_comm] using z
  refine wpAny_bind (wpAny_mono (hb i x ks e s hx h) (fun q s' hq=>?_) fun _ _ z=>z);obtain⟨rfl,k,c,h2⟩:=hq;exact zh5 R hb r (i+1) (ks++[k]) c s' (List.getElem?_eq_some_iff.mp hx).1 hr2 h2
theorem zma{P:PySem.Fin->Shared->Prop}{J:Nat->List Value->Nat->Shared->Prop}(R:zlu prog w A a kS e1 f vs P J)(h64:vs.length<64)(nak:a≠kS)(h0:J 0 [] 0 s):
  wpAny (model prog w) A (ksk_rest a f false vs.toArray e1 (.ref kS)) P E s:=by
 unfold ksk_rest;refine wpAny_bind (wpAny_rule ?_);rw[List.forIn_toArray];refine wpAny_bind (wpAny_mono (zh5 R (fun i x ks e s' hx hJ=>?_) vs 0 [] 0 s (Nat.zero_le _) List.drop_zero h0) (fun _ s' hd=>?_) fun _ _ z=>z)
 ·have hi:=(List.getElem?_eq_some_iff.mp hx).1;have hl:=(R.store i ks e s' hJ).2;refine wpAny_bind (wpAny_attempt (wpAny_mono (R.turn i x ks e s' hx hJ) (fun k s'' hk=>?_) fun _ _ hF=>hF.elim));obtain⟨hk1,hk2⟩:=hk;have pk:(List.toArray ks).push k=List.toArray (ks++[k]):=by rw[List.push_toArray]
  obtain⟨c2,hc2⟩:∃c2,(s''.heap.update kS (Obj.mapSeq (·.push k))).get? kS=some (seqObj "list" (List.toArray (ks++[k])) c2):=⟨_,by rw[←pk];exact get?_update_seq hk1 (·.push k)⟩
  try dsimp only
  refine wpAny_bind (listUpdate_at hk1 rfl ?_ (by rw[List.size_toArray,sizeLine_eq];omega) (Nat.le_trans (Nat.le_of_eq (Array.size_push ..)) (by rw[List.size_toArray,sizeLine_eq];omega)))
  exact wpAny_pure ⟨rfl,k,c2,hk2 c2 hc2⟩
 ·obtain⟨ks,e,hJ⟩:=hd;obtain⟨hk,hl⟩:=R.store _ _ _ _ hJ
  try dsimp only
  refine wpAny_bind (listItems_at hk rfl ?_);exact zo8 hl h64 nak hk (R.fin ks e s' hJ)
theorem zmf{n:Nat}{P:PySem.Fin->Shared->Prop}(hg:Keeps g s.heap)(ga:g.objs.size<=a)(ho:s.heap.get? a=some (seqObj "list" vs.toArray n))(h64:vs.length<64)
  (h:∀kS e1 h',Keeps g h'->a<kS->h'.get? a=some (seqObj "list" #[] e1)->h'.get? kS=some (seqObj "list" #[] 0)->∃J,zlu prog w A a kS e1 f vs P J/\J 0 [] 0 {s with heap:=h'}):
  wpAny (model prog w) A (ksk_tree a f false) P E s:=by
 have zl:vs.length<=sizeLine:=Nat.le_trans (Nat.le_of_lt h64) (by decide)
 have k1:Keeps g (s.heap.update a (Obj.mapSeq fun _=>(#[]:Array Value))):=hg.upd ga;obtain⟨c1,o1⟩:∃c1,(s.heap.update a (Obj.mapSeq fun _=>(#[]:Array Value))).get? a=some (seqObj "list" #[] c1):=⟨_,get?_update_seq ho _⟩;have k3:=(k1.push (seqObj "tuple" vs.toArray 0)).push (seqObj "list" #[] 0);have o3:=Heap.get?_push_of_some (seqObj "list" #[] 0) (Heap.get?_push_of_some (seqObj "tuple" vs.toArray 0) o1);have lt:a<((s.heap.update a (Obj.mapSeq fun _=>(#[]:Array Value))).push (seqObj "tuple" vs.toArray 0)).objs.size:=Heap.lt_size (Heap.get?_push_of_some _ o1);obtain⟨J,R,h0⟩:=h _ c1 _ k3 lt o3 (Heap.get?_push_size _ rfl);unfold ksk_tree;refine wpAny_bind (listItems_at ho rfl (wpAny_bind (listUpdate_at ho rfl (wpAny_bind (seqEpoch_at o1 rfl (wpAny_bind (wpAny_newTuple (wpAny_bind (wpAny_newList (wpAny_holding ?_) (Nat.zero_le _))) zl)))) zl (Nat.zero_le _))));exact zma (s:={s with heap:=((s.heap.update a (Obj.mapSeq fun _=>(#[]:Array Value))).push (seqObj "tuple" vs.toArray 0)).push (seqObj "list" #[] 0)}) R h64 (Nat.ne_of_lt lt) h0
theorem zmo{l fa:Addr}{Q:Value->Shared->Prop}(hl:s.heap.IsList l vs.toArray)(h64:vs.length<64)
  (h:∀D kS e1 h',D=s.heap.objs.size+1->Keeps s.heap h'->D<kS->h'.get? D=some (seqObj "list" #[] e1)->h'.get? kS=some (seqObj "list" #[] 0)->∃J,zlu prog w A.in1.in1 D kS e1 (.ref fa) vs (fun r s'=>r=.done (.ret .none)->Q (.ref D) s') J/\J 0 [] 0 {s with heap:=h'}):
  wpAny (model prog w) A (call (.builtin "sorted") [.ref l] [(Str.ofString "key",.ref fa)]) Q E s:=by
 have zl:vs.length<=sizeLine:=Nat.le_trans (Nat.le_of_lt h64) (by decide)
 have k0:Keeps s.heap s.heap:=fun _ _ e=>e;have k2:=((k0.push (seqObj "list" #[] 0)).upd (a:=s.heap.objs.size) (f:=Obj.mapSeq (·++vs.toArray)) (Nat.le_refl _)).push (seqObj "list" vs.toArray 0);have z2:((s.heap.push (seqObj "list" #[] 0)).update s.heap.objs.size (Obj.mapSeq (·++vs.toArray))).objs.size=s.heap.objs.size+1:=by
  rw[Heap.size_update,size_push']
 have o2:(((s.heap.push (seqObj "list" #[] 0)).update s.heap.objs.size (Obj.mapSeq (·++vs.toArray))).push (seqObj "list" vs.toArray 0)).get? (s.heap.objs.size+1)=some (seqObj "list" vs.toArray 0):=
  z2▸Heap.get?_push_size _ rfl
 refine call_function_entry_kw kind_sorted plain_sorted entry_sorted (ksk_s1 _ _) ?_;unfold Builtin.«sorted»;refine wpAny_bind (m:=checkCount _ _ _ _) (wpAny_pure (wpAny_bind (collect_list hl (wpAny_bind (wpAny_newList ?_ zl)) zl)));rw[show(({s with heap:=(s.heap.push (seqObj "list" #[] 0)).update s.heap.objs.size (Obj.mapSeq (·++vs.toArray))}:Shared).heap.objs.size)=s.heap.objs.size+1 from z2];refine wpAny_bind (wpAny_holding (wpAny_call_entry_kw slot_list_sort ⟨_,o2,rfl⟩ entry_list_sort ?body (ksk_l1 _ _)))
 case body=>
  show wpAny (model prog w) A.in1.in1 (Builtin.«list.sort» ⟨[.ref (s.heap.objs.size+1)],[(Str.ofString "key",.ref fa)]⟩) _ _ _
  rw[ksk_t1];refine wpAny_mono (zmf (s:={s with heap:=((s.heap.push (seqObj "list" #[] 0)).update s.heap.objs.size (Obj.mapSeq (·++vs.toArray))).push (seqObj "list" vs.toArray 0)}) (P:=fun r s'=>r=.done (.ret .none)/\(r=.done (.ret .none)->Q (.ref (s.heap.objs.size+1)) s')) k2 (Nat.le_succ _) o2 h64 fun kS e1 h' kk lt ha hk=>?_) (fun r s' hq=>?_) fun _ _ z=>z
  ·obtain⟨J,R,h0⟩:=h _ kS e1 h' rfl kk lt ha hk;refine⟨J,⟨R.store,R.turn,fun ks e s' hJ=>?_⟩,h0⟩;obtain⟨f1,κ,ans,f2,f3,f4⟩:=R.fin ks e s' hJ;exact⟨f1,κ,ans,f2,f3,fun p or ep=>⟨rfl,f4 p or ep⟩⟩
  ·obtain⟨rfl,hq⟩:=hq;exact⟨_,rfl,wpAny_pure ⟨_,rfl,hq rfl⟩⟩
end
open PySem.W (kla_fn kla_obj envX tabObj CodeHd KasT kas_sort kas_ask)
open PySem.W (KatTups) in
theorem ktupsI{h:Heap}:∀vs:List Value,(∀v,v∈vs->∃a:Int×Int,TupI h v [a.1,a.2])->∃fs,fs.length=vs.length/\KatTups h vs fs/\∀f,f∈fs->∃n t,f=.int n t
 |[],_=>⟨[],rfl,.nil,fun f hf=>by cases hf⟩
 |v::vs,hv=>by
  obtain⟨fs,l,t,r⟩:=ktupsI vs fun u hu=>hv u (List.mem_cons_of_mem _ hu);obtain⟨a,p,its,n,dd,sl,rfl,o,i⟩:=hv v (List.mem_cons_self ..);obtain⟨u1,t1,e⟩:∃u1 t,its[0]?=some u1/\u1=.int a.1 t:=by
   rw[←Array.getElem?_toList]
   revert i
   generalize its.toList=l;intro i
   cases i with
   |cons k t r=>exact⟨_,t,rfl,rfl⟩
  refine⟨u1::fs,by simp[l],.cons o rfl rfl e.1 t,fun f hf=>?_⟩
  rcases List.mem_cons.mp hf with rfl|hf
  ·exact⟨_,t1,e.2⟩
  ·exact r f hf
section
variable{X:Cx}{pins:List (Addr×Obj)}{σ:St}{H:Hp}{s:Shared}
theorem Inv.track{D:Addr}{h':Heap}{xs:List V}{its:List Value}{n:Nat}{t':Nat}(I:Inv X pins σ H s)(hf:FpOk X pins H D)(k:∀b o,b≠D->s.heap.get? b=some o->h'.get? b=some o)
  (hz:xs.length<=sizeLine)(r:Vals xs its)(ho:h'.get? D=some {cls:=.type "list",data:=.seq its.toArray n}):Inv X pins σ (upd H D (.lst xs)) {s with heap:=h',toks:=t'}:=by
 obtain⟨f0,f1,f2,f3,f4,f5⟩:=hf;have nD:∀b u,H b=some u->b≠D:=fun b u e z=>by rw[z,f0] at e;cases e
 refine I.step (g':=s.gens) (d':=s.drawn) (ch:=[D]) (fun b hb=>?_) (fun b o _ _ hc e _=>k b o (fun z=>hc (by simp[z])) e) (fun b o _ _ hc e _=>⟨o.slots,k b o (fun z=>hc (by simp[z])) e⟩) (fun b o hc _ n=>by rw[za5 fun z=>hc (by simp[z])];exact n)
  (fun b o hc e=>⟨o,k b o (fun z=>hc (by simp[z])) e⟩) (fun b xs e=>by rw[za5 (nD b _ e)];exact e) (fun b o u e=>by rw[za5 (nD b _ e)];exact e) (fun b ps e=>⟨#[],by rw[za5 (nD b _ e),e];simp⟩) (fun m hm=>?_) (fun b u e=>?_) I.bare
 ·have e:b=D:=by simpa using hb
  subst e;exact⟨f3,f1,f4,f5⟩
 ·obtain⟨o,es,ep,ho,r⟩:=hm;exact⟨o,es,ep,k _ o f1.symm ho,r⟩
 ·by_cases z:b=D
  ·subst z;rw[upd_same] at e
   cases e;exact⟨hz,its,n,r,ho⟩
  ·rw[za5 z] at e;refine(I.hok b u e).stay (fun c v hc q=>k c v ?_ q) (fun c q=>by rw[za5 (nD c _ q)];exact q) fun c xs q=>by rw[za5 (nD c _ q)];exact q
   rcases hc with rfl|hc
   ·exact z
   ·exact nD c _ hc
theorem cell_of{y:Str}{c:Addr}{i:Nat}{vy:V}(I:Inv X pins σ H s)(hN:X.N[i]?=some y)(hσ:σ[i]?=some (some vy))(hk:X.env.scope.names.lookup y=some .cell)(hc:X.env.cells.lookup y=some c):∃u,RelV vy u/\s.heap.IsCell c (some u):=by
 obtain⟨m,hn,hl⟩:=I.loc;obtain⟨u,r,l⟩:=hl i y vy hN hσ (.inr (.inl hk));refine⟨u,r,?_⟩;rcases l with⟨l,_⟩|⟨_,c',e,z⟩
 ·have l:X.env.scope.names.lookup y=some .local:=l;rw[hk] at l
  cases l
 ·rw[hc] at e
  cases e;exact z
end
open PySem.W (kla_fn kla_obj envX tabObj CodeHd KasT kas_sort kas_ask)
abbrev KPT:=Hp->List V->(Nat->Nat->Bool)->Prop
def KeyKP(X:Cx)(KP:KPT):Prop:=∀(pins:List (Addr×Obj))(σ:St)(H:Hp)(s:Shared)(zs:List V)(ks:List Value)(ans:Nat->Nat->Bool),Inv X pins σ H s->Vals zs ks->KP H zs ans->∃κ:SortKind,
 (2<=ks.length->∀Q':SortKind->Shared->Prop,Q' κ s->wpAny (model X.prog X.w) X.A.in1.in1 (keyKind' ks.toArray) Q' (fun _ _=>False) s)/\(2<=ks.length->∀i j C,i<ks.length->j<ks.length->C (ans i j) s->kas_ask X.prog X.w X.A.in1.in1 κ ks i j C s)
structure KeyR(KP:KPT)(te:TE)(vy:V)(c':Addr)(q:Str)(vs:List V)(H:Hp)(Q:VK)(Pv:Nat->List V->Hp->Prop):Prop where
 start:Pv 0 [] H
 code:∀i zs H',Pv i zs H'->H' c'=some (zjb c' q)
 len:∀i zs H',Pv i zs H'->zs.length=i
 turn:∀i zs H' v,vs[i]?=some v->Pv i zs H'->te [some v,some vy] H' fun k H''=>Pv (i+1) (zs++[k]) H''
 fin:∀zs H',Pv vs.length zs H'->∃ans,KP H' zs ans/\∀D p,H' D=none->Ord vs.length p->(2<=vs.length->p=ansT ans (kas_sort vs.length))->Q (.ref D) (upd H' D (.lst (p.toList.map fun i=>vs.getD i .non)))
section
variable{X:Cx}{pins:List (Addr×Obj)}{σ:St}{H:Hp}{s:Shared}
theorem vals_get?{xs:List V}{us:List Value}(r:Vals xs us){i:Nat}{u:Value}(h:us[i]?=some u):∃v,xs[i]?=some v/\RelV v u:=by
 have hi:i<us.length:=(List.getElem?_eq_some_iff.mp h).1;have hx:i<xs.length:=by rw[r.length];exact hi
 refine⟨xs[i],List.getElem?_eq_getElem hx,?_⟩;have z:=zfa r i hx;have e1:xs.getD i .non=xs[i]:=by simp[hx]
 have e2:us.getD i Value.none=u:=by rw[List.getD_eq_getElem?_getD,h];rfl
 rw[e1,e2] at z;exact z
theorem zjk:∀{xs:List V}{us:List Value}{v:V}{u:Value},Vals xs us->RelV v u->Vals (xs++[v]) (us++[u])
 |_,_,_,_,.nil,r=>.cons r .nil
 |_,_,_,_,.cons a t,r=>.cons a (zjk t r)
theorem zpo{KP:KPT}{k i0:Nat}{x y ql:Str}{params:Arguments}{body:Expr}{sc:Scope}{fa c c' l:Addr}{pm ctv:Value}{vy:V}{vs:List V}{te:TE}{Q:VK}{Pv:Nat->List V->Hp->Prop}(I:Inv X pins σ H s)(hKP:KeyKP X KP)(hr:Room (k+2) X.A)(S:zfu x y sc)
  (hN:X.N[i0]?=some y)(hσ:σ[i0]?=some (some vy))(hk:X.env.scope.names.lookup y=some .cell)(hcl:X.env.cells.lookup y=some c)(hfa:FpOk X pins H fa)(hfo:s.heap.get? fa=some (kla_obj "<lambda>" ql params body sc [(y,c)] pm c' ctv))
  (hbind:∀u,bindArgs (kla_fn "<lambda>" ql params body sc [(y,c)] pm (.ref c') ctv) ⟨[u],[]⟩=pure [(x,u)])(hbody:∀(A:Around)(s:Shared)(H:Hp),A.units+64<cLine->PE (zo1 X.prog X.w X.K X.mg X.base x y ql sc fa (.ref c') c A X.stack s H) body te)
  (hl:H l=some (.lst vs))(h64:vs.length<64)(R:KeyR KP te vy c' ql vs H Q Pv):wpAny (model X.prog X.w) X.A (call (.builtin "sorted") [.ref l] [(Str.ofString "key",.ref fa)]) (EP X pins σ Q) X.xe s:=by
 obtain⟨its,rv,pl,hz⟩:=I.list (.of hl);have len:vs.length=its.length:=rv.length;have un:=hr.un;refine zmo (vs:=its) pl.isList (by omega) fun D kS e1 h' eD kk lt hD hkS=>?_
 have sD:s.heap.objs.size<=D:=by omega
 have sK:s.heap.objs.size<=kS:=by omega
 have fD:=I.fpOk sD (I.hok.fresh sD);have fK:=I.fpOk sK (I.hok.fresh sK);have faD:fa≠D:=Nat.ne_of_lt (Nat.lt_of_lt_of_le (Heap.lt_size hfo) sD);have faK:fa≠kS:=Nat.ne_of_lt (Nat.lt_of_lt_of_le (Heap.lt_size hfo) sK);have DK:D≠kS:=Nat.ne_of_lt lt;have nseq:∀(b:Array Value)(m:Nat)(v:Option Value),(seqObj "list" b m).data≠.cell v:=fun b m v z=>nomatch (show Data.seq b m=Data.cell v from z);have nfun:∀v,(kla_obj "<lambda>" ql params body sc [(y,c)] pm c' ctv).data≠.cell v:=fun v z=>nomatch (show Data.func _=Data.cell v from z);have pin3:∀{ks:List Value}{e:Nat}{H':Hp}{s':Shared},Inv X pins σ H' s'->H' fa=none->H' D=none->H' kS=none->s'.heap.get? fa=some (kla_obj "<lambda>" ql params body sc [(y,c)] pm c' ctv)->s'.heap.get? D=some (seqObj "list" #[] e1)->s'.heap.get? kS=some (seqObj "list" ks.toArray e)->
   Inv X (pins++[(fa,kla_obj "<lambda>" ql params body sc [(y,c)] pm c' ctv),(D,seqObj "list" #[] e1),(kS,seqObj "list" ks.toArray e)]) σ H' s':=fun{ks e H' s'} J n1 n2 n3 o1 o2 o3=>by
  refine J.pins_of fun p hp=>?_;rcases List.mem_append.mp hp with hp|hp
  ·exact J.pin p (List.mem_append_right _ hp)
  ·simp only[List.mem_cons,List.not_mem_nil,or_false] at hp;rcases hp with rfl|rfl|rfl
   ·exact⟨o1,n1,hfa.2.1,hfa.2.2.1,nfun⟩
   ·exact⟨o2,n2,fD.2.1,fD.2.2.1,nseq _ _⟩
   ·exact⟨o3,n3,fK.2.1,fK.2.2.1,nseq _ _⟩
 have of3:∀{ks:List Value}{e:Nat}{H':Hp}{s':Shared},Inv X (pins++[(fa,kla_obj "<lambda>" ql params body sc [(y,c)] pm c' ctv),(D,seqObj "list" #[] e1),(kS,seqObj "list" ks.toArray e)]) σ H' s'->
   Inv X pins σ H' s'/\(H' fa=none/\H' D=none/\H' kS=none)/\s'.heap.get? fa=some (kla_obj "<lambda>" ql params body sc [(y,c)] pm c' ctv)/\s'.heap.get? D=some (seqObj "list" #[] e1)/\s'.heap.get? kS=some (seqObj "list" ks.toArray e):=fun{ks e H' s'} J=>by
  have p1:=J.pin (fa,kla_obj "<lambda>" ql params body sc [(y,c)] pm c' ctv) (List.mem_append_right _ (List.mem_append_right _ (by simp)))
  have p2:=J.pin (D,seqObj "list" #[] e1) (List.mem_append_right _ (List.mem_append_right _ (by simp)))
  have p3:=J.pin (kS,seqObj "list" ks.toArray e) (List.mem_append_right _ (List.mem_append_right _ (by simp)))
  exact⟨J.unpinned,⟨p1.2.1,p2.2.1,p3.2.1⟩,p1.1,p2.1,p3.1⟩
 refine⟨fun i ks e s'=>∃H' zs,Inv X (pins++[(fa,kla_obj "<lambda>" ql params body sc [(y,c)] pm c' ctv),(D,seqObj "list" #[] e1),(kS,seqObj "list" ks.toArray e)]) σ H' s'/\Vals zs ks/\Pv i zs H',⟨fun i ks e s' hJ=>?_,fun i u ks e s' hu hJ=>?_,fun ks e s' hJ=>?_⟩,H,[],?_,.nil,R.start⟩
 ·obtain⟨H',zs,J,r,p⟩:=hJ;exact⟨(of3 J).2.2.2.2,by rw[←r.length];exact R.len _ _ _ p⟩
 ·obtain⟨H',zs,J,r,p⟩:=hJ;obtain⟨J0,⟨n1,n2,n3⟩,o1,o2,o3⟩:=of3 J;obtain⟨v,hv,ru⟩:=vals_get? rv hu;obtain⟨uy,ry,hcell⟩:=cell_of J hN hσ hk hcl;have hcd:s'.heap.CodeRec (.ref c') ql:=(J.hok c' _ (R.code _ _ _ p)).1;refine wpAny_mono (lam_run J J.env0.in1.in1 (hr.in1.in1) S o1 hcd (hbind u) ru ry hcell (J.freeC _ _ hcl) (hbody _ s' H' (by show X.A.units+1+1+64<cLine;omega)) (R.turn i zs H' v hv p)) (fun u' s'' hs=>?_) fun _ _ z=>z
  obtain⟨kv,H'',J',rk,p'⟩:=hs;obtain⟨J1,⟨m1,m2,m3⟩,q1,q2,q3⟩:=of3 J';refine⟨q3,fun c2 hc2=>⟨H'',zs++[kv],?_,zjk r rk,p'⟩⟩;have J2:Inv X pins σ H'' {s'' with heap:=s''.heap.update kS (Obj.mapSeq (·.push u')),toks:=s''.toks}:=J1.turned (it:=kS) (fun b o hb e=>by rw[Heap.get?_update_ne _ _ _ _ hb];exact e) m3 fK.2.1 fK.2.2.2.1 fK.2.2.2.2.1 fK.2.2.2.2.2
  exact pin3 J2 m1 m2 m3 (by show(s''.heap.update kS _).get? fa=_;rw[Heap.get?_update_ne _ _ _ _ faK];exact q1) (by show(s''.heap.update kS _).get? D=_;rw[Heap.get?_update_ne _ _ _ _ DK];exact q2) hc2
 ·obtain⟨H',zs,J,r,p⟩:=hJ;obtain⟨J0,⟨n1,n2,n3⟩,o1,o2,o3⟩:=of3 J;rw[←len] at p;obtain⟨ans,ok,q⟩:=R.fin zs H' p;have zl:=R.len _ _ _ p;have kl:ks.length=its.length:=by rw[←r.length,zl,len]
  obtain⟨κ,k1,k2⟩:=hKP _ _ _ _ _ _ _ J0 r ok;rw[kl] at k1 k2;refine⟨o2,κ,ans,k1,k2,fun pm' or ep _=>?_⟩
  ·have J2:Inv X pins σ H' {s' with heap:=s'.heap.update kS (Obj.mapSeq fun _=>(#[]:Array Value)),toks:=s'.toks}:=J0.turned (it:=kS) (fun b o hb e=>by rw[Heap.get?_update_ne _ _ _ _ hb];exact e) n3 fK.2.1 fK.2.2.2.1 fK.2.2.2.2.1 fK.2.2.2.2.2
   have o4:(s'.heap.update kS (Obj.mapSeq fun _=>(#[]:Array Value))).get? D=some (seqObj "list" #[] e1):=by rw[Heap.get?_update_ne _ _ _ _ DK];exact o2
   rw[←len] at or ep;have lo:pm'.toList.length=vs.length:=by rw[or.length_eq,List.length_range]
   obtain⟨c5,o5⟩:∃c5,((s'.heap.update kS (Obj.mapSeq fun _=>(#[]:Array Value))).update D (Obj.mapSeq fun _=>List.toArray (pm'.toList.map fun i=>its.getD i Value.none))).get? D=some (seqObj "list" (List.toArray (pm'.toList.map fun i=>its.getD i Value.none)) c5):=⟨_,get?_update_seq o4 _⟩;refine⟨.ref D,upd H' D (.lst (pm'.toList.map fun i=>vs.getD i .non)),J2.track (t':=s'.toks) ⟨n2,fD.2⟩ (fun b o hb e=>by rw[Heap.get?_update_ne _ _ _ _ hb];exact e) ?_ (zhc _ fun i hi=>zfa rv i ?_) o5,rfl,q D pm' n2 or ep⟩
   ·rw[List.length_map,lo];exact Nat.le_trans (Nat.le_of_lt h64) (by decide)
   ·exact List.mem_range.mp (or.mem_iff.mp hi)
 ·have J0:Inv X pins σ H {s with heap:=h',toks:=s.toks}:=I.kept kk;exact pin3 J0 hfa.1 (I.hok.fresh sD) (I.hok.fresh sK) (kk _ _ hfo) hD hkS
end
open PySem.W (kla_fn kla_obj envX tabObj CodeHd KasT kas_sort kas_ask)
section
variable{X:Cx}{p pos lpos kpos:Pos}{e body:Expr}{params:Arguments}{sc:Scope}{x y:Str}{c c0 P:Addr}{i0 k:Nat}{te tl:TE}
def tSortK(KP:KPT)(P:Addr)(lpos:Pos)(ql:Str)(i0:Nat)(te tl:TE):TE:=fun σ H Q=>zcc tl tNil σ H fun xs H1=>∃l vs vy,xs=[.ref l]/\H1 l=some (.lst vs)/\vs.length<64/\σ[i0]?=some (some vy)/\zbq H1 P lpos ql/\
 ∀c' H2,zb0 P H1 H2->zbq H2 P lpos ql->H2 c'=some (zjb c' ql)->∃Pv,KeyR KP te vy c' ql vs H2 Q Pv
theorem pe_sortK{KP:KPT}(hKP:KeyKP X KP)(hr:Room (k+2) X.A)(hg:Gl X "sorted")(hm:X.mg "sorted"=none)(ha:PA X [e] (zcc tl tNil))(S:zfu x y sc)(hN:X.N[i0]?=some y)(hk:X.env.scope.names.lookup y=some .cell)(hcl:X.env.cells.lookup y=some c)
  (hclos:closureFor sc X.env=pure [(y,c)])(hdef:defaultsOf params X.env=([],[]))(hcode:X.env.code=.ref c0)(C:CodeHd X.base c0 P)(hB:X.base.BuiltinsAt X.mg P)
  (hbind:∀(pm cd ctv u:Value),bindArgs (kla_fn "<lambda>" (X.env.qual++"<lambda>") params body sc [(y,c)] pm cd ctv) ⟨[u],[]⟩=pure [(x,u)])
  (hbody:∀(fa c':Addr)(A:Around)(s:Shared)(H:Hp),A.units+64<cLine->PE (zo1 X.prog X.w X.K X.mg X.base x y (X.env.qual++"<lambda>") sc fa (.ref c') c A X.stack s H) body te)
  (he:backTo pos (starEach [e] X.env)=(false,eval e X.env)::backTo pos (starEach [] X.env):=by rfl)(hpl:(backTo pos (starEach [e] X.env)).any (·.1)=false:=by rfl):
  PE X (.Call (.Name "sorted" p) [e] [⟨some "key",.Lambda params body sc lpos,kpos⟩] pos) (tSortK KP P lpos (X.env.qual++"<lambda>") i0 te tl):=by
 intro pins s σ H Q I h;refine wpAny_Call_Name_kw (zgu I hg hm zg6 ?_);refine callWith_kw (thn (ha pos pins s σ H _ I h) fun us s1⟨vs',H1,I1,r1,q1⟩=>?_) he hpl rfl rfl;obtain⟨l,vs,vy,ev,hl,h64,hσ,ht,q⟩:=q1;subst ev;obtain⟨u,rfl,ru⟩:=vals1 r1
 cases ru;refine kws_cons (lam_make (C:=C) I1 hcode hB hclos hdef ht fun fa c' ctv H2 s2 I2 st lt hfo hc' ffa=>kws_nil ?_);obtain⟨Pv,R⟩:=q c' H2 st lt hc';have nl:l≠P:=fun z=>by
  obtain⟨ps,hP,_⟩:=ht;rw[z,hP] at hl
  cases hl
 exact zpo I2 hKP hr S hN hσ hk hcl ffa hfo (fun u=>hbind _ _ _ u) (hbody fa c') (st l _ nl hl) h64 R
end
section
variable{κ:Type}[DecidableEq κ]
def valV(kvs:List (κ×V))(k:κ):Option V:=(kvs.find? fun kv=>decide (kv.1=k)).map (·.2)
def putK(kvs:List (κ×V))(k:κ)(v:V):List (κ×V):=
 if(kvs.any fun kv=>decide (kv.1=k))=true then kvs.map (fun kv=>if kv.1=k then(kv.1,v) else kv) else kvs++[(k,v)]
theorem zc7{p:κ×V}{r:List (κ×V)}{k:κ}(e:p.1=k):valV (p::r) k=some p.2:=by simp[valV,List.find?_cons,e]
theorem zca{p:κ×V}{r:List (κ×V)}{k:κ}(e:¬p.1=k):valV (p::r) k=valV r k:=by simp[valV,List.find?_cons,e]
theorem zes(k:κ):∀kvs:List (κ×V),(kvs.any fun kv=>decide (kv.1=k))=(valV kvs k).isSome
 |[]=>rfl
 |p::r=>by
  rw[List.any_cons]
  by_cases e:p.1=k
  ·simp only[zc7 e,decide_eq_true e,Bool.true_or,Option.isSome_some]
  ·rw[zca e,decide_eq_false e,Bool.false_or];exact zes k r
theorem zet(k j:κ)(y:V):∀kvs:List (κ×V),valV (kvs.map fun kv=>if kv.1=k then(kv.1,y) else kv) j=(valV kvs j).map fun x=>if j=k then y else x
 |[]=>rfl
 |p::r=>by
  have ih:=zet k j y r;rw[List.map_cons]
  by_cases h:p.1=k
  ·rw[if_pos h]
   by_cases e:p.1=j
   ·rw[zc7 (p:=(p.1,y)) e,zc7 e,Option.map_some,if_pos (e.symm.trans h)]
   ·rw[zca (p:=(p.1,y)) e,zca e,ih]
  ·rw[if_neg h]
   by_cases e:p.1=j
   ·rw[zc7 (p:=p) e,zc7 e,Option.map_some,if_neg (fun z=>h (e.trans z))]
   ·rw[zca (p:=p) e,zca e,ih]
theorem zik(k j:κ)(y:V):∀kvs:List (κ×V),valV kvs k=none->valV (kvs++[(k,y)]) j=if j=k then some y else valV kvs j
 |[],_=>by
  by_cases e:k=j
  ·rw[if_pos e.symm];exact zc7 (p:=(k,y)) e
  ·rw[if_neg (fun z=>e z.symm)];exact zca (p:=(k,y)) e
 |p::r,hn=>by
  rw[List.cons_append];have hk:¬p.1=k:=fun z=>by rw[zc7 z] at hn;cases hn
  rw[zca hk] at hn;have ih:=zik k j y r hn
  by_cases e:p.1=j
  ·rw[zc7 e,zc7 e,if_neg (fun z=>hk (e.trans z))]
  ·rw[zca e,zca e,ih]
theorem zco(kvs:List (κ×V))(k j:κ)(y:V):valV (putK kvs k y) j=if j=k then some y else valV kvs j:=by
 unfold putK
 by_cases a:(kvs.any fun kv=>decide (kv.1=k))=true
 ·rw[if_pos a,zet];rw[zes] at a
  by_cases e:j=k
  ·obtain⟨x,hx⟩:=Option.isSome_iff_exists.mp a;rw[if_pos e,e,hx,Option.map_some,if_pos rfl]
  ·rw[if_neg e]
   cases valV kvs j with
   |none=>rfl
   |some x=>rw[Option.map_some,if_neg e]
 ·rw[if_neg a];refine zik k j y kvs ?_;rw[zes] at a
  cases q:valV kvs k with
  |none=>rfl
  |some x=>rw[q] at a;exact(a rfl).elim
theorem zbp(kvs:List (κ×V))(k:κ)(v:V):(putK kvs k v).length<=kvs.length+1:=by
 unfold putK
 split
 ·rw[List.length_map];omega
 ·rw[List.length_append,List.length_cons,List.length_nil];omega
theorem zlb{kvs:List (κ×V)}{k:κ}(v:V)(h:valV kvs k=none):putK kvs k v=kvs++[(k,v)]:=by
 unfold putK;rw[zes,h];exact if_neg (by decide)
theorem RelO.isSome_eq{o:Option V}{u:Option Value}(r:RelO o u):o.isSome=u.isSome:=by
 cases o with
 |none=>cases u with
  |none=>rfl
  |some _=>exact(show False from r).elim
 |some _=>cases u with
  |none=>exact(show False from r).elim
  |some _=>rfl
theorem RelO.getD{o:Option V}{u:Option Value}{d:V}{d':Value}(r:RelO o u)(rd:RelV d d'):RelV (o.getD d) (u.getD d'):=by
 cases o with
 |none=>cases u with
  |none=>exact rd
  |some _=>exact(show False from r).elim
 |some _=>cases u with
  |none=>exact(show False from r).elim
  |some _=>exact r
theorem KV.val{kvs:List (κ×V)}{vs:List (κ×Value)}(r:KV kvs vs)(k:κ):RelO (valV kvs k) (valueAt vs k):=by
 unfold KV at r
 induction r with
 |nil=>exact True.intro
 |@cons p q ps qs h t ih=>
  obtain⟨h1,h2⟩:=h
  by_cases e:p.1=k
  ·have e':q.1=k:=h1.symm.trans e;have b:valueAt (q::qs) k=some q.2:=by simp[valueAt,List.find?_cons,e']
   rw[zc7 e,b];exact h2
  ·have e':¬q.1=k:=fun z=>e (h1.trans z);have b:valueAt (q::qs) k=valueAt qs k:=by simp[valueAt,List.find?_cons,e']
   rw[zca e,b];exact ih
theorem KV.any{kvs:List (κ×V)}{vs:List (κ×Value)}(r:KV kvs vs)(k:κ):(kvs.any fun kv=>decide (kv.1=k))=vs.any fun kv=>decide (kv.1=k):=by
 unfold KV at r
 induction r with
 |nil=>rfl
 |cons h t ih=>rw[List.any_cons,List.any_cons,ih,h.1]
theorem KV.repl{kvs:List (κ×V)}{vs:List (κ×Value)}(r:KV kvs vs)(k:κ){y:V}{u:Value}(ry:RelV y u):
  KV (kvs.map fun kv=>if kv.1=k then(kv.1,y) else kv) (vs.map fun kv=>if kv.1=k then(kv.1,u) else kv):=by
 unfold KV at r⊢
 induction r with
 |nil=>exact .nil
 |@cons p q ps qs h t ih=>
  rw[List.map_cons,List.map_cons];refine .cons ?_ ih;obtain⟨h1,h2⟩:=h
  by_cases e:p.1=k
  ·rw[if_pos e,if_pos (h1.symm.trans e)];exact⟨h1,ry⟩
  ·rw[if_neg e,if_neg (fun z=>e (h1.trans z))];exact⟨h1,h2⟩
theorem KV.put{kvs:List (κ×V)}{vs:List (κ×Value)}(r:KV kvs vs)(k:κ){y:V}{u:Value}(ry:RelV y u):KV (putK kvs k y) (stored vs k u):=by
 unfold putK stored;rw[r.any k]
 by_cases e:(vs.any fun kv=>decide (kv.1=k))=true
 ·rw[if_pos e,if_pos e];exact r.repl k ry
 ·rw[if_neg e,if_neg e];exact Paired.snoc r ⟨rfl,ry⟩
theorem KV.length{kvs:List (κ×V)}{vs:List (κ×Value)}(r:KV kvs vs):kvs.length=vs.length:=Paired.length r
end
theorem zmq{P:Program}{w:World}{k:Key}{u:Value}(r:RelV (kV k) u):(zaa P w).is k u=true:=by
 cases k with
 |inl i=>obtain⟨t,e⟩:=(show ∃t,u=Value.int i t from r);subst e;exact zku P w i t
 |inr x=>obtain⟨t,e⟩:=(show ∃t,u=Value.str x t from r);subst e;exact zju P w x t
theorem ziu{P:Program}{w:World}:∀{ks:List Key}{us:List Value},Vals (ks.map kV) us->ItemsAre (zaa P w) ks us
 |[],_,r=>by rw[List.map_nil] at r;cases r;exact .nil
 |k::ks,_,r=>by
  rw[List.map_cons] at r
  cases r with
  |cons h t=>exact .cons (zmq h) (ziu t)
abbrev KT(H:Hp):List (List Key×V)->List (List Key×Addr×Value)->Prop:=Paired fun p q=>p.1=q.1/\H q.2.1=some (.tup (p.1.map kV))/\RelV p.2 q.2.2
theorem KT.val{H:Hp}{kvs:List (List Key×V)}{xs:List (List Key×Addr×Value)}(r:KT H kvs xs)(k:List Key):RelO (valV kvs k) ((atKey xs k).map (·.2)):=by
 induction r with
 |nil=>exact True.intro
 |@cons p q ps qs h t ih=>
  obtain⟨h1,_,h2⟩:=h
  by_cases e:p.1=k
  ·have e':q.1=k:=h1.symm.trans e;have b:atKey (q::qs) k=some q.2:=by simp[atKey,List.find?_cons,e']
   rw[zc7 e,b];exact h2
  ·have e':¬q.1=k:=fun z=>e (h1.trans z);have b:atKey (q::qs) k=atKey qs k:=by simp[atKey,List.find?_cons,e']
   rw[zca e,b];exact ih
theorem KT.repl{H:Hp}{kvs:List (List Key×V)}{xs:List (List Key×Addr×Value)}(r:KT H kvs xs)(k:List Key){y:V}{u:Value}(ry:RelV y u):
  KT H (kvs.map fun kv=>if kv.1=k then(kv.1,y) else kv) (xs.map (putAt k u)):=by
 induction r with
 |nil=>exact .nil
 |@cons p q ps qs h t ih=>
  rw[List.map_cons,List.map_cons];refine .cons ?_ ih;obtain⟨h1,h2,h3⟩:=h;unfold putAt
  by_cases e:p.1=k
  ·rw[if_pos e,if_pos (h1.symm.trans e)];exact⟨h1,h2,ry⟩
  ·rw[if_neg e,if_neg (fun z=>e (h1.trans z))];exact⟨h1,h2,h3⟩
theorem KT.put{H:Hp}{kvs:List (List Key×V)}{xs:List (List Key×Addr×Value)}(r:KT H kvs xs)(k:List Key){b:Addr}{y:V}{u:Value}(hb:H b=some (.tup (k.map kV)))(ry:RelV y u):
  KT H (putK kvs k y) (storedH xs k b u):=by
 have e:(kvs.any fun kv=>decide (kv.1=k))=(atKey xs k).isSome:=by
  rw[zes,(r.val k).isSome_eq,Option.isSome_map]
 unfold putK storedH;rw[e]
 by_cases q:(atKey xs k).isSome=true
 ·rw[if_pos q,if_pos q];exact r.repl k ry
 ·rw[if_neg q,if_neg q];exact Paired.snoc r ⟨rfl,hb,ry⟩
theorem KT.keeps{H H':Hp}{kvs:List (List Key×V)}{xs:List (List Key×Addr×Value)}(r:KT H kvs xs)(ht:∀b ys,H b=some (.tup ys)->H' b=some (.tup ys)):KT H' kvs xs:=
 Paired.mapP r fun _ _ z=>⟨z.1,ht _ _ z.2.1,z.2.2⟩
section
variable{P:Program}{w:World}{H:Hp}{h:Heap}{a:Addr}
theorem rd_of{u:HO}(ok:HOk P w H h)(e:Rd H a u):zct P w H h a u:=e.ok ok
theorem zk9{kvs:List (Key×V)}(ok:HOk P w H h)(e:Rd H a (.dK kvs)):kvs.length<=sizeLine/\(a==sysModules)=false/\∃vs,KV kvs vs/\h.DictOf (zaa P w) a vs:=
 show zct P w H h a (.dK kvs) from rd_of ok e
theorem dk_of{kvs:List (Key×V)}(ok:HOk P w H h)(e:H a=some (.dK kvs)):kvs.length<=sizeLine/\(a==sysModules)=false/\∃vs,KV kvs vs/\h.DictOf (zaa P w) a vs:=zk9 ok (.inl e)
theorem ze0{ks:List Key}(ok:HOk P w H h)(e:H a=some (.tup (ks.map kV))):(tupleKind (zaa P w)).is h ks a:=by
 obtain⟨_,its,r,o,h1,h2,n,h3⟩:=(show zct P w H h a (.tup (ks.map kV)) from ok a _ e);exact⟨o,its.toArray,n,h1,h2,h3,by simpa using ziu r⟩
theorem zkn{kvs:List (List Key×V)}(ok:HOk P w H h)(e:Rd H a (.dT kvs)):kvs.length<=sizeLine/\(a==sysModules)=false/\
  ∃xs,KT H kvs xs/\h.DictOfH (tupleKind (zaa P w)) a xs:=by
 obtain⟨z,y,xs,r,o,es,ep,h1,h2,h3,h4,h5⟩:=(show zct P w H h a (.dT kvs) from rd_of ok e);refine⟨z,y,xs,r,o,es,ep,h1,h2,h3,h4,fun x hx=>?_,h5⟩;have all:∀{l:List (List Key×V)}{m:List (List Key×Addr×Value)},KT H l m->∀x∈m,(tupleKind (zaa P w)).is h x.1 x.2.1:=by
  intro l m q
  induction q with
  |nil=>intro x hx;exact nomatch hx
  |@cons p q ps qs hq t ih=>
   intro x hx;rcases List.mem_cons.mp hx with e|hx
   ·subst e;exact ze0 ok (by rw[←hq.1];exact hq.2.1)
   ·exact ih x hx
 exact all r x hx
theorem znl{kvs:List (List Key×V)}(ok:HOk P w H h)(e:H a=some (.dT kvs)):kvs.length<=sizeLine/\(a==sysModules)=false/\
  ∃xs,KT H kvs xs/\h.DictOfH (tupleKind (zaa P w)) a xs:=zkn ok (.inl e)
end
def DGet(H:Hp)(a:Addr)(y:V)(r:Option V):Prop:=
 (∃kvs k,Rd H a (.dK kvs)/\y=kV k/\r=valV kvs k)∨∃kvs k b,Rd H a (.dT kvs)/\y=.ref b/\H b=some (.tup (k.map kV))/\r=valV kvs k
def DPut(H:Hp)(a:Addr)(y v:V)(H':Hp):Prop:=
 (∃kvs k,H a=some (.dK kvs)/\y=kV k/\kvs.length<sizeLine/\H'=upd H a (.dK (putK kvs k v)))∨
 ∃kvs k b,H a=some (.dT kvs)/\y=.ref b/\H b=some (.tup (k.map kV))/\kvs.length<sizeLine/\H'=upd H a (.dT (putK kvs k v))
theorem DGet.t{H:Hp}{a b:Addr}{kvs:List (List Key×V)}{k:List Key}(e:H a=some (.dT kvs))(eb:H b=some (.tup (k.map kV))):DGet H a (.ref b) (valV kvs k):=.inr ⟨kvs,k,b,.inl e,rfl,eb,rfl⟩
theorem DPut.t{H:Hp}{a b:Addr}{kvs:List (List Key×V)}{k:List Key}{v:V}(e:H a=some (.dT kvs))(eb:H b=some (.tup (k.map kV)))(hl:kvs.length<sizeLine):
  DPut H a (.ref b) v (upd H a (.dT (putK kvs k v))):=.inr ⟨kvs,k,b,e,rfl,eb,hl,rfl⟩
section
variable{X:Cx}{pins:List (Addr×Obj)}{σ:St}{H:Hp}{s:Shared}{a:Addr}{y v:V}{u r:Value}{o:Option V}{A:Around}{E:Value->Shared->Prop}
theorem Inv.big(I:Inv X pins σ H s):sysModules<s.heap.objs.size:=by
 have h:mainGlobals<s.heap.objs.size:=(I.mod.glob.keeps I.bk).lt;exact Nat.lt_trans (by decide) h
theorem zp5{Q:Value->Shared->Prop}(hu:A.units+1<cLine)(I:Inv X pins σ H s)(g:DGet H a y (some v))(ry:RelV y u)(h:∀w' s',Inv X pins σ H s'->RelV v w'->Q w' s'):
  wpAny (model X.prog X.w) A (getItem (.ref a) u) Q E s:=by
 rcases g with⟨kvs,k,e,ey,l⟩|⟨kvs,k,b,e,ey,eb,l⟩
 ·subst ey;obtain⟨z,hd,vs,rel,dd⟩:=zk9 I.hok e;obtain⟨w',hw,rw'⟩:=RelO.some_of (v:=v) (o:=valueAt vs k) (by rw[l];exact rel.val k)
  exact wpAny_getItem_of (zmq ry) dd.mapOf hw (h w' _ (I.tok _) rw')
 ·subst ey
  cases(show u=Value.ref b from ry);obtain⟨z,hd,xs,rel,dd⟩:=zkn I.hok e;obtain⟨w',hw,rw'⟩:=RelO.some_of (v:=v) (o:=(atKey xs k).map (·.2)) (by rw[l];exact rel.val k)
  obtain⟨p,hp,hp2⟩:=Option.map_eq_some_iff.mp hw;refine wpAny_getItem_heap (tupleKind_room_in1 hu) (ze0 I.hok eb) dd hp ?_;rw[hp2];exact h w' _ (I.tok _) rw'
theorem d_in{Q:Value->Shared->Prop}(hu:A.units+1<cLine)(I:Inv X pins σ H s)(g:DGet H a y o)(ry:RelV y u)(h:∀s',Inv X pins σ H s'->Q (.bool o.isSome) s'):
  wpAny (model X.prog X.w) A (compareOp .In u (.ref a)) Q E s:=by
 rcases g with⟨kvs,k,e,ey,l⟩|⟨kvs,k,b,e,ey,eb,l⟩
 ·subst ey;obtain⟨z,hd,vs,rel,dd⟩:=zk9 I.hok e;refine wpAny_in_of (zmq ry) hd dd.mapOf ?_;rw[←(rel.val k).isSome_eq,←l];exact h _ (I.tok _)
 ·subst ey
  cases(show u=Value.ref b from ry);obtain⟨z,hd,xs,rel,dd⟩:=zkn I.hok e;refine wpAny_in_heap (tupleKind_room_in1 hu) (ze0 I.hok eb) hd dd ?_;have q:=(rel.val k).isSome_eq;rw[Option.isSome_map] at q;rw[←q,←l];exact h _ (I.tok _)
theorem d_notIn{Q:Value->Shared->Prop}(hu:A.units+1<cLine)(I:Inv X pins σ H s)(g:DGet H a y o)(ry:RelV y u)(h:∀s',Inv X pins σ H s'->Q (.bool (!o.isSome)) s'):
  wpAny (model X.prog X.w) A (compareOp .NotIn u (.ref a)) Q E s:=by
 rcases g with⟨kvs,k,e,ey,l⟩|⟨kvs,k,b,e,ey,eb,l⟩
 ·subst ey;obtain⟨z,hd,vs,rel,dd⟩:=zk9 I.hok e;refine wpAny_notIn_of (zmq ry) hd dd.mapOf ?_;rw[←(rel.val k).isSome_eq,←l];exact h _ (I.tok _)
 ·subst ey
  cases(show u=Value.ref b from ry);obtain⟨z,hd,xs,rel,dd⟩:=zkn I.hok e;refine wpAny_notIn_heap (tupleKind_room_in1 hu) (ze0 I.hok eb) hd dd ?_;have q:=(rel.val k).isSome_eq;rw[Option.isSome_map] at q;rw[←q,←l];exact h _ (I.tok _)
theorem zeo{h':Heap}{t':Nat}{ob:HO}(I:Inv X pins σ H s)(mu:Mut (H a))(hs:Heap.SameBut a s.heap h')(he:∃q,h'.get? a=some q)(new:zct X.prog X.w (upd H a ob) h' a ob):
  Inv X pins σ (upd H a ob) {s with heap:=h',toks:=t'}:=
 I.write (x:=a) (e:=a) mu (.inl rfl) (fun b q hb z=>(hs.2 b hb).trans z) he new
theorem dk_new{P:Program}{w:World}{H':Hp}{h':Heap}{kvs:List (Key×V)}{vs:List (Key×Value)}(z:kvs.length<=sizeLine)(hd:(a==sysModules)=false)(rel:KV kvs vs)(dd:h'.DictOf (zaa P w) a vs):
  zct P w H' h' a (.dK kvs):=⟨z,hd,vs,rel,dd⟩
theorem zp1{H':Hp}{Q:Unit->Shared->Prop}(hu:A.units+1<cLine)(I:Inv X pins σ H s)(g:DPut H a y v H')(ry:RelV y u)(rv:RelV v r)(h:∀s',Inv X pins σ H' s'->Q () s'):
  wpAny (model X.prog X.w) A (setItem (.ref a) u r) Q E s:=by
 rcases g with⟨kvs,k,e,ey,l,eH⟩|⟨kvs,k,b,e,ey,eb,l,eH⟩
 ·subst ey eH;obtain⟨z,hd,vs,rel,dd⟩:=dk_of I.hok e;have hz:vs.length<=sizeLine:=by rw[←rel.length];exact z
  have hl:(putK kvs k v).length<=sizeLine:=by have:=zbp kvs k v;omega
  refine wpAny_setItem_pairs (hsz:=hz) (zmq ry) dd fun h' dd' hs=>h _ ?_;have he:∃q,h'.get? a=some q:=let⟨q,_,_,hq,_⟩:=dd';⟨q,hq⟩;exact zeo I (by rw[e];exact True.intro) hs he (dk_new hl hd (rel.put k rv) dd')
 ·subst ey eH
  cases(show u=Value.ref b from ry);obtain⟨z,hd,xs,rel,dd⟩:=znl I.hok e;have hz:xs.length<=sizeLine:=by rw[←Paired.length rel];exact z
  have hl:(putK kvs k v).length<=sizeLine:=by have:=zbp kvs k v;omega
  refine wpAny_setItem_heap (hsz:=hz) (tupleKind_room_in1 hu) (ze0 I.hok eb) dd fun h' dd' hs=>h _ ?_;obtain⟨q,es,ep,hq,h2,h3,h4,_,h5⟩:=dd';refine zeo I (by rw[e];exact True.intro) hs ⟨q,hq⟩ ⟨hl,hd,_,(rel.put k eb rv).keeps fun c ys ec=>?_,q,es,ep,hq,h2,h3,h4,h5⟩
  rw[za5 (zkk ec e (fun z=>nomatch z))];exact ec
end
def NoSl(i:Expr):Prop:=∀ov iv,subscripted i false ov iv=operate [ov,iv] (getItem ov iv)
theorem subD_of{prog:Program}{w:World}{A:Around}{E:Value->Shared->Prop}{s:Shared}{env:Env}{value slice:Expr}{pos:Pos}{T id:String}{Q:Value->Shared->Prop}
  (hl:typeLookup (.type T) "__getitem__"=pure (some (.builtin id)))(hs:NoSl slice)
  (h:wpAny (model prog w) A (eval value env) (fun o s₁=>wpAny (model prog w) A (eval slice env) (fun i s₂=>s₂.TypeIs o T/\wpAny (model prog w) A (getItem o i) Q E s₂) E s₁) E s):
  wpAny (model prog w) A (eval (.Subscript value slice pos) env) Q E s:=by
 refine Subscript_ (wpAny_mono h (fun o s₁ h₁=>wpAny_mono h₁ (fun i s₂ h₂=>?_) fun _ _ x=>x) fun _ _ x=>x);obtain⟨hT,h₂⟩:=h₂;unfold subscriptTail;refine wpAny_bind ?_;rw[getitemInPython_of_ne hT.not_modules];refine wpAny_bind (wpAny_specialOf hT hl ?_);have fin:wpAny (model prog w) A (subscripted slice false o i) (fun r s₃=>wpAny (model prog w) A (letTemporaryGo value o r>>=fun _=>pure r) Q E s₃) E s₂:=by
  rw[hs o i];exact wpAny_operating (wpAny_mono h₂ (fun r s₃ h₃=>wpAny_bind (wpAny_letTemporaryGo (wpAny_pure h₃))) fun _ _ x=>x)
 first
  |exact wpAny_pure (wpAny_bind fin)
  |exact wpAny_bind (wpAny_pure (wpAny_bind fin))
  |exact wpAny_bind fin
theorem zjy{X:Cx}{pins:List (Addr×Obj)}{σ:St}{H:Hp}{s:Shared}{a:Addr}{y:V}{o:Option V}(I:Inv X pins σ H s)(g:DGet H a y o):s.TypeIs (.ref a) "dict":=by
 rcases g with⟨kvs,k,e,_,_⟩|⟨kvs,k,b,e,_,_,_⟩
 ·obtain⟨_,_,vs,_,dd⟩:=zk9 I.hok e;exact dd.typeIs
 ·obtain⟨_,_,xs,_,dd⟩:=zkn I.hok e;exact dd.typeIs
def zmv(td ty:TE):TE:=fun σ H Q=>td σ H fun x H1=>ty σ H1 fun y H2=>∃a v,x=.ref a/\DGet H2 a y (some v)/\Q v H2
def tDIn(ty td:TE):TE:=fun σ H Q=>ty σ H fun y H1=>td σ H1 fun x H2=>∃a o,x=.ref a/\DGet H2 a y o/\Q (.bl o.isSome) H2
def zjw(ty td:TE):TE:=fun σ H Q=>ty σ H fun y H1=>td σ H1 fun x H2=>∃a o,x=.ref a/\DGet H2 a y o/\Q (.bl (!o.isSome)) H2
def sDPut(td ty tv:TE):TS:=fun D σ H=>tv σ H fun v H1=>td σ H1 fun x H2=>ty σ H2 fun y H3=>∃a H4,x=.ref a/\DPut H3 a y v H4/\D.nx σ H4
section
variable{X:Cx}{o i e value:Expr}{pos pos' tpos:Pos}{td ty tv:TE}
theorem zhd(hu:X.A.units+1<cLine)(ho:PE X o td)(hi:PE X i ty)(hs:NoSl i):PE X (.Subscript o i pos) (zmv td ty):=by
 intro pins s σ H Q I h;refine subD_of PySem.F.slot_dict_getitem.lookup hs (thn (ho pins s σ H _ I h) fun u s1⟨x,H1,I1,rx,q1⟩=>thn (hi pins s1 σ H1 _ I1 q1) fun iv s2⟨y,H2,I2,ry,a,v,ex,g,q2⟩=>?_);subst ex;obtain rfl:u=Value.ref a:=rx;exact⟨zjy I2 g,zp5 hu I2 g ry fun w' s3 I3 rw'=>⟨v,H2,I3,rw',q2⟩⟩
theorem pc_din(hu:X.A.units+1<cLine)(hi:PE X i ty)(ho:PE X o td):PC X .In i o (tDIn ty td):=by
 intro pins s σ H Q I h;refine thn (hi pins s σ H _ I h) fun iv s1⟨y,H1,I1,ry,q1⟩=>thn (ho pins s1 σ H1 _ I1 q1) fun u s2⟨x,H2,I2,rx,a,ov,ex,g,q2⟩=>?_;subst ex;obtain rfl:u=Value.ref a:=rx;exact d_in hu I2 g ry fun s3 I3=>⟨.bl ov.isSome,H2,I3,rfl,q2⟩
theorem zjc(hu:X.A.units+1<cLine)(hi:PE X i ty)(ho:PE X o td):PC X .NotIn i o (zjw ty td):=by
 intro pins s σ H Q I h;refine thn (hi pins s σ H _ I h) fun iv s1⟨y,H1,I1,ry,q1⟩=>thn (ho pins s1 σ H1 _ I1 q1) fun u s2⟨x,H2,I2,rx,a,ov,ex,g,q2⟩=>?_;subst ex;obtain rfl:u=Value.ref a:=rx;exact d_notIn hu I2 g ry fun s3 I3=>⟨.bl (!ov.isSome),H2,I3,rfl,q2⟩
theorem zk8(hu:X.A.units+1<cLine)(ho:PE X o td)(hi:PE X i ty)(hv:PE X value tv)(hs:swapsWith value (some (.Subscript o i pos')) pos.line X.env=pure false):
  PS X (.Assign [.Subscript o i pos'] value pos) (sDPut td ty tv):=by
 intro pins s σ H D I h;refine wpAny_Assign_Subscript (thn (hv pins s σ H _ I h) fun r s1⟨v,H1,I1,rv,q1⟩=>thn (ho pins s1 σ H1 _ I1 q1) fun u s2⟨x,H2,I2,rx,q2⟩=>thn (hi pins s2 σ H2 _ I2 q2) fun iv s3⟨y,H3,I3,ry,a,H4,ex,g,q3⟩=>?_) hs;subst ex;obtain rfl:u=Value.ref a:=rx;exact zp1 hu I3 g ry rv fun s4 I4=>⟨σ,H4,I4,q3⟩
end
theorem zl4{P:Program}{w:World}{H:Hp}(h:Heap)(hb:sysModules<h.objs.size):zct P w H (h.push {cls:=.type "dict",data:=.dict #[]}) h.objs.size (.dT []):=
 ⟨Nat.zero_le _,beq_eq_false_iff_ne.mpr (Ne.symm (Nat.ne_of_lt hb)),[],.nil,_,#[],0,Heap.get?_push_size _ rfl,⟨rfl,rfl,rfl⟩,rfl,rfl,List.nodup_nil⟩
def zje:TE:=fun _ H Q=>∀p,H p=none->Q (.ref p) (upd H p (.dT []))
section
variable{X:Cx}{pos:Pos}
theorem zf4:PE X (.Dict [] [] pos) zje:=fun pins s σ H Q I h=>
 wpAny_Dict_empty ⟨.ref s.heap.objs.size,_,I.laid (a:=s.heap.objs.size) (o:=.dT []) (t':=s.toks) (fun _ _ q=>Heap.get?_push_of_some _ q) (Nat.le_refl _) (zl4 s.heap I.big),rfl,h _ (I.hok.fresh (Nat.le_refl _))⟩
end
structure M1(X:Cx)(o:Expr)(m:Str)(apos:Pos)(e:Expr)(cpos:Pos):Prop where
 base:attributeBase o m X.env (eval o X.env)=eval o X.env
 few:((backTo cpos (starEach [e] X.env)).all (fun x=> !x.1)&&(backToKw cpos (keywordEach [] X.env)).all (fun x=>x.1.isSome)
  &&decide (([e]:List Expr).length+([]:List Keyword).length+(if([]:List Keyword).isEmpty then 0 else 1)<30))=true
 line:(apos.endLine==cpos.line)=true
 trees:backTo cpos (starEach [e] X.env)=[(false,eval e X.env)]
structure M2(X:Cx)(o:Expr)(m:Str)(apos:Pos)(e f:Expr)(cpos:Pos):Prop where
 base:attributeBase o m X.env (eval o X.env)=eval o X.env
 few:((backTo cpos (starEach [e,f] X.env)).all (fun x=> !x.1)&&(backToKw cpos (keywordEach [] X.env)).all (fun x=>x.1.isSome)
  &&decide (([e,f]:List Expr).length+([]:List Keyword).length+(if([]:List Keyword).isEmpty then 0 else 1)<30))=true
 line:(apos.endLine==cpos.line)=true
 trees:backTo cpos (starEach [e,f] X.env)=[(false,eval e X.env),(false,eval f X.env)]
def IsD(H:Hp)(a:Addr):Prop:=(∃kvs,Rd H a (.dK kvs))∨∃kvs,Rd H a (.dT kvs)
theorem zps{X:Cx}{pins:List (Addr×Obj)}{σ:St}{H:Hp}{s:Shared}{a:Addr}(I:Inv X pins σ H s)(d:IsD H a):
  s.TypeIs (.ref a) "dict"/\(∀b,Value.ref a=.ref b->∃ob,s.heap.get? b=some ob/\ob.dict=none)/\(a==sysModules)=false:=by
 rcases d with⟨kvs,e⟩|⟨kvs,e⟩
 ·obtain⟨_,hd,vs,_,dd⟩:=zk9 I.hok e;refine⟨dd.typeIs,fun b q=>?_,hd⟩
  cases q;obtain⟨ob,_,_,h1,h2,_⟩:=dd;exact⟨ob,h1,h2.2.1⟩
 ·obtain⟨_,hd,xs,_,dd⟩:=zkn I.hok e;refine⟨dd.typeIs,fun b q=>?_,hd⟩
  cases q;obtain⟨ob,_,_,h1,h2,_⟩:=dd;exact⟨ob,h1,h2.2.1⟩
section
variable{X:Cx}{pins:List (Addr×Obj)}{σ:St}{H:Hp}{s:Shared}{a:Addr}{y d:V}{u r:Value}{o:Option V}{A:Around}{E:Value->Shared->Prop}
theorem d_get2{Q:Value->Shared->Prop}(hu:A.units+1<cLine)(I:Inv X pins σ H s)(g:DGet H a y o)(ry:RelV y u)(rd:RelV d r)(h:∀w' s',Inv X pins σ H s'->RelV (o.getD d) w'->Q w' s'):
  wpAny (model X.prog X.w) A (call (.builtin "dict.get") [.ref a,u,r]) Q E s:=by
 rcases g with⟨kvs,k,e,ey,l⟩|⟨kvs,k,b,e,ey,eb,l⟩
 ·subst ey;obtain⟨z,hd,vs,rel,dd⟩:=zk9 I.hok e;refine call_meetsIn PySem.F.slot_dict_get dd.typeIs PySem.F.entry_dict_get (PySem.F.args_dict_get_3 _ _ _) (meets_dict_get_default (zaa X.prog X.w) a (zmq ry) hd r) ⟨_,dd.mapOf,h _ _ (I.tok _) ?_⟩;rw[l];exact(rel.val k).getD rd
 ·subst ey
  cases(show u=Value.ref b from ry);obtain⟨z,hd,xs,rel,dd⟩:=zkn I.hok e;refine call_meetsIn PySem.F.slot_dict_get dd.typeIs PySem.F.entry_dict_get (PySem.F.args_dict_get_3 _ _ _) (meetsH_dict_get_default (tupleKind (zaa X.prog X.w)) a b hd r) ⟨tupleKind_room_in1 hu,k,xs,ze0 I.hok eb,dd,h _ _ (I.tok _) ?_⟩;rw[l];exact(rel.val k).getD rd
end
def zo9(td ty tx:TE):TE:=fun σ H Q=>td σ H fun x H1=>∃a,x=.ref a/\IsD H1 a/\ty σ H1 fun y H2=>tx σ H2 fun z H3=>∃o,DGet H3 a y o/\Q (o.getD z) H3
section
variable{X:Cx}{o e f:Expr}{apos cpos:Pos}{td ty tx:TE}
theorem zlf(hu:X.A.units+1<cLine)(ho:PE X o td)(he:PE X e ty)(hf:PE X f tx)(m:M2 X o "get" apos e f cpos):PE X (.Call (.Attribute o "get" apos) [e,f] [] cpos) (zo9 td ty tx):=by
 intro pins s σ H Q I h;refine wpAny_Call_method m.base m.few m.line PySem.F.plainAttrs_dict PySem.F.slot_dict_get PySem.F.type_dict_get (thn (ho pins s σ H _ I h) fun u s1⟨x,H1,I1,rx,a,ex,d,q1⟩=>?_);subst ex;obtain rfl:u=Value.ref a:=rx;obtain⟨t1,t2,_⟩:=zps I1 d;refine⟨t1,t2,?_⟩;rw[m.trees];refine Calls.callWith_builtin rfl (Calls.evalArgs_plain (Calls.spliced_cons (thn (he pins s1 σ H1 _ I1 q1) fun iv s2⟨y,H2,I2,ry,q2⟩=>
  Calls.spliced_cons (thn (hf pins s2 σ H2 _ I2 q2) fun fv s3⟨z,H3,I3,rz,ov,g,q3⟩=>Calls.spliced_nil ?_))))
 exact d_get2 hu I3 g ry rz fun w' s4 I4 rw'=>⟨_,H3,I4,rw',q3⟩
end
section
variable{X:Cx}{x:Str}{p pos:Pos}{e:Expr}{es:List Expr}{kws:List Keyword}{ks:List Str}{t tk:TA}{id:String}{r:List V->List V->Hp->VK->Prop}
def CallKR(X:Cx)(f:Value)(ks:List Str)(r:List V->List V->Hp->VK->Prop):Prop:=
 ∀(pins:List (Addr×Obj))(s:Shared)(σ:St)(H:Hp)(xs zs:List V)(us ws:List Value)(Q:VK),Inv X pins σ H s->Vals xs us->Vals zs ws->r xs zs H Q->wpAny (model X.prog X.w) X.A (call f us (ks.zip ws)) (EP X pins σ Q) X.xe s
def tCBK(r:List V->List V->Hp->VK->Prop)(t tk:TA):TE:=fun σ H Q=>t σ H fun xs H1=>tk σ H1 fun zs H2=>r xs zs H2 Q
theorem zpq(hc:CallKR X (.builtin id) ks r)(hg:Gl X x)(hm:X.mg x=none)(hv:bootBuiltins x=some (.builtin id))(ha:PA X (e::es) t)(hkw:PK X kws tk)(hks:(backToKw pos (keywordEach kws X.env)).filterMap (·.1)=ks:=by rfl)
  (hn:x≠"__name__":=by decide) (hdb:(x==("__debug__":Str))=false:=by decide) (he:backTo pos (starEach (e::es) X.env)=(false,eval e X.env)::backTo pos (starEach es X.env):=by rfl) (hpl:(backTo pos (starEach (e::es) X.env)).any (·.1)=false:=by rfl)
  (hall:(backToKw pos (keywordEach kws X.env)).all (·.1.isSome)=true:=by rfl) (hno:(backToKw pos (keywordEach kws X.env)).any (·.1.isNone)=false:=by rfl):PE X (.Call (.Name x p) (e::es) kws pos) (tCBK r t tk):=by
 intro pins s σ H Q I h;refine wpAny_Call_Name_kw (zgu I hg hm hv ?_ hn hdb);refine callWith_kw (thn (ha pos pins s σ H _ I h) fun us s1⟨vs,H1,I1,r1,q1⟩=>thn (hkw pos pins s1 σ H1 _ I1 q1) fun ws s2⟨zs,H2,I2,r2,q2⟩=>?_) he hpl hall hno;rw[hks];exact hc pins s2 σ H2 vs zs us ws Q I2 r1 r2 q2
end
section
variable{prog:Program}{w:World}{A:Around}{R:Result->Shared->Prop}{I:Addr}{fp wr:List Addr}{n:Nat}{P:Nat->Value->Prop}{St:Nat->Heap->Prop}
theorem maxD_on(W:Walks prog w A.in1 I fp wr n P St)(bt:Nat->Nat->Bool)(hc:CmpOf prog w A.in1 .Gt P bt)(S:Addr)(nS:S∉fp)(kw:List (Str×Value)):∀(k j:Nat)(s:Shared)(vb:Value)(c:Nat),n-(j+1)=k->j+1<=n->St (j+1) s.heap->P (argBest bt j) vb->
  s.heap.get? S=some {cls:=.type "list",dict:=none,data:=.seq #[vb,vb] c,slots:=#[]}->(∀v h' tk,P (argBest bt (n-1)) v->(∀b o,b∉wr->b≠S->s.heap.get? b=some o->h'.get? b=some o)->R (.ok (.ret v)) {s with heap:=h',toks:=tk})->
  codeAny (model prog w) A (.builtin "max.loop" ⟨[.ref I,.none,.ref S],kw⟩) R s:=by
 have nw:S∉wr:=fun z=>nS (W.sub _ z);have nm:(toString "max"++toString ".loop":String)="max.loop":=by decide
 intro k
 induction k with
 |zero=>
  intro j s vb c hk hj st hb oS q;have ej:j+1=n:=by omega
  refine codeAny_builtin F.entry_max_loop ?_;rw[Around.under_plainId F.plain_max_loop _];refine wpAny_bind (m:=seqItems? (.ref S)) (wpAny_seqItems oS rfl (wpAny_bind (wpAny_tryCatch (W.done s _ _ (ej▸st) fun h' tk kp=>?_))));refine wpAny_bind (wpAny_updateSeq (kp S _ nw oS) rfl (wpAny_bind (wpAny_letGo (wpAny_pure ?_))));exact q vb _ tk (by rw[←ej];exact hb) fun b o b1 b2 e=>(Heap.get?_update_other _ _ (Ne.symm b2)).trans (kp b o b1 e)
 |succ k ih=>
  intro j s vb c hk hj st hb oS q;refine codeAny_builtin F.entry_max_loop ?_;rw[Around.under_plainId F.plain_max_loop _];refine wpAny_bind (m:=seqItems? (.ref S)) (wpAny_seqItems oS rfl (wpAny_bind (wpAny_tryCatch (W.item (j+1) s _ _ (by omega) st fun v h' tk hP st' kp=>?_))))
  have oS':=kp S _ nw oS;refine wpAny_bind (wpAny_pure ?_);refine wpAny_bind (m:=tryCatch (holding [v,v] (richCompare CmpOp.Gt v vb>>=_)) _) (wpAny_tryCatch (wpAny_holding (wpAny_bind (hc (j+1) (argBest bt j) v vb _ _ _ hP hb (wpAny_bind (wpAny_holding (wpAny_truthy_bool (wpAny_bind (wpAny_letGo (wpAny_pure ?_))))))))))
  cases bb:bt (j+1) (argBest bt j) with
  |true=>
   simp only[if_true];refine wpAny_bind (wpAny_updateSeq oS' rfl (wpAny_bind (wpAny_letGo ?_)));rw[nm];refine wpAny_pure ⟨plainId_quiet F.plain_max_loop _,ih (j+1) _ v _ (by omega) (by omega) (W.frame _ _ _ st' fun b hf o e=>(Heap.get?_update_other _ _ (fun z:S=b=>nS (by rw[z];exact hf))).trans e) (by simp only[argBest,bb,if_true];exact hP) (Heap.get?_update_self _ oS' rfl) fun v' h'' tk'' hP' kp'=>?_⟩
   exact q v' h'' tk'' hP' fun b o b1 b2 e=>kp' b o b1 b2 ((Heap.get?_update_other _ _ (Ne.symm b2)).trans (kp b o b1 e))
  |false=>
   simp only[Bool.false_eq_true,if_false];refine wpAny_bind (wpAny_letGo ?_);rw[nm];exact wpAny_pure ⟨plainId_quiet F.plain_max_loop _,ih (j+1) _ vb c (by omega) (by omega) st' (by simp only[argBest,bb,Bool.false_eq_true,if_false];exact hb) oS' fun v' h'' tk'' hP' kp'=>q v' h'' tk'' hP' fun b o b1 b2 e=>kp' b o b1 b2 (kp b o b1 e)⟩
theorem zmc(W:Walks prog w A.in1 I fp wr n P St)(bt:Nat->Nat->Bool)(hc:CmpOf prog w A.in1 .Gt P bt)(S:Addr)(nS:S∉fp){k:Str}{d:Value}{s:Shared}{c:Nat}(st:St 0 s.heap)
  (oS:s.heap.get? S=some {cls:=.type "list",dict:=none,data:=.seq #[] c,slots:=#[]})
  (q:∀v h' tk,((0<n/\P (argBest bt (n-1)) v)∨(n=0/\v=d))->(∀b o,b∉wr->b≠S->s.heap.get? b=some o->h'.get? b=some o)->R (.ok (.ret v)) {s with heap:=h',toks:=tk}):
  codeAny (model prog w) A (.builtin "max.loop" ⟨[.ref I,.none,.ref S],[(k,d)]⟩) R s:=by
 have nw:S∉wr:=fun z=>nS (W.sub _ z);have nm:(toString "max"++toString ".loop":String)="max.loop":=by decide
 refine codeAny_builtin F.entry_max_loop ?_;rw[Around.under_plainId F.plain_max_loop _]
 by_cases h0:n=0
 ·subst h0;refine wpAny_bind (m:=seqItems? (.ref S)) (wpAny_seqItems oS rfl (wpAny_bind (wpAny_tryCatch (W.done s _ _ st fun h' tk kp=>?_))));exact wpAny_bind (wpAny_rule (wpAny_pure (q d h' tk (.inr ⟨rfl,rfl⟩) fun b o b1 _ e=>kp b o b1 e)))
 ·refine wpAny_bind (m:=seqItems? (.ref S)) (wpAny_seqItems oS rfl (wpAny_bind (wpAny_tryCatch (W.item 0 s _ _ (by omega) st fun v h' tk hP st' kp=>?_))))
  refine wpAny_bind (wpAny_pure ?_);refine wpAny_bind (wpAny_updateSeq (kp S _ nw oS) rfl ?_);rw[nm];refine wpAny_pure ⟨plainId_quiet F.plain_max_loop _,maxD_on W bt hc S nS _ _ 0 _ v _ rfl (by omega) (W.frame _ _ _ st' fun b hf o e=>(Heap.get?_update_other _ _ (fun z:S=b=>nS (by rw[z];exact hf))).trans e) hP (Heap.get?_update_self _ (kp S _ nw oS) rfl) fun v' h'' tk'' hP' kp'=>?_⟩
  exact q v' h'' tk'' (.inl ⟨by omega,hP'⟩) fun b o b1 b2 e=>kp' b o b1 b2 ((Heap.get?_update_other _ _ (Ne.symm b2)).trans (kp b o b1 e))
end
theorem zos(a v:Value):argsOk "max" ⟨[a],[(Str.ofString "default",v)]⟩:=by unfold argsOk;kernel_rfl
theorem zl2(val:Nat->Int):∀k,argBest (fun i j=>decide (val i>val j)) k<=k/\∀i,i<=k->val i<=val (argBest (fun i j=>decide (val i>val j)) k)
 |0=>⟨Nat.le_refl _,fun i hi=>by rw[Nat.le_zero.mp hi];exact Int.le_refl _⟩
 |k+1=>by
  obtain⟨h1,h2⟩:=zl2 val k;unfold argBest
  by_cases c:val (k+1)>val (argBest (fun i j=>decide (val i>val j)) k)
  ·rw[if_pos (decide_eq_true c)];refine⟨Nat.le_refl _,fun i hi=>?_⟩
   by_cases e:i=k+1
   ·rw[e];exact Int.le_refl _
   ·have:=h2 i (by omega)
    omega
  ·rw[if_neg (by rw[decide_eq_false c];decide)]
   refine⟨by omega,fun i hi=>?_⟩
   by_cases e:i=k+1
   ·rw[e];omega
   ·exact h2 i (by omega)
def rMaxD:List V->List V->Hp->VK->Prop:=fun xs zs H Q=>∃p ns d,xs=[.ref p]/\zs=[.int d]/\H p=some (.lst (ns.map V.int))/\∀g,(∀n,n∈ns->n<=g)->(g∈ns∨(ns=[]/\g=d))->Q (.int g) H
section
variable{X:Cx}
theorem zop(hc:X.calm=true):CallKR X (.builtin "max") [Str.ofString "default"] rMaxD:=by
 intro pins s σ H xs zs us ws Q I r rz h;obtain⟨p,ns,d,rfl,rfl,hp,q⟩:=h;obtain⟨u,rfl,ru⟩:=vals1 r;obtain⟨u',rfl,t,rfl⟩:=vals1 rz
 cases ru;obtain⟨its,rv,pl,hz⟩:=I.list (.of hp);have ia:IntsAre its ns:=by
  have:=zgm rv
  simpa using this
 have len:=ia.length;have ne:p≠s.heap.objs.size:=Nat.ne_of_lt pl.lt;have nm:(toString "max"++toString ".loop":String)="max.loop":=by decide
 refine kmk_tree PySem.F.kind_max PySem.F.plain_max PySem.F.entry_max (zos _ _) ?_;refine wpAny_bind (m:=Builtin.Builtins.bindParams "max" ["key","default"] 0 ⟨[],[(Str.ofString "default",.int d t)]⟩) (wpAny_of_eq (show Builtin.Builtins.bindParams "max" ["key","default"] 0 ⟨[],[(Str.ofString "default",.int d t)]⟩=pure [none,some (.int d t)] from rfl) (wpAny_bind (wpAny_pure (wpAny_bind (wpAny_pyIter_list pl.isList (wpAny_bind (wpAny_newList ?_ (Nat.zero_le _))))))));rw[nm];have W:=Walks.list (prog:=X.prog) (w:=X.w) (A:=X.A.in1) (show X.A.in1.handled=none from I.ok.hd hc) s.heap.objs.size p ne its.toArray;have it:∀i v,its.toArray[i]?=some v->∃t,v=Value.int (ns.getD i 0) t:=fun i v hv=>IntsAre.int_at ia i v (by simpa using hv)
 have sz:(s.heap.push {cls:=.type "list_iterator",data:=.fields #[.ref p,.int 0 0]}).objs.size=s.heap.objs.size+1:=by rw[Heap.size_push]
 refine wpAny_pure ⟨plainId_quiet PySem.F.plain_max_loop _,zmc W (fun i j=>decide (ns.getD i 0>ns.getD j 0)) (CmpOf.ints_gt (fun i=>ns.getD i 0) it) _ (fun z=>?_) (st:=W.frame 0 _ _ ⟨⟨_,Heap.get?_push_size _ rfl,rfl,rfl⟩,pl.isList.push _⟩ fun b _ o e=>Heap.get?_push_of_some _ e) (Heap.get?_push_size _ rfl) fun v h' tk hv kp=>?_⟩
 ·rw[sz] at z;have l2:p<s.heap.objs.size:=pl.lt;rcases List.mem_cons.mp z with z|z
  ·exact absurd z (Nat.ne_of_gt (Nat.lt_succ_self _))
  ·exact absurd (List.mem_singleton.mp z) (Nat.ne_of_gt (Nat.lt_succ_of_lt l2))
 ·have keep:∀b o,s.heap.get? b=some o->h'.get? b=some o:=fun b o e=>by
   have lt:=Heap.lt_size e;refine kp b o (fun z=>?_) (fun z=>?_) (Heap.get?_push_of_some _ (Heap.get?_push_of_some _ e))
   ·exact absurd (show b=s.heap.objs.size by simpa using z) (Nat.ne_of_lt lt)
   ·rw[sz] at z;exact absurd z (Nat.ne_of_lt (Nat.lt_succ_of_lt lt))
  obtain⟨b1,b2⟩:=zl2 (fun i=>ns.getD i 0) (its.toArray.size-1);have J:Inv X pins σ H {s with heap:=h',toks:=tk}:=I.kept keep;rcases hv with⟨h0,hv⟩|⟨h0,rfl⟩
  ·obtain⟨t',rfl⟩:=it _ _ hv;have h0:0<its.length:=by simpa using h0
   have zi:its.toArray.size=its.length:=rfl;rw[zi] at b1 b2⊢;refine⟨.int _,H,J,⟨t',rfl⟩,q _ (fun n hn=>?_) (.inl ?_)⟩
   ·obtain⟨i,hi,e⟩:=List.mem_iff_getElem.mp hn;have:=b2 i (by omega)
    have e':ns.getD i 0=n:=by simp[hi,e]
    rw[e'] at this;exact this
   ·have hb:argBest (fun i j=>decide (ns.getD i 0>ns.getD j 0)) (its.length-1)<ns.length:=by omega
    rw[List.getD_eq_getElem?_getD,List.getElem?_eq_getElem hb];exact List.getElem_mem _
  ·have h0:its.length=0:=by simpa using h0
   have n0:ns=[]:=List.eq_nil_of_length_eq_zero (by omega)
   exact⟨.int d,H,J,⟨t,rfl⟩,q d (fun n hn=>by rw[n0] at hn;cases hn) (.inr ⟨n0,rfl⟩)⟩
end
section
variable{prog:Program}{w:World}{A:Around}{E:Value->Shared->Prop}{s:Shared}
theorem sd_heap{d a:Addr}{xs:List (List Key×Addr×Value)}{k:List Key}{v:Value}{Q:Value->Shared->Prop}(hu:(tupleKind (zaa prog w)).room A)(hkey:(tupleKind (zaa prog w)).is s.heap k a)(hm:s.heap.DictOfH (tupleKind (zaa prog w)) d xs)(hz:xs.length<=sizeLine)
  (q1:∀p,atKey xs k=some p->Q p.2 {s with toks:=s.toks+(tupleKind (zaa prog w)).draws k})
  (q2:atKey xs k=none->∀h',h'.DictOfH (tupleKind (zaa prog w)) d (storedH xs k a v)->Heap.SameBut d s.heap h'->Q v {s with heap:=h',toks:=s.toks+(tupleKind (zaa prog w)).draws k}):
  wpAny (model prog w) A (dictSetDefault d (.ref a) v) Q E s:=by
 obtain⟨o,es,ep,ho,hc,hd,he,his,hn⟩:=hm;unfold dictSetDefault;refine wpAny_holding (wpAny_bind ((tupleKind (zaa prog w)).pyHash hu hkey (wpAny_bind (wpAny_dictFind_heap (s:={s with toks:=s.toks+(tupleKind (zaa prog w)).draws k}) hu hkey ho hd he his hn (fun hno=>?_) fun j p hj=>?_))))
 ·have an:=atKey_none_of_get hno;have hnot:k∉xs.map (·.1):=not_mem_keys_of_get hno;refine wpAny_bind (wpAny_rule (wpAny_bind (wpAny_updateDictKeys (hz:=by have e:=size_of_entries he;omega) (s:={s with toks:=s.toks+(tupleKind (zaa prog w)).draws k}) ho hd (wpAny_pure (q2 an _ ⟨_,_,ep+1,Heap.get?_update_self _ ho (Obj.isFreed_of_dict (Obj.data_mapDictKeys hd _)),hc.mapDictKeys _,Obj.data_mapDictKeys hd _,?_,?_,?_⟩ (Heap.SameBut.update ..))))))
  ·rw[storedH_new an]
   simp[he,entryOfKey]
  ·rw[storedH_new an];intro x hx;rcases List.mem_append.mp hx with y|y
   ·exact(tupleKind (zaa prog w)).keeps (his x y) ho hd (Heap.SameBut.update ..)
   ·rw[List.mem_singleton.mp y];exact(tupleKind (zaa prog w)).keeps hkey ho hd (Heap.SameBut.update ..)
  ·rw[storedH_new an,List.map_append,List.nodup_append];refine⟨hn,by simp,fun x hx y hy e=>hnot ?_⟩
   have y':y=k:=by simpa using hy
   rw[←y',←e];exact hx
 ·refine wpAny_bind (wpAny_dictEntries (s:={s with toks:=s.toks+(tupleKind (zaa prog w)).draws k}) ho hd ?_);rw[entry_at he j,hj];exact wpAny_bind (wpAny_rule (wpAny_pure (q1 p (atKey_of_get hn hj))))
theorem sd_meets{d a:Addr}(hd:(d==sysModules)=false)(v:Value):MeetsIn prog w (Builtin.«dict.setdefault» ⟨[.ref d,.ref a,v],[]⟩) (fun A R s=>(tupleKind (zaa prog w)).room A.in1/\∃k xs,(tupleKind (zaa prog w)).is s.heap k a/\s.heap.DictOfH (tupleKind (zaa prog w)) d xs/\xs.length<=sizeLine/\
  (∀p,atKey xs k=some p->R (.ok (.ret p.2)) {s with toks:=s.toks+(tupleKind (zaa prog w)).draws k})/\
  (atKey xs k=none->∀h',h'.DictOfH (tupleKind (zaa prog w)) d (storedH xs k a v)->Heap.SameBut d s.heap h'->R (.ok (.ret v)) {s with heap:=h',toks:=s.toks+(tupleKind (zaa prog w)).draws k})):=
 .of_wp fun A R s⟨hu,k,xs,hkey,hm,hz,h1,h2⟩=>by
  unfold Builtin.«dict.setdefault» Builtin.Dict.keyAndDefault;refine wpAny_bind (wpAny_bind (wpAny_notOrdered_dict hm.typeIs ?_));show wpAny _ _ (pure (d,Value.ref a,some v)) _ _ s;refine wpAny_pure ?_;show wpAny _ _ (if(d==sysModules)=true then _ else(dictSetDefault d (Value.ref a) v>>=_)) _ _ s;rw[if_neg (by rw[hd];decide)]
  exact wpAny_bind (sd_heap hu hkey hm hz (fun p hp=>wpAny_pure ⟨p.2,rfl,h1 p hp⟩) fun hn h' hm' hs'=>wpAny_pure ⟨v,rfl,h2 hn h' hm' hs'⟩)
end
section
variable{X:Cx}{pins:List (Addr×Obj)}{σ:St}{H:Hp}{s:Shared}
def rSD(a:Addr)(y z:V)(H:Hp)(Q:VK):Prop:=∃kvs k b,H a=some (.dT kvs)/\y=.ref b/\H b=some (.tup (k.map kV))/\kvs.length<sizeLine/\(∀v,valV kvs k=some v->Q v H)/\(valV kvs k=none->Q z (upd H a (.dT (putK kvs k z))))
theorem zjn{A:Around}{E:Value->Shared->Prop}{a:Addr}{y z:V}{u r:Value}{Q:VK}(hu:A.units+1<cLine)(I:Inv X pins σ H s)(g:rSD a y z H Q)(ry:RelV y u)(rz:RelV z r):
  wpAny (model X.prog X.w) A (call (.builtin "dict.setdefault") [.ref a,u,r]) (EP X pins σ Q) E s:=by
 obtain⟨kvs,k,b,e,rfl,eb,l,q1,q2⟩:=g
 cases(show u=Value.ref b from ry);obtain⟨zz,hd,xs,rel,dd⟩:=znl I.hok e;have hz:xs.length<=sizeLine:=by rw[←Paired.length rel];exact zz
 have hl:(putK kvs k z).length<=sizeLine:=by have:=zbp kvs k z;omega
 refine call_meetsIn PySem.F.slot_dict_setdefault dd.typeIs PySem.F.entry_dict_setdefault (PySem.F.args_dict_setdefault_3 _ _ _) (sd_meets hd r) ⟨tupleKind_room_in1 hu,k,xs,ze0 I.hok eb,dd,hz,fun p hp=>?_,fun hn h' dd' hs=>?_⟩
 ·have rv:=rel.val k;rw[hp] at rv
  cases hv:valV kvs k with
  |none=>rw[hv] at rv;exact rv.elim
  |some v=>
   rw[hv] at rv;exact⟨v,H,I.tok _,rv,q1 v hv⟩
 ·have hv:valV kvs k=none:=by
   have rv:=rel.val k;rw[hn] at rv
   cases hv:valV kvs k with
   |none=>rfl
   |some v=>rw[hv] at rv;exact rv.elim
  obtain⟨o,es,ep,ho,h2,h3,h4,_,h5⟩:=dd';refine⟨z,upd H a (.dT (putK kvs k z)),zeo I (by rw[e];exact True.intro) hs ⟨o,ho⟩ ⟨hl,hd,_,(rel.put k eb rz).keeps fun c ys ec=>?_,o,es,ep,ho,h2,h3,h4,h5⟩,rz,q2 hv⟩
  rw[za5 (zkk ec e (fun z=>nomatch z))];exact ec
variable{o e f:Expr}{td ty tx:TE}{apos cpos:Pos}
def tDSd(td ty tx:TE):TE:=fun σ H Q=>td σ H fun x H1=>∃a,x=.ref a/\IsD H1 a/\ty σ H1 fun y H2=>tx σ H2 fun z H3=>rSD a y z H3 Q
theorem pe_dsd(hu:X.A.units+1<cLine)(ho:PE X o td)(he:PE X e ty)(hf:PE X f tx)(m:M2 X o "setdefault" apos e f cpos):PE X (.Call (.Attribute o "setdefault" apos) [e,f] [] cpos) (tDSd td ty tx):=by
 intro pins s σ H Q I h;refine wpAny_Call_method m.base m.few m.line PySem.F.plainAttrs_dict PySem.F.slot_dict_setdefault PySem.F.type_dict_setdefault (thn (ho pins s σ H _ I h) fun u s1⟨x,H1,I1,rx,a,ex,d,q1⟩=>?_);subst ex;obtain rfl:u=Value.ref a:=rx;obtain⟨t1,t2,_⟩:=zps I1 d;refine⟨t1,t2,?_⟩;rw[m.trees];exact Calls.callWith_builtin rfl (Calls.evalArgs_plain (Calls.spliced_cons (thn (he pins s1 σ H1 _ I1 q1) fun iv s2⟨y,H2,I2,ry,q2⟩=>Calls.spliced_cons (thn (hf pins s2 σ H2 _ I2 q2) fun fv s3⟨z,H3,I3,rz,g⟩=>Calls.spliced_nil (zjn hu I3 g ry rz)))))
end
section
variable{prog:Program}{w:World}{A:Around}{E:Value->Shared->Prop}{s:Shared}
theorem zpy{d:Addr}{od:Obj}{es:Array DictEntry}{ep:Nat}{Q:Value->Shared->Prop}(hd:(d==sysModules)=false)(ho:s.heap.get? d=some od)(hc:od.cls=.type "dict")(hdat:od.data=.dict es ep)
  (q:Q (.ref s.heap.objs.size) {s with heap:=s.heap.push {cls:=.type "dict_keyiterator",data:=.fields #[.ref d,.int 0 0,.int es.size 0,.int ep 0]}}):wpAny (model prog w) A (pyIter (.ref d)) Q E s:=by
 have ty:s.TypeIs (.ref d) "dict":=⟨od,ho,hc⟩;refine wpAny_pyIter_slot ty PySem.F.slot_dict_iter (wpAny_call_entry PySem.F.slot_dict_iter ty PySem.F.entry_dict_iter ?_ (PySem.F.args_dict_iter_1 _));unfold Builtin.«dict.__iter__»;refine wpAny_bind ?_;unfold Builtin.Dict.dictSlotNone;refine wpAny_bind (wpAny_notOrdered_dict ty (wpAny_pure ?_));refine wpAny_bind (m:=Builtin.Dict.showsAll d) ?_;unfold Builtin.Dict.showsAll;rw[if_neg (by rw[hd];decide)]
 refine wpAny_pure (wpAny_bind (wpAny_dictEntries ho hdat (wpAny_bind (wpAny_dictEpoch ho hdat (wpAny_bind (wpAny_newObj_type (wpAny_pure ⟨_,rfl,"dict_keyiterator",_,⟨_,Heap.get?_push_size _ rfl,rfl⟩,PySem.F.slot_dict_keyiterator_next.lookup,?_⟩)))))))
 simpa[rawInt] using q
theorem zmp{it d:Addr}{i ep:Nat}{od:Obj}{es:Array DictEntry}{Q:Option Value->Shared->Prop}(hit:s.heap.IsKeyIter it d i es.size ep)(ho:s.heap.get? d=some od)(hdat:od.data=.dict es ep)(hi:i<es.size)
  (q:∀h',h'.IsKeyIter it d (i+1) es.size ep->Heap.SameBut it s.heap h'->Q (some es[i].key) {s with heap:=h'}):wpAny (model prog w) A (pyNext (.ref it)) Q E s:=by
 obtain⟨o,hoi,hci,hdi⟩:=id hit;have own:Builtin.Dict_items.ownsTuple "dict_keyiterator"=false:=by decide
 unfold pyNext;refine wpAny_bind (wpAny_attempt (wpAny_callSpecial?_slot (name:=Str.ofString "__next__") hit.typeIs PySem.F.slot_dict_keyiterator_next (wpAny_call_entry PySem.F.slot_dict_keyiterator_next hit.typeIs PySem.F.entry_dict_keyiterator_next (wpAny_bind (wpAny_pure (wpAny_bind (wpAny_bind ?_)))) (PySem.F.args_dict_keyiterator_next_1 _))))
 first|refine wpAny_bind (wpAny_typeNameOfWhole_keyiter hit.typeIs (wpAny_pure (wpAny_bind (wpAny_fieldsOf hoi hdi ?_))))|refine wpAny_bind (wpAny_typeNameOf_keyiter hit.typeIs (wpAny_pure (wpAny_bind (wpAny_fieldsOf hoi hdi ?_))))
 simp only[own,Bool.false_eq_true,if_false];show wpAny _ _ (if(Value.ref d==Value.none)=true then _ else _) _ _ s;have nv:¬((Value.ref d==Value.none)=true):=Bool.false_ne_true;rw[if_neg nv];refine wpAny_bind (wpAny_pure (wpAny_bind (wpAny_dictEntries ho hdat ?_)));rw[if_neg (by simp)]
 refine wpAny_bind (wpAny_pure (wpAny_bind (wpAny_dictEpoch ho hdat ?_)));rw[if_neg (by simp)]
 refine wpAny_pure ?_;simp only[show ¬((i:Int)<0) from by omega,if_false,Int.toNat_natCast,Array.getElem?_eq_getElem hi]
 refine wpAny_bind ?_
 first|refine wpAny_bind (wpAny_typeNameOfWhole_keyiter hit.typeIs (wpAny_pure (wpAny_bind (wpAny_isOneOf_keyiter hit.typeIs ?_))))|refine wpAny_bind (wpAny_typeNameOf_keyiter hit.typeIs (wpAny_pure (wpAny_bind (wpAny_isOneOf_keyiter hit.typeIs ?_))))
 refine wpAny_bind (m:=setField (.ref it) 1 (rawInt ((i:Int)+1))) (wpAny_setField hoi hdi (by simp) ?_)
 have st:(s.heap.update it (Obj.mapFields (·.setIfInBounds 1 (rawInt ((i:Int)+1))))).IsKeyIter it d (i+1) es.size ep:=⟨_,Heap.get?_update_self _ hoi (Obj.isFreed_of_fields (Obj.data_mapFields hdi _)),(Obj.cls_mapFields ..).trans hci,by rw[Obj.data_mapFields hdi];simp[rawInt]⟩
 refine wpAny_bind (wpAny_holding (wpAny_bind (wpAny_isOneOf_keyiter (s:={s with heap:=s.heap.update it (Obj.mapFields (·.setIfInBounds 1 (rawInt ((i:Int)+1))))}) st.typeIs ?_)));exact wpAny_pure (wpAny_pure ⟨_,rfl,wpAny_pure (q _ st (Heap.SameBut.update ..))⟩)
theorem zog{it d:Addr}{i ep:Nat}{od:Obj}{es:Array DictEntry}{Q:Option Value->Shared->Prop}(hh:A.handled=none)(hit:s.heap.IsKeyIter it d i es.size ep)(ho:s.heap.get? d=some od)(hdat:od.data=.dict es ep)(hi:es.size<=i)
  (q:∀h',Heap.ExtBut it s.heap h'->Q none {s with heap:=h'}):wpAny (model prog w) A (pyNext (.ref it)) Q E s:=by
 obtain⟨o,hoi,hci,hdi⟩:=id hit;have own:Builtin.Dict_items.ownsTuple "dict_keyiterator"=false:=by decide
 unfold pyNext;refine wpAny_bind (wpAny_attempt (wpAny_callSpecial?_slot (name:=Str.ofString "__next__") hit.typeIs PySem.F.slot_dict_keyiterator_next (wpAny_call_entry PySem.F.slot_dict_keyiterator_next hit.typeIs PySem.F.entry_dict_keyiterator_next (wpAny_bind (wpAny_pure (wpAny_bind (wpAny_bind ?_)))) (PySem.F.args_dict_keyiterator_next_1 _))))
 first|refine wpAny_bind (wpAny_typeNameOfWhole_keyiter hit.typeIs (wpAny_pure (wpAny_bind (wpAny_fieldsOf hoi hdi ?_))))|refine wpAny_bind (wpAny_typeNameOf_keyiter hit.typeIs (wpAny_pure (wpAny_bind (wpAny_fieldsOf hoi hdi ?_))))
 simp only[own,Bool.false_eq_true,if_false];show wpAny _ _ (if(Value.ref d==Value.none)=true then _ else _) _ _ s;have nv:¬((Value.ref d==Value.none)=true):=Bool.false_ne_true;rw[if_neg nv];refine wpAny_bind (wpAny_pure (wpAny_bind (wpAny_dictEntries ho hdat ?_)));rw[if_neg (by simp)]
 refine wpAny_bind (wpAny_pure (wpAny_bind (wpAny_dictEpoch ho hdat ?_)));rw[if_neg (by simp)]
 refine wpAny_pure ?_;simp only[show ¬((i:Int)<0) from by omega,if_false,Int.toNat_natCast,Array.getElem?_eq_none hi]
 refine wpAny_bind ?_
 first|refine wpAny_bind (wpAny_typeNameOfWhole_keyiter hit.typeIs (wpAny_pure ?_))|refine wpAny_bind (wpAny_typeNameOf_keyiter hit.typeIs (wpAny_pure ?_))
 refine wpAny_bind (m:=setField (.ref it) 0 .none) (wpAny_setField hoi hdi (by simp) ?_)
 refine wpAny_bind (m:=newExc (.type "StopIteration") []) ?_;simp only[newExc,newTuple]
 refine wpAny_bind (wpAny_newObj_type (wpAny_bind (m:=firstArgMember _ _) (wpAny_of_eq (a:=Value.none) (by first|rfl|(simp only[firstArgMember];rfl)) (wpAny_newObj_type ?_ (by size_fits)))) (by size_fits))
 simp only[raiseNew];refine wpAny_bind (wpAny_handled ?_);rw[show A.in1.handled=none from hh];refine wpAny_bind (wpAny_pure (wpAny_throw ?_));refine wpAny_bind (wpAny_isInstance (T:="StopIteration") (b:=true) ⟨_,Heap.get?_push_size _ rfl,rfl⟩ isSubtype_stop (wpAny_pure ?_));exact q _ (((Heap.SameBut.update ..).extBut.push _).push _)
end
open PySem.W (kas_sort kas_ask)
def ltL:List (Int×Int)->List (Int×Int)->Bool
 |[],ys=>decide (0<ys.length)
 |_::_,[]=>false
 |x::xs,y::ys=>if x=y then ltL xs ys else HT.lexLt [x.1,x.2] [y.1,y.2]
def LstI(h:Heap)(v:Value)(ns:List (Int×Int)):Prop:=∃(a:Addr)(its:List Value)(n:Nat),v=.ref a/\h.get? a=some (seqObj "list" its.toArray n)/\its.length=ns.length/\∀(i:Nat)(u:Value)(k:Int×Int),its[i]?=some u->ns[i]?=some k->TupI h u [k.1,k.2]
section
variable{prog:Program}{w:World}{A:Around}{E:Value->Shared->Prop}{s:Shared}{R:Result->Shared->Prop}
theorem zng{x y:Value}{k l:Int×Int}{Q:Value->Shared->Prop}(hx:TupI s.heap x [k.1,k.2])(hy:TupI s.heap y [l.1,l.2])(hu:A.units+64<cLine)(q:Q (.bool (HT.lexLt [k.1,k.2] [l.1,l.2])) s):wpAny (model prog w) A (richCompare .Lt x y) Q E s:=by
 obtain⟨a,its,n,dd,sl,rfl,o,i⟩:=hx;obtain⟨b,its2,n2,dd2,sl2,rfl,o2,i2⟩:=hy;exact richCompare_meets_room (op:=.Lt) ⟨_,o,rfl⟩ ⟨_,o2,rfl⟩ PySem.F.slot_tuple_lt PySem.F.entry_tuple_lt (PySem.F.args_tuple_lt_2 _ _) (zpv a b its its2 n n2 dd dd2 sl sl2 [k.1,k.2] [l.1,l.2] rfl i i2) ⟨o,o2,(fun z=>nomatch z),q⟩ (by omega)
theorem ll_loop{a b:Addr}{xs ys:List Value}{n m:Nat}{ns ms:List (Int×Int)}(hu:A.units+70<cLine)(ha:s.heap.get? a=some (seqObj "list" xs.toArray n))(hb:s.heap.get? b=some (seqObj "list" ys.toArray m))(lx:xs.length=ns.length)(ly:ys.length=ms.length)
  (tx:∀(i:Nat)(u:Value)(k:Int×Int),xs[i]?=some u->ns[i]?=some k->TupI s.heap u [k.1,k.2])(ty:∀(i:Nat)(u:Value)(k:Int×Int),ys[i]?=some u->ms[i]?=some k->TupI s.heap u [k.1,k.2]):
  ∀(f i:Nat),ns.length-i=f->i<=ns.length->i<=ms.length->R (.ok (.ret (.bool (ltL (ns.drop i) (ms.drop i))))) s->codeAny (model prog w) A (.builtin "list.__eq__.loop" ⟨[.ref a,.ref b,rawInt (i:Int),rawInt 0],[]⟩) R s:=by
 have fin:∀i:Nat,i<=ns.length->i<=ms.length->(ns.length=i∨ms.length=i)->ltL (ns.drop i) (ms.drop i)=decide (xs.length<ys.length):=fun i h1 h2 h3=>by
  rcases h3 with h3|h3
  ·rw[List.drop_of_length_le (by omega),ltL,List.length_drop]
   exact decide_eq_decide.mpr (by omega)
  ·rw[List.drop_of_length_le (l:=ms) (by omega)]
   cases e:ns.drop i with
   |nil=>
    have:=List.drop_eq_nil_iff.mp e;rw[ltL];exact decide_eq_decide.mpr (by simp;omega)
   |cons k r=>
    rw[ltL];have:i<ns.length:=by
     rcases Nat.lt_or_ge i ns.length with z|z
     ·exact z
     ·rw[List.drop_of_length_le z] at e;cases e
    exact(decide_eq_false (by omega)).symm
 intro f
 induction f with
 |zero=>
  intro i hf h1 h2 q;have e:ns.length=i:=by omega
  refine codeAny_builtin MeetsSeq3.entry_eq_loop ?_;rw[Around.under_plainId MeetsSeq3.plain_eq_loop _];rw[fin i h1 h2 (.inl e)] at q;have gx:xs[i]?=none:=List.getElem?_eq_none (by omega)
  refine wpAny_bind (listItems_at ha rfl (wpAny_bind (listItems_at hb rfl ?_)));simp only[rawInt,Int.toNat_natCast,List.getElem?_toArray,gx];exact wpAny_bind (listItems_at ha rfl (wpAny_bind (listItems_at hb rfl (wpAny_pure q))))
 |succ f ih=>
  intro i hf h1 h2 q;refine codeAny_builtin MeetsSeq3.entry_eq_loop ?_;rw[Around.under_plainId MeetsSeq3.plain_eq_loop _];have li:i<xs.length:=by omega
  have gx:xs[i]?=some xs[i]:=List.getElem?_eq_getElem li;refine wpAny_bind (listItems_at ha rfl (wpAny_bind (listItems_at hb rfl ?_)))
  by_cases hy:ms.length=i
  ·rw[fin i h1 h2 (.inr hy)] at q;have gy:ys[i]?=none:=List.getElem?_eq_none (by omega)
   simp only[rawInt,Int.toNat_natCast,List.getElem?_toArray,gx,gy];exact wpAny_bind (listItems_at ha rfl (wpAny_bind (listItems_at hb rfl (wpAny_pure q))))
  ·have lj:i<ys.length:=by omega
   have gy:ys[i]?=some ys[i]:=List.getElem?_eq_getElem lj;have gn:ns[i]?=some ns[i]:=List.getElem?_eq_getElem (by omega)
   have gm:ms[i]?=some ms[i]:=List.getElem?_eq_getElem (by omega)
   have dx:ns.drop i=ns[i]::ns.drop (i+1):=List.drop_eq_getElem_cons (by omega)
   have dy:ms.drop i=ms[i]::ms.drop (i+1):=List.drop_eq_getElem_cons (by omega)
   rw[dx,dy,ltL] at q;have t1:=tx i _ _ gx gn;have t2:=ty i _ _ gy gm;simp only[rawInt,Int.toNat_natCast,List.getElem?_toArray,gx,gy];refine wpAny_bind (zko t1 t2 (by show A.units+1+64<_;omega) ?_)
   by_cases e:ns[i]=ms[i]
   ·rw[if_pos e] at q;rw[decide_eq_true (by rw[e])]
    simp only[if_true];have z:=ih (i+1) (by omega) (by omega) (by omega) q
    exact wpAny_pure ⟨plainId_quiet MeetsSeq3.plain_eq_loop _,by simpa[rawInt] using z⟩
   ·rw[if_neg e] at q;have ne:¬[ns[i].1,ns[i].2]=[ms[i].1,ms[i].2]:=fun z=>by
     simp only[List.cons.injEq,and_true] at z;exact e (Prod.ext z.1 z.2)
    rw[decide_eq_false ne];simp only[Bool.false_eq_true,if_false];refine wpAny_bind (listItems_at ha rfl (wpAny_bind (listItems_at hb rfl ?_)));simp only[List.getElem?_toArray,gx,gy];exact wpAny_bind (zng t1 t2 (by show A.units+1+64<_;omega) (wpAny_pure q))
end
open PySem.W (kas_sort kas_ask)
theorem listLt(a b:Addr):Meets (Builtin.«list.__lt__» ⟨[.ref a,.ref b],[]⟩) (fun A R s=>A.units+70<cLine/\∃(xs ys:List Value)(n m:Nat)(ns ms:List (Int×Int)),s.heap.get? a=some (seqObj "list" xs.toArray n)/\s.heap.get? b=some (seqObj "list" ys.toArray m)/\xs.length=ns.length/\ys.length=ms.length/\
  (∀(i:Nat)(u:Value)(k:Int×Int),xs[i]?=some u->ns[i]?=some k->TupI s.heap u [k.1,k.2])/\(∀(i:Nat)(u:Value)(k:Int×Int),ys[i]?=some u->ms[i]?=some k->TupI s.heap u [k.1,k.2])/\R (.ok (.ret (.bool (ltL ns ms)))) s):=by
 intro prog w A R s h;obtain⟨hu,xs,ys,n,m,ns,ms,ha,hb,lx,ly,tx,ty,q⟩:=h;refine wpAny_bind (m:=isInstance (.ref b) (.type "list")) (wpAny_isInstance (T:="list") (b:=true) ⟨_,hb,rfl⟩ AutoSeq1.sub_list_list ?_);exact wpAny_pure ⟨plainId_quiet MeetsSeq3.plain_eq_loop _,ll_loop (i:=0) hu ha hb lx ly tx ty _ rfl (Nat.zero_le _) (Nat.zero_le _) q⟩
section
variable{prog:Program}{w:World}{A:Around}{E:Value->Shared->Prop}{s:Shared}{C:Bool->Shared->Prop}
theorem lt_lst{x y:Value}{ns ms:List (Int×Int)}(hx:LstI s.heap x ns)(hy:LstI s.heap y ms)(hu:A.units+70<cLine)(q:C (ltL ns ms) s):wpAny (model prog w) A (keyLt' oneType' x y) C E s:=by
 obtain⟨a,xs,n,rfl,ha,lx,tx⟩:=hx;obtain⟨b,ys,m,rfl,hb,ly,ty⟩:=hy;rw[keyLt'_oneType,oneLt'_eq];simp only[if_true];refine wpAny_bind (wpAny_cRoomFor (by omega) (wpAny_bind (wpAny_callSpecialIfBound?_slot ⟨_,ha,rfl⟩ PySem.F.slot_list_lt (call_meets PySem.F.slot_list_lt ⟨_,ha,rfl⟩ PySem.F.entry_list_lt (PySem.F.args_list_lt_2 _ _) (listLt a b) ⟨hu,xs,ys,n,m,ns,ms,ha,hb,lx,ly,tx,ty,?_⟩))))
 exact wpAny_truthy_bool q
theorem zof{M:Model}{vs:List Value}{Q:SortKind->Shared->Prop}(h2:2<=vs.length)(hv:∀v,v∈vs->∃ns,LstI s.heap v ns)(q:Q oneType' s):wpAny M A (keyKind' vs.toArray) Q E s:=by
 refine PySem.W.kas_kind (T:=.type "list") h2 (fun v h=>?_) (by decide) (by decide) q
 obtain⟨ns,a,its,n,rfl,o,_⟩:=hv v h;exact(PySem.W.Looks.ld o).andThen .now
end
open PySem.W (KasT kas_asc kas_desc kas_rev kas_tail3 kas_descPart kas_count kas_place kas_bin kas_sort)
structure Tot(n:Nat)(ans:Nat->Nat->Bool):Prop where
 irr:∀i,ans i i=false
 tr:∀i j k,ans i j=true->ans j k=true->ans i k=true
 tot:∀i j,i<n->j<n->i≠j->ans i j=true∨ans j i=true
def Up(ans:Nat->Nat->Bool)(p:Array Nat)(m:Nat):Prop:=∀i j,i<j->j<m->ans (p.getD i 0) (p.getD j 0)=true
def Down(ans:Nat->Nat->Bool)(p:Array Nat)(m:Nat):Prop:=∀i j,i<j->j<m->ans (p.getD j 0) (p.getD i 0)=true
theorem zdk{α β:Type}{ans:Nat->Nat->Bool}{f:α->KasT β}:∀t:KasT α,ansT ans (t.bind f)=ansT ans (f (ansT ans t))
 |.ret _=>rfl
 |.ask i j k=>zdk (k (ans i j))
section
variable{n:Nat}{ans:Nat->Nat->Bool}
theorem Ord.ne{p:Array Nat}(h:Ord n p){i j:Nat}(hij:i<j)(hj:j<n):p.getD i 0≠p.getD j 0:=by
 have z:p.size=n:=by have:=h.length_eq;simpa using this
 have nd:p.toList.Nodup:=h.nodup_iff.mpr List.nodup_range;have e1:p.getD i 0=p.toList[i]'(by simp;omega):=by simp[Array.getD,show i<p.size by omega]
 have e2:p.getD j 0=p.toList[j]'(by simp;omega):=by simp[Array.getD,show j<p.size by omega]
 rw[e1,e2];exact(List.pairwise_iff_getElem.mp nd) i j _ _ hij
theorem Tot.fl(T:Tot n ans){p:Array Nat}(h:Ord n p){i j:Nat}(hij:i<j)(hj:j<n)(hf:ans (p.getD j 0) (p.getD i 0)=false):ans (p.getD i 0) (p.getD j 0)=true:=by
 rcases T.tot _ _ (h.get (by omega) i) (h.get (by omega) j) (h.ne hij hj) with z|z
 ·exact z
 ·rw[hf] at z;cases z
theorem Up.step(T:Tot n ans){p:Array Nat}{m:Nat}(u:Up ans p m)(h:∀i,i+1=m->ans (p.getD i 0) (p.getD m 0)=true):Up ans p (m+1):=fun i j hij hj=>by
 by_cases z:j<m
 ·exact u i j hij z
 ·have e:j=m:=by omega
  subst e
  by_cases y:i+1=j
  ·exact h i y
  ·exact T.tr _ _ _ (u i (j-1) (by omega) (by omega)) (h (j-1) (by omega))
theorem Down.step(T:Tot n ans){p:Array Nat}{m:Nat}(u:Down ans p m)(h:∀i,i+1=m->ans (p.getD m 0) (p.getD i 0)=true):Down ans p (m+1):=fun i j hij hj=>by
 by_cases z:j<m
 ·exact u i j hij z
 ·have e:j=m:=by omega
  subst e
  by_cases y:i+1=j
  ·exact h i y
  ·exact T.tr _ _ _ (h (j-1) (by omega)) (u i (j-1) (by omega) (by omega))
theorem zne(T:Tot n ans){p:Array Nat}(h:Ord n p):∀f m,1<=m->m+f=n->Up ans p m->m<=ansT ans (kas_asc p f m)/\ansT ans (kas_asc p f m)<=n/\Up ans p (ansT ans (kas_asc p f m))/\(ansT ans (kas_asc p f m)<n->ans (p.getD (ansT ans (kas_asc p f m)) 0) (p.getD (ansT ans (kas_asc p f m)-1) 0)=true)
 |0,m,h1,hm,u=>⟨Nat.le_refl _,by show m<=n;omega,u,fun z=>by have:m<n:=z;omega⟩
 |f+1,m,h1,hm,u=>by
  have e:ansT ans (kas_asc p (f+1) m)=ansT ans (if ans (p.getD m 0) (p.getD (m-1) 0)=true then .ret m else kas_asc p f (m+1)):=rfl;rw[e]
  cases c:ans (p.getD m 0) (p.getD (m-1) 0) with
  |true=>rw[if_pos rfl];exact⟨Nat.le_refl _,by show m<=n;omega,u,fun _=>c⟩
  |false=>
   rw[if_neg (by decide)]
   obtain⟨a1,a2,a3⟩:=zne T h f (m+1) (by omega) (by omega) (u.step T fun i hi=>by
    have e:m-1=i:=by omega
    rw[e] at c;exact T.fl h (by omega) (by omega) c)
   exact⟨by omega,a2,a3⟩
theorem zja(T:Tot n ans){p:Array Nat}(h:Ord n p):∀f m,1<=m->m+f=n->Down ans p m->∃m',ansT ans (kas_desc f p m 0)=(p,m',0)/\m<=m'/\m'<=n/\Down ans p m'
 |0,m,h1,hm,u=>⟨m,rfl,Nat.le_refl _,by omega,u⟩
 |f+1,m,h1,hm,u=>by
  have e:ansT ans (kas_desc (f+1) p m 0)=ansT ans (if ans (p.getD m 0) (p.getD (m-1) 0)=true then(if 0>0 then kas_desc f (kas_rev p (m-(0+1)) m) (m+1) 0 else kas_desc f p (m+1) 0)
   else .ask (p.getD (m-1) 0) (p.getD m 0) fun d=>if d=true then .ret (p,m,0) else kas_desc f p (m+1) (0+1)):=rfl
  rw[e]
  cases c:ans (p.getD m 0) (p.getD (m-1) 0) with
  |true=>
   rw[if_pos rfl,if_neg (by decide)]
   obtain⟨m',a1,a2,a3⟩:=zja T h f (m+1) (by omega) (by omega) (u.step T fun i hi=>by
    have e:m-1=i:=by omega
    rw[e] at c;exact c)
   exact⟨m',a1,by omega,a3⟩
  |false=>
   rw[if_neg (by decide)]
   have y:=T.fl h (i:=m-1) (j:=m) (by omega) (by omega) c
   show ∃m',ansT ans (if ans (p.getD (m-1) 0) (p.getD m 0)=true then .ret (p,m,0) else kas_desc f p (m+1) (0+1))=_/\_
   rw[y,if_pos rfl];exact⟨m,rfl,Nat.le_refl _,by omega,u⟩
theorem zlv{p:Array Nat}{m:Nat}(hm:m<=p.size){k:Nat}(hk:k<m):(kas_rev p 0 m).getD k 0=p.getD (m-1-k) 0:=by
 have e:(kas_rev p 0 m)[k]?=p[m-1-k]?:=by
  unfold kas_rev;rw[getElem?_mirror_all hm,if_pos (by omega)]
  congr 1
  omega
 rw[Array.getD_eq_getD_getElem?,Array.getD_eq_getD_getElem?,e]
theorem up_count(T:Tot n ans)(hn:0<n){p:Array Nat}(h:Ord n p):∃m p',ansT ans (kas_count n p)=(m,p')/\1<=m/\m<=n/\Up ans p' m:=by
 have u1:Up ans p 1:=fun i j hij hj=>by omega
 have z:p.size=n:=by have:=h.length_eq;simpa using this
 obtain⟨a1,a2,a3,a4⟩:=zne T h (n-1) 1 (Nat.le_refl _) (by omega) u1
 unfold kas_count;rw[zdk];generalize ansT ans (kas_asc p (n-1) 1)=m at a1 a2 a3 a4⊢
 by_cases c1:m=n
 ·subst c1;simp only[beq_self_eq_true,if_true];exact⟨m,p,rfl,a1,a2,a3⟩
 ·have c1':(m==n)=false:=beq_eq_false_iff_ne.mpr c1;simp only[c1',Bool.false_eq_true,if_false]
  by_cases c2:m>1
  ·rw[if_pos c2];have y:=a3 0 (m-1) (by omega) (by omega)
   show ∃m' p',ansT ans (if ans (p.getD 0 0) (p.getD (m-1) 0)=true then .ret (m,p) else kas_descPart m n (kas_rev p 0 m))=_/\_
   rw[y,if_pos rfl];exact⟨m,p,rfl,a1,a2,a3⟩
  ·have e:m=1:=by omega
   subst e;rw[if_neg c2];have y:=a4 (by omega)
   have d2:Down ans p (1+1):=fun i j hij hj=>by
    have e1:i=0:=by omega
    have e2:j=1:=by omega
    subst e1 e2;exact y
   obtain⟨m',b1,b2,b3,b4⟩:=zja T h (n-(1+1)) (1+1) (by omega) (by omega) d2
   unfold kas_descPart;rw[zdk,b1];simp only[gt_iff_lt,Nat.lt_irrefl,if_false];unfold kas_tail3;rw[zdk];have o2:Ord n (kas_rev p 0 m'):=h.rev _ _;have u2:Up ans (kas_rev p 0 m') m':=fun i j hij hj=>by
    rw[zlv (by omega) (by omega),zlv (by omega) (by omega)]
    exact b4 _ _ (by omega) (by omega)
   obtain⟨g1,g2,g3,g4⟩:=zne T o2 (n-m') m' (by omega) (by omega) u2
   exact⟨_,_,rfl,by omega,g2,g3⟩
theorem zhh(T:Tot n ans){p:Array Nat}(h:Ord n p){k:Nat}(hk:k<n)(u:Up ans p k):∀f l r,l<=r->r<=k->r-l<=f->(∀i,i<l->ans (p.getD i 0) (p.getD k 0)=true)->(∀i,r<=i->i<k->ans (p.getD k 0) (p.getD i 0)=true)->
  ∃l',ansT ans (kas_place p k f l r)=l'/\l'<=k/\(∀i,i<l'->ans (p.getD i 0) (p.getD k 0)=true)/\(∀i,l'<=i->i<k->ans (p.getD k 0) (p.getD i 0)=true)
 |0,l,r,h1,h2,h3,hl,hr=>⟨l,rfl,by omega,hl,fun i a b=>hr i (by omega) b⟩
 |f+1,l,r,h1,h2,h3,hl,hr=>by
  unfold kas_place
  by_cases c:l≥r
  ·rw[if_pos c];exact⟨l,rfl,by omega,hl,fun i a b=>hr i (by omega) b⟩
  ·rw[if_neg c];show ∃l',ansT ans (if ans (p.getD k 0) (p.getD ((l+r)/2) 0)=true then kas_place p k f l ((l+r)/2) else kas_place p k f ((l+r)/2+1) r)=l'/\_;have m1:l<=(l+r)/2:=by omega
   have m2:(l+r)/2<r:=by omega
   cases e:ans (p.getD k 0) (p.getD ((l+r)/2) 0) with
   |true=>
    rw[if_pos rfl];refine zhh T h hk u f l _ m1 (by omega) (by omega) hl fun i a b=>?_
    by_cases y:i=(l+r)/2
    ·rw[y];exact e
    ·exact T.tr _ _ _ e (u _ _ (by omega) b)
   |false=>
    rw[if_neg (by decide)]
    have y:=T.fl h (i:=(l+r)/2) (j:=k) (by omega) hk e
    refine zhh T h hk u f _ r (by omega) h2 (by omega) (fun i a=>?_) hr
    by_cases x:i=(l+r)/2
    ·rw[x];exact y
    ·exact T.tr _ _ _ (u i ((l+r)/2) (by omega) (by omega)) y
theorem zm0{p:Array Nat}{k l:Nat}(hk:k<p.size)(hl:l<=k)(i:Nat):(bubble p k (k-l)).getD i 0=if i=l then p.getD k 0 else if l<i/\i<=k then p.getD (i-1) 0 else p.getD i 0:=by
 have e:=getElem?_bubble hk (k-l) (by omega) i
 have x:k-(k-l)=l:=by omega
 rw[x] at e;rw[Array.getD_eq_getD_getElem?,e]
 by_cases c1:i=l
 ·rw[if_pos c1,if_pos c1,Array.getD_eq_getD_getElem?]
 ·rw[if_neg c1,if_neg c1]
  by_cases c2:l<i/\i<=k
  ·rw[if_pos c2,if_pos c2,Array.getD_eq_getD_getElem?]
  ·rw[if_neg c2,if_neg c2,Array.getD_eq_getD_getElem?]
theorem up_bin(T:Tot n ans):∀f(p:Array Nat) k,Ord n p->1<=k->k+f=n->Up ans p k->Up ans (ansT ans (kas_bin f p k)) n
 |0,p,k,h,h1,hk,u=>by
  have e:k=n:=by omega
  subst e;exact u
 |f+1,p,k,h,h1,hk,u=>by
  have z:p.size=n:=by have:=h.length_eq;simpa using this
  unfold kas_bin;rw[zdk];obtain⟨l,e,a1,a2,a3⟩:=zhh T h (k:=k) (by omega) u k 0 k (Nat.zero_le _) (Nat.le_refl _) (by omega) (fun i hi=>by omega) (fun i a b=>by omega)
  rw[e];refine up_bin T f _ (k+1) (h.of (bubble_perm _ _ _)) (by omega) (by omega) fun i j hij hj=>?_
  rw[zm0 (by omega) a1,zm0 (by omega) a1]
  by_cases c1:i=l
  ·rw[if_pos c1,if_neg (by omega),if_pos (by omega)]
   exact a3 _ (by omega) (by omega)
  ·rw[if_neg c1]
   by_cases c2:l<i/\i<=k
   ·rw[if_pos c2,if_neg (by omega),if_pos (by omega)]
    exact u _ _ (by omega) (by omega)
   ·rw[if_neg c2]
    by_cases c3:j=l
    ·rw[if_pos c3];exact a2 _ (by omega)
    ·rw[if_neg c3]
     by_cases c4:l<j/\j<=k
     ·rw[if_pos c4];exact u _ _ (by omega) (by omega)
     ·rw[if_neg c4];exact u _ _ (by omega) (by omega)
theorem up_sort(T:Tot n ans)(hn:0<n):Up ans (ansT ans (kas_sort n)) n:=by
 have o0:Ord n (List.toArray (List.range n)):=by unfold Ord;simp
 obtain⟨m,p,e,m1,m2,u⟩:=up_count T hn o0;have o1:Ord n (m,p).2:=by
  rw[←e];exact Asks.ends (zgo hn o0)
 unfold kas_sort;rw[zdk,e]
 by_cases c:m<n
 ·simp only[c,if_true];have x:max m 1=m:=by omega
  rw[x];exact up_bin T (n-m) p m o1 m1 (by omega) u
 ·simp only[c,if_false];have x:m=n:=by omega
  subst x;exact u
end
open PySem.W (kas_sort kas_ask)
def LsI(H:Hp)(v:V)(ns:List (Int×Int)):Prop:=∃(q:Addr)(qs:List V),v=.ref q/\H q=some (.lst qs)/\qs.length=ns.length/\∀(j:Nat)(k:Int×Int),ns[j]?=some k->∃b,qs[j]?=some (.ref b)/\H b=some (.tup [.int k.1,.int k.2])
def KPl:KPT:=fun H zs ans=>∃kp:Nat->List (Int×Int),(∀i,i<zs.length->LsI H (zs.getD i .non) (kp i))/\ans=fun i j=>ltL (kp i) (kp j)
section
variable{X:Cx}{pins:List (Addr×Obj)}{σ:St}{H:Hp}{s:Shared}
theorem lstI_of(I:Inv X pins σ H s){v:V}{u:Value}{ns:List (Int×Int)}(h:LsI H v ns)(r:RelV v u):LstI s.heap u ns:=by
 obtain⟨q,qs,rfl,hq,hl,he⟩:=h
 cases(show u=Value.ref q from r);obtain⟨z,its,n,rv,hlen,e⟩:=I.lstM hq;refine⟨q,its,n,rfl,e,by rw[←rv.length];exact hl,fun i u k hu hk=>?_⟩
 obtain⟨b,hb,hH⟩:=he i k hk;obtain⟨v,hv,rr⟩:=vals_get? rv hu;rw[hb] at hv
 cases hv
 cases(show u=Value.ref b from rr);exact zf8 I (ns:=[k.1,k.2]) hH
theorem zn1(hu:X.A.units+80<cLine):KeyKP X KPl:=by
 intro pins σ H s zs ks ans I r h;obtain⟨kp,ok,rfl⟩:=h;have len:=r.length;have lst:∀i,i<ks.length->LstI s.heap (ks.getD i Value.none) (kp i):=fun i hi=>lstI_of I (ok i (by omega)) (zfa r i (by omega))
 refine⟨oneType',fun h2 Q' q'=>zof h2 (fun v hv=>?_) q',fun h2 i j C hi hj cc=>lt_lst (lst i hi) (lst j hj) (by show X.A.units+1+1+70<_;omega) cc⟩
 obtain⟨i,hi,e⟩:=List.mem_iff_getElem.mp hv;refine⟨kp i,?_⟩;have t:=lst i hi;have e':ks.getD i Value.none=v:=by simp[hi,e]
 rw[e'] at t;exact t
end
def TupR(h:Heap)(v:Value)(ns ms:List Int)(l r:Bool):Prop:=∃(a:Addr)(x y:Value)(n:Nat)(dd:Option Addr)(sl:Array (Option Value)),v=.ref a/\h.get? a=some {cls:=.type "tuple",dict:=dd,data:=.seq #[x,y,.bool l,.bool r] n,slots:=sl}/\TupI h x ns/\TupI h y ms
open PySem.W (KatTups) in
theorem ktupsR{h:Heap}:∀vs:List Value,(∀v,v∈vs->∃a b l r,a≠[]/\TupR h v a b l r)->∃fs,fs.length=vs.length/\KatTups h vs fs/\∀f,f∈fs->∃ns,TupI h f ns
 |[],_=>⟨[],rfl,.nil,fun f hf=>by cases hf⟩
 |v::vs,hv=>by
  obtain⟨fs,l,t,r⟩:=ktupsR vs fun u hu=>hv u (List.mem_cons_of_mem _ hu);obtain⟨a,b,l',r',ne,p,x,y,n,dd,sl,rfl,o,i,j⟩:=hv v (List.mem_cons_self ..);refine⟨x::fs,by simp[l],.cons o rfl rfl rfl t,fun f hf=>?_⟩
  rcases List.mem_cons.mp hf with rfl|hf
  ·exact⟨_,i⟩
  ·exact r f hf
open PySem.W (CodeHd codeHdIn tabIn)
structure FunC(K:PySem.W.Frag)(x qual:Str)(st:Stmt)(f:Addr)(fd:FuncData)(c P:Addr):Prop where
 ex:∃(oc:Value)(od:Option Addr)(kV doc pm:Value)(an:Option Addr)(ct:Value)(osl:Array (Option Value)),
  fd=PySem.W.fnOf x qual (za7 st) (za4 st) (za0 st) .none kV doc pm an (.ref c) ct/\K.lookup f=some ⟨oc,od,.func fd,osl⟩/\PySem.W.codeIn K (.ref c) qual=true
 hd:codeHdIn K c P=true
section
variable{P:Program}{w:World}{K:PySem.W.Frag}{mg:Str->Option Value}{base:Heap}
theorem FunC.ok{x qual:Str}{st:Stmt}{f c tb:Addr}{fd:FuncData}{N ps:List Str}{k:Nat}{sp:Sp}(F:FunC K x qual st f fd c tb)(S:zae N ps (za0 st))(len:∀vs H Q E,sp vs H Q E->vs.length=ps.length)
  (hbody:∀(A:Around)(outer:List Env)(s:Shared)(H:Hp)(vs:List V)(Q:VK)(E:XK),Room k (A.deeper (envOfC qual (za0 st) s.heap.objs.size f (.ref c)))->sp vs H Q E->
   ∃t,PSs (cxOf CX0 P w K mg base N qual (za0 st) f (.ref c) A outer s H E).nox (za4 st) t/\t {nx:=fun _ H'=>Q .non H',rt:=Q} (start N vs) H):FnOk P w K mg base CX0 (k+1) f fd ps sp:=by
 obtain⟨oc,od,kV,doc,pm,an,ct,osl,rfl,lk,hcd⟩:=F.ex;refine fn_of lk hcd S len fun A outer s H vs Q E hr hsp=>?_;obtain⟨t,h,q⟩:=hbody A outer s H vs Q E hr hsp;exact⟨t,h.nox,q⟩
end
theorem zbq.ne{H:Hp}{P:Addr}{pos:Pos}{q:Str}(t:zbq H P pos q){a:Addr}{o:HO}(h:H a=some o)(n:∀ps,o≠.tbl ps):a≠P:=fun z=>by
 obtain⟨ps,e,_⟩:=t;rw[z,e] at h
 cases h;exact n ps rfl
theorem zb0.tup{P:Addr}{pos:Pos}{q:Str}{H H':Hp}(g:zb0 P H H')(t:zbq H P pos q){a:Addr}{xs:List V}(h:H a=some (.tup xs)):H' a=some (.tup xs):=g a _ (t.ne h fun _ z=>nomatch z) h
theorem zb0.lst{P:Addr}{pos:Pos}{q:Str}{H H':Hp}(g:zb0 P H H')(t:zbq H P pos q){a:Addr}{xs:List V}(h:H a=some (.lst xs)):H' a=some (.lst xs):=g a _ (t.ne h fun _ z=>nomatch z) h
open PySem.W (kas_sort)
structure STO{α:Type}(lt:α->α->Bool):Prop where
 irr:∀a,lt a a=false
 tr:∀a b c,lt a b=true->lt b c=true->lt a c=true
 tot:∀a b,a≠b->lt a b=true∨lt b a=true
def lexB{α β:Type}[DecidableEq α](r:α->α->Bool)(s:β->β->Bool)(a b:α×β):Bool:=if a.1=b.1 then s a.2 b.2 else r a.1 b.1
theorem STO.lex{α β:Type}[DecidableEq α]{r:α->α->Bool}{s:β->β->Bool}(R:STO r)(S:STO s):STO (lexB r s) where
 irr a:=by unfold lexB;rw[if_pos rfl];exact S.irr _
 tr a b c h1 h2:=by
  unfold lexB at*
  by_cases e1:a.1=b.1
  ·rw[if_pos e1] at h1
   by_cases e2:b.1=c.1
   ·rw[if_pos e2] at h2;rw[if_pos (e1.trans e2)];exact S.tr _ _ _ h1 h2
   ·rw[if_neg e2] at h2;rw[if_neg (fun z=>e2 (e1.symm.trans z)),e1];exact h2
  ·rw[if_neg e1] at h1
   by_cases e2:b.1=c.1
   ·rw[if_neg (fun z=>e1 (z.trans e2.symm)),←e2];exact h1
   ·rw[if_neg e2] at h2;have n:a.1≠c.1:=fun z=>by
     rw[←z] at h2;have:=R.tr _ _ _ h1 h2;rw[R.irr] at this
     cases this
    rw[if_neg n];exact R.tr _ _ _ h1 h2
 tot a b h:=by
  unfold lexB
  by_cases e:a.1=b.1
  ·rw[if_pos e,if_pos e.symm];exact S.tot _ _ fun z=>h (Prod.ext e z)
  ·rw[if_neg e,if_neg fun z=>e z.symm];exact R.tot _ _ e
theorem STO.int:STO (fun a b:Int=>decide (a<b)) where
 irr a:=decide_eq_false (by omega)
 tr a b c h1 h2:=decide_eq_true (by have:=of_decide_eq_true h1;have:=of_decide_eq_true h2;omega)
 tot a b h:=by
  rcases Int.lt_or_gt_of_ne h with h|h
  ·exact .inl (decide_eq_true h)
  ·exact .inr (decide_eq_true h)
abbrev lt2:Int×Int->Int×Int->Bool:=lexB (fun a b=>decide (a<b)) (fun a b=>decide (a<b))
theorem sto2:STO lt2:=STO.int.lex STO.int
theorem lex1(a b:Int):HT.lexLt [a] [b]=decide (a<b):=by
 rw[HT.lexLt_cons,HT.lexLt_nil_nil]
 by_cases e:a=b
 ·rw[if_pos e];exact(decide_eq_false (by omega)).symm
 ·rw[if_neg e]
theorem lex2(a b c d:Int):HT.lexLt [a,b] [c,d]=lt2 (a,b) (c,d):=by
 rw[HT.lexLt_cons,lex1];rfl
abbrev lt22:(Int×Int)×(Int×Int)->(Int×Int)×(Int×Int)->Bool:=lexB lt2 lt2
theorem sto22:STO lt22:=sto2.lex sto2
theorem zib{α β:Type}{lt:β->β->Bool}(S:STO lt)(k:α->β)(z:α){fs:List α}(nd:(fs.map k).Nodup){p:Array Nat}(or:Ord fs.length p)(ep:2<=fs.length->p=ansT (fun i j=>lt (k (fs.getD i z)) (k (fs.getD j z))) (kas_sort fs.length)):
  (p.toList.map fun i=>fs.getD i z).Perm fs/\(p.toList.map fun i=>fs.getD i z).Pairwise fun a b=>lt (k a) (k b)=true:=by
 have rg:((List.range fs.length).map fun i=>fs.getD i z)=fs:=by
  refine List.ext_getElem (by simp) fun i h1 h2=>?_
  have hi:i<fs.length:=h2
  simp[hi]
 have lo:p.toList.length=fs.length:=by rw[or.length_eq,List.length_range]
 refine⟨?_,?_⟩
 ·have:=or.map fun i=>fs.getD i z;rw[rg] at this;exact this
 ·by_cases h2:2<=fs.length
  ·have nd':=List.pairwise_map.mp nd;have T:Tot fs.length (fun i j=>lt (k (fs.getD i z)) (k (fs.getD j z))):=⟨fun i=>S.irr _,fun i j l=>S.tr _ _ _,fun i j hi hj hn=>S.tot _ _ fun e=>hn (by
    have e1:fs.getD i z=fs[i]:=by simp[hi]
    have e2:fs.getD j z=fs[j]:=by simp[hj]
    rw[e1,e2] at e;rcases Nat.lt_trichotomy i j with h|h|h
    ·exact absurd e ((List.pairwise_iff_getElem.mp nd') i j hi hj h)
    ·exact h
    ·exact absurd e.symm ((List.pairwise_iff_getElem.mp nd') j i hj hi h))⟩
   have u:=up_sort T (by omega)
   rw[←ep h2] at u;refine List.pairwise_iff_getElem.mpr fun i j hi hj hij=>?_;have hi':i<p.size:=by simpa using hi
   have hj':j<p.size:=by simpa using hj
   have hn:p.size=fs.length:=by simpa using lo
   have:=u i j hij (by omega)
   have e1:p.getD i 0=p[i]:=by simp[Array.getD,hi']
   have e2:p.getD j 0=p[j]:=by simp[Array.getD,hj']
   rw[e1,e2] at this
   simpa using this
  ·have l1:(p.toList.map fun i=>fs.getD i z).length<=1:=by rw[List.length_map,lo];omega
   revert l1
   generalize (p.toList.map fun i=>fs.getD i z)=ws;intro l1
   match ws,l1 with
   |[],_=>exact .nil
   |[a],_=>exact List.pairwise_singleton _ _
end L2
namespace L2
open PySem
theorem hu80{A:Around}{k:Nat}(hr:Room k A):A.units+80<cLine:=by have:=hu100 hr;omega
def lamAt(st:Stmt):Scope×Pos:=match(za4 st).getLast? with
 |some (.Return (some (.Call _ _ (⟨_,.Lambda _ _ sc lp,_⟩::_) _)) _)=>(sc,lp)
 |_=>(za0 st,⟨0,0,0,0⟩)
end L2
namespace L2
open PySem PySem.Spec PyProof.Rows
def rnd(mask:Nat):Nat->Nat->Nat
 |0,i=>i
 |s+1,i=>rnd mask s ((i*5+1)%(mask+1))
theorem zhj(mask:Nat):∀(s t i:Nat),rnd mask (s+t) i=rnd mask t (rnd mask s i)
 |0,t,i=>by rw[Nat.zero_add];rfl
 |s+1,t,i=>by
  rw[show s+1+t=(s+t)+1 by omega]
  exact zhj mask s t _
def zgk(mask:Nat):Prop:=mask=7∨mask=31∨mask=127
def rndL(mask:Nat):Nat->Nat->List Nat
 |0,i=>[i]
 |s+1,i=>i::rndL mask s ((i*5+1)%(mask+1))
theorem zlx(mask:Nat):∀(s i e:Nat),e∈rndL mask s i->∃t,t<=s/\rnd mask t i=e
 |0,i,e,h=>⟨0,Nat.le_refl _,(List.mem_singleton.mp h).symm⟩
 |s+1,i,e,h=>by
  rcases List.mem_cons.mp h with h|h
  ·exact⟨0,Nat.zero_le _,h.symm⟩
  ·obtain⟨t,ht,e'⟩:=zlx mask s _ e h;exact⟨t+1,by omega,e'⟩
theorem all7:(List.range 8).all (fun e=>(rndL 7 7 0).contains e)=true/\rnd 7 8 0=0:=by decide+kernel
theorem all31:(List.range 32).all (fun e=>(rndL 31 31 0).contains e)=true/\rnd 31 32 0=0:=by decide+kernel
theorem all127:(List.range 128).all (fun e=>(rndL 127 127 0).contains e)=true/\rnd 127 128 0=0:=by decide+kernel
theorem zo7{mask:Nat}(h:zgk mask):(∀e,e<=mask->∃t,t<=mask/\rnd mask t 0=e)/\rnd mask (mask+1) 0=0:=by
 have key:∀m,(List.range (m+1)).all (fun e=>(rndL m m 0).contains e)=true->∀e,e<=m->∃t,t<=m/\rnd m t 0=e:=fun m hm e he=>by
  have z:=List.all_eq_true.mp hm e (List.mem_range.mpr (by omega))
  exact zlx m m 0 e (List.contains_iff_mem.mp z)
 rcases h with rfl|rfl|rfl
 ·exact⟨key 7 all7.1,all7.2⟩
 ·exact⟨key 31 all31.1,all31.2⟩
 ·exact⟨key 127 all127.1,all127.2⟩
theorem rnd_all{mask:Nat}(h:zgk mask){i e:Nat}(hi:i<=mask)(he:e<=mask):∃t,t<=mask/\rnd mask t i=e:=by
 obtain⟨all,z⟩:=zo7 h;obtain⟨a,ha,ea⟩:=all i hi;obtain⟨b,hb,eb⟩:=all e he
 by_cases c:a<=b
 ·refine⟨b-a,by omega,?_⟩
  rw[←ea,←zhj,show a+(b-a)=b by omega]
  exact eb
 ·refine⟨mask+1-a+b,by omega,?_⟩
  rw[←ea,←zhj,show a+(mask+1-a+b)=(mask+1)+b by omega,zhj,z]
  exact eb
def leaps(mask:Nat):Nat->Nat×Nat->Nat×Nat
 |0,p=>p
 |m+1,p=>leaps mask m (SetTable.leap mask p.1 p.2)
theorem zjh(mask:Nat):∀(s t:Nat)(p:Nat×Nat),leaps mask (s+t) p=leaps mask t (leaps mask s p)
 |0,t,p=>by rw[Nat.zero_add];rfl
 |s+1,t,p=>by
  rw[show s+1+t=(s+t)+1 by omega]
  exact zjh mask s t _
theorem zgw(mask:Nat):∀(m:Nat)(p:Nat×Nat),(leaps mask m p).2=p.2/32^m
 |0,p=>by show p.2=_;rw[Nat.pow_zero,Nat.div_one]
 |m+1,p=>by
  show(leaps mask m (SetTable.leap mask p.1 p.2)).2=_
  rw[zgw mask m];show p.2/32/32^m=_;rw[Nat.div_div_eq_div_mul,Nat.pow_succ,Nat.mul_comm]
theorem zh6(mask:Nat):∀(m i:Nat),leaps mask m (i,0)=(rnd mask m i,0)
 |0,i=>rfl
 |m+1,i=>by
  show leaps mask m (SetTable.leap mask i 0)=_
  have e:SetTable.leap mask i 0=((i*5+1)%(mask+1),0):=by unfold SetTable.leap;simp
  rw[e,zh6 mask m];rfl
theorem zlg(mask:Nat):∀(m:Nat)(p:Nat×Nat),p.1<=mask->(leaps mask m p).1<=mask
 |0,p,h=>h
 |m+1,p,h=>zlg mask m _ (Nat.le_of_lt_succ (Nat.mod_lt _ (Nat.succ_pos _)))
theorem zie{mask:Nat}(h:zgk mask){p:Nat×Nat}(hi:p.1<=mask)(hp:p.2<2^64){e:Nat}(he:e<=mask):∃m,m<=mask+13/\(leaps mask m p).1=e:=by
 have z:(leaps mask 13 p).2=0:=by
  rw[zgw];exact Nat.div_eq_of_lt (Nat.lt_of_lt_of_le hp (by decide))
 have q:leaps mask 13 p=((leaps mask 13 p).1,0):=Prod.ext rfl z;obtain⟨t,ht,et⟩:=rnd_all h (zlg mask 13 p hi) he;refine⟨13+t,by omega,?_⟩
 rw[zjh,q,zh6];exact et
theorem zpc(h:Int):SetTable.bits h<2^64:=by
 unfold SetTable.bits;have h1:=Int.emod_lt_of_pos h (show(0:Int)<2^64 by decide)
 have h2:=Int.emod_nonneg h (show(2^64:Int)≠0 by decide)
 omega
structure ze5(t:SetTable)(n:Nat):Prop where
 good:zgk t.mask
 nod:t.dummies=#[]
 size:t.place.size=n
 room:n<=t.mask
theorem ze5.fits{t:SetTable}{n:Nat}(h:ze5 t n):t.fits n=true:=by
 unfold SetTable.fits SetTable.fill;rw[h.size,h.nod]
 simp
 have:=h.room;omega
theorem ziz{t:SetTable}{n j i:Nat}(h:ze5 t n)(e:t.slot j=.live i):t.place[i]?=some j/\i<n:=by
 unfold SetTable.slot at e
 by_cases c:(t.place[SetTable.below t.place j]?==some j)=true
 ·simp only[c,if_true] at e
  cases e;have c':=beq_iff_eq.mp c;refine⟨c',?_⟩;have:=(Array.getElem?_eq_some_iff.mp c').1;rw[←h.size];exact this
 ·simp only[c,if_false] at e
  cases hd:SetTable.has t.dummies j<;>rw[hd] at e<;>simp at e
theorem zig{t:SetTable}{n:Nat}(h:ze5 t n)(j:Nat):t.slot j=.empty∨∃i,t.slot j=.live i:=by
 unfold SetTable.slot
 by_cases c:(t.place[SetTable.below t.place j]?==some j)=true
 ·simp only[c,if_true];exact .inr ⟨_,rfl⟩
 ·simp only[c,if_false];have z:SetTable.has t.dummies j=false:=by
   unfold SetTable.has;rw[h.nod]
   simp
  rw[z];exact .inl rfl
theorem zn4{t:SetTable}{n:Nat}(h:ze5 t n):∃e,e<=t.mask/\t.slot e=.empty:=by
 refine Classical.byContradiction fun no=>?_;have all:∀e,e∈List.range (t.mask+1)->e∈t.place.toList:=fun e he=>by
  have he':=List.mem_range.mp he;rcases zig h e with z|⟨i,z⟩
  ·exact absurd ⟨e,by omega,z⟩ no
  ·have:=(ziz h z).1;rw[←Array.getElem?_toList] at this;exact List.mem_of_getElem? this
 have len:=(List.nodup_range (n:=t.mask+1)).length_le_of_subset all;rw[List.length_range,Array.length_toList,h.size] at len;have:=h.room;omega
def adv(t:SetTable):Nat->SetTable.Probe->SetTable.Probe
 |0,p=>p
 |k+1,p=>adv t k (t.advance p)
theorem zks(t:SetTable):∀(a b:Nat)(p:SetTable.Probe),adv t (a+b) p=adv t b (adv t a p)
 |0,b,p=>by rw[Nat.zero_add];rfl
 |a+1,b,p=>by
  rw[show a+1+b=(a+b)+1 by omega]
  exact zks t a b _
theorem zjd(t:SetTable)(p:SetTable.Probe):(t.advance p).dummy=p.dummy:=by
 unfold SetTable.advance
 split<;>rfl
theorem zno(t:SetTable):∀(r:Nat)(p:SetTable.Probe),p.more=r->adv t (r+1) p=⟨(SetTable.leap t.mask p.i p.perturb).1,SetTable.runEnd t.mask (SetTable.leap t.mask p.i p.perturb).1-(SetTable.leap t.mask p.i p.perturb).1,(SetTable.leap t.mask p.i p.perturb).1,(SetTable.leap t.mask p.i p.perturb).2,p.dummy⟩
 |0,p,h=>by
  show t.advance p=_
  unfold SetTable.advance;rw[if_neg (by omega)]
 |r+1,p,h=>by
  show adv t (r+1) (t.advance p)=_
  have e:t.advance p={p with j:=p.j+1,more:=p.more-1}:=by
   unfold SetTable.advance;rw[if_pos (by omega)]
  rw[e];exact zno t r _ (by show p.more-1=r;omega)
theorem run_le(mask i:Nat):SetTable.runEnd mask i-i<=9:=by
 unfold SetTable.runEnd
 split<;>omega
theorem zi8(t:SetTable):∀(m:Nat)(p:SetTable.Probe),p.j=p.i->p.more=SetTable.runEnd t.mask p.i-p.i->∃k,k<=10*m/\(adv t k p).j=(leaps t.mask m (p.i,p.perturb)).1
 |0,p,h1,h2=>⟨0,Nat.le_refl _,h1⟩
 |m+1,p,h1,h2=>by
  have e:=zno t _ p rfl;obtain⟨k,hk,ek⟩:=zi8 t m (adv t (p.more+1) p) (by rw[e]) (by rw[e])
  have:=run_le t.mask p.i;refine⟨p.more+1+k,by omega,?_⟩
  rw[zks,ek,e];rfl
theorem zq2{t:SetTable}{n:Nat}(h:ze5 t n)(hs:Int):∃k,k<10*SetTable.turns t.mask/\t.slot (adv t k (t.probeStart hs)).j=.empty:=by
 obtain⟨e,he,se⟩:=zn4 h;have hi:SetTable.bits hs%(t.mask+1)<=t.mask:=Nat.le_of_lt_succ (Nat.mod_lt _ (Nat.succ_pos _));obtain⟨m,hm,em⟩:=zie h.good (p:=(SetTable.bits hs%(t.mask+1),SetTable.bits hs)) hi (zpc hs) he;obtain⟨k,hk,ek⟩:=zi8 t m (t.probeStart hs) rfl rfl;refine⟨k,?_,?_⟩
 ·unfold SetTable.turns;omega
 ·rw[ek];show t.slot (leaps t.mask m (SetTable.bits hs%(t.mask+1),SetTable.bits hs)).1=_;rw[em];exact se
theorem zlc{t:SetTable}{n:Nat}(h:ze5 t n){ha:Nat->Int}{hs:Int}:∀(k f:Nat)(p:SetTable.Probe),k<f->p.dummy=none->t.slot (adv t k p).j=.empty->
  (∃j,SetTable.probe.go t ha hs f p=some (.empty j none)/\t.slot j=.empty)∨∃m j i,m<k/\SetTable.probe.go t ha hs f p=some (.candidate j i (adv t (m+1) p))/\t.slot j=.live i
 |k,0,p,hf,_,_=>by omega
 |k,f+1,p,hf,hd,he=>by
  unfold SetTable.probe.go;rcases zig h p.j with z|⟨i,z⟩
  ·rw[z];exact .inl ⟨p.j,by rw[hd],z⟩
  ·rw[z];obtain⟨k',rfl⟩:∃k',k=k'+1:=⟨k-1,by
    have:k≠0:=fun e=>by
     subst e;have he:t.slot p.j=.empty:=he;rw[z] at he
     cases he
    omega⟩
   by_cases c:(ha i==hs)=true
   ·simp only[c,if_true];exact .inr ⟨0,p.j,i,by omega,rfl,z⟩
   ·simp only[c,if_false];rcases zlc h k' f (t.advance p) (by omega) (by rw[zjd];exact hd) he with⟨j,e1,e2⟩|⟨m,j,i',hm,e1,e2⟩
    ·exact .inl ⟨j,e1,e2⟩
    ·exact .inr ⟨m+1,j,i',by omega,e1,e2⟩
theorem zld{α:Type}(xs:Array α)(p:Nat)(x:α):(SetTable.insertAt xs p x).size=xs.size+1:=by
 unfold SetTable.insertAt
 simp
 omega
theorem ins_mem{α:Type}{xs:Array α}{p:Nat}{x y:α}(h:y∈(SetTable.insertAt xs p x).toList):y=x∨y∈xs.toList:=by
 unfold SetTable.insertAt at h;simp only[Array.toList_append,Array.toList_push,List.mem_append,List.mem_singleton,Array.toList_extract] at h;rcases h with(h|h)|h
 ·exact .inr (List.mem_of_mem_drop (List.mem_of_mem_take h))
 ·exact .inl h
 ·exact .inr (List.mem_of_mem_drop (List.mem_of_mem_take h))
theorem put_ok{t:SetTable}{n j:Nat}(h:ze5 t n)(hn:n+1<=t.mask):ze5 (t.put j).1 (n+1):=by
 have z:SetTable.has t.dummies j=false:=by
  unfold SetTable.has;rw[h.nod]
  simp
 refine⟨h.good,?_,?_,hn⟩
 ·show(if SetTable.has t.dummies j=true then _ else t.dummies)=#[]
  rw[z,if_neg (by decide)]
  exact h.nod
 ·show(SetTable.insertAt t.place _ j).size=n+1
  rw[zld,h.size]
def cnt(mask:Nat)(owner:Array (Option Nat)):Nat:=((List.range (mask+1)).filter fun j=>(owner.getD j none).isSome).length
theorem zj4{p:Nat->Bool}{j:Nat}(hp:p j=false):∀{l:List Nat},l.Nodup->j∈l->(l.filter fun x=>p x||x==j).length=(l.filter p).length+1
 |[],_,h=>by cases h
 |a::l,nd,h=>by
  obtain⟨na,nd⟩:=List.nodup_cons.mp nd
  by_cases e:a=j
  ·subst e;have z:(l.filter fun x=>p x||x==a)=l.filter p:=List.filter_congr fun x hx=>by
    have:(x==a)=false:=beq_eq_false_iff_ne.mpr fun q=>na (by rw[←q];exact hx)
    rw[this,Bool.or_false]
   rw[List.filter_cons,List.filter_cons,z,hp]
   simp
  ·have hj:j∈l:=by
    rcases List.mem_cons.mp h with q|q
    ·exact absurd q.symm e
    ·exact q
   have ih:=zj4 hp nd hj;have ea:(a==j)=false:=beq_eq_false_iff_ne.mpr e;rw[List.filter_cons,List.filter_cons,ea,Bool.or_false]
   cases p a<;>simp[ih]
structure zm7(mask:Nat)(owner:Array (Option Nat))(k:Nat):Prop where
 size:owner.size=mask+1
 cnt:cnt mask owner=k
 lt:∀j v,owner.getD j none=some v->v<k
theorem own_free{mask:Nat}{owner:Array (Option Nat)}{k:Nat}(h:zm7 mask owner k)(hk:k<=mask):∃e,e<=mask/\owner.getD e (some 0)=none:=by
 refine Classical.byContradiction fun no=>?_;have all:((List.range (mask+1)).filter fun j=>(owner.getD j none).isSome)=List.range (mask+1):=List.filter_eq_self.mpr fun j hj=>by
  have hj':=List.mem_range.mp hj;have lt:j<owner.size:=by rw[h.size];exact hj'
  cases e:owner[j] with
  |none=>exact absurd ⟨j,by omega,by simp[Array.getD,lt,e]⟩ no
  |some v=>simp[Array.getD,lt,e]
 have c:=h.cnt;unfold L2.cnt at c;rw[all,List.length_range] at c;omega
theorem own_put{mask:Nat}{owner:Array (Option Nat)}{k j:Nat}(h:zm7 mask owner k)(hj:owner.getD j (some 0)=none):zm7 mask (owner.setIfInBounds j (some k)) (k+1):=by
 have lt:j<owner.size:=by
  refine Classical.byContradiction fun n=>?_
  simp[Array.getD,n] at hj
 have e0:owner.getD j none=none:=by
  simp only[Array.getD,lt] at hj⊢
  simpa using hj
 have gx:∀x,(owner.setIfInBounds j (some k)).getD x none=if x=j then some k else owner.getD x none:=fun x=>by
  rw[Array.getD_eq_getD_getElem?,Array.getElem?_setIfInBounds,Array.getD_eq_getD_getElem?]
  by_cases e:x=j
  ·subst e;rw[if_pos rfl,if_pos rfl,if_pos lt];rfl
  ·rw[if_neg e,if_neg (fun z=>e z.symm)]
 refine⟨by rw[Array.size_setIfInBounds];exact h.size,?_,fun x v e=>?_⟩
 ·unfold L2.cnt;have e1:((List.range (mask+1)).filter fun x=>((owner.setIfInBounds j (some k)).getD x none).isSome)=(List.range (mask+1)).filter fun x=>(owner.getD x none).isSome||x==j:=List.filter_congr fun x _=>by
   rw[gx]
   by_cases e:x=j
   ·rw[if_pos e,e];simp
   ·rw[if_neg e,beq_eq_false_iff_ne.mpr e,Bool.or_false]
  rw[e1,zj4 (p:=fun x=>(owner.getD x none).isSome) (by rw[e0];rfl) List.nodup_range (List.mem_range.mpr (by rw[←h.size];exact lt))]
  have:=h.cnt;unfold L2.cnt at this;rw[this]
 ·rw[gx] at e
  by_cases c:x=j
  ·rw[if_pos c] at e
   cases e;omega
  ·rw[if_neg c] at e;have:=h.lt x v e;omega
theorem zi7{mask:Nat}{owner:Array (Option Nat)}:∀(m f i p:Nat),m<f->owner.getD (leaps mask m (i,p)).1 (some 0)=none->∃j,SetTable.layClean.free mask owner f i p=some j/\owner.getD j (some 0)=none
 |m,0,i,p,hf,_=>by omega
 |m,f+1,i,p,hf,he=>by
  unfold SetTable.layClean.free
  cases c:(List.range (SetTable.runEnd mask i+1-i)).find? (fun k=>(owner.getD (i+k) (some 0)).isNone) with
  |some k=>
   have:=List.find?_some c;exact⟨i+k,rfl,Option.isNone_iff_eq_none.mp this⟩
  |none=>
   have nz:m≠0:=fun z=>by
    subst z;have he:owner.getD i (some 0)=none:=he;have r:0∈List.range (SetTable.runEnd mask i+1-i):=List.mem_range.mpr (by unfold SetTable.runEnd;split<;>omega)
    have:=List.find?_eq_none.mp c 0 r;rw[Nat.add_zero,he] at this;exact this rfl
   obtain⟨m',rfl⟩:∃m',m=m'+1:=⟨m-1,by omega⟩
   exact zi7 m' f _ _ (by omega) he
theorem zls{mask:Nat}(g:zgk mask):∀(hs:List Int)(owner:Array (Option Nat))(k:Nat),zm7 mask owner k->k+hs.length<=mask->
  ∃owner',hs.foldl (fun acc h=>do
   let(owner,k) ←acc
   let j ←SetTable.layClean.free mask owner (SetTable.turns mask) (SetTable.bits h%(mask+1)) (SetTable.bits h)
   pure (owner.setIfInBounds j (some k),k+1)) (some (owner,k))=some (owner',k+hs.length)/\zm7 mask owner' (k+hs.length)
 |[],owner,k,h,_=>⟨owner,rfl,h⟩
 |x::hs,owner,k,h,hk=>by
  rw[List.length_cons] at hk;obtain⟨e,he,ee⟩:=own_free h (by omega)
  obtain⟨m,hm,em⟩:=zie g (p:=(SetTable.bits x%(mask+1),SetTable.bits x)) (Nat.le_of_lt_succ (Nat.mod_lt _ (Nat.succ_pos _))) (zpc x) he;obtain⟨j,ej,hj⟩:=zi7 (mask:=mask) (owner:=owner) m (SetTable.turns mask) (SetTable.bits x%(mask+1)) (SetTable.bits x) (by unfold SetTable.turns;omega) (by rw[em];exact ee)
  obtain⟨owner',e1,e2⟩:=zls g hs _ (k+1) (own_put h hj) (by omega)
  rw[List.foldl_cons,List.length_cons,show k+(hs.length+1)=k+1+hs.length by omega]
  refine⟨owner',?_,e2⟩;rw[←e1]
  congr 1
  show(SetTable.layClean.free mask owner (SetTable.turns mask) (SetTable.bits x%(mask+1)) (SetTable.bits x)).bind _=_
  rw[ej];rfl
theorem znv(mask:Nat):zm7 mask (Array.replicate (mask+1) none) 0:=by
 have z:∀j,(Array.replicate (mask+1) (none:Option Nat)).getD j none=none:=fun j=>by
  rw[Array.getD_eq_getD_getElem?,Array.getElem?_replicate]
  split<;>rfl
 refine⟨by simp,?_,fun j v e=>by rw[z] at e;cases e⟩
 unfold cnt;rw[List.filter_eq_nil_iff.mpr fun j _=>by rw[z];decide]
 rfl
theorem laid_ok{mask:Nat}(g:zgk mask){hs:Array Int}(hn:hs.size<=mask)(fi mo:Nat)(led pl:Bool):∃t order,SetTable.laid mask fi mo led pl hs=some (t,order)/\ze5 t hs.size/\t.mask=mask/\t.led=led/\order.size=hs.size/\∀v,v∈order.toList->v<hs.size:=by
 obtain⟨owner,e1,e2⟩:=zls g hs.toList _ 0 (znv mask) (by simpa using hn)
 have z:0+hs.toList.length=hs.size:=by simp
 rw[z] at e1 e2;have e3:SetTable.layClean mask hs=some owner:=by
  unfold SetTable.layClean;rw[←Array.foldl_toList,e1];rfl
 have ll:((List.range (mask+1)).filterMap fun j=>(owner.getD j none).map (j,·)).length=hs.size:=by
  rw[List.length_filterMap_eq_countP,List.countP_eq_length_filter,←e2.cnt];unfold cnt
  congr 1
  refine List.filter_congr fun j _=>?_
  cases owner.getD j none<;>rfl
 refine⟨_,_,by unfold SetTable.laid;rw[e3];rfl,⟨g,rfl,?_,hn⟩,rfl,rfl,?_,fun v hv=>?_⟩
 ·simp only[List.size_toArray,List.length_map];exact ll
 ·simp only[List.size_toArray,List.length_map];exact ll
 ·simp only[List.mem_map,List.mem_filterMap] at hv;obtain⟨⟨j,v'⟩,⟨j',_,h2⟩,rfl⟩:=hv
  cases e:owner.getD j' none with
  |none=>rw[e] at h2;cases h2
  |some u=>
   rw[e] at h2
   cases h2;exact e2.lt _ _ e
section
variable{prog:Program}{w:World}{A:Around}{E:Value->Shared->Prop}{s:Shared}{K:Type}[DecidableEq K]{knd:KeyKind prog w K}
def Others(knd:KeyKind prog w K)(h:Heap)(es:Array (Int×Value))(k:List K):Prop:=∀e,e∈es.toList->∃b k',e.2=.ref b/\IsTupleKey knd h k' b/\k'≠k
theorem zlw{ks:List K}{a:Addr}{Q:Bool->Shared->Prop}(hk:IsTupleKey knd s.heap ks a)(h:Q false s):wpAny (model prog w) A (ofAClassStatement 8 (.ref a)) Q E s:=by
 have hT:=hk.typeIs;obtain⟨o,items,n,ho,_,hd,hi⟩:=hk;unfold ofAClassStatement;refine wpAny_bind (wpAny_typeOf hT ?_);simp only[beq_self_eq_true,if_true];refine wpAny_bind (wpAny_pure ?_);simp only[Bool.not_true,Bool.false_eq_true,if_false];refine wpAny_bind (wpAny_seqItems ho hd ?_);refine wpAny_bind ?_;show wpAny _ _ (forIn items _ _) _ _ s;rw[←Array.forIn_toList];refine wpAny_forIn_list _ (fun rest r s'=>r.1=none/\s'=s/\∀v∈rest,carriedByValue v=true) _ ?_ ?_ _ _ ⟨rfl,rfl,hi.byValue⟩
 ·rintro v rest r s' ⟨hr,rfl,hall⟩;have e:ofAClassStatement 7 v=pure false:=by
   have:=hall v List.mem_cons_self
   cases v<;>first|rfl|(simp[carriedByValue] at this)
  rw[e];refine wpAny_bind (wpAny_pure ?_);simp only[Bool.false_eq_true,if_false];exact wpAny_pure ⟨rfl,rfl,fun u hu'=>hall u (List.mem_cons_of_mem _ hu')⟩
 ·rintro⟨r1,r2⟩ s' ⟨hr,rfl,_⟩
  simp only at hr
  subst hr;exact wpAny_pure h
theorem seen_no{k:List K}{a:Addr}{ys:List Value}{Q:Bool->Shared->Prop}(hk:IsTupleKey knd s.heap k a)(hy:∀y,y∈ys->∃b k',y=.ref b/\IsTupleKey knd s.heap k' b)(h:Q false s):wpAny (model prog w) A (searchCouldBeSeen (.ref a) ys) Q E s:=by
 unfold searchCouldBeSeen;refine wpAny_bind ?_;refine wpAny_forIn_list _ (fun rest r s'=>r.1=none/\s'=s/\∀y,y∈rest->∃b k',y=.ref b/\IsTupleKey knd s.heap k' b) _ ?_ ?_ _ _ ⟨rfl,rfl,hy⟩
 ·rintro v rest r s' ⟨hr,rfl,hall⟩;obtain⟨b,k',rfl,hb⟩:=hall v List.mem_cons_self;have rest':=fun u hu'=>hall u (List.mem_cons_of_mem _ hu')
  by_cases c:a=b
  ·subst c;simp only[beq_self_eq_true,Bool.true_or,if_true];exact wpAny_pure ⟨rfl,rfl,rest'⟩
  ·have c':(a==b)=false:=beq_eq_false_iff_ne.mpr c;simp only[c',carriedByValue,Bool.false_and,Bool.or_self,Bool.false_eq_true,if_false];refine wpAny_bind (wpAny_eqIsQuiet_tuple hk ?_);simp only[Bool.not_true,Bool.false_eq_true,if_false];refine wpAny_bind (wpAny_eqIsQuiet_tuple hb ?_);simp only[Bool.not_true,Bool.false_eq_true,if_false];refine wpAny_bind (zlw hk ?_);simp only[Bool.false_eq_true,if_false];refine wpAny_bind (zlw hb ?_);simp only[Bool.false_eq_true,if_false];exact wpAny_pure ⟨rfl,rfl,rest'⟩
 ·rintro⟨r1,r2⟩ s' ⟨hr,rfl,_⟩
  simp only at hr
  subst hr;exact wpAny_pure h
theorem odd_good{m:Nat}(h:zgk m):(m%2==0)=false:=by rcases h with rfl|rfl|rfl<;>rfl
theorem zpn{S a:Addr}{o:Obj}{es:Array (Int×Value)}{ep:Nat}{t:SetTable}{k:List K}{hs:Int}(hu:A.units<cLine)(ho:s.heap.get? S=some o)(hd:o.data=.set es ep t)(ht:ze5 t es.size)(hk:IsTupleKey knd s.heap k a)(he:Others knd s.heap es k):
  ∀(n f:Nat)(st:Option SetTable.Probe)(Q:SetFound->Shared->Prop),n<f->n<10*SetTable.turns t.mask->(st.getD (t.probeStart hs)).dummy=none->t.slot (adv t n (st.getD (t.probeStart hs))).j=.empty->
  (∀j,Q (.free j false) s)->wpAny (model prog w) A (setSearchFrom S (.ref a) hs true f st) Q E s:=by
 intro n
 induction n using Nat.strongRecOn with
 |_ n ih=>
  intro f st Q hf hn hdm hem q;obtain⟨f,rfl⟩:∃f',f=f'+1:=⟨f-1,by omega⟩
  unfold setSearchFrom;refine wpAny_bind (wpAny_setState_of ho hd ht.fits ?_);dsimp only;have gw:t.gaveWay=false:=odd_good ht.good;rw[gw];simp only[Bool.false_eq_true,if_false]
  have tail:∀(j i:Nat)(next:SetTable.Probe)(m:Nat),m<n->next=adv t (m+1) (st.getD (t.probeStart hs))->t.slot j=.live i->wpAny (model prog w) A (setSearchFrom S (.ref a) hs true f (some next)) Q E s:=fun j i next m hm en hs'=>by
   refine ih (n-(m+1)) (by omega) f (some next) Q (by omega) (by omega) ?_ ?_ q
   ·show next.dummy=none
    rw[en];have:∀(c:Nat)(p:SetTable.Probe),p.dummy=none->(adv t c p).dummy=none:=fun c=>by
     induction c with
     |zero=>exact fun p h=>h
     |succ c ihc=>exact fun p h=>ihc _ (by rw[zjd];exact h)
    exact this _ _ hdm
   ·show t.slot (adv t (n-(m+1)) next).j=_
    rw[en,←zks,show m+1+(n-(m+1))=n by omega]
    exact hem
  unfold SetTable.probe;rcases zlc ht (hs:=hs) n (10*SetTable.turns t.mask) (st.getD (t.probeStart hs)) hn hdm hem with⟨j,e1,e2⟩|⟨m,j,i,hm,e1,e2⟩
  ·rw[e1];exact wpAny_pure (q j)
  ·rw[e1];dsimp only;have hi:=(ziz ht e2).2;have gi:es[i]?=some es[i]:=Array.getElem?_eq_getElem hi;obtain⟨b,k',eb,hb,nb⟩:=he es[i] (by simp)
   have go:=tail j i _ m hm rfl e2;have ep2:es[i]=(es[i].1,Value.ref b):=Prod.ext rfl eb;have sm:t.sameMemory t.moves t.mask=some true:=by unfold SetTable.sameMemory;simp
   have gi2:es[i]?=some (es[i].1,Value.ref b):=gi.trans (congrArg some ep2);have stored:∀y,y∈List.map (fun x:Int×Value=>x.2) (Array.filter (fun x=>x.1==hs) es).toList->∃b k',y=.ref b/\IsTupleKey knd s.heap k' b:=fun y hy=>by
    obtain⟨e,h1,h2⟩:=List.mem_map.mp hy;rw[Array.toList_filter] at h1;obtain⟨b,k',z1,z2,_⟩:=he e (List.mem_filter.mp h1).1;exact⟨b,k',by rw[←h2];exact z1,z2⟩
   cases hl:t.led with
   |false=>
    simp only[Bool.not_false,if_true];refine wpAny_bind (seen_no hk stored ?_);simp only[Bool.false_eq_true,if_false];rw[gi2];dsimp only;refine wpAny_bind (wpAny_holding (wpAny_eqBool_tuple hu hb hk ?_));rw[decide_eq_false nb];refine wpAny_bind (wpAny_setState_of ho hd ht.fits ?_);dsimp only;rw[sm];simp only[Bool.and_false,Bool.false_eq_true,if_false,if_true,e2,gi2];refine wpAny_bind (wpAny_isSame_ref_self (wpAny_bind (wpAny_pure ?_)));simp only[if_true];exact go
   |true=>
    simp only[Bool.not_true,Bool.false_eq_true,if_false];rw[gi2];dsimp only;refine wpAny_bind (wpAny_holding (wpAny_eqBool_tuple hu hb hk ?_));rw[decide_eq_false nb];refine wpAny_bind (wpAny_setState_of ho hd ht.fits ?_);dsimp only;rw[sm];simp only[Bool.and_false,Bool.false_eq_true,if_false,if_true,e2,gi2];refine wpAny_bind (wpAny_isSame_ref_self (wpAny_bind (wpAny_pure ?_)));simp only[if_true];exact go
end
section
variable{prog:Program}{w:World}{A:Around}{E:Value->Shared->Prop}{s:Shared}{K:Type}[DecidableEq K]{knd:KeyKind prog w K}
theorem hash_val(n:Nat){v:Value}(h:carriedByValue v=true):∃b,hashByValue n v=pure b:=by
 cases v<;>first|(simp[carriedByValue] at h;done)|exact⟨_,by unfold hashByValue;rfl⟩|exact⟨_,rfl⟩
theorem hash_by{ks:List K}{a:Addr}{Q:Bool->Shared->Prop}(hk:IsTupleKey knd s.heap ks a)(h:∀b,Q b s):wpAny (model prog w) A (hashByValue 8 (.ref a)) Q E s:=by
 have hT:=hk.typeIs;obtain⟨o,items,n,ho,_,hd,hi⟩:=hk;unfold hashByValue;refine wpAny_bind (wpAny_specialOf hT F.slot_tuple_hash.lookup ?_);dsimp only;refine wpAny_bind (wpAny_seqItems ho hd ?_);refine wpAny_bind ?_;show wpAny _ _ (forIn items _ _) _ _ s;rw[←Array.forIn_toList];refine wpAny_forIn_list _ (fun rest r s'=>s'=s/\∀v∈rest,carriedByValue v=true) _ ?_ ?_ _ _ ⟨rfl,hi.byValue⟩
 ·rintro v rest r s' ⟨rfl,hall⟩;obtain⟨b,e⟩:=hash_val 7 (hall v List.mem_cons_self);rw[e];refine wpAny_bind (wpAny_pure ?_)
  cases b with
  |false=>exact wpAny_pure (wpAny_pure (h false))
  |true=>exact wpAny_pure ⟨rfl,fun u hu'=>hall u (List.mem_cons_of_mem _ hu')⟩
 ·rintro⟨r1,r2⟩ s' ⟨rfl,_⟩
  cases r1 with
  |none=>exact wpAny_pure (h _)
  |some b=>exact wpAny_pure (h _)
def SetT(knd:KeyKind prog w K)(h:Heap)(S:Addr)(keys:List (List K))(n:Nat):Prop:=
 ∃o es ep t,h.get? S=some o/\o.ExactSet/\o.data=.set es ep t/\ze5 t es.size/\es.size*5<t.mask*3/\es.size=n/\∀e,e∈es.toList->∃b k',e.2=.ref b/\IsTupleKey knd h k' b/\k'∈keys
theorem zkp{h h':Heap}{S a:Addr}{o:Obj}{es:Array (Int×Value)}{ep:Nat}{t:SetTable}{ks:List K}(ho:h.get? S=some o)(hd:o.data=.set es ep t)(hs:Heap.SameBut S h h')(x:IsTupleKey knd h ks a):IsTupleKey knd h' ks a:=by
 obtain⟨o',items,n,ho',hc,hd',hi⟩:=x;have hne:a≠S:=by
  rintro rfl;obtain rfl:o'=o:=Option.some.inj (ho'.symm.trans ho);rw[hd] at hd'
  cases hd'
 exact⟨o',items,n,(hs.2 a hne).trans ho',hc,hd',hi⟩
theorem relay_at{S:Addr}{o:Obj}{es:Array (Int×Value)}{ep:Nat}{t:SetTable}{wanted:Nat}{Q:Unit->Shared->Prop}(ho:s.heap.get? S=some o)(hx:o.ExactSet)(hd:o.data=.set es ep t)(ht:ze5 t es.size)(hg:zgk (SetTable.sizeAbove wanted-1))(hr:es.size*5<(SetTable.sizeAbove wanted-1)*3)(hw:SetTable.sizeAbove wanted<=128)
  (q:∀h' o' es' t',Heap.SameBut S s.heap h'->h'.get? S=some o'->o'.ExactSet->o'.data=.set es' (ep+1) t'->ze5 t' es'.size->es'.size*5<t'.mask*3->es'.size=es.size->(∀e,e∈es'.toList->e∈es.toList)->Q () {s with heap:=h'}):
  wpAny (model prog w) A (setRelay S wanted) Q E s:=by
 unfold setRelay;refine wpAny_bind (wpAny_setState_of ho hd ht.fits ?_);dsimp only;rw[if_neg (by have:sizeLine≥1000:=(by decide);omega)]
 obtain⟨t',order,e1,e2,e3,e4,e5,e6⟩:=laid_ok hg (hs:=es.map (·.1)) (by rw[Array.size_map];omega) t.finger (t.movedTo (SetTable.sizeAbove wanted-1)) t.led t.plain
 have e1':t.relaid (es.map (·.1)) wanted=some (t',order):=e1;rw[e1'];have sz:(order.filterMap (es[·]?)).size=es.size:=by
  rw[←Array.length_toList,Array.toList_filterMap,List.length_filterMap_eq_countP,List.countP_eq_length.mpr,Array.length_toList,e5,Array.size_map];intro v hv;have:=e6 v hv;rw[Array.size_map] at this;rw[Array.getElem?_eq_getElem this];rfl
 refine wpAny_bind (wpAny_of_eq (?_:_=pure (order.filterMap (es[·]?),t')) ?_)
 ·change (if _ then _ else _)=_
  rw[if_neg (by rw[sz];simp)]
 ·have hz:(order.filterMap (es[·]?)).size<=sizeLine:=by
   rw[sz];have:sizeLine≥1000:=by decide
   omega
  refine wpAny_storeSet_of ho hd ?_ hz;have e8:ze5 t' (order.filterMap (es[·]?)).size:=by
   rw[sz];rw[Array.size_map] at e2;exact e2
  refine q _ _ (order.filterMap (es[·]?)) t' (Heap.SameBut.update ..) (Heap.get?_update_self _ ho ?_) ?_ ?_ e8 ?_ sz fun e he=>?_
  ·rw[putSet_of _ _ hd];rfl
  ·rw[putSet_of _ _ hd];exact hx
  ·rw[putSet_of _ _ hd]
  ·rw[sz,e3];exact hr
  ·rw[Array.toList_filterMap,List.mem_filterMap] at he;obtain⟨v,_,hv⟩:=he;rw[←Array.getElem?_toList] at hv;exact List.mem_of_getElem? hv
end
section
variable{prog:Program}{w:World}{A:Around}{R:Result->Shared->Prop}{I:Addr}{fp wr:List Addr}{G:Array GenState->Array GenState->Prop}{n:Nat}{P:Nat->Value->Prop}{St:Nat->Shared->Prop}{K:Type}[DecidableEq K]{knd:KeyKind prog w K}
theorem zhu{h h':Heap}{ks:List K}{b:Addr}(x:IsTupleKey knd h ks b)(k:∀o,h.get? b=some o->h'.get? b=some o):IsTupleKey knd h' ks b:=by
 obtain⟨o',items,n,ho',hc,hd',hi⟩:=x;exact⟨o',items,n,k _ ho',hc,hd',hi⟩
theorem zjf{h h':Heap}{S:Addr}{keys:List (List K)}{m:Nat}(hS:SetT knd h S keys m)(k:∀b o,h.get? b=some o->(b=S∨∃ks,IsTupleKey knd h ks b)->h'.get? b=some o):SetT knd h' S keys m:=by
 obtain⟨o,es,ep,t,ho,hx,hd,ht,hf,hn,he⟩:=hS;refine⟨o,es,ep,t,k _ _ ho (.inl rfl),hx,hd,ht,hf,hn,fun e h=>?_⟩;obtain⟨b,k',e1,e2,e3⟩:=he e h;exact⟨b,k',e1,zhu e2 fun o ho=>k _ _ ho (.inr ⟨_,e2⟩),e3⟩
def zfn(ks:Nat->List K):Nat->List (List K)
 |0=>[]
 |i+1=>ks i::zfn ks i
theorem zgr{ks:Nat->List K}{k:List K}:∀{i:Nat},k∈zfn ks i->∃j,j<i/\k=ks j
 |0,h=>by cases h
 |i+1,h=>by
  rcases List.mem_cons.mp h with h|h
  ·exact⟨i,by omega,h⟩
  ·obtain⟨j,hj,e⟩:=zgr h;exact⟨j,by omega,e⟩
end
section
variable{prog:Program}{w:World}{A:Around}{E:Value->Shared->Prop}{s:Shared}{K:Type}[DecidableEq K]{knd:KeyKind prog w K}
abbrev set0(led:Bool):Obj:={cls:=.type "set",dict:=none,data:=.set #[] 0 (.fresh 0 0 led)}
theorem setT_new{h:Heap}{S:Addr}{led:Bool}(e:h.get? S=some (set0 led)):SetT knd h S [] 0:=
 ⟨_,#[],0,.fresh 0 0 led,e,⟨rfl,rfl,rfl⟩,rfl,⟨.inl rfl,rfl,rfl,Nat.zero_le _⟩,(by show 0*5<7*3;decide),rfl,fun e h=>by cases h⟩
theorem iter_no{h:Heap}{b:Addr}{k:List K}{o:Obj}(e:h.get? b=some o)(hc:o.cls≠.type "tuple"):¬IsTupleKey knd h k b:=fun⟨o',_,_,ho',hc',_⟩=>by
 rw[e] at ho'
 cases ho';exact hc hc'
end
def setO(a:Addr)(n:Nat):HO:=.ext fun h=>∃o es ep t,h.get? a=some o/\o.ExactSet/\o.data=.set es ep t/\t.fits es.size=true/\es.size=n
section
variable{X:Cx}
def rLenS:List V->Hp->VK->Prop:=fun xs H Q=>∃(p:Addr)(n:Nat),xs=[.ref p]/\H p=some (setO p n)/\n<=sizeLine/\Q (.int n) H
theorem zo2:zdo X (.builtin "len") rLenS:=by
 intro pins s σ H xs us Q I r h;obtain⟨p,n,rfl,hp,hz,q⟩:=h;obtain⟨u,rfl,rx⟩:=vals1 r
 cases rx;have hn:=line63;obtain⟨⟨o,es,ep,t,ho,hx,hd,ht,hes⟩,_⟩:=I.hok p _ hp;exact call_len_set ho hx hd ht (by omega) ⟨.int n,H,I.tok _,⟨s.toks+1,by rw[hes]⟩,q⟩
end
section
variable{X:Cx}
def zjs(K:PySem.W.Frag):R2:=fun x y H Q=>∃d es,RdD K H d x/\RdD K H (.list es) y/\d.canLay0=true/\PyData.canLayAll0 es=true/\d.depth<=60/\Q (.bl (!(es.any fun e=>PyData.eqv e d))) H
theorem znp(hu:X.A.units+64<cLine):OpR X (compareOp .NotIn) (zjs X.K):=by
 intro pins s σ H x y v u Q I rx ry h;obtain⟨d,es,hd,he,c1,c2,c3,q⟩:=h;obtain⟨as,ra⟩:=zdl I d x v hd rx;obtain⟨bs,rb⟩:=zdl I _ y u he ry;exact SeqAt.notIn_list_reads rb ra c2 c1 (by omega) ⟨.bl _,H,I,rfl,q⟩
end
namespace RV
end RV
section
variable{prog:Program}{w:World}{K:Type}[DecidableEq K](knd:KeyKind prog w K)
inductive zdt(h:Heap):List (List K)->List Value->Prop
 |nil:zdt h [] []
 |cons {k:List K} {b:Addr} {ks:List (List K)} {vs:List Value}:IsTupleKey knd h k b->zdt h ks vs->zdt h (k::ks) (.ref b::vs)
def zd0(h:Heap)(ks:List (List K))(a:Addr):Prop:=∃o items n,h.get? a=some o/\o.cls=.type "tuple"/\o.data=.seq items n/\zdt knd h ks items.toList
variable{knd}
theorem zdt.inj{h:Heap}{x y:List (List K)}{vs:List Value}(hx:zdt knd h x vs)(hy:zdt knd h y vs):x=y:=by
 induction hx generalizing y with
 |nil=>cases hy;rfl
 |cons h1 _ ih=>
  cases hy with
  |cons h2 t2=>rw[h1.inj h2,ih t2]
theorem zd0.typeIs{s:Shared}{ks:List (List K)}{a:Addr}(x:zd0 knd s.heap ks a):s.TypeIs (.ref a) "tuple":=let⟨o,_,_,ho,hc,_⟩:=x;⟨o,ho,hc⟩
theorem zd0.inj{h:Heap}{a:Addr}{x y:List (List K)}(hx:zd0 knd h x a)(hy:zd0 knd h y a):x=y:=by
 obtain⟨o,items,n,ho,_,hd,hi⟩:=hx;obtain⟨o',items',n',ho',_,hd',hi'⟩:=hy;obtain rfl:o=o':=Option.some.inj (ho.symm.trans ho');rw[hd] at hd'
 injection hd' with h1 _
 subst h1;exact hi.inj hi'
theorem zd0.keeps{h h':Heap}{ks:List (List K)}{a d:Addr}{o:Obj}{es ep}(x:zd0 knd h ks a)(ho:h.get? d=some o)(hd:o.data=.dict es ep)(hs:Heap.SameBut d h h'):zd0 knd h' ks a:=by
 obtain⟨o',items,n,ho',hc,hd',hi⟩:=x;have hne:a≠d:=by
  rintro rfl;obtain rfl:o'=o:=Option.some.inj (ho'.symm.trans ho);rw[hd] at hd';exact nomatch hd'
 refine⟨o',items,n,(hs.2 a hne).trans ho',hc,hd',?_⟩;generalize items.toList=vs at hi
 induction hi with
 |nil=>exact .nil
 |cons h1 _ ih=>exact .cons (h1.keeps ho hd hs) ih
def zhg(knd:KeyKind prog w K)(ks:List (List K)):Int:=reduceHash (Builtin.Tuple.tupleHashOf (ks.map (tupleKeyHash knd)))
def zcu(ks:List (List K)):Nat:=(ks.map fun k=>k.length+1).sum
variable{A:Around}{E:Value->Shared->Prop}{s:Shared}
theorem zk4{ks:List (List K)}{a:Addr}{Q:Int->Shared->Prop}(hu:A.units+2<cLine)(hk:zd0 knd s.heap ks a)(h:Q (zhg knd ks) {s with toks:=s.toks+(zcu ks+1)}):
  wpAny (model prog w) A (pyHash (.ref a)) Q E s:=by
 have hT:=hk.typeIs;obtain⟨o,items,n,ho,_,hd,hi⟩:=hk;unfold pyHash
 first|unfold pyHashByItsType|skip
 first|refine wpAny_bind (wpAny_cRoomFor_or (.inr (by omega)) ?_)|skip
 refine wpAny_bind (wpAny_specialOf hT PySem.F.slot_tuple_hash.lookup ?_);show wpAny _ _ (if(some (Value.builtin "tuple.__hash__")==some Value.none)=true then _ else _) Q E s;rw[if_neg (by rw[beq_builtin_none];exact Bool.false_ne_true)]
 refine wpAny_bind (wpAny_specialOf hT PySem.F.slot_tuple_hash.lookup ?_);show wpAny _ _ (callSpecialIfBoundUnlessNone? (.ref a) "__hash__" _>>=_) Q E s;refine wpAny_bind (wpAny_callSpecialIfBoundUnlessNone?_slot hT PySem.F.slot_tuple_hash (wpAny_call_entry PySem.F.slot_tuple_hash hT PySem.F.entry_tuple_hash ?_ (PySem.F.args_tuple_hash_1 _)));show wpAny _ _ (Builtin.Tuple.tupleItemsOf (.ref a)>>=_) _ _ s;refine wpAny_bind (wpAny_tupleItemsOf ho hd ?_);refine wpAny_bind ?_;rw[←Array.forIn_toList];refine wpAny_forIn_list _
  (fun rest(b:Array Int) s'=>∃done left,ks=done++left/\zdt knd s.heap left rest/\b.toList=done.map (tupleKeyHash knd)/\s'={s with toks:=s.toks+zcu done})
  _ ?_ ?_ _ _ ⟨[],ks,rfl,hi,rfl,rfl⟩
 ·rintro x rest b s' ⟨done,left,rfl,hl,hb,rfl⟩
  cases hl with
  |@cons k b' ks' _ h1 hl'=>
   refine wpAny_bind ((tupleKind knd).pyHash (k:=k) (tupleKind_room_in1 (by omega)) h1 ?_)
   have e:zcu (done++[k])=zcu done+(k.length+1):=by simp[zcu]
   have eh:∀t,({({s with toks:=s.toks+zcu done}:Shared) with toks:=t}:Shared)={s with toks:=t}:=fun _=>rfl
   first
    |exact wpAny_pure ⟨done++[k],ks',by simp,hl',by simp[hb,tupleKind],by rw[e,←Nat.add_assoc];rfl⟩
    |exact wpAny_bind (wpAny_pure (wpAny_pure ⟨done++[k],ks',by simp,hl',by simp[hb,tupleKind],by rw[e,←Nat.add_assoc];rfl⟩))
 ·rintro b s' ⟨done,left,rfl,hl,hb,rfl⟩
  cases hl;rw[List.append_nil] at h;show wpAny _ _ (retInt (Builtin.Tuple.tupleHashOf b.toList)) _ _ _;rw[hb];refine wpAny_ret_mkInt ?_;show wpAny _ _ (if(decide (-(2:Int)^63<=Builtin.Tuple.tupleHashOf (done.map (tupleKeyHash knd)))&&decide (Builtin.Tuple.tupleHashOf (done.map (tupleKeyHash knd))<2^63))=true then _ else _) Q E _;unfold zhg reduceHash at h
  by_cases hr:(decide (-(2:Int)^63<=Builtin.Tuple.tupleHashOf (done.map (tupleKeyHash knd)))&&decide (Builtin.Tuple.tupleHashOf (done.map (tupleKeyHash knd))<2^63))=true
  ·rw[if_pos hr];rw[if_pos hr] at h;exact wpAny_pure (by simpa[Nat.add_assoc] using h)
  ·rw[if_neg hr];rw[if_neg hr] at h;exact wpAny_bind (wpAny_rule (wpAny_pure (by simpa[Nat.add_assoc] using h)))
theorem zjr{x y:List (List K)}{a b:Addr}{P:PySem.Fin->Shared->Prop}(hu:A.units<cLine)(hx:zd0 knd s.heap x a)(hy:zd0 knd s.heap y b)(h:P (.done (.ret (.bool (decide (x=y))))) s):
  wpAny (model prog w) A (Builtin.«tuple.__eq__» ⟨[.ref a,.ref b],[]⟩) P E s:=by
 have hTb:=hy.typeIs;obtain⟨oa,xs,na,hoa,_,hda,hia⟩:=hx;obtain⟨ob,ys,nb,hob,_,hdb,hib⟩:=hy;show wpAny _ _ (isInstance (.ref b) (.type "tuple")>>=_) _ _ s;refine wpAny_bind (wpAny_isInstance hTb isSubtype_tuple_tuple ?_);simp only[Bool.not_true,Bool.false_eq_true,if_false];refine wpAny_bind (wpAny_tupleItemsOf hoa hda ?_);refine wpAny_bind (wpAny_tupleItemsOf hob hdb ?_);refine wpAny_bind ?_;refine wpAny_forIn_list _
  (fun rest r s'=>r.1=none/\s'=s/\∃x' y' xs' ys',rest=List.zip xs' ys'/\zdt knd s.heap x' xs'/\zdt knd s.heap y' ys'/\decide (x'=y')=decide (x=y)/\(xs'.length==ys'.length)=(xs.size==ys.size))
  _ ?_ ?_ _ _ ⟨rfl,rfl,x,y,xs.toList,ys.toList,rfl,hia,hib,rfl,by simp⟩
 ·rintro⟨u,v⟩ rest r s' ⟨hr,rfl,x',y',xs',ys',hz,hx',hy',hdec,hlen⟩
  cases hx' with
  |nil=>simp at hz
  |@cons k1 u' x'' xs'' h1 hx''=>
   cases hy' with
   |nil=>simp at hz
   |@cons k2 v' y'' ys'' h2 hy''=>
    simp only[List.zip_cons_cons,List.cons.injEq,Prod.mk.injEq] at hz;obtain⟨⟨rfl,rfl⟩,rfl⟩:=hz;refine wpAny_bind ((tupleKind knd).eqBool (x:=k1) (y:=k2) hu h1 h2 ?_)
    by_cases hk:k1=k2
    ·subst hk;rw[decide_eq_true rfl];simp only[Bool.not_true,Bool.false_eq_true,if_false];refine wpAny_pure ⟨rfl,rfl,x'',y'',xs'',ys'',rfl,hx'',hy'',?_,by simpa using hlen⟩
     rw[←hdec]
     by_cases hxy:x''=y''
     ·simp[hxy]
     ·simp[hxy]
    ·rw[decide_eq_false hk];simp only[Bool.not_false,if_true];have hf:decide (x=y)=false:=by rw[←hdec];simp[hk]
     rw[hf] at h;exact wpAny_bind (wpAny_pure (wpAny_pure (wpAny_pure h)))
 ·rintro⟨r1,r2⟩ s' ⟨hr,rfl,x',y',xs',ys',hz,hx',hy',hdec,hlen⟩
  simp only at hr
  subst hr;refine wpAny_pure ?_;have hfin:(xs.size==ys.size)=decide (x=y):=by
   rw[←hdec,←hlen]
   cases hx' with
   |nil=>
    cases hy' with
    |nil=>simp
    |cons _ _=>simp
   |cons _ _=>
    cases hy' with
    |nil=>simp
    |cons _ _=>simp at hz
  show P (.done (.ret (.bool (xs.size==ys.size)))) s'
  rw[hfin];exact h
theorem zkq{x y:List (List K)}{a b:Addr}{Q:Bool->Shared->Prop}(hu:A.units+2<cLine)(hx:zd0 knd s.heap x a)(hy:zd0 knd s.heap y b)(h:Q (decide (x=y)) s):
  wpAny (model prog w) A (eqBool (.ref a) (.ref b)) Q E s:=by
 unfold eqBool
 try with_reducible refine wpAny_holding ?_
 show wpAny _ _ (if(Value.ref a==Value.ref b)=true then _ else _) Q E s
 by_cases hab:(Value.ref a==Value.ref b)=true
 ·rw[if_pos hab];have e:a=b:=by have:=eq_of_beq hab;injection this
  subst e;obtain rfl:=hx.inj hy;exact wpAny_bind (wpAny_rule (wpAny_pure (by simpa using h)))
 ·rw[if_neg hab];exact wpAny_bind (wpAny_richCompare_same_room (op:=.Eq) hx.typeIs hy.typeIs PySem.F.slot_tuple_eq
   (wpAny_call_entry PySem.F.slot_tuple_eq hx.typeIs PySem.F.entry_tuple_eq (zjr (tupleKind_room_in1 (knd:=knd) (by omega)) hx hy ⟨_,rfl,(fun e=>nomatch e),wpAny_truthy_bool h⟩) (PySem.F.args_tuple_eq_2 _ _)) (by omega))
theorem zml(n:Nat){ks:List K}{a:Addr}{Q:Bool->Shared->Prop}(hk:IsTupleKey knd s.heap ks a)(h:Q true s):wpAny (model prog w) A (eqIsQuiet (n+1) (.ref a)) Q E s:=by
 have hT:=hk.typeIs;obtain⟨o,items,m,ho,_,hd,hi⟩:=hk;unfold eqIsQuiet;refine wpAny_bind (wpAny_specialOf hT PySem.F.slot_tuple_eq.lookup ?_);show wpAny _ _ (isInstance (.ref a) (.type "tuple")>>=_) _ _ s;refine wpAny_bind (wpAny_isInstance hT isSubtype_tuple_tuple ?_);simp only[Bool.not_true,Bool.false_eq_true,if_false];refine wpAny_bind (wpAny_seqItems ho hd ?_);refine wpAny_bind ?_;show wpAny _ _ (forIn items _ _) _ _ s;rw[←Array.forIn_toList];refine wpAny_forIn_list _ (fun rest r s'=>r.1=none/\s'=s/\∀v∈rest,carriedByValue v=true) _ ?_ ?_ _ _ ⟨rfl,rfl,hi.byValue⟩
 ·rintro v rest r s' ⟨hr,rfl,hall⟩;rw[eqIsQuiet_byValue _ (hall v List.mem_cons_self)];refine wpAny_bind (wpAny_pure ?_);simp only[Bool.not_true,Bool.false_eq_true,if_false];exact wpAny_pure ⟨rfl,rfl,fun u hu'=>hall u (List.mem_cons_of_mem _ hu')⟩
 ·rintro⟨r1,r2⟩ s' ⟨hr,rfl,_⟩
  simp only at hr
  subst hr;exact wpAny_pure h
theorem zmy{ks:List (List K)}{a:Addr}{Q:Bool->Shared->Prop}(hk:zd0 knd s.heap ks a)(h:Q true s):wpAny (model prog w) A (eqIsQuiet 8 (.ref a)) Q E s:=by
 have hT:=hk.typeIs;obtain⟨o,items,n,ho,_,hd,hi⟩:=hk;unfold eqIsQuiet;refine wpAny_bind (wpAny_specialOf hT PySem.F.slot_tuple_eq.lookup ?_);show wpAny _ _ (isInstance (.ref a) (.type "tuple")>>=_) _ _ s;refine wpAny_bind (wpAny_isInstance hT isSubtype_tuple_tuple ?_);simp only[Bool.not_true,Bool.false_eq_true,if_false];refine wpAny_bind (wpAny_seqItems ho hd ?_);refine wpAny_bind ?_;show wpAny _ _ (forIn items _ _) _ _ s;rw[←Array.forIn_toList];refine wpAny_forIn_list _ (fun rest r s'=>r.1=none/\s'=s/\∃left,zdt knd s.heap left rest) _ ?_ ?_ _ _ ⟨rfl,rfl,ks,hi⟩
 ·rintro v rest r s' ⟨hr,rfl,left,hl⟩
  cases hl with
  |@cons k b ks' _ h1 hl'=>
   refine wpAny_bind (zml 6 h1 ?_);simp only[Bool.not_true,Bool.false_eq_true,if_false];exact wpAny_pure ⟨rfl,rfl,ks',hl'⟩
 ·rintro⟨r1,r2⟩ s' ⟨hr,rfl,_⟩
  simp only at hr
  subst hr;exact wpAny_pure h
end
def zdq{prog:Program}{w:World}{K:Type}[DecidableEq K](knd:KeyKind prog w K):HeapKind prog w (List (List K)) where
 is:=zd0 knd
 hash:=zhg knd
 draws:=fun ks=>zcu ks+1
 room:=fun A=>A.units+2<cLine
 inj:=fun hx hy=>hx.inj hy
 keeps:=fun x ho hd hs=>x.keeps ho hd hs
 pyHash:=fun hu hk h=>zk4 hu hk h
 eqBool:=fun hu hx hy h=>zkq hu hx hy h
 quiet:=fun hk h=>zmy hk h
theorem zfx{prog:Program}{w:World}{K:Type}[DecidableEq K]{knd:KeyKind prog w K}{A:Around}(hu:A.units+3<cLine):(zdq knd).room A.in1:=by
 show A.in1.units+2<cLine
 simp
 omega
abbrev K2:=List (List Key)
def NK(H:Hp)(b:Addr)(ks:K2):Prop:=∃cs:List Addr,H b=some (.tup (cs.map V.ref))/\Paired (fun(c:Addr)(k:List Key)=>H c=some (.tup (k.map kV))) cs ks
theorem NK.ts{H H':Hp}{b:Addr}{ks:K2}(h:NK H b ks)(g:∀b xs,H b=some (.tup xs)->H' b=some (.tup xs)):NK H' b ks:=by
 obtain⟨cs,h1,h2⟩:=h;exact⟨cs,g _ _ h1,Paired.mapP h2 fun _ _ z=>g _ _ z⟩
theorem NK.two{H:Hp}{b c d:Addr}{k l:List Key}(h:H b=some (.tup [.ref c,.ref d]))(h1:H c=some (.tup (k.map kV)))(h2:H d=some (.tup (l.map kV))):NK H b [k,l]:=⟨[c,d],h,.cons h1 (.cons h2 .nil)⟩
section
variable{P:Program}{w:World}{H:Hp}{h:Heap}{a b:Addr}
theorem zmx{cs:List Addr}{its:List Value}{ks:K2}(ok:HOk P w H h)(r:Vals (cs.map V.ref) its)(p:Paired (fun(c:Addr)(k:List Key)=>H c=some (.tup (k.map kV))) cs ks):zdt (zaa P w) h ks its:=by
 induction p generalizing its with
 |nil=>cases r;exact .nil
 |@cons c k cs ks h1 _ ih=>
  rw[List.map_cons] at r
  cases r with
  |cons r1 r2=>
   cases r1;exact .cons (ze0 ok h1) (ih r2)
theorem zfr{ks:K2}(ok:HOk P w H h)(e:NK H b ks):(zdq (zaa P w)).is h ks b:=by
 obtain⟨cs,e1,e2⟩:=e;obtain⟨_,its,r,o,h1,h2,n,h3⟩:=(show zct P w H h b (.tup (cs.map V.ref)) from ok b _ e1);exact⟨o,its.toArray,n,h1,h2,h3,by simpa using zmx ok r e2⟩
end
abbrev N3:=K2×Addr×V
def KNp:List N3->List (K2×Addr×Value)->Prop:=Paired fun p q=>p.1=q.1/\p.2.1=q.2.1/\RelV p.2.2 q.2.2
def nD(P:Program)(w:World)(a:Addr)(kvs:List N3):HO:=.ext fun h=>(a==sysModules)=false/\kvs.length<=sizeLine/\(kvs.map (·.1)).Nodup/\∃xs,KNp kvs xs/\∃o es ep,h.get? a=some o/\o.ExactDict/\o.data=.dict es ep/\es.toList=xs.map (entryOfKey (zdq (zaa P w)))
def KN(H:Hp)(kvs:List N3):Prop:=∀p,p∈kvs->NK H p.2.1 p.1
theorem KN.ts{H H':Hp}{kvs:List N3}(h:KN H kvs)(g:∀b xs,H b=some (.tup xs)->H' b=some (.tup xs)):KN H' kvs:=fun p hp=>(h p hp).ts g
def valN(kvs:List N3)(k:K2):Option V:=(kvs.find? fun kv=>decide (kv.1=k)).map (·.2.2)
def putN(kvs:List N3)(k:K2)(b:Addr)(v:V):List N3:=if(valN kvs k).isSome=true then kvs.map (fun kv=>if kv.1=k then(kv.1,kv.2.1,v) else kv) else kvs++[(k,b,v)]
theorem zm4{p:N3}{r:List N3}{k:K2}(e:p.1=k):valN (p::r) k=some p.2.2:=by simp[valN,List.find?_cons,e]
theorem zli{p:N3}{r:List N3}{k:K2}(e:¬p.1=k):valN (p::r) k=valN r k:=by simp[valN,List.find?_cons,e]
theorem zc4{kvs:List N3}{k:K2}:(valN kvs k).isSome=true↔k∈kvs.map (·.1):=by
 induction kvs with
 |nil=>simp[valN]
 |cons p r ih=>
  by_cases e:p.1=k
  ·rw[zm4 e];simp[e]
  ·rw[zli e,ih,List.map_cons,List.mem_cons];exact⟨.inr,fun h=>h.elim (fun z=>absurd z.symm e) id⟩
theorem zhr(kvs:List N3)(k:K2)(b:Addr)(v:V):(putN kvs k b v).length<=kvs.length+1:=by
 unfold putN
 split
 ·rw[List.length_map];omega
 ·simp
theorem zg3(kvs:List N3)(k:K2)(b:Addr)(v:V):(putN kvs k b v).map (·.1)=if(valN kvs k).isSome=true then kvs.map (·.1) else kvs.map (·.1)++[k]:=by
 unfold putN
 split
 ·rw[List.map_map];refine List.map_congr_left fun kv _=>?_;show(if kv.1=k then(kv.1,kv.2.1,v) else kv).1=kv.1
  split<;>rfl
 ·simp
theorem zgn{kvs:List N3}{k:K2}{b:Addr}{v:V}(h:(kvs.map (·.1)).Nodup):((putN kvs k b v).map (·.1)).Nodup:=by
 rw[zg3]
 split
 ·exact h
 ·rename_i n
  refine List.nodup_append.mpr ⟨h,List.pairwise_singleton _ _,fun x hx y hy e=>?_⟩;rw[List.mem_singleton.mp hy] at e;subst e;exact n (zc4.mpr hx)
theorem KN.put{H:Hp}{kvs:List N3}{k:K2}{b:Addr}{v:V}(h:KN H kvs)(hb:NK H b k):KN H (putN kvs k b v):=by
 unfold putN
 split
 ·intro p hp;obtain⟨q,hq,e⟩:=List.mem_map.mp hp;have:=h q hq;rw[←e]
  split
  ·exact this
  ·exact this
 ·intro p hp;rcases List.mem_append.mp hp with hp|hp
  ·exact h p hp
  ·rw[List.mem_singleton.mp hp];exact hb
theorem KNp.val{kvs:List N3}{xs:List (K2×Addr×Value)}(r:KNp kvs xs)(k:K2):RelO (valN kvs k) ((atKey xs k).map (·.2)):=by
 unfold KNp at r
 induction r with
 |nil=>exact True.intro
 |@cons p q ps qs h t ih=>
  obtain⟨h1,_,h2⟩:=h
  by_cases e:p.1=k
  ·have e':q.1=k:=h1.symm.trans e;have b:atKey (q::qs) k=some q.2:=by simp[atKey,List.find?_cons,e']
   rw[zm4 e,b];exact h2
  ·have e':¬q.1=k:=fun z=>e (h1.trans z);have b:atKey (q::qs) k=atKey qs k:=by simp[atKey,List.find?_cons,e']
   rw[zli e,b];exact ih
theorem KNp.put{kvs:List N3}{xs:List (K2×Addr×Value)}(r:KNp kvs xs)(k:K2){b:Addr}{y:V}{u:Value}(ry:RelV y u):KNp (putN kvs k b y) (storedH xs k b u):=by
 have e:(valN kvs k).isSome=(atKey xs k).isSome:=by rw[(r.val k).isSome_eq,Option.isSome_map]
 unfold putN storedH;rw[e]
 by_cases q:(atKey xs k).isSome=true
 ·rw[if_pos q,if_pos q];unfold KNp at*;clear e q
  induction r with
  |nil=>exact .nil
  |@cons p q ps qs h t ih=>
   rw[List.map_cons,List.map_cons];refine .cons ?_ ih;obtain⟨h1,h2,h3⟩:=h;unfold putAt
   by_cases e:p.1=k
   ·rw[if_pos e,if_pos (h1.symm.trans e)];exact⟨h1,h2,ry⟩
   ·rw[if_neg e,if_neg (fun z=>e (h1.trans z))];exact⟨h1,h2,h3⟩
 ·rw[if_neg q,if_neg q];exact Paired.snoc r ⟨rfl,rfl,ry⟩
theorem KNp.keys{kvs:List N3}{xs:List (K2×Addr×Value)}(r:KNp kvs xs):xs.map (·.1)=kvs.map (·.1)/\xs.map (fun q=>q.2.1)=kvs.map (fun p=>p.2.1):=by
 unfold KNp at r
 induction r with
 |nil=>exact⟨rfl,rfl⟩
 |cons h _ ih=>rw[List.map_cons,List.map_cons,List.map_cons,List.map_cons,ih.1,ih.2,h.1,h.2.1];exact⟨rfl,rfl⟩
section
variable{P:Program}{w:World}{H:Hp}{h:Heap}{a:Addr}{kvs:List N3}
theorem znf(ok:HOk P w H h)(e:Rd H a (nD P w a kvs))(kn:KN H kvs):kvs.length<=sizeLine/\(a==sysModules)=false/\∃xs,KNp kvs xs/\h.DictOfH (zdq (zaa P w)) a xs:=by
 obtain⟨⟨hd,z,nd,xs,r,o,es,ep,h1,h2,h3,h4⟩,_⟩:=(show zct P w H h a (nD P w a kvs) from e.ok ok);refine⟨z,hd,xs,r,o,es,ep,h1,h2,h3,h4,fun x hx=>?_,by rw[r.keys.1];exact nd⟩
 have all:∀{l:List N3}{m:List (K2×Addr×Value)},KNp l m->(∀p,p∈l->NK H p.2.1 p.1)->∀x∈m,(zdq (zaa P w)).is h x.1 x.2.1:=by
  intro l m q;unfold KNp at q
  induction q with
  |nil=>intro _ x hx;exact nomatch hx
  |@cons p q ps qs hq t ih=>
   intro hl x hx;rcases List.mem_cons.mp hx with e|hx
   ·subst e;rw[←hq.1,←hq.2.1];exact zfr ok (hl p (by simp))
   ·exact ih (fun p hp=>hl p (List.mem_cons_of_mem _ hp)) x hx
 exact all r kn x hx
theorem nd_ok{H':Hp}{h':Heap}{xs:List (K2×Addr×Value)}(z:kvs.length<=sizeLine)(hd:(a==sysModules)=false)(nd:(kvs.map (·.1)).Nodup)(r:KNp kvs xs)(dd:h'.DictOfH (zdq (zaa P w)) a xs):zct P w H' h' a (nD P w a kvs):=by
 obtain⟨o,es,ep,h1,h2,h3,h4,_⟩:=dd;refine⟨⟨hd,z,nd,xs,r,o,es,ep,h1,h2,h3,h4⟩,⟨o,h1⟩,?_⟩;rintro k1 k2 ⟨hd,z,nd,xs,r,o,es,ep,h1,h2,h3,h4⟩ k;exact⟨hd,z,nd,xs,r,o,es,ep,k _ h1,h2,h3,h4⟩
end
def zi0(P:Program)(w:World)(ty td:TE):TE:=fun σ H Q=>ty σ H fun y H1=>td σ H1 fun x H2=>∃a kvs b k,x=.ref a/\y=.ref b/\Rd H2 a (nD P w a kvs)/\KN H2 kvs/\NK H2 b k/\Q (.bl (!(valN kvs k).isSome)) H2
def sNPut(P:Program)(w:World)(td ty tv:TE):TS:=fun D σ H=>tv σ H fun v H1=>td σ H1 fun x H2=>ty σ H2 fun y H3=>∃a kvs b k,x=.ref a/\y=.ref b/\H3 a=some (nD P w a kvs)/\KN H3 kvs/\NK H3 b k/\kvs.length<sizeLine/\D.nx σ (upd H3 a (nD P w a (putN kvs k b v)))
def tNNew(P:Program)(w:World):TE:=fun _ H Q=>∀p,H p=none->Q (.ref p) (upd H p (nD P w p []))
section
variable{X:Cx}{P:Program}{w:World}{o i e value:Expr}{pos pos' tpos:Pos}{td ty tv:TE}
theorem zkc(hP:X.prog=P)(hw:X.w=w):PE X (.Dict [] [] pos) (tNNew P w):=fun pins s σ H Q I h=>by
 subst hP hw;exact wpAny_Dict_empty ⟨.ref s.heap.objs.size,_,I.laid (a:=s.heap.objs.size) (o:=nD X.prog X.w s.heap.objs.size []) (t':=s.toks) (fun _ _ q=>Heap.get?_push_of_some _ q) (Nat.le_refl _)
  (nd_ok (Nat.zero_le _) (beq_eq_false_iff_ne.mpr (Ne.symm (Nat.ne_of_lt I.big))) List.nodup_nil .nil (Heap.DictOfH.new s.heap)),rfl,h _ (I.hok.fresh (Nat.le_refl _))⟩
theorem zgf(hP:X.prog=P)(hw:X.w=w)(hu:X.A.units+64<cLine)(hi:PE X i ty)(ho:PE X o td):PC X .NotIn i o (zi0 P w ty td):=by
 subst hP hw;intro pins s σ H Q I h;refine thn (hi pins s σ H _ I h) fun iv s1⟨y,H1,I1,ry,q1⟩=>thn (ho pins s1 σ H1 _ I1 q1) fun u s2⟨x,H2,I2,rx,a,kvs,b,k,ex,ey,e,kn,nk,q2⟩=>?_;subst ex ey;obtain rfl:u=Value.ref a:=rx;obtain rfl:iv=Value.ref b:=ry;obtain⟨z,hd,xs,rel,dd⟩:=znf I2.hok e kn;refine wpAny_notIn_heap (zfx (by omega)) (zfr I2.hok nk) hd dd ?_
 have q:=(rel.val k).isSome_eq;rw[Option.isSome_map] at q;rw[←q];exact⟨.bl _,H2,I2.tok _,rfl,q2⟩
theorem zki(hP:X.prog=P)(hw:X.w=w)(hu:X.A.units+64<cLine)(ho:PE X o td)(hi:PE X i ty)(hv:PE X value tv)(hs:swapsWith value (some (.Subscript o i pos')) pos.line X.env=pure false):
  PS X (.Assign [.Subscript o i pos'] value pos) (sNPut P w td ty tv):=by
 subst hP hw;intro pins s σ H D I h;refine wpAny_Assign_Subscript (thn (hv pins s σ H _ I h) fun r s1⟨v,H1,I1,rv,q1⟩=>thn (ho pins s1 σ H1 _ I1 q1) fun u s2⟨x,H2,I2,rx,q2⟩=>thn (hi pins s2 σ H2 _ I2 q2) fun iv s3⟨y,H3,I3,ry,a,kvs,b,k,ex,ey,e,kn,nk,l,q3⟩=>?_) hs;subst ex ey;obtain rfl:u=Value.ref a:=rx;obtain rfl:iv=Value.ref b:=ry;obtain⟨z,hd,xs,rel,dd⟩:=znf I3.hok (.inl e) kn;have hz:xs.length<=sizeLine:=by rw[←Paired.length rel];exact z
 have hl:(putN kvs k b v).length<=sizeLine:=by have:=zhr kvs k b v;omega
 obtain⟨⟨_,_,nd,_⟩,_⟩:=I3.hok a _ e;refine wpAny_setItem_heap (hsz:=hz) (zfx (by omega)) (zfr I3.hok nk) dd fun h' dd' hs=>⟨σ,_,?_,q3⟩
 have he:∃q,h'.get? a=some q:=let⟨q,_,_,hq,_⟩:=dd';⟨q,hq⟩;exact zeo I3 (by rw[e];exact True.intro) hs he (nd_ok hl hd (zgn nd) (rel.put k rv) dd')
end
def Itf(d:Addr)(o:Obj)(u:HO)(bs:List Addr):It:=
 ⟨fun i H=>i<bs.length/\H d=some (.frz o u),fun i H x H'=>H'=H/\∃b,bs[i]?=some b/\x=.ref b,fun i H=>bs.length<=i/\H d=some (.frz o u)⟩
theorem zmg{P:Program}{w:World}{K:PySem.W.Frag}{tg:Expr}{d it:Addr}{o:Obj}{u:HO}{es:Array DictEntry}{ep:Nat}{bs:List Addr}(hd:o.data=.dict es ep)(hb:es.toList.map (·.key)=bs.map Value.ref):
  Turn P w K tg (Itf d o u bs) [it] it (fun i h=>h.IsKeyIter it d i es.size ep) where
 mem:=by simp
 obj:=fun i h st b z=>by
  rw[List.mem_singleton.mp z];obtain⟨u,e,_,c⟩:=st;exact⟨u,e,fun v y=>by rw[c] at y;cases y⟩
 keep:=fun i h h' st k=>by
  obtain⟨u,e,c⟩:=st;exact⟨u,k it (by simp) u e,c⟩
 item:=by
  intro X hP hw hK hc i pins s σ H E I hf st hg;subst hP hw hK;obtain⟨f0,f1,f2,f3,f4,f5⟩:=hf it (by simp)
  have lb:es.size=bs.length:=by
   have:=congrArg List.length hb
   simpa using this
  have hi:i<es.size:=by rw[lb];exact hg.1
  have od:=(I.hok d _ hg.2).1;refine zmp st od hd hi fun h' st' sb=>?_;have I1:Inv X pins σ H {s with heap:=h'}:=I.turned (t':=s.toks) (fun b o hb e=>(sb.2 b hb).trans e) f0 f1 f3 f4 f5;have hib:i<bs.length:=hg.1;have ek:es[i].key=.ref bs[i]:=by
   have z:=congrArg (fun l=>l[i]?) hb;simp only[List.getElem?_map,Array.getElem?_toList,Array.getElem?_eq_getElem hi,List.getElem?_eq_getElem hib,Option.map_some,Option.some.injEq] at z;exact z
  obtain⟨u,e,c,dd⟩:=id st';exact⟨_,rfl,go_of (s:={s with heap:=h'}) e c dd (by decide) ⟨.ref bs[i],H,I1,ek,⟨rfl,bs[i],List.getElem?_eq_getElem hib,rfl⟩,st',fun b z=>(hf b z).1⟩⟩
 done:=by
  intro X hP hw hK hc i pins s σ H E I hf st hg;subst hP hw hK;obtain⟨f0,f1,f2,f3,f4,f5⟩:=hf it (by simp)
  have lb:es.size=bs.length:=by
   have:=congrArg List.length hb
   simpa using this
  exact zog (I.ok.hd hc) st (I.hok d _ hg.2).1 hd (by rw[lb];exact hg.1) fun h' eb=>⟨rfl,I.turned (t':=s.toks) (fun b o z e=>eb b o z e) f0 f1 f3 f4 f5⟩
 self:=fun A i s Q E st h=>wpAny_pyIter_keyiter st h
section
variable{X:Cx}{tg:Expr}{pins:List (Addr×Obj)}{σ:St}{H:Hp}{s:Shared}{P:Program}{w:World}
theorem Inv.freezeN{d:Addr}{o:Obj}{kvs:List N3}(I:Inv X pins σ H s)(e:H d=some (nD P w d kvs))(ho:s.heap.get? d=some o):Inv X pins σ (upd H d (.frz o (nD P w d kvs))) s:=by
 have ne:∀b u,H b=some u->u≠nD P w d kvs->b≠d:=fun b u q n z=>by rw[z,e] at q;cases q;exact n rfl
 have J:=I.step (g':=s.gens) (d':=s.drawn) (t':=s.toks) (h':=s.heap) (H':=upd H d (.frz o (nD P w d kvs))) (ch:=[]) (fun _ z=>nomatch z) (fun b u _ _ _ q _=>q) (fun b u _ _ _ q _=>⟨u.slots,q⟩) (fun b u _ _ n=>by rw[za5 fun z=>by rw[z,e] at n;cases n];exact n)
  (fun b u _ q=>⟨u,q⟩) (fun b xs q=>by rw[za5 (ne b _ q fun z=>nomatch z)];exact q) (fun b u v q=>by rw[za5 (ne b _ q fun z=>nomatch z)];exact q) (fun b ps q=>⟨#[],by rw[za5 (ne b _ q fun z=>nomatch z),q];simp⟩) (fun m hm=>hm) (fun b u q=>?_) I.bare
 ·exact J
 ·by_cases z:b=d
  ·subst z;rw[upd_same] at q
   cases q;refine⟨ho,((I.hok b _ e).stay (fun c v _ r=>r) (fun c r=>?_) fun c xs r=>?_)⟩
   ·rw[za5 (ne c _ r fun z=>nomatch z)];exact r
   ·rw[za5 (ne c _ r fun z=>nomatch z)];exact r
  ·rw[za5 z] at q;refine(I.hok b u q).stay (fun c v _ r=>r) (fun c r=>?_) fun c xs r=>?_
   ·rw[za5 (ne c _ r fun z=>nomatch z)];exact r
   ·rw[za5 (ne c _ r fun z=>nomatch z)];exact r
def iDictN(P:Program)(w:World)(td:TE):TI:=fun σ H R=>td σ H fun x H1=>∃d kvs,x=.ref d/\H1 d=some (nD P w d kvs)/\∀o,R (Itf d o (nD P w d kvs) (kvs.map fun p=>p.2.1)) (upd H1 d (.frz o (nD P w d kvs)))
theorem pi_dictN{l:Expr}{tl:TE}(hP:X.prog=P)(hw:X.w=w)(hl:PE X l tl):PI X tg l (iDictN P w tl):=by
 subst hP hw;intro pins s σ H R I h;refine thn (hl pins s σ H _ I h) fun v s1⟨x,H1,I1,r1,q1⟩=>?_;obtain⟨d,kvs,rfl,e,q⟩:=q1
 cases r1;obtain⟨⟨hd,z,nd,xs,rel,o,es,ep,ho,hx,hdat,he⟩,_⟩:=I1.hok d _ e;have hk:es.toList.map (·.key)=(kvs.map fun p=>p.2.1).map Value.ref:=by
  rw[he,List.map_map,←rel.keys.2,List.map_map];rfl
 have F:=I1.freezeN e ho;have nw:∀b o',s1.heap.get? b=some o'->(s1.heap.push {cls:=.type "dict_keyiterator",data:=.fields #[.ref d,.int 0 0,.int es.size 0,.int ep 0]}).get? b=some o':=fun b o' e'=>Heap.get?_push_of_some _ e';refine zpy hd ho hx.1 hdat ⟨s1.heap.objs.size,[s1.heap.objs.size],_,Itf d o (nD X.prog X.w d kvs) (kvs.map fun p=>p.2.1),_,rfl,F.kept (t':=s1.toks) nw,zmg hdat hk,⟨_,Heap.get?_push_size _ rfl,rfl,rfl⟩,fun b hb=>?_,q o⟩;rw[List.mem_singleton.mp hb];exact F.fpOk (Nat.le_refl _) (F.hok.fresh (Nat.le_refl _))
end
theorem zm8{d D:Addr}{o:Obj}{u:HO}{bs:List Addr}{g:TG}{ti:TT}{te:TE}{σ':St}{H:Hp}{Q:VK}(Pv:Nat->List V->Hp->Prop)(h0:Pv 0 [] (upd H D (.lst [])))(hl:∀i ys H,Pv i ys H->H d=some (.frz o u))
  (hs:∀i ys H b,bs[i]?=some b->Pv i ys H->g (.ref b) σ' H fun σ4 H4=>ti σ4 H4 fun b H5=>if b=true then te σ4 H5 fun y H6=>CPut bs.length Pv D i y H6 else CSkip bs.length Pv i H5)
  (hd:∀ys H,Pv bs.length ys H->Q (.ref D) H):CompW (Itf d o u bs) D g ti te σ' H Q:=by
 refine zoo bs.length Pv h0 (fun i ys H hi p=>⟨hi,hl i ys H p⟩) (fun ys H p=>⟨Nat.le_refl _,hl _ ys H p⟩) (fun i ys H x H3 hi p y=>?_) hd;obtain⟨e,b,hb,ex⟩:=y;subst e ex;exact hs i ys _ b hb p
def gallop':Bool->Keyed->Array Keyed->Nat->Nat->Nat->StateT SortSt Sem (Option Nat):=sortPriv%PySem.Builtin.gallop
def mergeLo':Array Keyed->Array Keyed->StateT SortSt Sem (Array Keyed):=sortPriv%PySem.Builtin.mergeLo
def mergeHi':Array Keyed->Array Keyed->StateT SortSt Sem (Array Keyed):=sortPriv%PySem.Builtin.mergeHi
section
variable{prog:Program}{w:World}{A:Around}{E:Value->Shared->Prop}{s:Shared}{a₀:Array Keyed}{κ:SortKind}
def QL(prog:Program)(w:World)(A:Around)(E:Value->Shared->Prop)(s:Shared)(κ:SortKind)(a₀:Array Keyed):Prop:=
 ∀(x y:Keyed)(st:SortSt)(Q:Option Bool->SortSt->Prop),x∈a₀->y∈a₀->kindOf st=κ->(∀b,Q (some b) st)->wpS (model prog w) A E s (lt' x y) Q st
theorem zal{arr:Array Keyed}{i:Nat}{st:SortSt}{Q:Keyed->SortSt->Prop}(h:i<arr.size)(q:Q arr[i] st):wpS (model prog w) A E s (elem' arr i) Q st:=by
 rw[elem'_eq,Array.getElem?_eq_getElem h];exact wpS_pure q
theorem zax(hq:QL prog w A E s κ a₀){left:Bool}{key:Keyed}{arr:Array Keyed}{base n hint:Nat}{st:SortSt}{Q:Option Nat->SortSt->Prop}(hk:key∈a₀)(ha:∀x,x∈arr->x∈a₀)(hb:base+n<=arr.size)(hh:hint<n)(hκ:kindOf st=κ)(h:∀k,k<=n->Q (some k) st):
  wpS (model prog w) A E s (gallop' left key arr base n hint) Q st:=by
 have bey:∀(i:Nat)(Q:Option Bool->SortSt->Prop),i<n->(∀b,Q (some b) st)->wpS (model prog w) A E s ((do let x ←elem' arr (base+i);if left then lt' x key else return(←lt' key x).map (!·)):StateT SortSt Sem (Option Bool)) Q st:=by
  intro i Q hi hQ;refine wpS_bind (zal (by omega) ?_)
  have hx:arr[base+i]∈a₀:=ha _ (Array.getElem_mem _)
  cases left with
  |true=>exact hq _ _ _ _ hx hk hκ hQ
  |false=>exact wpS_bind (hq _ _ _ _ hk hx hκ fun b=>wpS_pure (hQ _))
 refine wpS_bind (bey hint _ hh fun right=>?_)
 cases right with
 |true=>
  show wpS _ _ _ _ (_>>=_) _ _
  refine wpS_bind (wpS_mono (wpS_forRange (I:=fun _(c:Option (Option Nat)×Nat×Nat) st'=>st=st'/\c.1=none) (Q:=fun c st'=>st=st'/\c.1=none) ?_ (fun _ _ z=>z) ⟨rfl,rfl⟩) ?_)
  ·rintro x ⟨r,lastofs,ofs⟩ st' _ _ ⟨rfl,e⟩;dsimp only at e⊢
   by_cases c:ofs≥n-hint
   ·rw[if_pos c];exact wpS_pure ⟨rfl,rfl⟩
   ·rw[if_neg c];refine wpS_bind (bey (hint+ofs) _ (by omega) fun b=>?_)
    cases b with
    |true=>exact wpS_pure ⟨rfl,rfl⟩
    |false=>exact wpS_pure ⟨rfl,rfl⟩
  ·rintro⟨r,lastofs,ofs⟩ st' ⟨rfl,e⟩;dsimp only at e⊢;subst e;show wpS _ _ _ _ (_>>=_) _ _;refine wpS_bind (wpS_mono (wpS_forRange (I:=fun _(c:Option (Option Nat)×Nat×Nat) st'=>st=st'/\c.1=none/\c.2.2<=n) (Q:=fun c st'=>st=st'/\c.1=none/\c.2.2<=n) ?_ (fun _ _ z=>z) ⟨rfl,rfl,(by show hint+min ofs (n-hint)<=n;omega)⟩) ?_)
   ·rintro x ⟨r,lo,hi⟩ st' _ _ ⟨rfl,e,hhi⟩;dsimp only at e hhi⊢
    by_cases c:lo≥hi
    ·rw[if_pos c];exact wpS_pure ⟨rfl,rfl,hhi⟩
    ·rw[if_neg c];refine wpS_bind (bey (lo+(hi-lo)/2) _ (by omega) fun b=>?_)
     cases b with
     |true=>exact wpS_pure ⟨rfl,rfl,hhi⟩
     |false=>exact wpS_pure ⟨rfl,rfl,(by show lo+(hi-lo)/2<=n;omega)⟩
   ·rintro⟨r,lo,hi⟩ st' ⟨rfl,e,hhi⟩;dsimp only at e hhi⊢;subst e;exact wpS_pure (h hi hhi)
 |false=>
  show wpS _ _ _ _ (_>>=_) _ _
  refine wpS_bind (wpS_mono (wpS_forRange (I:=fun _(c:Option (Option Nat)×Nat×Nat) st'=>st=st'/\c.1=none) (Q:=fun c st'=>st=st'/\c.1=none) ?_ (fun _ _ z=>z) ⟨rfl,rfl⟩) ?_)
  ·rintro x ⟨r,lastofs,ofs⟩ st' _ _ ⟨rfl,e⟩;dsimp only at e⊢
   by_cases c:ofs≥hint+1
   ·rw[if_pos c];exact wpS_pure ⟨rfl,rfl⟩
   ·rw[if_neg c];refine wpS_bind (bey (hint-ofs) _ (by omega) fun b=>?_)
    cases b with
    |true=>exact wpS_pure ⟨rfl,rfl⟩
    |false=>exact wpS_pure ⟨rfl,rfl⟩
  ·rintro⟨r,lastofs,ofs⟩ st' ⟨rfl,e⟩;dsimp only at e⊢;subst e;show wpS _ _ _ _ (_>>=_) _ _;refine wpS_bind (wpS_mono (wpS_forRange (I:=fun _(c:Option (Option Nat)×Nat×Nat) st'=>st=st'/\c.1=none/\c.2.2<=n) (Q:=fun c st'=>st=st'/\c.1=none/\c.2.2<=n) ?_ (fun _ _ z=>z) ⟨rfl,rfl,(by show hint-lastofs<=n;omega)⟩) ?_)
   ·rintro x ⟨r,lo,hi⟩ st' _ _ ⟨rfl,e,hhi⟩;dsimp only at e hhi⊢
    by_cases c:lo≥hi
    ·rw[if_pos c];exact wpS_pure ⟨rfl,rfl,hhi⟩
    ·rw[if_neg c];refine wpS_bind (bey (lo+(hi-lo)/2) _ (by omega) fun b=>?_)
     cases b with
     |true=>exact wpS_pure ⟨rfl,rfl,hhi⟩
     |false=>exact wpS_pure ⟨rfl,rfl,(by show lo+(hi-lo)/2<=n;omega)⟩
   ·rintro⟨r,lo,hi⟩ st' ⟨rfl,e,hhi⟩;dsimp only at e hhi⊢;subst e;exact wpS_pure (h hi hhi)
end
section
variable{prog:Program}{w:World}{A:Around}{E:Value->Shared->Prop}{s:Shared}{a₀:Array Keyed}{κ:SortKind}
def Prm(a b out:Array Keyed)(ia ib:Nat):Prop:=(out.toList++(a.toList.drop ia++b.toList.drop ib)).Perm (a.toList++b.toList)/\ia<=a.size/\ib<=b.size
theorem zcp(a:Array Keyed)(i j:Nat):(a.extract i j).toList=(a.toList.drop i).take (j-i):=by simp
theorem zhb(a:Array Keyed)(i:Nat):(a.extract i).toList=a.toList.drop i:=by
 rw[zcp];exact List.take_of_length_le (by rw[List.length_drop,Array.length_toList];omega)
theorem zo4(a:Array Keyed)(i k:Nat):(a.extract i (i+k)).toList=(a.toList.drop i).take k:=by rw[zcp,Nat.add_sub_cancel_left]
theorem zby{a b out:Array Keyed}{ia ib:Nat}(h:Prm a b out ia ib):(out++a.extract ia++b.extract ib).toList.Perm (a.toList++b.toList):=by
 rw[Array.toList_append,Array.toList_append,zhb,zhb,List.append_assoc];exact h.1
theorem zbx{a b out:Array Keyed}{ia ib:Nat}(h:Prm a b out ia ib):(out++b.extract ib++a.extract ia).toList.Perm (a.toList++b.toList):=by
 rw[Array.toList_append,Array.toList_append,zhb,zhb,List.append_assoc];exact(List.Perm.append_left _ List.perm_append_comm).trans h.1
theorem zoq{a b out:Array Keyed}{ia ib:Nat}(h:Prm a b out ia ib)(k:Nat)(hk:ib+k<=b.size):Prm a b (out++b.extract ib (ib+k)) ia (ib+k):=by
 refine⟨?_,h.2.1,hk⟩;rw[Array.toList_append,zo4,List.append_assoc];refine(List.Perm.append_left _ ?_).trans h.1;have e2:b.toList.drop ib=(b.toList.drop ib).take k++b.toList.drop (ib+k):=by rw[←List.drop_drop,List.take_append_drop]
 generalize b.toList.drop (ib+k)=t at*;generalize (b.toList.drop ib).take k=u at*;rw[e2,←List.append_assoc,←List.append_assoc];exact List.perm_append_comm.append_right _
theorem prm_a{a b out:Array Keyed}{ia ib:Nat}(h:Prm a b out ia ib)(k:Nat)(hk:ia+k<=a.size):Prm a b (out++a.extract ia (ia+k)) (ia+k) ib:=by
 refine⟨?_,hk,h.2.2⟩;rw[Array.toList_append,zo4,List.append_assoc,←List.append_assoc ((a.toList.drop ia).take k),←List.drop_drop,List.take_append_drop];exact h.1
theorem zho(out a:Array Keyed)(i:Nat)(h:i<a.size):out.push a[i]=out++a.extract i (i+1):=by
 apply Array.toList_inj.mp
 rw[Array.toList_append,zo4,Array.toList_push]
 congr 1
 have h':i<a.toList.length:=by simpa using h
 rw[List.drop_eq_getElem_cons h']
 simp
theorem zgz{a b out:Array Keyed}{ia ib:Nat}(h:Prm a b out ia ib)(hk:ib<b.size):Prm a b (out.push b[ib]) ia (ib+1):=by rw[zho];exact zoq h 1 hk
theorem zex{a b out:Array Keyed}{ia ib:Nat}(h:Prm a b out ia ib)(hk:ia<a.size):Prm a b (out.push a[ia]) (ia+1) ib:=by rw[zho];exact prm_a h 1 hk
theorem prm_0{a b:Array Keyed}(hb:0<b.size):Prm a b #[b[0]] 0 1:=by
 have h:Prm a b #[] 0 0:=⟨by simp,Nat.zero_le _,Nat.zero_le _⟩
 exact zgz h hb
abbrev gSt(st:SortSt)(g:Nat):SortSt:=SortSt.mk' (kindOf st) (arrOf st) (pendingOf st) g (failedOf st)
theorem lo_at(hq:QL prog w A E s κ a₀){a b:Array Keyed}{st:SortSt}{Q:Array Keyed->SortSt->Prop}(ha:∀x,x∈a->x∈a₀)(hb:∀x,x∈b->x∈a₀)(a1:0<a.size)(b1:0<b.size)(hκ:kindOf st=κ)
  (h:∀r g,r.toList.Perm (a.toList++b.toList)->Q r (gSt st g)):wpS (model prog w) A E s (mergeLo' a b) Q st:=by
 have ea:∀{i:Nat}(h:i<a.size),a[i]∈a₀:=fun h=>ha _ (Array.getElem_mem h);have eb:∀{i:Nat}(h:i<b.size),b[i]∈a₀:=fun h=>hb _ (Array.getElem_mem h);have est:gSt st (gallopOf st)=st:=rfl;refine wpS_bind (wpS_lift (wpAny_rule ⟨rfl,?_⟩));refine wpS_bind (zal b1 ?_);dsimp only
 by_cases c1:(1==b.size)=true
 ·rw[if_pos c1];exact wpS_pure (est▸h _ (gallopOf st) (zby (prm_0 b1)))
 rw[if_neg c1]
 by_cases c2:(0+1==a.size)=true
 ·rw[if_pos c2];exact wpS_pure (est▸h _ (gallopOf st) (zbx (prm_0 b1)))
 rw[if_neg c2];have c1':1≠b.size:=fun z=>c1 (by rw[←z];rfl)
 have c2':1≠a.size:=fun z=>c2 (by rw[←z];rfl)
 refine wpS_bind (wpS_get ?_);refine wpS_bind (wpS_mono (wpS_forRange
  (I:=fun x(c:Option (Array Keyed)×Array Keyed×Nat×Nat×Nat) st'=>(c.1=none/\Prm a b c.2.1 c.2.2.1 c.2.2.2.1/\c.2.2.1+1<a.size/\c.2.2.2.1<b.size/\x+1<=c.2.2.1+c.2.2.2.1)/\∃g,st'=gSt st g)
  (Q:=fun c st'=>∃r,c.1=some r/\r.toList.Perm (a.toList++b.toList)/\∃g,st'=gSt st g) ?_ ?_ ⟨⟨rfl,prm_0 b1,by show 0+1<_;omega,by show 1<_;omega,by show 0+1<=0+1;omega⟩,_,rfl⟩) ?_)
 ·rintro x ⟨r0,out,ia,ib,mg⟩ st' _ hx ⟨⟨e0,hp,hia,hib,hlo⟩,g,rfl⟩;dsimp only at e0 hp hia hib hlo⊢;refine wpS_bind (wpS_mono (wpS_forRange
   (I:=fun y(c:Option (Array Keyed)×Array Keyed×Nat×Nat×Nat×Nat) st'=>(c.1=none/\Prm a b c.2.1 c.2.2.1 c.2.2.2.1/\c.2.2.1+1<a.size/\c.2.2.2.1<b.size/\ia+ib+min y 1<=c.2.2.1+c.2.2.2.1)/\∃g,st'=gSt st g)
   (Q:=fun c st'=>((∃r,c.1=some r/\r.toList.Perm (a.toList++b.toList))∨(c.1=none/\Prm a b c.2.1 c.2.2.1 c.2.2.2.1/\c.2.2.1+1<a.size/\c.2.2.2.1<b.size/\ia+ib+1<=c.2.2.1+c.2.2.2.1))/\∃g,st'=gSt st g) ?_ ?_ ⟨⟨rfl,hp,hia,hib,by show ia+ib+min 0 1<=ia+ib;omega⟩,_,rfl⟩) ?_)
  ·rintro y ⟨r1,out,ja,jb,ac,bc⟩ st' _ hy ⟨⟨e1,hp,hja,hjb,hl1⟩,g,rfl⟩;dsimp only at e1 hp hja hjb hl1⊢;refine wpS_bind (zal hjb (wpS_bind (zal (show ja<a.size by omega) (wpS_bind (hq _ _ _ _ (eb hjb) (ea (by omega)) hκ fun bw=>?_)))))
   cases bw with
   |true=>
    refine wpS_bind (zal hjb ?_)
    try dsimp only
    have hp1:=zgz hp hjb
    by_cases d:(jb+1==b.size)=true
    ·rw[if_pos d];exact wpS_pure ⟨.inl ⟨_,rfl,zby hp1⟩,_,rfl⟩
    rw[if_neg d];have d':jb+1≠b.size:=fun z=>d (by rw[z];exact beq_self_eq_true _)
    by_cases f:bc+1≥mg
    ·rw[if_pos f];exact wpS_pure ⟨.inr ⟨rfl,hp1,hja,(by show jb+1<b.size;omega),(by show ia+ib+1<=ja+(jb+1);omega)⟩,_,rfl⟩
    ·rw[if_neg f];exact wpS_pure ⟨⟨rfl,hp1,hja,(by show jb+1<b.size;omega),(by show ia+ib+min (y+1) 1<=ja+(jb+1);omega)⟩,_,rfl⟩
   |false=>
    refine wpS_bind (zal (show ja<a.size by omega) ?_)
    try dsimp only
    have hp1:=zex hp (show ja<a.size by omega)
    by_cases d:(ja+1+1==a.size)=true
    ·rw[if_pos d];exact wpS_pure ⟨.inl ⟨_,rfl,zbx hp1⟩,_,rfl⟩
    rw[if_neg d];have d':ja+1+1≠a.size:=fun z=>d (by rw[z];exact beq_self_eq_true _)
    by_cases f:ac+1≥mg
    ·rw[if_pos f];exact wpS_pure ⟨.inr ⟨rfl,hp1,(by show ja+1+1<a.size;omega),hjb,(by show ia+ib+1<=ja+1+jb;omega)⟩,_,rfl⟩
    ·rw[if_neg f];exact wpS_pure ⟨⟨rfl,hp1,(by show ja+1+1<a.size;omega),hjb,(by show ia+ib+min (y+1) 1<=ja+1+jb;omega)⟩,_,rfl⟩
  ·rintro c st' ⟨⟨e1,hp,hja,hjb,hl1⟩,g⟩;exact⟨.inr ⟨e1,hp,hja,hjb,by omega⟩,g⟩
  ·rintro⟨r1,out,ja,jb,ac,bc⟩ st' ⟨hc,g,rfl⟩;dsimp only at hc⊢;rcases hc with⟨r,rfl,hr⟩|⟨rfl,hp,hja,hjb,hl1⟩
   ·exact wpS_pure ⟨r,rfl,hr,_,rfl⟩
   dsimp only;refine wpS_bind (wpS_lift (wpAny_rule ⟨rfl,?_⟩));refine wpS_bind (wpS_mono (wpS_forRange
    (I:=fun y(c:Option (Array Keyed)×Array Keyed×Nat×Nat×Nat×Nat×Nat) st'=>(c.1=none/\Prm a b c.2.1 c.2.2.1 c.2.2.2.1/\c.2.2.1+1<a.size/\c.2.2.2.1<b.size/\ia+ib+1<=c.2.2.1+c.2.2.2.1)/\∃g,st'=gSt st g)
    (Q:=fun c st'=>((∃r,c.1=some r/\r.toList.Perm (a.toList++b.toList))∨(c.1=none/\Prm a b c.2.1 c.2.2.1 c.2.2.2.1/\c.2.2.1+1<a.size/\c.2.2.2.1<b.size/\ia+ib+1<=c.2.2.1+c.2.2.2.1))/\∃g,st'=gSt st g) ?_ (fun c st' z=>⟨.inr z.1,z.2⟩) ⟨⟨rfl,hp,hja,hjb,hl1⟩,_,rfl⟩) ?_)
   ·rintro y ⟨r2,out,ka,kb,mg2,ac2,bc2⟩ st' _ hy ⟨⟨e2,hp,hka,hkb,hl2⟩,g,rfl⟩;dsimp only at e2 hp hka hkb hl2⊢
    by_cases mm:mg2>1
    ·rw[if_pos mm];refine wpS_bind (wpS_modify ?_);refine wpS_bind (zal hkb ?_);refine wpS_bind (zax hq (eb hkb) ha (by omega) (by omega) hκ fun k hk=>?_)
     try dsimp only
     by_cases k0:k>0
     ·rw[if_pos k0];have hp1:=prm_a hp k (by omega)
      by_cases d1:(ka+k+1==a.size)=true
      ·rw[if_pos d1];exact wpS_pure ⟨.inl ⟨_,rfl,zbx hp1⟩,_,rfl⟩
      rw[if_neg d1];have d1':ka+k+1≠a.size:=fun z=>d1 (by rw[z];exact beq_self_eq_true _)
      by_cases d2:(ka+k==a.size)=true
      ·rw[if_pos d2];exact wpS_pure ⟨.inl ⟨_,rfl,zby hp1⟩,_,rfl⟩
      rw[if_neg d2];have d2':ka+k≠a.size:=fun z=>d2 (by rw[z];exact beq_self_eq_true _)
      refine wpS_bind (zal hkb ?_)
      try dsimp only
      have hp2:=zgz hp1 hkb
      by_cases d3:(kb+1==b.size)=true
      ·rw[if_pos d3];exact wpS_pure ⟨.inl ⟨_,rfl,zby hp2⟩,_,rfl⟩
      rw[if_neg d3];have d3':kb+1≠b.size:=fun z=>d3 (by rw[z];exact beq_self_eq_true _)
      refine wpS_bind (zal (show ka+k<a.size by omega) ?_)
      refine wpS_bind (zax hq (ea (by omega)) hb (by omega) (by omega) hκ fun k2 hk2=>?_)
      try dsimp only
      by_cases k20:k2>0
      ·rw[if_pos k20];have hp3:=zoq hp2 k2 (by omega)
       by_cases d4:(kb+1+k2==b.size)=true
       ·rw[if_pos d4];exact wpS_pure ⟨.inl ⟨_,rfl,zby hp3⟩,_,rfl⟩
       rw[if_neg d4];have d4':kb+1+k2≠b.size:=fun z=>d4 (by rw[z];exact beq_self_eq_true _)
       refine wpS_bind (zal (show ka+k<a.size by omega) ?_)
       try dsimp only
       have hp4:=zex hp3 (show ka+k<a.size by omega)
       by_cases d5:(ka+k+1+1==a.size)=true
       ·rw[if_pos d5];exact wpS_pure ⟨.inl ⟨_,rfl,zbx hp4⟩,_,rfl⟩
       rw[if_neg d5];have d5':ka+k+1+1≠a.size:=fun z=>d5 (by rw[z];exact beq_self_eq_true _)
       by_cases d6:(decide (k<7)&&decide (k2<7))=true
       ·rw[if_pos d6];exact wpS_pure ⟨.inr ⟨rfl,hp4,(by show ka+k+1+1<a.size;omega),(by show kb+1+k2<b.size;omega),(by show ia+ib+1<=ka+k+1+(kb+1+k2);omega)⟩,_,rfl⟩
       ·rw[if_neg d6];exact wpS_pure ⟨⟨rfl,hp4,(by show ka+k+1+1<a.size;omega),(by show kb+1+k2<b.size;omega),(by show ia+ib+1<=ka+k+1+(kb+1+k2);omega)⟩,_,rfl⟩
      ·rw[if_neg k20];refine wpS_bind (zal (show ka+k<a.size by omega) ?_)
       try dsimp only
       have hp4:=zex hp2 (show ka+k<a.size by omega)
       by_cases d5:(ka+k+1+1==a.size)=true
       ·rw[if_pos d5];exact wpS_pure ⟨.inl ⟨_,rfl,zbx hp4⟩,_,rfl⟩
       rw[if_neg d5];have d5':ka+k+1+1≠a.size:=fun z=>d5 (by rw[z];exact beq_self_eq_true _)
       by_cases d6:(decide (k<7)&&decide (k2<7))=true
       ·rw[if_pos d6];exact wpS_pure ⟨.inr ⟨rfl,hp4,(by show ka+k+1+1<a.size;omega),(by show kb+1<b.size;omega),(by show ia+ib+1<=ka+k+1+(kb+1);omega)⟩,_,rfl⟩
       ·rw[if_neg d6];exact wpS_pure ⟨⟨rfl,hp4,(by show ka+k+1+1<a.size;omega),(by show kb+1<b.size;omega),(by show ia+ib+1<=ka+k+1+(kb+1);omega)⟩,_,rfl⟩
     ·rw[if_neg k0];refine wpS_bind (zal hkb ?_)
      try dsimp only
      have hp2:=zgz hp hkb
      by_cases d3:(kb+1==b.size)=true
      ·rw[if_pos d3];exact wpS_pure ⟨.inl ⟨_,rfl,zby hp2⟩,_,rfl⟩
      rw[if_neg d3];have d3':kb+1≠b.size:=fun z=>d3 (by rw[z];exact beq_self_eq_true _)
      refine wpS_bind (zal (show ka<a.size by omega) ?_)
      refine wpS_bind (zax hq (ea (by omega)) hb (by omega) (by omega) hκ fun k2 hk2=>?_)
      try dsimp only
      by_cases k20:k2>0
      ·rw[if_pos k20];have hp3:=zoq hp2 k2 (by omega)
       by_cases d4:(kb+1+k2==b.size)=true
       ·rw[if_pos d4];exact wpS_pure ⟨.inl ⟨_,rfl,zby hp3⟩,_,rfl⟩
       rw[if_neg d4];have d4':kb+1+k2≠b.size:=fun z=>d4 (by rw[z];exact beq_self_eq_true _)
       refine wpS_bind (zal (show ka<a.size by omega) ?_)
       try dsimp only
       have hp4:=zex hp3 (show ka<a.size by omega)
       by_cases d5:(ka+1+1==a.size)=true
       ·rw[if_pos d5];exact wpS_pure ⟨.inl ⟨_,rfl,zbx hp4⟩,_,rfl⟩
       rw[if_neg d5];have d5':ka+1+1≠a.size:=fun z=>d5 (by rw[z];exact beq_self_eq_true _)
       by_cases d6:(decide (k<7)&&decide (k2<7))=true
       ·rw[if_pos d6];exact wpS_pure ⟨.inr ⟨rfl,hp4,(by show ka+1+1<a.size;omega),(by show kb+1+k2<b.size;omega),(by show ia+ib+1<=ka+1+(kb+1+k2);omega)⟩,_,rfl⟩
       ·rw[if_neg d6];exact wpS_pure ⟨⟨rfl,hp4,(by show ka+1+1<a.size;omega),(by show kb+1+k2<b.size;omega),(by show ia+ib+1<=ka+1+(kb+1+k2);omega)⟩,_,rfl⟩
      ·rw[if_neg k20];refine wpS_bind (zal (show ka<a.size by omega) ?_)
       try dsimp only
       have hp4:=zex hp2 (show ka<a.size by omega)
       by_cases d5:(ka+1+1==a.size)=true
       ·rw[if_pos d5];exact wpS_pure ⟨.inl ⟨_,rfl,zbx hp4⟩,_,rfl⟩
       rw[if_neg d5];have d5':ka+1+1≠a.size:=fun z=>d5 (by rw[z];exact beq_self_eq_true _)
       by_cases d6:(decide (k<7)&&decide (k2<7))=true
       ·rw[if_pos d6];exact wpS_pure ⟨.inr ⟨rfl,hp4,(by show ka+1+1<a.size;omega),(by show kb+1<b.size;omega),(by show ia+ib+1<=ka+1+(kb+1);omega)⟩,_,rfl⟩
       ·rw[if_neg d6];exact wpS_pure ⟨⟨rfl,hp4,(by show ka+1+1<a.size;omega),(by show kb+1<b.size;omega),(by show ia+ib+1<=ka+1+(kb+1);omega)⟩,_,rfl⟩
    ·rw[if_neg mm];refine wpS_bind (wpS_modify ?_);refine wpS_bind (zal hkb ?_);refine wpS_bind (zax hq (eb hkb) ha (by omega) (by omega) hκ fun k hk=>?_)
     try dsimp only
     by_cases k0:k>0
     ·rw[if_pos k0];have hp1:=prm_a hp k (by omega)
      by_cases d1:(ka+k+1==a.size)=true
      ·rw[if_pos d1];exact wpS_pure ⟨.inl ⟨_,rfl,zbx hp1⟩,_,rfl⟩
      rw[if_neg d1];have d1':ka+k+1≠a.size:=fun z=>d1 (by rw[z];exact beq_self_eq_true _)
      by_cases d2:(ka+k==a.size)=true
      ·rw[if_pos d2];exact wpS_pure ⟨.inl ⟨_,rfl,zby hp1⟩,_,rfl⟩
      rw[if_neg d2];have d2':ka+k≠a.size:=fun z=>d2 (by rw[z];exact beq_self_eq_true _)
      refine wpS_bind (zal hkb ?_)
      try dsimp only
      have hp2:=zgz hp1 hkb
      by_cases d3:(kb+1==b.size)=true
      ·rw[if_pos d3];exact wpS_pure ⟨.inl ⟨_,rfl,zby hp2⟩,_,rfl⟩
      rw[if_neg d3];have d3':kb+1≠b.size:=fun z=>d3 (by rw[z];exact beq_self_eq_true _)
      refine wpS_bind (zal (show ka+k<a.size by omega) ?_)
      refine wpS_bind (zax hq (ea (by omega)) hb (by omega) (by omega) hκ fun k2 hk2=>?_)
      try dsimp only
      by_cases k20:k2>0
      ·rw[if_pos k20];have hp3:=zoq hp2 k2 (by omega)
       by_cases d4:(kb+1+k2==b.size)=true
       ·rw[if_pos d4];exact wpS_pure ⟨.inl ⟨_,rfl,zby hp3⟩,_,rfl⟩
       rw[if_neg d4];have d4':kb+1+k2≠b.size:=fun z=>d4 (by rw[z];exact beq_self_eq_true _)
       refine wpS_bind (zal (show ka+k<a.size by omega) ?_)
       try dsimp only
       have hp4:=zex hp3 (show ka+k<a.size by omega)
       by_cases d5:(ka+k+1+1==a.size)=true
       ·rw[if_pos d5];exact wpS_pure ⟨.inl ⟨_,rfl,zbx hp4⟩,_,rfl⟩
       rw[if_neg d5];have d5':ka+k+1+1≠a.size:=fun z=>d5 (by rw[z];exact beq_self_eq_true _)
       by_cases d6:(decide (k<7)&&decide (k2<7))=true
       ·rw[if_pos d6];exact wpS_pure ⟨.inr ⟨rfl,hp4,(by show ka+k+1+1<a.size;omega),(by show kb+1+k2<b.size;omega),(by show ia+ib+1<=ka+k+1+(kb+1+k2);omega)⟩,_,rfl⟩
       ·rw[if_neg d6];exact wpS_pure ⟨⟨rfl,hp4,(by show ka+k+1+1<a.size;omega),(by show kb+1+k2<b.size;omega),(by show ia+ib+1<=ka+k+1+(kb+1+k2);omega)⟩,_,rfl⟩
      ·rw[if_neg k20];refine wpS_bind (zal (show ka+k<a.size by omega) ?_)
       try dsimp only
       have hp4:=zex hp2 (show ka+k<a.size by omega)
       by_cases d5:(ka+k+1+1==a.size)=true
       ·rw[if_pos d5];exact wpS_pure ⟨.inl ⟨_,rfl,zbx hp4⟩,_,rfl⟩
       rw[if_neg d5];have d5':ka+k+1+1≠a.size:=fun z=>d5 (by rw[z];exact beq_self_eq_true _)
       by_cases d6:(decide (k<7)&&decide (k2<7))=true
       ·rw[if_pos d6];exact wpS_pure ⟨.inr ⟨rfl,hp4,(by show ka+k+1+1<a.size;omega),(by show kb+1<b.size;omega),(by show ia+ib+1<=ka+k+1+(kb+1);omega)⟩,_,rfl⟩
       ·rw[if_neg d6];exact wpS_pure ⟨⟨rfl,hp4,(by show ka+k+1+1<a.size;omega),(by show kb+1<b.size;omega),(by show ia+ib+1<=ka+k+1+(kb+1);omega)⟩,_,rfl⟩
     ·rw[if_neg k0];refine wpS_bind (zal hkb ?_)
      try dsimp only
      have hp2:=zgz hp hkb
      by_cases d3:(kb+1==b.size)=true
      ·rw[if_pos d3];exact wpS_pure ⟨.inl ⟨_,rfl,zby hp2⟩,_,rfl⟩
      rw[if_neg d3];have d3':kb+1≠b.size:=fun z=>d3 (by rw[z];exact beq_self_eq_true _)
      refine wpS_bind (zal (show ka<a.size by omega) ?_)
      refine wpS_bind (zax hq (ea (by omega)) hb (by omega) (by omega) hκ fun k2 hk2=>?_)
      try dsimp only
      by_cases k20:k2>0
      ·rw[if_pos k20];have hp3:=zoq hp2 k2 (by omega)
       by_cases d4:(kb+1+k2==b.size)=true
       ·rw[if_pos d4];exact wpS_pure ⟨.inl ⟨_,rfl,zby hp3⟩,_,rfl⟩
       rw[if_neg d4];have d4':kb+1+k2≠b.size:=fun z=>d4 (by rw[z];exact beq_self_eq_true _)
       refine wpS_bind (zal (show ka<a.size by omega) ?_)
       try dsimp only
       have hp4:=zex hp3 (show ka<a.size by omega)
       by_cases d5:(ka+1+1==a.size)=true
       ·rw[if_pos d5];exact wpS_pure ⟨.inl ⟨_,rfl,zbx hp4⟩,_,rfl⟩
       rw[if_neg d5];have d5':ka+1+1≠a.size:=fun z=>d5 (by rw[z];exact beq_self_eq_true _)
       by_cases d6:(decide (k<7)&&decide (k2<7))=true
       ·rw[if_pos d6];exact wpS_pure ⟨.inr ⟨rfl,hp4,(by show ka+1+1<a.size;omega),(by show kb+1+k2<b.size;omega),(by show ia+ib+1<=ka+1+(kb+1+k2);omega)⟩,_,rfl⟩
       ·rw[if_neg d6];exact wpS_pure ⟨⟨rfl,hp4,(by show ka+1+1<a.size;omega),(by show kb+1+k2<b.size;omega),(by show ia+ib+1<=ka+1+(kb+1+k2);omega)⟩,_,rfl⟩
      ·rw[if_neg k20];refine wpS_bind (zal (show ka<a.size by omega) ?_)
       try dsimp only
       have hp4:=zex hp2 (show ka<a.size by omega)
       by_cases d5:(ka+1+1==a.size)=true
       ·rw[if_pos d5];exact wpS_pure ⟨.inl ⟨_,rfl,zbx hp4⟩,_,rfl⟩
       rw[if_neg d5];have d5':ka+1+1≠a.size:=fun z=>d5 (by rw[z];exact beq_self_eq_true _)
       by_cases d6:(decide (k<7)&&decide (k2<7))=true
       ·rw[if_pos d6];exact wpS_pure ⟨.inr ⟨rfl,hp4,(by show ka+1+1<a.size;omega),(by show kb+1<b.size;omega),(by show ia+ib+1<=ka+1+(kb+1);omega)⟩,_,rfl⟩
       ·rw[if_neg d6];exact wpS_pure ⟨⟨rfl,hp4,(by show ka+1+1<a.size;omega),(by show kb+1<b.size;omega),(by show ia+ib+1<=ka+1+(kb+1);omega)⟩,_,rfl⟩
   ·rintro⟨r2,out,ka,kb,mg2,ac2,bc2⟩ st' ⟨hc,g,rfl⟩;dsimp only at hc⊢;rcases hc with⟨r,rfl,hr⟩|⟨rfl,hp,hka,hkb,hl2⟩
    ·exact wpS_pure ⟨r,rfl,hr,_,rfl⟩
    dsimp only;refine wpS_bind (wpS_modify (wpS_pure ⟨⟨rfl,hp,hka,hkb,(by show x+1+1<=ka+kb;omega)⟩,_,rfl⟩))
 ·rintro c st' ⟨⟨e0,hp,hia,hib,hlo⟩,_⟩
  exfalso
  omega
 ·rintro⟨r0,out,ia,ib,mg⟩ st' ⟨r,e,hr,g,rfl⟩;dsimp only at e⊢;subst e;exact wpS_pure (h r g hr)
end
section
variable{prog:Program}{w:World}{A:Around}{E:Value->Shared->Prop}{s:Shared}{a₀:Array Keyed}{κ:SortKind}
def PrmH(a b out:Array Keyed)(na nb:Nat):Prop:=((a.toList.take na++b.toList.take nb)++out.toList).Perm (a.toList++b.toList)/\na<=a.size/\nb<=b.size
theorem ext_0(a:Array Keyed)(n:Nat):(a.extract 0 n).toList=a.toList.take n:=by rw[zcp,List.drop_zero,Nat.sub_zero]
theorem zam{a b out:Array Keyed}{na nb:Nat}(h:PrmH a b out na nb):(a.extract 0 na++b.extract 0 nb++out.reverse).toList.Perm (a.toList++b.toList):=by
 rw[Array.toList_append,Array.toList_append,ext_0,ext_0,Array.toList_reverse];exact(List.Perm.append_left _ (List.reverse_perm _)).trans h.1
theorem zbi{a b out:Array Keyed}{na nb:Nat}(h:PrmH a b out na nb):(b.extract 0 nb++a.extract 0 na++out.reverse).toList.Perm (a.toList++b.toList):=by
 rw[Array.toList_append,Array.toList_append,ext_0,ext_0,Array.toList_reverse];exact(List.Perm.append List.perm_append_comm (List.reverse_perm _)).trans h.1
theorem zm5{l:List Keyed}{k n:Nat}(h:k<=n):l.take n=l.take k++(l.drop k).take (n-k):=by
 rw[←List.take_append_drop k (l.take n),List.take_take,Nat.min_eq_left h,List.drop_take]
theorem zor{a b out:Array Keyed}{na nb:Nat}(h:PrmH a b out na nb)(k:Nat)(hk:k<=na):PrmH a b (out++(a.extract k na).reverse) k nb:=by
 refine⟨?_,Nat.le_trans hk h.2.1,h.2.2⟩;refine List.Perm.trans ?_ h.1;rw[Array.toList_append,Array.toList_reverse,zcp,zm5 hk];generalize a.toList.take k=x;generalize (a.toList.drop k).take (na-k)=y;generalize b.toList.take nb=z;generalize out.toList=o;have:(o++y.reverse).Perm (y++o):=(List.Perm.append_left _ (List.reverse_perm _)).trans List.perm_append_comm;refine(List.Perm.append_left _ this).trans ?_;rw[List.append_assoc,List.append_assoc,List.append_assoc];refine List.Perm.append_left _ ?_;rw[←List.append_assoc,←List.append_assoc];exact List.Perm.append_right _ List.perm_append_comm
theorem zio{a b out:Array Keyed}{na nb:Nat}(h:PrmH a b out na nb)(k:Nat)(hk:k<=nb):PrmH a b (out++(b.extract k nb).reverse) na k:=by
 refine⟨?_,h.2.1,Nat.le_trans hk h.2.2⟩;refine List.Perm.trans ?_ h.1;rw[Array.toList_append,Array.toList_reverse,zcp,zm5 hk];generalize b.toList.take k=x;generalize (b.toList.drop k).take (nb-k)=y;generalize a.toList.take na=z;generalize out.toList=o;have:(o++y.reverse).Perm (y++o):=(List.Perm.append_left _ (List.reverse_perm _)).trans List.perm_append_comm;refine(List.Perm.append_left _ this).trans ?_;rw[List.append_assoc,List.append_assoc,List.append_assoc]
theorem zl7(out a:Array Keyed)(n:Nat)(h0:0<n)(h:n-1<a.size):out.push a[n-1]=out++(a.extract (n-1) n).reverse:=by
 obtain⟨m,rfl⟩:∃m,n=m+1:=⟨n-1,by omega⟩
 have e:=zho out a m h;simp only[Nat.add_sub_cancel] at*;rw[e]
 congr 1
 apply Array.toList_inj.mp
 have h':m<a.toList.length:=by simpa using h
 rw[Array.toList_reverse,zo4,List.drop_eq_getElem_cons h']
 simp
theorem zdd{a b out:Array Keyed}{na nb:Nat}(h:PrmH a b out na nb)(h0:0<na):PrmH a b (out.push (a[na-1]'(by have:=h.2.1;omega))) (na-1) nb:=by rw[zl7 _ _ _ h0];exact zor h (na-1) (by omega)
theorem zg9{a b out:Array Keyed}{na nb:Nat}(h:PrmH a b out na nb)(h0:0<nb):PrmH a b (out.push (b[nb-1]'(by have:=h.2.2;omega))) na (nb-1):=by rw[zl7 _ _ _ h0];exact zio h (nb-1) (by omega)
theorem zp4{a b:Array Keyed}(ha:0<a.size):PrmH a b #[a[a.size-1]] (a.size-1) b.size:=by
 have h:PrmH a b #[] a.size b.size:=⟨by rw[List.take_of_length_le (by simp),List.take_of_length_le (by simp)];simp,Nat.le_refl _,Nat.le_refl _⟩
 exact zdd h ha
theorem hi_at(hq:QL prog w A E s κ a₀){a b:Array Keyed}{st:SortSt}{Q:Array Keyed->SortSt->Prop}(ha:∀x,x∈a->x∈a₀)(hb:∀x,x∈b->x∈a₀)(a1:0<a.size)(b1:0<b.size)(hκ:kindOf st=κ)
  (h:∀r g,r.toList.Perm (a.toList++b.toList)->Q r (gSt st g)):wpS (model prog w) A E s (mergeHi' a b) Q st:=by
 have ea:∀{i:Nat}(h:i<a.size),a[i]∈a₀:=fun h=>ha _ (Array.getElem_mem h);have eb:∀{i:Nat}(h:i<b.size),b[i]∈a₀:=fun h=>hb _ (Array.getElem_mem h);have est:gSt st (gallopOf st)=st:=rfl;refine wpS_bind (wpS_lift (wpAny_rule ⟨rfl,?_⟩));refine wpS_bind (zal (show a.size-1<a.size by omega) ?_)
 try dsimp only
 by_cases c1:(a.size-1==0)=true
 ·rw[if_pos c1];exact wpS_pure (est▸h _ (gallopOf st) (zam (zp4 a1)))
 rw[if_neg c1]
 by_cases c2:(b.size==1)=true
 ·rw[if_pos c2];exact wpS_pure (est▸h _ (gallopOf st) (zbi (zp4 a1)))
 rw[if_neg c2];have c1':a.size-1≠0:=fun z=>c1 (by rw[z];rfl)
 have c2':b.size≠1:=fun z=>c2 (by rw[z];rfl)
 refine wpS_bind (wpS_get ?_);refine wpS_bind (wpS_mono (wpS_forRange
  (I:=fun x(c:Option (Array Keyed)×Nat×Nat×Array Keyed×Nat) st'=>((c.1=none/\PrmH a b c.2.2.2.1 c.2.1 c.2.2.1/\0<c.2.1/\1<c.2.2.1)/\c.2.1+c.2.2.1+x+1<=a.size+b.size)/\∃g,st'=gSt st g)
  (Q:=fun c st'=>∃r,c.1=some r/\r.toList.Perm (a.toList++b.toList)/\∃g,st'=gSt st g) ?_ ?_ ⟨⟨⟨rfl,zp4 a1,by show 0<a.size-1;omega,by show 1<b.size;omega⟩,by show a.size-1+b.size+0+1<=_;omega⟩,_,rfl⟩) ?_)
 ·rintro x ⟨r0,na,nb,out,mg⟩ st' _ hx ⟨⟨⟨e0,hp,hna,hnb⟩,hlo⟩,g,rfl⟩;dsimp only at e0 hp hna hnb hlo⊢;have lna:=hp.2.1;have lnb:=hp.2.2;refine wpS_bind (wpS_mono (wpS_forRange
   (I:=fun y(c:Option (Array Keyed)×Nat×Nat×Array Keyed×Nat×Nat) st'=>((c.1=none/\PrmH a b c.2.2.2.1 c.2.1 c.2.2.1/\0<c.2.1/\1<c.2.2.1)/\c.2.1+c.2.2.1+min y 1<=na+nb)/\∃g,st'=gSt st g)
   (Q:=fun c st'=>((∃r,c.1=some r/\r.toList.Perm (a.toList++b.toList))∨((c.1=none/\PrmH a b c.2.2.2.1 c.2.1 c.2.2.1/\0<c.2.1/\1<c.2.2.1)/\c.2.1+c.2.2.1+1<=na+nb))/\∃g,st'=gSt st g) ?_ ?_ ⟨⟨⟨rfl,hp,hna,hnb⟩,by show na+nb+min 0 1<=na+nb;omega⟩,_,rfl⟩) ?_)
  ·rintro y ⟨r1,ja,jb,out,ac,bc⟩ st' _ hy ⟨⟨⟨e1,hp,hja,hjb⟩,hl1⟩,g,rfl⟩;dsimp only at e1 hp hja hjb hl1⊢;have lja:=hp.2.1;have ljb:=hp.2.2;refine wpS_bind (zal (show jb-1<b.size by omega) (wpS_bind (zal (show ja-1<a.size by omega) (wpS_bind (hq _ _ _ _ (eb (by omega)) (ea (by omega)) hκ fun bw=>?_)))))
   cases bw with
   |true=>
    refine wpS_bind (zal (show ja-1<a.size by omega) ?_)
    try dsimp only
    have hp1:=zdd hp hja
    by_cases d:(ja-1==0)=true
    ·rw[if_pos d];exact wpS_pure ⟨.inl ⟨_,rfl,zam hp1⟩,_,rfl⟩
    rw[if_neg d];have d':ja-1≠0:=fun z=>d (by rw[z];rfl)
    by_cases f:ac+1≥mg
    ·rw[if_pos f];exact wpS_pure ⟨.inr ⟨⟨rfl,hp1,(by show 0<ja-1;omega),hjb⟩,(by show ja-1+jb+1<=na+nb;omega)⟩,_,rfl⟩
    ·rw[if_neg f];exact wpS_pure ⟨⟨⟨rfl,hp1,(by show 0<ja-1;omega),hjb⟩,(by show ja-1+jb+min (y+1) 1<=na+nb;omega)⟩,_,rfl⟩
   |false=>
    refine wpS_bind (zal (show jb-1<b.size by omega) ?_)
    try dsimp only
    have hp1:=zg9 hp (show 0<jb by omega)
    by_cases d:(jb-1==1)=true
    ·rw[if_pos d];exact wpS_pure ⟨.inl ⟨_,rfl,zbi hp1⟩,_,rfl⟩
    rw[if_neg d];have d':jb-1≠1:=fun z=>d (by rw[z];rfl)
    by_cases f:bc+1≥mg
    ·rw[if_pos f];exact wpS_pure ⟨.inr ⟨⟨rfl,hp1,hja,(by show 1<jb-1;omega)⟩,(by show ja+(jb-1)+1<=na+nb;omega)⟩,_,rfl⟩
    ·rw[if_neg f];exact wpS_pure ⟨⟨⟨rfl,hp1,hja,(by show 1<jb-1;omega)⟩,(by show ja+(jb-1)+min (y+1) 1<=na+nb;omega)⟩,_,rfl⟩
  ·rintro c st' ⟨⟨i1,hl1⟩,g⟩;exact⟨.inr ⟨i1,by omega⟩,g⟩
  ·rintro⟨r1,ja,jb,out,ac,bc⟩ st' ⟨hc,g,rfl⟩;dsimp only at hc⊢;rcases hc with⟨r,rfl,hr⟩|⟨⟨rfl,hp,hja,hjb⟩,hl1⟩
   ·exact wpS_pure ⟨r,rfl,hr,_,rfl⟩
   dsimp only;refine wpS_bind (wpS_lift (wpAny_rule ⟨rfl,?_⟩));refine wpS_bind (wpS_mono (wpS_forRange
    (I:=fun y(c:Option (Array Keyed)×Nat×Nat×Array Keyed×Nat×Nat×Nat) st'=>((c.1=none/\PrmH a b c.2.2.2.1 c.2.1 c.2.2.1/\0<c.2.1/\1<c.2.2.1)/\c.2.1+c.2.2.1+1<=na+nb)/\∃g,st'=gSt st g)
    (Q:=fun c st'=>((∃r,c.1=some r/\r.toList.Perm (a.toList++b.toList))∨((c.1=none/\PrmH a b c.2.2.2.1 c.2.1 c.2.2.1/\0<c.2.1/\1<c.2.2.1)/\c.2.1+c.2.2.1+1<=na+nb))/\∃g,st'=gSt st g) ?_ (fun c st' z=>⟨.inr z.1,z.2⟩) ⟨⟨⟨rfl,hp,hja,hjb⟩,hl1⟩,_,rfl⟩) ?_)
   ·rintro y ⟨r2,ka,kb,out,mg2,ac2,bc2⟩ st' _ hy ⟨⟨⟨e2,hp,hka,hkb⟩,hl2⟩,g,rfl⟩;dsimp only at e2 hp hka hkb hl2⊢;have lka:=hp.2.1;have lkb:=hp.2.2
    by_cases mm:mg2>1
    ·rw[if_pos mm];refine wpS_bind (wpS_modify ?_);refine wpS_bind (zal (show kb-1<b.size by omega) ?_)
     refine wpS_bind (zax hq (eb (by omega)) ha (by omega) (by omega) hκ fun k hk=>?_)
     try dsimp only
     by_cases k0:ka-k>0
     ·rw[if_pos k0];have hp1:=zor hp k hk
      by_cases d1:(k==0)=true
      ·rw[if_pos d1];exact wpS_pure ⟨.inl ⟨_,rfl,zam hp1⟩,_,rfl⟩
      rw[if_neg d1];have d1':k≠0:=fun z=>d1 (by rw[z];rfl)
      refine wpS_bind (zal (show kb-1<b.size by omega) ?_)
      try dsimp only
      have hp2:=zg9 hp1 (show 0<kb by omega)
      by_cases d3:(kb-1==1)=true
      ·rw[if_pos d3];exact wpS_pure ⟨.inl ⟨_,rfl,zbi hp2⟩,_,rfl⟩
      rw[if_neg d3];have d3':kb-1≠1:=fun z=>d3 (by rw[z];rfl)
      refine wpS_bind (zal (show k-1<a.size by omega) ?_)
      refine wpS_bind (zax hq (ea (by omega)) hb (by omega) (by omega) hκ fun k2 hk2=>?_)
      try dsimp only
      by_cases k20:kb-1-k2>0
      ·rw[if_pos k20];have hp3:=zio hp2 k2 hk2
       by_cases d4:(k2==1)=true
       ·rw[if_pos d4];exact wpS_pure ⟨.inl ⟨_,rfl,zbi hp3⟩,_,rfl⟩
       rw[if_neg d4];have d4':k2≠1:=fun z=>d4 (by rw[z];rfl)
       by_cases d7:(k2==0)=true
       ·rw[if_pos d7];exact wpS_pure ⟨.inl ⟨_,rfl,zam hp3⟩,_,rfl⟩
       rw[if_neg d7];have d7':k2≠0:=fun z=>d7 (by rw[z];rfl)
       refine wpS_bind (zal (show k-1<a.size by omega) ?_)
       try dsimp only
       have hp4:=zdd hp3 (show 0<k by omega)
       by_cases d5:(k-1==0)=true
       ·rw[if_pos d5];exact wpS_pure ⟨.inl ⟨_,rfl,zam hp4⟩,_,rfl⟩
       rw[if_neg d5];have d5':k-1≠0:=fun z=>d5 (by rw[z];rfl)
       by_cases d6:(decide (ka-k<7)&&decide (kb-1-k2<7))=true
       ·rw[if_pos d6];exact wpS_pure ⟨.inr ⟨⟨rfl,hp4,(by show 0<k-1;omega),(by show 1<k2;omega)⟩,(by show k-1+(k2)+1<=na+nb;omega)⟩,_,rfl⟩
       ·rw[if_neg d6];exact wpS_pure ⟨⟨⟨rfl,hp4,(by show 0<k-1;omega),(by show 1<k2;omega)⟩,(by show k-1+(k2)+1<=na+nb;omega)⟩,_,rfl⟩
      ·rw[if_neg k20];refine wpS_bind (zal (show k-1<a.size by omega) ?_)
       try dsimp only
       have hp4:=zdd hp2 (show 0<k by omega)
       by_cases d5:(k-1==0)=true
       ·rw[if_pos d5];exact wpS_pure ⟨.inl ⟨_,rfl,zam hp4⟩,_,rfl⟩
       rw[if_neg d5];have d5':k-1≠0:=fun z=>d5 (by rw[z];rfl)
       by_cases d6:(decide (ka-k<7)&&decide (kb-1-k2<7))=true
       ·rw[if_pos d6];exact wpS_pure ⟨.inr ⟨⟨rfl,hp4,(by show 0<k-1;omega),(by show 1<kb-1;omega)⟩,(by show k-1+(kb-1)+1<=na+nb;omega)⟩,_,rfl⟩
       ·rw[if_neg d6];exact wpS_pure ⟨⟨⟨rfl,hp4,(by show 0<k-1;omega),(by show 1<kb-1;omega)⟩,(by show k-1+(kb-1)+1<=na+nb;omega)⟩,_,rfl⟩
     ·rw[if_neg k0];refine wpS_bind (zal (show kb-1<b.size by omega) ?_)
      try dsimp only
      have hp2:=zg9 hp (show 0<kb by omega)
      by_cases d3:(kb-1==1)=true
      ·rw[if_pos d3];exact wpS_pure ⟨.inl ⟨_,rfl,zbi hp2⟩,_,rfl⟩
      rw[if_neg d3];have d3':kb-1≠1:=fun z=>d3 (by rw[z];rfl)
      refine wpS_bind (zal (show ka-1<a.size by omega) ?_)
      refine wpS_bind (zax hq (ea (by omega)) hb (by omega) (by omega) hκ fun k2 hk2=>?_)
      try dsimp only
      by_cases k20:kb-1-k2>0
      ·rw[if_pos k20];have hp3:=zio hp2 k2 hk2
       by_cases d4:(k2==1)=true
       ·rw[if_pos d4];exact wpS_pure ⟨.inl ⟨_,rfl,zbi hp3⟩,_,rfl⟩
       rw[if_neg d4];have d4':k2≠1:=fun z=>d4 (by rw[z];rfl)
       by_cases d7:(k2==0)=true
       ·rw[if_pos d7];exact wpS_pure ⟨.inl ⟨_,rfl,zam hp3⟩,_,rfl⟩
       rw[if_neg d7];have d7':k2≠0:=fun z=>d7 (by rw[z];rfl)
       refine wpS_bind (zal (show ka-1<a.size by omega) ?_)
       try dsimp only
       have hp4:=zdd hp3 (show 0<ka by omega)
       by_cases d5:(ka-1==0)=true
       ·rw[if_pos d5];exact wpS_pure ⟨.inl ⟨_,rfl,zam hp4⟩,_,rfl⟩
       rw[if_neg d5];have d5':ka-1≠0:=fun z=>d5 (by rw[z];rfl)
       by_cases d6:(decide (ka-k<7)&&decide (kb-1-k2<7))=true
       ·rw[if_pos d6];exact wpS_pure ⟨.inr ⟨⟨rfl,hp4,(by show 0<ka-1;omega),(by show 1<k2;omega)⟩,(by show ka-1+(k2)+1<=na+nb;omega)⟩,_,rfl⟩
       ·rw[if_neg d6];exact wpS_pure ⟨⟨⟨rfl,hp4,(by show 0<ka-1;omega),(by show 1<k2;omega)⟩,(by show ka-1+(k2)+1<=na+nb;omega)⟩,_,rfl⟩
      ·rw[if_neg k20];refine wpS_bind (zal (show ka-1<a.size by omega) ?_)
       try dsimp only
       have hp4:=zdd hp2 (show 0<ka by omega)
       by_cases d5:(ka-1==0)=true
       ·rw[if_pos d5];exact wpS_pure ⟨.inl ⟨_,rfl,zam hp4⟩,_,rfl⟩
       rw[if_neg d5];have d5':ka-1≠0:=fun z=>d5 (by rw[z];rfl)
       by_cases d6:(decide (ka-k<7)&&decide (kb-1-k2<7))=true
       ·rw[if_pos d6];exact wpS_pure ⟨.inr ⟨⟨rfl,hp4,(by show 0<ka-1;omega),(by show 1<kb-1;omega)⟩,(by show ka-1+(kb-1)+1<=na+nb;omega)⟩,_,rfl⟩
       ·rw[if_neg d6];exact wpS_pure ⟨⟨⟨rfl,hp4,(by show 0<ka-1;omega),(by show 1<kb-1;omega)⟩,(by show ka-1+(kb-1)+1<=na+nb;omega)⟩,_,rfl⟩
    ·rw[if_neg mm];refine wpS_bind (wpS_modify ?_);refine wpS_bind (zal (show kb-1<b.size by omega) ?_)
     refine wpS_bind (zax hq (eb (by omega)) ha (by omega) (by omega) hκ fun k hk=>?_)
     try dsimp only
     by_cases k0:ka-k>0
     ·rw[if_pos k0];have hp1:=zor hp k hk
      by_cases d1:(k==0)=true
      ·rw[if_pos d1];exact wpS_pure ⟨.inl ⟨_,rfl,zam hp1⟩,_,rfl⟩
      rw[if_neg d1];have d1':k≠0:=fun z=>d1 (by rw[z];rfl)
      refine wpS_bind (zal (show kb-1<b.size by omega) ?_)
      try dsimp only
      have hp2:=zg9 hp1 (show 0<kb by omega)
      by_cases d3:(kb-1==1)=true
      ·rw[if_pos d3];exact wpS_pure ⟨.inl ⟨_,rfl,zbi hp2⟩,_,rfl⟩
      rw[if_neg d3];have d3':kb-1≠1:=fun z=>d3 (by rw[z];rfl)
      refine wpS_bind (zal (show k-1<a.size by omega) ?_)
      refine wpS_bind (zax hq (ea (by omega)) hb (by omega) (by omega) hκ fun k2 hk2=>?_)
      try dsimp only
      by_cases k20:kb-1-k2>0
      ·rw[if_pos k20];have hp3:=zio hp2 k2 hk2
       by_cases d4:(k2==1)=true
       ·rw[if_pos d4];exact wpS_pure ⟨.inl ⟨_,rfl,zbi hp3⟩,_,rfl⟩
       rw[if_neg d4];have d4':k2≠1:=fun z=>d4 (by rw[z];rfl)
       by_cases d7:(k2==0)=true
       ·rw[if_pos d7];exact wpS_pure ⟨.inl ⟨_,rfl,zam hp3⟩,_,rfl⟩
       rw[if_neg d7];have d7':k2≠0:=fun z=>d7 (by rw[z];rfl)
       refine wpS_bind (zal (show k-1<a.size by omega) ?_)
       try dsimp only
       have hp4:=zdd hp3 (show 0<k by omega)
       by_cases d5:(k-1==0)=true
       ·rw[if_pos d5];exact wpS_pure ⟨.inl ⟨_,rfl,zam hp4⟩,_,rfl⟩
       rw[if_neg d5];have d5':k-1≠0:=fun z=>d5 (by rw[z];rfl)
       by_cases d6:(decide (ka-k<7)&&decide (kb-1-k2<7))=true
       ·rw[if_pos d6];exact wpS_pure ⟨.inr ⟨⟨rfl,hp4,(by show 0<k-1;omega),(by show 1<k2;omega)⟩,(by show k-1+(k2)+1<=na+nb;omega)⟩,_,rfl⟩
       ·rw[if_neg d6];exact wpS_pure ⟨⟨⟨rfl,hp4,(by show 0<k-1;omega),(by show 1<k2;omega)⟩,(by show k-1+(k2)+1<=na+nb;omega)⟩,_,rfl⟩
      ·rw[if_neg k20];refine wpS_bind (zal (show k-1<a.size by omega) ?_)
       try dsimp only
       have hp4:=zdd hp2 (show 0<k by omega)
       by_cases d5:(k-1==0)=true
       ·rw[if_pos d5];exact wpS_pure ⟨.inl ⟨_,rfl,zam hp4⟩,_,rfl⟩
       rw[if_neg d5];have d5':k-1≠0:=fun z=>d5 (by rw[z];rfl)
       by_cases d6:(decide (ka-k<7)&&decide (kb-1-k2<7))=true
       ·rw[if_pos d6];exact wpS_pure ⟨.inr ⟨⟨rfl,hp4,(by show 0<k-1;omega),(by show 1<kb-1;omega)⟩,(by show k-1+(kb-1)+1<=na+nb;omega)⟩,_,rfl⟩
       ·rw[if_neg d6];exact wpS_pure ⟨⟨⟨rfl,hp4,(by show 0<k-1;omega),(by show 1<kb-1;omega)⟩,(by show k-1+(kb-1)+1<=na+nb;omega)⟩,_,rfl⟩
     ·rw[if_neg k0];refine wpS_bind (zal (show kb-1<b.size by omega) ?_)
      try dsimp only
      have hp2:=zg9 hp (show 0<kb by omega)
      by_cases d3:(kb-1==1)=true
      ·rw[if_pos d3];exact wpS_pure ⟨.inl ⟨_,rfl,zbi hp2⟩,_,rfl⟩
      rw[if_neg d3];have d3':kb-1≠1:=fun z=>d3 (by rw[z];rfl)
      refine wpS_bind (zal (show ka-1<a.size by omega) ?_)
      refine wpS_bind (zax hq (ea (by omega)) hb (by omega) (by omega) hκ fun k2 hk2=>?_)
      try dsimp only
      by_cases k20:kb-1-k2>0
      ·rw[if_pos k20];have hp3:=zio hp2 k2 hk2
       by_cases d4:(k2==1)=true
       ·rw[if_pos d4];exact wpS_pure ⟨.inl ⟨_,rfl,zbi hp3⟩,_,rfl⟩
       rw[if_neg d4];have d4':k2≠1:=fun z=>d4 (by rw[z];rfl)
       by_cases d7:(k2==0)=true
       ·rw[if_pos d7];exact wpS_pure ⟨.inl ⟨_,rfl,zam hp3⟩,_,rfl⟩
       rw[if_neg d7];have d7':k2≠0:=fun z=>d7 (by rw[z];rfl)
       refine wpS_bind (zal (show ka-1<a.size by omega) ?_)
       try dsimp only
       have hp4:=zdd hp3 (show 0<ka by omega)
       by_cases d5:(ka-1==0)=true
       ·rw[if_pos d5];exact wpS_pure ⟨.inl ⟨_,rfl,zam hp4⟩,_,rfl⟩
       rw[if_neg d5];have d5':ka-1≠0:=fun z=>d5 (by rw[z];rfl)
       by_cases d6:(decide (ka-k<7)&&decide (kb-1-k2<7))=true
       ·rw[if_pos d6];exact wpS_pure ⟨.inr ⟨⟨rfl,hp4,(by show 0<ka-1;omega),(by show 1<k2;omega)⟩,(by show ka-1+(k2)+1<=na+nb;omega)⟩,_,rfl⟩
       ·rw[if_neg d6];exact wpS_pure ⟨⟨⟨rfl,hp4,(by show 0<ka-1;omega),(by show 1<k2;omega)⟩,(by show ka-1+(k2)+1<=na+nb;omega)⟩,_,rfl⟩
      ·rw[if_neg k20];refine wpS_bind (zal (show ka-1<a.size by omega) ?_)
       try dsimp only
       have hp4:=zdd hp2 (show 0<ka by omega)
       by_cases d5:(ka-1==0)=true
       ·rw[if_pos d5];exact wpS_pure ⟨.inl ⟨_,rfl,zam hp4⟩,_,rfl⟩
       rw[if_neg d5];have d5':ka-1≠0:=fun z=>d5 (by rw[z];rfl)
       by_cases d6:(decide (ka-k<7)&&decide (kb-1-k2<7))=true
       ·rw[if_pos d6];exact wpS_pure ⟨.inr ⟨⟨rfl,hp4,(by show 0<ka-1;omega),(by show 1<kb-1;omega)⟩,(by show ka-1+(kb-1)+1<=na+nb;omega)⟩,_,rfl⟩
       ·rw[if_neg d6];exact wpS_pure ⟨⟨⟨rfl,hp4,(by show 0<ka-1;omega),(by show 1<kb-1;omega)⟩,(by show ka-1+(kb-1)+1<=na+nb;omega)⟩,_,rfl⟩
   ·rintro⟨r2,ka,kb,out,mg2,ac2,bc2⟩ st' ⟨hc,g,rfl⟩;dsimp only at hc⊢;rcases hc with⟨r,rfl,hr⟩|⟨⟨rfl,hp,hka,hkb⟩,hl2⟩
    ·exact wpS_pure ⟨r,rfl,hr,_,rfl⟩
    dsimp only;refine wpS_bind (wpS_modify (wpS_pure ⟨⟨⟨rfl,hp,hka,hkb⟩,(by show ka+kb+(x+1)+1<=a.size+b.size;omega)⟩,_,rfl⟩))
 ·rintro c st' ⟨⟨⟨e0,hp,hna,hnb⟩,hlo⟩,_⟩
  exfalso
  omega
 ·rintro⟨r0,na,nb,out,mg⟩ st' ⟨r,e,hr,g,rfl⟩;dsimp only at e⊢;subst e;exact wpS_pure (h r g hr)
end
section
variable{prog:Program}{w:World}{A:Around}{E:Value->Shared->Prop}{s:Shared}{a₀:Array Keyed}{κ:SortKind}
theorem zcy(hq:QL prog w A E s κ a₀){i j:Nat}{st:SortSt}{Q:Option Bool->SortSt->Prop}(hp:(arrOf st).Perm a₀)(hi:i<a₀.size)(hj:j<a₀.size)(hκ:kindOf st=κ)(h:∀b,Q (some b) st):wpS (model prog w) A E s (ltAt' i j) Q st:=by
 have sz:(arrOf st).size=a₀.size:=hp.size_eq;rw[ltAt'_eq];refine wpS_bind (wpS_get ?_);refine wpS_bind (zal (show i<(arrOf st).size by omega) (wpS_bind (zal (show j<(arrOf st).size by omega) ?_)))
 exact hq _ _ _ _ (hp.mem_iff.mp (Array.getElem_mem _)) (hp.mem_iff.mp (Array.getElem_mem _)) hκ h
theorem count_at(hq:QL prog w A E s κ a₀){lo nrem:Nat}{st:SortSt}{Q:Option Nat->SortSt->Prop}(hp:(arrOf st).Perm a₀)(h1:1<=nrem)(hz:lo+nrem<=a₀.size)(hκ:kindOf st=κ)
  (h:∀m xs,1<=m->m<=nrem->xs.Perm a₀->Q (some m) (setArr st xs)):wpS (model prog w) A E s (countRun' lo nrem) Q st:=by
 refine wpS_bind (wpS_mono (wpS_forRange (I:=fun x(c:Option (Option Nat)×Nat) st'=>st=st'/\c.1=none/\1<=c.2/\c.2<=x) (Q:=fun c st'=>st=st'/\c.1=none/\1<=c.2/\c.2<=nrem) ?_ ?_ ⟨rfl,rfl,Nat.le_refl _,Nat.le_refl _⟩) ?_)
 ·rintro x ⟨r,n⟩ st' hx1 hx ⟨rfl,e,hn1,hn2⟩;dsimp only at e hn1 hn2⊢;refine wpS_bind (zcy hq hp (by omega) (by omega) hκ fun b=>?_)
  cases b with
  |true=>exact wpS_pure ⟨rfl,rfl,hn1,(by show n<=nrem;omega)⟩
  |false=>exact wpS_pure ⟨rfl,rfl,(by show 1<=n+1;omega),(by show n+1<=x+1;omega)⟩
 ·rintro c st' ⟨e,e1,hn1,hn2⟩;exact⟨e,e1,hn1,by omega⟩
 rintro⟨r,n⟩ st' ⟨rfl,e,hn1,hn2⟩;dsimp only at e hn1 hn2⊢;subst e;dsimp only
 by_cases c1:(n==nrem)=true
 ·rw[if_pos c1];exact wpS_pure (h n (arrOf st) hn1 hn2 hp)
 rw[if_neg c1];have c1':n≠nrem:=fun z=>c1 (by rw[z];exact beq_self_eq_true _)
 by_cases c2:n>1
 ·rw[if_pos c2];refine wpS_bind (zcy hq hp (by omega) (by omega) hκ fun b=>?_)
  cases b with
  |true=>exact wpS_pure (h n (arrOf st) hn1 hn2 hp)
  |false=>
   refine wpS_bind (wpS_modify ?_);refine wpS_bind (wpS_lift (wpAny_rule ⟨rfl,?_⟩));refine wpS_bind (wpS_mono (wpS_forRange (I:=fun x(c:Option (Option Nat)×Nat×Nat) st'=>(c.1=none/\1<=c.2.1/\c.2.1<=x)/\∃xs,xs.Perm a₀/\st'=setArr st xs) (Q:=fun c st'=>(c.1=none/\1<=c.2.1/\c.2.1<=nrem)/\∃xs,xs.Perm a₀/\st'=setArr st xs) ?_ ?_ ⟨⟨rfl,(by show 1<=n+1;omega),Nat.le_refl _⟩,_,((mirror_perm _ _ _ _).trans hp),rfl⟩) ?_)
   ·rintro x ⟨r,n2,q2⟩ st' hx1 hx ⟨⟨e,hn1,hn2⟩,xs,px,rfl⟩;dsimp only at e hn1 hn2⊢;refine wpS_bind (zcy hq px (by omega) (by omega) hκ fun b=>?_)
    cases b with
    |true=>
     try dsimp only
     rw[if_pos rfl]
     by_cases qq:q2>0
     ·rw[if_pos qq];exact wpS_bind (wpS_modify (wpS_pure ⟨⟨rfl,(by show 1<=n2+1;omega),(by show n2+1<=x+1;omega)⟩,_,(mirror_perm _ _ _ _).trans px,rfl⟩))
     ·rw[if_neg qq];exact wpS_pure ⟨⟨rfl,(by show 1<=n2+1;omega),(by show n2+1<=x+1;omega)⟩,_,px,rfl⟩
    |false=>
     refine wpS_bind (zcy hq px (by omega) (by omega) hκ fun b=>?_)
     cases b with
     |true=>exact wpS_pure ⟨⟨rfl,hn1,(by show n2<=nrem;omega)⟩,_,px,rfl⟩
     |false=>exact wpS_pure ⟨⟨rfl,(by show 1<=n2+1;omega),(by show n2+1<=x+1;omega)⟩,_,px,rfl⟩
   ·rintro c st' ⟨⟨e,hn1,hn2⟩,z⟩;exact⟨⟨e,hn1,by omega⟩,z⟩
   ·rintro⟨r,n2,q2⟩ st' ⟨⟨e,hn1,hn2⟩,xs2,px2,rfl⟩;dsimp only at e hn1 hn2⊢;subst e;dsimp only
    by_cases qq:q2>0
    ·rw[if_pos qq];refine wpS_bind (wpS_modify ?_);refine wpS_bind (wpS_modify ?_);refine wpS_bind (wpS_mono (wpS_forRange (I:=fun x(c:Option (Option Nat)×Nat) st'=>(c.1=none/\1<=c.2/\c.2<=x)/\∃xs,xs.Perm a₀/\st'=setArr st xs) (Q:=fun c st'=>(c.1=none/\1<=c.2/\c.2<=nrem)/\∃xs,xs.Perm a₀/\st'=setArr st xs) ?_ ?_ ⟨⟨rfl,(by show 1<=n2;omega),Nat.le_refl _⟩,_,(mirror_perm _ _ _ _).trans ((mirror_perm _ _ _ _).trans px2),rfl⟩) ?_)
     ·rintro x ⟨r,n3⟩ st' hx1 hx ⟨⟨e,hn1,hn2'⟩,xs,px,rfl⟩;dsimp only at e hn1 hn2'⊢;refine wpS_bind (zcy hq px (by omega) (by omega) hκ fun b=>?_)
      cases b with
      |true=>exact wpS_pure ⟨⟨rfl,hn1,(by show n3<=nrem;omega)⟩,_,px,rfl⟩
      |false=>exact wpS_pure ⟨⟨rfl,(by show 1<=n3+1;omega),(by show n3+1<=x+1;omega)⟩,_,px,rfl⟩
     ·rintro c st' ⟨⟨e,hn1,hn2'⟩,z⟩;exact⟨⟨e,hn1,by omega⟩,z⟩
     ·rintro⟨r,n3⟩ st' ⟨⟨e,hn1,hn2'⟩,xs,px,rfl⟩;dsimp only at e hn1 hn2'⊢;subst e;exact wpS_pure (h n3 xs hn1 hn2' px)
    ·rw[if_neg qq];refine wpS_bind (wpS_modify ?_);refine wpS_bind (wpS_mono (wpS_forRange (I:=fun x(c:Option (Option Nat)×Nat) st'=>(c.1=none/\1<=c.2/\c.2<=x)/\∃xs,xs.Perm a₀/\st'=setArr st xs) (Q:=fun c st'=>(c.1=none/\1<=c.2/\c.2<=nrem)/\∃xs,xs.Perm a₀/\st'=setArr st xs) ?_ ?_ ⟨⟨rfl,(by show 1<=n2;omega),Nat.le_refl _⟩,_,(mirror_perm _ _ _ _).trans px2,rfl⟩) ?_)
     ·rintro x ⟨r,n3⟩ st' hx1 hx ⟨⟨e,hn1,hn2'⟩,xs,px,rfl⟩;dsimp only at e hn1 hn2'⊢;refine wpS_bind (zcy hq px (by omega) (by omega) hκ fun b=>?_)
      cases b with
      |true=>exact wpS_pure ⟨⟨rfl,hn1,(by show n3<=nrem;omega)⟩,_,px,rfl⟩
      |false=>exact wpS_pure ⟨⟨rfl,(by show 1<=n3+1;omega),(by show n3+1<=x+1;omega)⟩,_,px,rfl⟩
     ·rintro c st' ⟨⟨e,hn1,hn2'⟩,z⟩;exact⟨⟨e,hn1,by omega⟩,z⟩
     ·rintro⟨r,n3⟩ st' ⟨⟨e,hn1,hn2'⟩,xs,px,rfl⟩;dsimp only at e hn1 hn2'⊢;subst e;exact wpS_pure (h n3 xs hn1 hn2' px)
 ·rw[if_neg c2];refine wpS_bind (wpS_lift (wpAny_rule ⟨rfl,?_⟩));refine wpS_bind (wpS_mono (wpS_forRange (I:=fun x(c:Option (Option Nat)×Nat×Nat) st'=>(c.1=none/\1<=c.2.1/\c.2.1<=x)/\∃xs,xs.Perm a₀/\st'=setArr st xs) (Q:=fun c st'=>(c.1=none/\1<=c.2.1/\c.2.1<=nrem)/\∃xs,xs.Perm a₀/\st'=setArr st xs) ?_ ?_ ⟨⟨rfl,(by show 1<=n+1;omega),Nat.le_refl _⟩,_,hp,rfl⟩) ?_)
  ·rintro x ⟨r,n2,q2⟩ st' hx1 hx ⟨⟨e,hn1,hn2⟩,xs,px,rfl⟩;dsimp only at e hn1 hn2⊢;refine wpS_bind (zcy hq px (by omega) (by omega) hκ fun b=>?_)
   cases b with
   |true=>
    try dsimp only
    rw[if_pos rfl]
    by_cases qq:q2>0
    ·rw[if_pos qq];exact wpS_bind (wpS_modify (wpS_pure ⟨⟨rfl,(by show 1<=n2+1;omega),(by show n2+1<=x+1;omega)⟩,_,(mirror_perm _ _ _ _).trans px,rfl⟩))
    ·rw[if_neg qq];exact wpS_pure ⟨⟨rfl,(by show 1<=n2+1;omega),(by show n2+1<=x+1;omega)⟩,_,px,rfl⟩
   |false=>
    refine wpS_bind (zcy hq px (by omega) (by omega) hκ fun b=>?_)
    cases b with
    |true=>exact wpS_pure ⟨⟨rfl,hn1,(by show n2<=nrem;omega)⟩,_,px,rfl⟩
    |false=>exact wpS_pure ⟨⟨rfl,(by show 1<=n2+1;omega),(by show n2+1<=x+1;omega)⟩,_,px,rfl⟩
  ·rintro c st' ⟨⟨e,hn1,hn2⟩,z⟩;exact⟨⟨e,hn1,by omega⟩,z⟩
  ·rintro⟨r,n2,q2⟩ st' ⟨⟨e,hn1,hn2⟩,xs2,px2,rfl⟩;dsimp only at e hn1 hn2⊢;subst e;dsimp only
   by_cases qq:q2>0
   ·rw[if_pos qq];refine wpS_bind (wpS_modify ?_);refine wpS_bind (wpS_modify ?_);refine wpS_bind (wpS_mono (wpS_forRange (I:=fun x(c:Option (Option Nat)×Nat) st'=>(c.1=none/\1<=c.2/\c.2<=x)/\∃xs,xs.Perm a₀/\st'=setArr st xs) (Q:=fun c st'=>(c.1=none/\1<=c.2/\c.2<=nrem)/\∃xs,xs.Perm a₀/\st'=setArr st xs) ?_ ?_ ⟨⟨rfl,(by show 1<=n2;omega),Nat.le_refl _⟩,_,(mirror_perm _ _ _ _).trans ((mirror_perm _ _ _ _).trans px2),rfl⟩) ?_)
    ·rintro x ⟨r,n3⟩ st' hx1 hx ⟨⟨e,hn1,hn2'⟩,xs,px,rfl⟩;dsimp only at e hn1 hn2'⊢;refine wpS_bind (zcy hq px (by omega) (by omega) hκ fun b=>?_)
     cases b with
     |true=>exact wpS_pure ⟨⟨rfl,hn1,(by show n3<=nrem;omega)⟩,_,px,rfl⟩
     |false=>exact wpS_pure ⟨⟨rfl,(by show 1<=n3+1;omega),(by show n3+1<=x+1;omega)⟩,_,px,rfl⟩
    ·rintro c st' ⟨⟨e,hn1,hn2'⟩,z⟩;exact⟨⟨e,hn1,by omega⟩,z⟩
    ·rintro⟨r,n3⟩ st' ⟨⟨e,hn1,hn2'⟩,xs,px,rfl⟩;dsimp only at e hn1 hn2'⊢;subst e;exact wpS_pure (h n3 xs hn1 hn2' px)
   ·rw[if_neg qq];refine wpS_bind (wpS_modify ?_);refine wpS_bind (wpS_mono (wpS_forRange (I:=fun x(c:Option (Option Nat)×Nat) st'=>(c.1=none/\1<=c.2/\c.2<=x)/\∃xs,xs.Perm a₀/\st'=setArr st xs) (Q:=fun c st'=>(c.1=none/\1<=c.2/\c.2<=nrem)/\∃xs,xs.Perm a₀/\st'=setArr st xs) ?_ ?_ ⟨⟨rfl,(by show 1<=n2;omega),Nat.le_refl _⟩,_,(mirror_perm _ _ _ _).trans px2,rfl⟩) ?_)
    ·rintro x ⟨r,n3⟩ st' hx1 hx ⟨⟨e,hn1,hn2'⟩,xs,px,rfl⟩;dsimp only at e hn1 hn2'⊢;refine wpS_bind (zcy hq px (by omega) (by omega) hκ fun b=>?_)
     cases b with
     |true=>exact wpS_pure ⟨⟨rfl,hn1,(by show n3<=nrem;omega)⟩,_,px,rfl⟩
     |false=>exact wpS_pure ⟨⟨rfl,(by show 1<=n3+1;omega),(by show n3+1<=x+1;omega)⟩,_,px,rfl⟩
    ·rintro c st' ⟨⟨e,hn1,hn2'⟩,z⟩;exact⟨⟨e,hn1,by omega⟩,z⟩
    ·rintro⟨r,n3⟩ st' ⟨⟨e,hn1,hn2'⟩,xs,px,rfl⟩;dsimp only at e hn1 hn2'⊢;subst e;exact wpS_pure (h n3 xs hn1 hn2' px)
theorem bin_at(hq:QL prog w A E s κ a₀){lo n ok:Nat}{st:SortSt}{Q:Bool->SortSt->Prop}(hp:(arrOf st).Perm a₀)(hz:lo+n<=a₀.size)(hκ:kindOf st=κ)
  (h:∀xs,xs.Perm a₀->Q true (setArr st xs)):wpS (model prog w) A E s (binarySort' lo n ok) Q st:=by
 refine wpS_bind (wpS_mono (wpS_forRange (I:=fun x(c:Option Bool×Unit) st'=>c.1=none/\∃xs,xs.Perm a₀/\st'=setArr st xs) (Q:=fun c st'=>c.1=none/\∃xs,xs.Perm a₀/\st'=setArr st xs) ?_ (fun _ _ z=>z) ⟨rfl,_,hp,rfl⟩) ?_)
 ·rintro x ⟨r,u⟩ st' hx1 hx ⟨e,xs,px,rfl⟩;dsimp only at e⊢;refine wpS_bind (wpS_mono (wpS_forRange (I:=fun y(c:Option Bool×Nat×Nat) st'=>c.1=none/\c.2.2<=x/\st'=setArr st xs) (Q:=fun c st'=>c.1=none/\c.2.2<=x/\st'=setArr st xs) ?_ (fun _ _ z=>z) ⟨rfl,Nat.le_refl _,rfl⟩) ?_)
  ·rintro y ⟨r1,l,r⟩ st' _ _ ⟨e1,hr,rfl⟩;dsimp only at e1 hr⊢
   by_cases c:l≥r
   ·rw[if_pos c];exact wpS_pure ⟨rfl,hr,rfl⟩
   ·rw[if_neg c];refine wpS_bind (zcy hq px (by omega) (by omega) hκ fun b=>?_)
    cases b with
    |true=>exact wpS_pure ⟨rfl,(by show(l+r)/2<=x;omega),rfl⟩
    |false=>exact wpS_pure ⟨rfl,hr,rfl⟩
  ·rintro⟨r1,l,r⟩ st' ⟨e1,hr,rfl⟩;dsimp only at e1 hr⊢;subst e1;exact wpS_bind (wpS_modify (wpS_pure ⟨rfl,_,(bubble_perm _ _ _).trans px,rfl⟩))
 ·rintro⟨r,u⟩ st' ⟨e,xs,px,rfl⟩;dsimp only at e⊢;subst e;exact wpS_pure (h xs px)
end
section
variable{prog:Program}{w:World}{A:Around}{E:Value->Shared->Prop}{s:Shared}{a₀:Array Keyed}{κ:SortKind}
theorem zo0(sa:Nat):∀(l:List Keyed)(k:Nat)(a:Array Keyed),sa+k+l.length<=a.size->((l.zipIdx k).foldl (fun a(x:Keyed×Nat)=>match x with|(p,j)=>a.setIfInBounds (sa+j) p) a).toList=a.toList.take (sa+k)++l++a.toList.drop (sa+k+l.length)
 |[],k,a,_=>by simp
 |p::l,k,a,h=>by
  rw[List.zipIdx_cons,List.foldl_cons];have hk:sa+k<a.toList.length:=by simp only[List.length_cons] at h;rw[Array.length_toList];omega
  have:=zo0 sa l (k+1) (a.setIfInBounds (sa+k) p) (by rw[Array.size_setIfInBounds];simp only[List.length_cons] at h;omega)
  rw[this,Array.toList_setIfInBounds];have e1:(a.toList.set (sa+k) p).take (sa+(k+1))=a.toList.take (sa+k)++[p]:=by
   rw[show sa+(k+1)=sa+k+1 by omega,List.take_add_one,List.take_set_of_le (Nat.le_refl _),List.getElem?_set_self hk]
   rfl
  have e2:(a.toList.set (sa+k) p).drop (sa+(k+1)+l.length)=a.toList.drop (sa+k+(p::l).length):=by
   rw[List.drop_set_of_lt (by omega),List.length_cons]
   congr 1
   omega
  rw[e1,e2]
  simp[List.append_assoc]
theorem zg1{a m:Array Keyed}{sa sb nb:Nat}(h1:sa<=sb)(h2:sb+nb<=a.size)(hm:m.toList.Perm ((a.extract sa sb).toList++(a.extract sb (sb+nb)).toList)):
  (m.toList.zipIdx.foldl (fun a(x:Keyed×Nat)=>match x with|(p,j)=>a.setIfInBounds (sa+j) p) a).Perm a:=by
 have lm:m.toList.length=sb+nb-sa:=by
  rw[hm.length_eq,List.length_append,zcp,zcp,List.length_take,List.length_take,List.length_drop,List.length_drop,Array.length_toList];omega
 apply Array.perm_iff_toList_perm.mpr
 rw[zo0 sa m.toList 0 a (by omega),Nat.add_zero]
 have e:a.toList=a.toList.take sa++((a.toList.drop sa).take (sb-sa)++(a.toList.drop sb).take nb)++a.toList.drop (sa+m.toList.length):=by
  rw[lm,show sa+(sb+nb-sa)=sb+nb by omega]
  have x1:(a.toList.drop sb).take nb++a.toList.drop (sb+nb)=a.toList.drop sb:=by rw[←List.drop_drop,List.take_append_drop]
  have x2:(a.toList.drop sa).take (sb-sa)++a.toList.drop sb=a.toList.drop sa:=by
   have:a.toList.drop sb=(a.toList.drop sa).drop (sb-sa):=by rw[List.drop_drop,show sa+(sb-sa)=sb by omega]
   rw[this,List.take_append_drop]
  rw[List.append_assoc,List.append_assoc,x1,x2,List.take_append_drop]
 rw[zcp,zo4] at hm;refine List.Perm.trans ((List.Perm.append_left _ hm).append_right _) ?_;rw[←e]
theorem zi1{a:Array Keyed}{i j:Nat}{x:Keyed}(h:x∈a.extract i j):x∈a:=by
 have:x∈(a.extract i j).toList:=Array.mem_toList_iff.mpr h;rw[zcp] at this;exact Array.mem_toList_iff.mp (List.mem_of_mem_drop (List.mem_of_mem_take this))
theorem wpS_set{st st':SortSt}{Q:PUnit->SortSt->Prop}(h:Q ⟨⟩ st'):wpS (model prog w) A E s (set st':StateT SortSt Sem PUnit) Q st:=by
 unfold wpS;rw[StateT.run_set];exact wpAny_pure ⟨rfl,h⟩
abbrev pSt(st:SortSt)(xs:Array Keyed)(p:Array (Nat×Nat×Nat))(g:Nat):SortSt:=SortSt.mk' (kindOf st) xs p g (failedOf st)
theorem zmm(hq:QL prog w A E s κ a₀){i sa na p1 nb p2:Nat}{st:SortSt}{Q:Bool->SortSt->Prop}(hp:(arrOf st).Perm a₀)(hκ:kindOf st=κ)(hf:failedOf st=none)(e1:(pendingOf st)[i]?=some (sa,na,p1))(e2:(pendingOf st)[i+1]?=some (sa+na,nb,p2))(n1:0<na)(n2:0<nb)(hz:sa+na+nb<=a₀.size)
  (h:∀xs g,xs.Perm a₀->Q true (pSt st xs (((pendingOf st).setIfInBounds i (sa,na+nb,p1)).eraseIdxIfInBounds (i+1)) g)):wpS (model prog w) A E s (mergeAt' i) Q st:=by
 have sz:(arrOf st).size=a₀.size:=hp.size_eq;have mem:∀x,x∈arrOf st->x∈a₀:=fun x hx=>hp.mem_iff.mp hx;refine wpS_bind (wpS_get ?_);show wpS _ _ _ _ (match((pendingOf st)[i]?,(pendingOf st)[i+1]?) with|_=>_) _ _
 rw[e1,e2];dsimp only;refine wpS_bind (wpS_set ?_);refine wpS_bind (zal (show sa+na<(arrOf st).size by omega) ?_)
 refine wpS_bind (zax hq (mem _ (Array.getElem_mem _)) mem (by show sa+na<=(arrOf st).size;omega) n1 hκ fun k hk=>?_)
 dsimp only
 by_cases c1:(na-k==0)=true
 ·rw[if_pos c1];exact wpS_pure (h _ _ hp)
 rw[if_neg c1];have c1':na-k≠0:=fun z=>c1 (by rw[z];rfl)
 refine wpS_bind (zal (show sa+k+(na-k)-1<(arrOf st).size by omega) ?_)
 refine wpS_bind (zax hq (mem _ (Array.getElem_mem _)) mem (by show sa+na+nb<=(arrOf st).size;omega) (by omega) hκ fun m hm=>?_)
 dsimp only
 by_cases c2:(m==0)=true
 ·rw[if_pos c2];exact wpS_pure (h _ _ hp)
 rw[if_neg c2];have c2':m≠0:=fun z=>c2 (by rw[z];rfl)
 have s1:0<((arrOf st).extract (sa+k) (sa+na)).size:=by rw[Array.size_extract];omega
 have s2:0<((arrOf st).extract (sa+na) (sa+na+m)).size:=by rw[Array.size_extract];omega
 by_cases c3:na-k<=m
 ·rw[if_pos c3];refine wpS_bind (lo_at hq (fun x hx=>mem x (zi1 hx)) (fun x hx=>mem x (zi1 hx)) s1 s2 hκ fun r g hr=>?_);refine wpS_bind (wpS_modify (wpS_bind (wpS_get (wpS_pure ?_))));show Q (failedOf st).isNone _;rw[hf];exact h _ g ((zg1 (by omega) (show sa+na+m<=(arrOf st).size by omega) hr).trans hp)
 ·rw[if_neg c3];refine wpS_bind (hi_at hq (fun x hx=>mem x (zi1 hx)) (fun x hx=>mem x (zi1 hx)) s1 s2 hκ fun r g hr=>?_);refine wpS_bind (wpS_modify (wpS_bind (wpS_get (wpS_pure ?_))));show Q (failedOf st).isNone _;rw[hf];exact h _ g ((zg1 (by omega) (show sa+na+m<=(arrOf st).size by omega) hr).trans hp)
end
def Cov:List (Nat×Nat×Nat)->Nat->Nat->Prop
 |[],b,e=>b=e
 |(a,n,_)::r,b,e=>a=b/\0<n/\Cov r (b+n) e
theorem Cov.le:∀{l:List (Nat×Nat×Nat)}{b e:Nat},Cov l b e->b<=e
 |[],b,e,h=>Nat.le_of_eq h
 |(a,n,_)::r,b,e,h=>Nat.le_trans (Nat.le_add_right _ _) (Cov.le h.2.2)
theorem Cov.push:∀{l:List (Nat×Nat×Nat)}{b e n p:Nat},Cov l b e->0<n->Cov (l++[(e,n,p)]) b (e+n)
 |[],b,e,n,p,h,hn=>by
  have h:b=e:=h;subst h;exact⟨rfl,hn,rfl⟩
 |(a,m,q)::r,b,e,n,p,h,hn=>⟨h.1,h.2.1,Cov.push h.2.2 hn⟩
theorem Cov.at:∀{l:List (Nat×Nat×Nat)}{b e i a n p a' n' p':Nat},Cov l b e->l[i]?=some (a,n,p)->l[i+1]?=some (a',n',p')->a'=a+n/\0<n/\0<n'/\a+n+n'<=e/\Cov ((l.set i (a,n+n',p)).eraseIdx (i+1)) b e
 |(x,m,q)::(x',m',q')::r,b,e,0,a,n,p,a',n',p',h,e1,e2=>by
  cases e1;cases e2;obtain⟨h1,h2,h3,h4,h5⟩:=h;have:=Cov.le h5;refine⟨by omega,h2,h4,by omega,h1,by omega,?_⟩
  rw[←Nat.add_assoc];exact h5
 |(x,m,q)::r,b,e,i+1,a,n,p,a',n',p',h,e1,e2=>by
  obtain⟨h1,h2,h3⟩:=h;obtain⟨g1,g2,g3,g4,g5⟩:=Cov.at h3 (by simpa using e1) (by simpa using e2)
  exact⟨g1,g2,g3,g4,h1,h2,g5⟩
 |[],b,e,i,a,n,p,a',n',p',h,e1,e2=>by cases i<;>cases e1
 |[_],b,e,0,a,n,p,a',n',p',h,e1,e2=>by simp at e2
theorem Cov.power(w:Nat):∀{l:List (Nat×Nat×Nat)}{b e i:Nat},Cov l b e->Cov (l.modify i fun x=>(x.1,x.2.1,w)) b e
 |[],b,e,i,h=>by cases i<;>exact h
 |(x,m,q)::r,b,e,0,h=>h
 |(x,m,q)::r,b,e,i+1,h=>⟨h.1,h.2.1,Cov.power w h.2.2⟩
section
variable{prog:Program}{w:World}{A:Around}{E:Value->Shared->Prop}{s:Shared}{a₀:Array Keyed}{κ:SortKind}
def SIv(a₀:Array Keyed)(κ:SortKind)(lo:Nat)(st:SortSt):Prop:=(arrOf st).Perm a₀/\kindOf st=κ/\failedOf st=none/\Cov (pendingOf st).toList 0 lo/\lo<=a₀.size
theorem zhl(hq:QL prog w A E s κ a₀){i lo:Nat}{st:SortSt}{Q:Bool->SortSt->Prop}(iv:SIv a₀ κ lo st)(hi:i+1<(pendingOf st).size)(h:∀st',SIv a₀ κ lo st'->Q true st'):wpS (model prog w) A E s (mergeAt' i) Q st:=by
 obtain⟨h1,h2,h3,h4,h5⟩:=iv;have e1:(pendingOf st)[i]?=some (pendingOf st)[i]:=Array.getElem?_eq_getElem (by omega)
 have e2:(pendingOf st)[i+1]?=some (pendingOf st)[i+1]:=Array.getElem?_eq_getElem hi;generalize (pendingOf st)[i]=u1 at e1;generalize (pendingOf st)[i+1]=u2 at e2;obtain⟨sa,na,p1⟩:=u1;obtain⟨sb,nb,p2⟩:=u2;obtain⟨g1,g2,g3,g4,g5⟩:=h4.at (i:=i) (by rw[Array.getElem?_toList];exact e1) (by rw[Array.getElem?_toList];exact e2)
 subst g1;refine zmm hq h1 h2 h3 e1 e2 g2 g3 (by omega) fun xs g px=>h _ ⟨px,h2,h3,?_,h5⟩
 show Cov (((pendingOf st).setIfInBounds i (sa,na+nb,p1)).eraseIdxIfInBounds (i+1)).toList 0 lo
 have:(((pendingOf st).setIfInBounds i (sa,na+nb,p1)).eraseIdxIfInBounds (i+1)).toList=((pendingOf st).toList.set i (sa,na+nb,p1)).eraseIdx (i+1):=by simp
 rw[this];exact g5
theorem ite_lt{c:Prop}[Decidable c]{x y z:Nat}(h1:x+1<z)(h2:y+1<z):(if c then x else y)+1<z:=by
 by_cases h:c
 ·rw[if_pos h];exact h1
 ·rw[if_neg h];exact h2
theorem zi2{lo n:Nat}{st:SortSt}(iv:SIv a₀ κ lo st)(hn:0<n)(hz:lo+n<=a₀.size):SIv a₀ κ (lo+n) (setPending st ((pendingOf st).push (lo,n,0))):=by
 obtain⟨h1,h2,h3,h4,h5⟩:=iv;refine⟨h1,h2,h3,?_,hz⟩;show Cov ((pendingOf st).push (lo,n,0)).toList 0 (lo+n);rw[Array.toList_push];exact h4.push hn
theorem zly{lo j w:Nat}{st:SortSt}(iv:SIv a₀ κ lo st):SIv a₀ κ lo (setPending st ((pendingOf st).modify j fun x=>(x.1,x.2.1,w))):=by
 obtain⟨h1,h2,h3,h4,h5⟩:=iv;refine⟨h1,h2,h3,?_,h5⟩;show Cov ((pendingOf st).modify j fun x=>(x.1,x.2.1,w)).toList 0 lo;rw[Array.toList_modify];exact h4.power w
theorem runs_at(hq:QL prog w A E s κ a₀){st:SortSt}{Q:Unit->SortSt->Prop}(iv:SIv a₀ κ 0 st)(h:∀st',(arrOf st').Perm a₀->failedOf st'=none->Q () st'):wpS (model prog w) A E s sortRuns' Q st:=by
 have sz:(arrOf st).size=a₀.size:=iv.1.size_eq;rw[sortRuns'_eq];refine wpS_bind (wpS_get ?_);dsimp only;rw[sz];refine wpS_bind (wpS_mono (wpS_forRange (I:=fun x(c:Option Unit×Nat) st'=>c.1=none/\SIv a₀ κ c.2 st') (Q:=fun c st'=>c.1=none/\SIv a₀ κ c.2 st') ?_ (fun _ _ z=>z) ⟨rfl,iv⟩) ?_)
 ·rintro x ⟨r,lo⟩ st' _ hx ⟨e,iv⟩;dsimp only at e iv⊢
  by_cases c1:lo≥a₀.size
  ·rw[if_pos c1];exact wpS_pure ⟨rfl,iv⟩
  rw[if_neg c1];refine wpS_bind (count_at hq iv.1 (by omega) (by omega) iv.2.1 fun m xs hm1 hm2 px=>?_)
  dsimp only;have iv1:SIv a₀ κ lo (setArr st' xs):=⟨px,iv.2.1,iv.2.2.1,iv.2.2.2.1,iv.2.2.2.2⟩
  by_cases c2:m<minRun' a₀.size a₀.size 0
  ·rw[if_pos c2];generalize minRun' a₀.size a₀.size 0=mr at*;refine wpS_bind (wpS_lift (wpAny_rule ⟨rfl,?_⟩));refine wpS_bind (bin_at hq px (by omega) iv.2.1 fun ys py=>?_)
   rw[if_neg (by simp)]
   have iv2:SIv a₀ κ lo (setArr st' ys):=⟨py,iv.2.1,iv.2.2.1,iv.2.2.2.1,iv.2.2.2.2⟩;refine wpS_bind (wpS_get ?_)
   cases eb:(pendingOf (setArr st' ys)).back? with
   |none=>
    dsimp only;exact wpS_bind (wpS_modify (wpS_pure ⟨rfl,zi2 iv2 (by omega) (by omega)⟩))
   |some q=>
    obtain⟨s1,n1,p1⟩:=q;dsimp only;refine wpS_bind (wpS_mono (wpS_forRange (I:=fun _(c:Option Unit×Unit) st2=>c.1=none/\SIv a₀ κ lo st2) (Q:=fun c st2=>c.1=none/\SIv a₀ κ lo st2) ?_ (fun _ _ z=>z) ⟨rfl,iv2⟩) ?_)
    ·rintro y ⟨r2,u⟩ st2 _ _ ⟨e2,iv2⟩;dsimp only at e2 iv2⊢;refine wpS_bind (wpS_get ?_)
     by_cases c2:(pendingOf st2).size>1
     ·rw[if_pos c2,Array.getElem?_eq_getElem (show(pendingOf st2).size-2<(pendingOf st2).size by omega)]
      generalize (pendingOf st2)[(pendingOf st2).size-2]=q3;obtain⟨q31,q32,q33⟩:=q3;dsimp only
      split
      ·exact wpS_pure ⟨rfl,iv2⟩
      ·exact wpS_bind (zhl hq iv2 (by omega) fun st3 iv3=>wpS_pure ⟨rfl,iv3⟩)
     ·rw[if_neg c2];exact wpS_pure ⟨rfl,iv2⟩
    ·rintro⟨r2,u⟩ st2 ⟨e2,iv2⟩;dsimp only at e2 iv2⊢;subst e2;exact wpS_bind (wpS_modify (wpS_bind (wpS_modify (wpS_pure ⟨rfl,zi2 (zly iv2) (by omega) (by omega)⟩))))
  ·rw[if_neg c2];refine wpS_bind (wpS_get ?_)
   cases eb:(pendingOf (setArr st' xs)).back? with
   |none=>
    dsimp only;exact wpS_bind (wpS_modify (wpS_pure ⟨rfl,zi2 iv1 (by omega) (by omega)⟩))
   |some q=>
    obtain⟨s1,n1,p1⟩:=q;dsimp only;refine wpS_bind (wpS_mono (wpS_forRange (I:=fun _(c:Option Unit×Unit) st2=>c.1=none/\SIv a₀ κ lo st2) (Q:=fun c st2=>c.1=none/\SIv a₀ κ lo st2) ?_ (fun _ _ z=>z) ⟨rfl,iv1⟩) ?_)
    ·rintro y ⟨r2,u⟩ st2 _ _ ⟨e2,iv2⟩;dsimp only at e2 iv2⊢;refine wpS_bind (wpS_get ?_)
     by_cases c2:(pendingOf st2).size>1
     ·rw[if_pos c2,Array.getElem?_eq_getElem (show(pendingOf st2).size-2<(pendingOf st2).size by omega)]
      generalize (pendingOf st2)[(pendingOf st2).size-2]=q3;obtain⟨q31,q32,q33⟩:=q3;dsimp only
      split
      ·exact wpS_pure ⟨rfl,iv2⟩
      ·exact wpS_bind (zhl hq iv2 (by omega) fun st3 iv3=>wpS_pure ⟨rfl,iv3⟩)
     ·rw[if_neg c2];exact wpS_pure ⟨rfl,iv2⟩
    ·rintro⟨r2,u⟩ st2 ⟨e2,iv2⟩;dsimp only at e2 iv2⊢;subst e2;exact wpS_bind (wpS_modify (wpS_bind (wpS_modify (wpS_pure ⟨rfl,zi2 (zly iv2) (by omega) (by omega)⟩))))
 ·rintro⟨r,lo⟩ st' ⟨e,iv⟩;dsimp only at e iv⊢;subst e;dsimp only;refine wpS_bind (wpS_mono (wpS_forRange (I:=fun _(c:Option Unit×Unit) st2=>c.1=none/\SIv a₀ κ lo st2) (Q:=fun c st2=>c.1=none/\SIv a₀ κ lo st2) ?_ (fun _ _ z=>z) ⟨rfl,iv⟩) ?_)
  ·rintro y ⟨r2,u⟩ st2 _ _ ⟨e2,iv2⟩;dsimp only at e2 iv2⊢;refine wpS_bind (wpS_get ?_)
   by_cases c2:(pendingOf st2).size<=1
   ·rw[if_pos c2];exact wpS_pure ⟨rfl,iv2⟩
   ·rw[if_neg c2];exact wpS_bind (zhl hq iv2 (ite_lt (by omega) (by omega)) fun st3 iv3=>wpS_pure ⟨rfl,iv3⟩)
  ·rintro⟨r2,u⟩ st2 ⟨e2,iv2⟩;dsimp only at e2 iv2⊢;subst e2;exact wpS_pure (h st2 iv2.1 iv2.2.2.1)
end
section
variable{prog:Program}{w:World}{A:Around}{E:Value->Shared->Prop}{s:Shared}{vs:List Value}{κ:SortKind}{g:Heap}
theorem zom{x:Keyed}(h:x∈vs.toArray.zip vs.toArray):x.1∈vs:=by
 have h:x∈(vs.toArray.zip vs.toArray).toList:=Array.mem_toList_iff.mpr h;rw[Array.toList_zip] at h;exact(List.of_mem_zip h).1
theorem ql_of(hc:∀x y,x∈vs->y∈vs->∀C,(∀b,C b s)->wpAny (model prog w) A (keyLt' κ x y) C (fun _ _=>False) s):QL prog w A E s κ (vs.toArray.zip vs.toArray):=by
 intro x y st Q hx hy hκ h;rw[lt'_eq];refine wpS_bind (wpS_get ?_);rw[hκ];refine wpS_bind (wpS_lift (wpAny_attempt (wpAny_mono (hc _ _ (zom hx) (zom hy) (fun b s'=>s'=s) fun b=>rfl) (fun b s' e=>?_) fun _ _ z=>z.elim)));subst e;exact⟨rfl,wpS_pure (h b)⟩
theorem sortP_at{a:Addr}{n:Nat}{P:PySem.Fin->Shared->Prop}(hg:Keeps g s.heap)(ga:g.objs.size<=a)(ho:s.heap.get? a=some (seqObj "list" vs.toArray n))(zl:vs.length<=sizeLine)
  (hk:2<=vs.length->∀h',Keeps g h'->∀Q',Q' κ {s with heap:=h'}->wpAny (model prog w) A (keyKind' vs.toArray) Q' (fun _ _=>False) {s with heap:=h'})
  (hc:2<=vs.length->∀h',Keeps g h'->∀x y,x∈vs->y∈vs->∀C,(∀b,C b {s with heap:=h'})->wpAny (model prog w) A (keyLt' κ x y) C (fun _ _=>False) {s with heap:=h'})
  (q:∀(ys:List Value) h' c,Keeps g h'->ys.Perm vs->h'.get? a=some (seqObj "list" ys.toArray c)->P (.done (.ret .none)) {s with heap:=h'}):
  wpAny (model prog w) A (Builtin.«list.sort» ⟨[.ref a],[]⟩) P E s:=by
 have z0:vs.toArray.size=vs.length:=rfl;have k1:Keeps g (s.heap.update a (Obj.mapSeq fun _=>(#[]:Array Value))):=hg.upd ga;obtain⟨e1,o1⟩:∃e1,(s.heap.update a (Obj.mapSeq fun _=>(#[]:Array Value))).get? a=some (seqObj "list" #[] e1):=⟨_,get?_update_seq ho _⟩;have k3:=(k1.push (seqObj "tuple" vs.toArray 0)).push (seqObj "list" #[] 0);have o3:=Heap.get?_push_of_some (seqObj "list" #[] 0) (Heap.get?_push_of_some (seqObj "tuple" vs.toArray 0) o1);have snds:((vs.toArray.zip vs.toArray).map (·.2)).toList=vs:=by
  rw[Array.toList_map,Array.toList_zip];exact List.map_snd_zip (Nat.le_refl _)
 have fin:∀(st:SortSt),(arrOf st).Perm (vs.toArray.zip vs.toArray)->
   P (.done (.ret .none)) {s with heap:=(((s.heap.update a (Obj.mapSeq fun _=>(#[]:Array Value))).push (seqObj "tuple" vs.toArray 0)).push (seqObj "list" #[] 0)).update a (Obj.mapSeq fun _=>(arrOf st).map (·.2))}:=fun st hp=>by
  have e:(((arrOf st).map (·.2)).toList).toArray=(arrOf st).map (·.2):=Array.toArray_toList;obtain⟨c,hc'⟩:∃c,((((s.heap.update a (Obj.mapSeq fun _=>(#[]:Array Value))).push (seqObj "tuple" vs.toArray 0)).push (seqObj "list" #[] 0)).update a (Obj.mapSeq fun _=>(arrOf st).map (·.2))).get? a=some (seqObj "list" ((arrOf st).map (·.2)) c):=⟨_,get?_update_seq o3 fun _=>(arrOf st).map (·.2)⟩;refine q ((arrOf st).map (·.2)).toList _ c (k3.upd ga) ?_ ?_
  ·have:=(Array.perm_iff_toList_perm.mp hp).map (·.2);rw[←Array.toList_map,←Array.toList_map,snds] at this;exact this
  ·rw[e];exact hc'
 rw[list_sort_plain];refine wpAny_bind (listItems_at ho rfl (wpAny_bind (listUpdate_at ho rfl (wpAny_bind (seqEpoch_at o1 rfl (wpAny_bind (wpAny_newTuple (wpAny_bind (wpAny_newList (wpAny_holding ?_) (Nat.zero_le _))) zl)))) zl (Nat.zero_le _))));dsimp only;have szl:∀st:SortSt,(arrOf st).Perm (vs.toArray.zip vs.toArray)->((arrOf st).map (·.2)).size<=sizeLine+1:=fun st hp=>by
  rw[Array.size_map,hp.size_eq,Array.size_zip];simp only[List.size_toArray];omega
 by_cases h2:vs.length<2
 ·rw[z0,if_pos h2,if_pos h2,pure_bind];rw[StateT.run_pure];refine wpAny_bind (wpAny_pure (wpAny_bind (seqEpoch_at o3 rfl (wpAny_bind (listUpdate_at o3 rfl ?_ (Nat.zero_le _) (szl (SortSt.mk' general' (vs.toArray.zip vs.toArray) #[] 7 none) (Array.Perm.refl _)))))));simp only[show failedOf (SortSt.mk' general' (vs.toArray.zip vs.toArray) #[] 7 none)=none from rfl,bne_self_eq_false,Bool.false_eq_true,if_false];exact wpAny_pure (fin _ (Array.Perm.refl _))
 ·have h2':2<=vs.length:=by omega
  rw[z0,if_neg h2,if_neg h2];refine wpAny_bind (hk h2' _ k3 _ ?_|>fun x=>wpAny_mono x (fun _ _ y=>y) fun _ _ z=>z.elim);have run:=runs_at (E:=E) (ql_of (hc h2' _ k3)) (st:=SortSt.mk' κ (vs.toArray.zip vs.toArray) #[] 7 none) (Q:=fun _ st'=>(arrOf st').Perm (vs.toArray.zip vs.toArray)/\failedOf st'=none) ⟨Array.Perm.refl _,rfl,rfl,rfl,Nat.zero_le _⟩ fun st' x y=>⟨x,y⟩;refine wpAny_bind (wpAny_mono run ?_ fun _ _ e=>e);rintro⟨⟨⟩,st⟩ s' ⟨rfl,hp,hf⟩;dsimp only at hp hf⊢;refine wpAny_bind (seqEpoch_at o3 rfl (wpAny_bind (listUpdate_at o3 rfl ?_ (Nat.zero_le _) (szl st hp))));rw[hf];simp only[bne_self_eq_false,Bool.false_eq_true,if_false];exact wpAny_pure (fin st hp)
theorem zme{l:Addr}{Q:Value->Shared->Prop}(hl:s.heap.IsList l vs.toArray)(zl:vs.length<=sizeLine)
  (hk:2<=vs.length->∀h',Keeps s.heap h'->∀Q',Q' κ {s with heap:=h'}->wpAny (model prog w) A.in1.in1 (keyKind' vs.toArray) Q' (fun _ _=>False) {s with heap:=h'})
  (hc:2<=vs.length->∀h',Keeps s.heap h'->∀x y,x∈vs->y∈vs->∀C,(∀b,C b {s with heap:=h'})->wpAny (model prog w) A.in1.in1 (keyLt' κ x y) C (fun _ _=>False) {s with heap:=h'})
  (q:∀(ys:List Value) h' c,Keeps s.heap h'->ys.Perm vs->h'.get? (s.heap.objs.size+1)=some (seqObj "list" ys.toArray c)->Q (.ref (s.heap.objs.size+1)) {s with heap:=h'}):
  wpAny (model prog w) A (call (.builtin "sorted") [.ref l]) Q E s:=by
 have k0:Keeps s.heap s.heap:=fun _ _ e=>e;have k2:=((k0.push (seqObj "list" #[] 0)).upd (a:=s.heap.objs.size) (f:=Obj.mapSeq (·++vs.toArray)) (Nat.le_refl _)).push (seqObj "list" vs.toArray 0);have z2:((s.heap.push (seqObj "list" #[] 0)).update s.heap.objs.size (Obj.mapSeq (·++vs.toArray))).objs.size=s.heap.objs.size+1:=by
  rw[Heap.size_update,size_push']
 have o2:(((s.heap.push (seqObj "list" #[] 0)).update s.heap.objs.size (Obj.mapSeq (·++vs.toArray))).push (seqObj "list" vs.toArray 0)).get? (s.heap.objs.size+1)=some (seqObj "list" vs.toArray 0):=
  z2▸Heap.get?_push_size _ rfl
 refine Calls.call_function_entry kind_sorted plain_sorted entry_sorted (args_sorted1 _) ?_;unfold Builtin.«sorted»;refine wpAny_bind (m:=checkCount _ _ _ _) (wpAny_pure (wpAny_bind (collect_list hl (wpAny_bind (wpAny_newList ?_ zl)) zl)));rw[show(({s with heap:=(s.heap.push (seqObj "list" #[] 0)).update s.heap.objs.size (Obj.mapSeq (·++vs.toArray))}:Shared).heap.objs.size)=s.heap.objs.size+1 from z2];refine wpAny_bind (wpAny_holding (wpAny_call_entry slot_list_sort ⟨_,o2,rfl⟩ entry_list_sort (sortP_at (s:={s with heap:=_}) (κ:=κ) k2 (Nat.le_succ _) o2 zl hk hc fun ys h' c b1 b2 b3=>⟨_,rfl,?_⟩) (args_list_sort _)));exact wpAny_pure ⟨_,rfl,q ys h' c b1 b2 b3⟩
end
theorem zo6{ws us:List Value}(h:ws.Perm us):∀{vs:List V},Vals vs us->∃ys:List V,ys.Perm vs/\Vals ys ws:=by
 induction h with
 |nil=>exact fun{vs} t=>⟨vs,.refl _,t⟩
 |cons v _ ih=>
  intro vs t
  cases t with
  |@cons x _ xs _ r t=>
   obtain⟨ys,p,q⟩:=ih t;exact⟨x::ys,p.cons x,.cons r q⟩
 |swap u v l=>
  intro vs t
  cases t with
  |@cons x _ xs _ r t=>
   cases t with
   |@cons y _ zs _ r2 t=>exact⟨y::x::zs,.swap x y zs,.cons r2 (.cons r t)⟩
 |trans _ _ i1 i2=>
  intro vs t;obtain⟨ys,p,q⟩:=i2 t;obtain⟨zs,p',q'⟩:=i1 q;exact⟨zs,p'.trans p,q'⟩
def F22(H:Hp)(v:V):Prop:=∃(p a b:Addr)(x1 y1 x2 y2:Int),v=.ref p/\H p=some (.tup [.ref a,.ref b])/\H a=some (.tup [.int x1,.int y1])/\H b=some (.tup [.int x2,.int y2])
def rSortN:List V->Hp->VK->Prop:=fun xs H Q=>∃l vs,xs=[.ref l]/\H l=some (.lst vs)/\(∀v,v∈vs->F22 H v)/\∀D ys,H D=none->ys.Perm vs->Q (.ref D) (upd H D (.lst ys))
section
variable{X:Cx}{pins:List (Addr×Obj)}{σ:St}{H:Hp}{s:Shared}
theorem tup22_of(I:Inv X pins σ H s){v:V}{u:Value}(h:F22 H v)(r:RelV v u):∃d:List Int×List Int,TupP s.heap u d.1 d.2/\d.1.length=2/\d.2.length=2:=by
 obtain⟨p,a,b,x1,y1,x2,y2,rfl,hp,ha,hb⟩:=h
 cases r;have ta:=zf8 I (ns:=[x1,y1]) ha;have tb:=zf8 I (ns:=[x2,y2]) hb;obtain⟨its,r,⟨⟨cls,dd,data,sl⟩,ho,hc,n,hd⟩,_⟩:=I.tuple (.of hp)
 simp only at hc hd
 subst hc hd;obtain⟨u1,u2,rfl,r1,r2⟩:=vals2 r
 cases r1
 cases r2;exact⟨([x1,y1],[x2,y2]),⟨p,_,_,n,dd,sl,rfl,ho,ta,tb⟩,rfl,rfl⟩
theorem zm6(hu:X.A.units+100<cLine):zdo X (.builtin "sorted") rSortN:=by
 intro pins s σ H xs us Q I r h;obtain⟨l,vs,rfl,hl,hf,q⟩:=h;obtain⟨u,rfl,ru⟩:=vals1 r
 cases ru;obtain⟨its,rv,pl,hz⟩:=I.list (.of hl);have len:vs.length=its.length:=rv.length;have each:∀u,u∈its->∃d:List Int×List Int,TupP s.heap u d.1 d.2/\d.1.length=2/\d.2.length=2:=fun u hu'=>by
  obtain⟨i,hi,e⟩:=List.mem_iff_getElem.mp hu';have hv:vs[i]'(by omega)∈vs:=List.getElem_mem _
  obtain⟨v,hv1,hv2⟩:=vals_get? rv (List.getElem?_eq_some_iff.mpr ⟨hi,e⟩);exact tup22_of I (hf v (List.mem_of_getElem? hv1)) hv2
 refine zme (κ:=tuples' false) pl.isList (by omega) (fun h2 h' k Q' q'=>?_) (fun h2 h' k x y hx hy C c=>?_) fun ws h' c k pm ho=>?_
 ·refine zgy (by omega) (fun v hv=>?_) q'
  obtain⟨d,t1,t2,t3⟩:=each v hv;have ne:d.1≠[]:=fun z=>by rw[z] at t2;cases t2
  exact⟨_,_,ne,t1.keeps k⟩
 ·obtain⟨d,t1,t2,t3⟩:=each x hx;obtain⟨e,u1,u2,u3⟩:=each y hy;exact zow (t1.keeps k) (u1.keeps k) (t2.trans u2.symm) (t3.trans u3.symm) (by show X.A.units+1+1+64<_;omega) (c _)
 ·obtain⟨ys,py,vy⟩:=zo6 pm rv;refine⟨.ref _,upd H (s.heap.objs.size+1) (.lst ys),I.laid (t':=s.toks) k (Nat.le_succ _) ⟨?_,_,c,vy,ho⟩,rfl,q _ _ (I.hok.fresh (Nat.le_succ _)) py⟩;rw[py.length_eq];exact hz
end
open PySem.W (kas_sort kas_ask)
open PySem.W (KasT kas_asc kas_desc kas_rev kas_tail3 kas_descPart kas_count kas_place kas_bin kas_sort)
open PySem.W (kla_fn kla_obj envX tabObj CodeHd)
open PySem.W (kla_fn kla_obj envX tabObj CodeHd KasT kas_sort kas_ask)
open PySem.W (kla_fn kla_obj envX tabObj CodeHd KasT kas_sort kas_ask kas_item)
open PySem.W (kla_fn kla_obj envX tabObj CodeHd KasT kas_sort kas_ask kas_item)
section
variable{prog:Program}{w:World}{A:Around}{E:Value->Shared->Prop}{s:Shared}{vs ks:List Value}{g:Heap}{a kS:Addr}{e e1:Nat}{f:Value}
open Classical in
noncomputable def kIdx(ks:List Value)(u:Value):Nat:=if h:∃i,i<ks.length/\ks[i]?=some u then Classical.choose h else 0
end
open PySem.W (kla_fn kla_obj envX tabObj CodeHd KasT kas_sort kas_ask kas_item)
theorem zdp(x y:Int×Int)(xs ys:List (Int×Int)):ltL (x::xs) (y::ys)=if x=y then ltL xs ys else lt2 x y:=by rw[ltL,lex2]
theorem ltL_tr:∀(a b c:List (Int×Int)),ltL a b=true->ltL b c=true->ltL a c=true
 |[],[],[],_,h2=>h2
 |[],_::_,[],_,h2=>by rw[ltL] at h2;cases h2
 |[],_,_::_,_,_=>by rw[ltL];exact decide_eq_true (Nat.succ_pos _)
 |_::_,[],_,h1,_=>by rw[ltL] at h1;cases h1
 |_::_,_::_,[],_,h2=>by rw[ltL] at h2;cases h2
 |x::xs,y::ys,z::zs,h1,h2=>by
  rw[zdp] at*
  by_cases e1:x=y
  ·rw[if_pos e1] at h1
   by_cases e2:y=z
   ·rw[if_pos e2] at h2;rw[if_pos (e1.trans e2)];exact ltL_tr xs ys zs h1 h2
   ·rw[if_neg e2] at h2;rw[e1,if_neg e2];exact h2
  ·rw[if_neg e1] at h1
   by_cases e2:y=z
   ·rw[←e2,if_neg e1];exact h1
   ·rw[if_neg e2] at h2;have t:=sto2.tr _ _ _ h1 h2;rw[if_neg (fun e=>by rw[e,sto2.irr] at t;cases t)]
    exact t
theorem znc:∀(a b:List (Int×Int)),a≠b->ltL a b=true∨ltL b a=true
 |[],[],n=>absurd rfl n
 |[],_::_,_=>.inl (by rw[ltL];exact decide_eq_true (Nat.succ_pos _))
 |_::_,[],_=>.inr (by rw[ltL];exact decide_eq_true (Nat.succ_pos _))
 |x::xs,y::ys,n=>by
  rw[zdp,zdp]
  by_cases e:x=y
  ·rw[if_pos e,if_pos e.symm];exact znc xs ys fun z=>n (by rw[e,z])
  ·rw[if_neg e,if_neg (fun z=>e z.symm)];exact sto2.tot _ _ e
theorem zpb:∀a:List (Int×Int),ltL a a=false
 |[]=>rfl
 |x::xs=>by rw[zdp,if_pos rfl];exact zpb xs
open PySem.W (kas_sort kas_ask)
theorem pi_listK{X:Cx}{tg l:Expr}{tl:TE}{K':PySem.W.Frag}(hK:X.K=K')(hl:PE X l tl):PI X tg l (zcx K' tl):=by
 subst hK;exact zc1 hl
section
variable{prog:Program}{w:World}{A:Around}{R:Result->Shared->Prop}{I:Addr}{fp wr:List Addr}{n:Nat}{P:Nat->Value->Prop}{St:Nat->Heap->Prop}{g:Heap}
def CmpK(prog:Program)(w:World)(A:Around)(g:Heap)(P:Nat->Value->Prop)(bt:Nat->Nat->Bool):Prop:=
 ∀i j vi vj(s:Shared)(Q:Value->Shared->Prop)(E:Value->Shared->Prop),Keeps g s.heap->P i vi->P j vj->Q (.bool (bt i j)) s->wpAny (model prog w) A (richCompare .Lt vi vj) Q E s
theorem minK_on(W:Walks prog w A.in1 I fp wr n P St)(bt:Nat->Nat->Bool)(hc:CmpK prog w A.in1 g P bt)(S:Addr)(nS:S∉fp)(gS:g.objs.size<=S)(gw:∀b,b∈wr->g.objs.size<=b):∀(k j:Nat)(s:Shared)(vb:Value)(c:Nat),n-(j+1)=k->j+1<=n->Keeps g s.heap->St (j+1) s.heap->P (argBest bt j) vb->
  s.heap.get? S=some {cls:=.type "list",dict:=none,data:=.seq #[vb,vb] c,slots:=#[]}->(∀v h' tk,P (argBest bt (n-1)) v->Keeps g h'->R (.ok (.ret v)) {s with heap:=h',toks:=tk})->
  codeAny (model prog w) A (.builtin "min.loop" ⟨[.ref I,.none,.ref S],[]⟩) R s:=by
 have nw:S∉wr:=fun z=>nS (W.sub _ z);have nm:(toString "min"++toString ".loop":String)="min.loop":=by decide
 have kw:∀{h h':Heap},Keeps g h->(∀b o,b∉wr->h.get? b=some o->h'.get? b=some o)->Keeps g h':=fun k0 kp b o e=>kp b o (fun z=>Nat.not_lt.mpr (gw b z) (Heap.lt_size e)) (k0 b o e);intro k
 induction k with
 |zero=>
  intro j s vb c hk hj kg st hb oS q;have ej:j+1=n:=by omega
  refine codeAny_builtin F.entry_min_loop ?_;rw[Around.under_plainId F.plain_min_loop _];refine wpAny_bind (m:=seqItems? (.ref S)) (wpAny_seqItems oS rfl (wpAny_bind (wpAny_tryCatch (W.done s _ _ (ej▸st) fun h' tk kp=>?_))));refine wpAny_bind (wpAny_updateSeq (kp S _ nw oS) rfl (wpAny_bind (wpAny_letGo (wpAny_pure ?_))));exact q vb _ tk (by rw[←ej];exact hb) ((kw kg kp).upd gS)
 |succ k ih=>
  intro j s vb c hk hj kg st hb oS q;refine codeAny_builtin F.entry_min_loop ?_;rw[Around.under_plainId F.plain_min_loop _];refine wpAny_bind (m:=seqItems? (.ref S)) (wpAny_seqItems oS rfl (wpAny_bind (wpAny_tryCatch (W.item (j+1) s _ _ (by omega) st fun v h' tk hP st' kp=>?_))))
  have oS':=kp S _ nw oS;have kg':=kw kg kp;refine wpAny_bind (wpAny_pure ?_);refine wpAny_bind (m:=tryCatch (holding [v,v] (richCompare CmpOp.Lt v vb>>=_)) _) (wpAny_tryCatch (wpAny_holding (wpAny_bind (hc (j+1) (argBest bt j) v vb _ _ _ kg' hP hb (wpAny_bind (wpAny_holding (wpAny_truthy_bool (wpAny_bind (wpAny_letGo (wpAny_pure ?_))))))))))
  cases bb:bt (j+1) (argBest bt j) with
  |true=>
   simp only[if_true];refine wpAny_bind (wpAny_updateSeq oS' rfl (wpAny_bind (wpAny_letGo ?_)));rw[nm];exact wpAny_pure ⟨plainId_quiet F.plain_min_loop _,ih (j+1) _ v _ (by omega) (by omega) (kg'.upd gS) (W.frame _ _ _ st' fun b hf o e=>(Heap.get?_update_other _ _ (fun z:S=b=>nS (by rw[z];exact hf))).trans e) (by simp only[argBest,bb,if_true];exact hP) (Heap.get?_update_self _ oS' rfl) fun v' h'' tk'' hP' kp'=>q v' h'' tk'' hP' kp'⟩
  |false=>
   simp only[Bool.false_eq_true,if_false];refine wpAny_bind (wpAny_letGo ?_);rw[nm];exact wpAny_pure ⟨plainId_quiet F.plain_min_loop _,ih (j+1) _ vb c (by omega) (by omega) kg' st' (by simp only[argBest,bb,Bool.false_eq_true,if_false];exact hb) oS' fun v' h'' tk'' hP' kp'=>q v' h'' tk'' hP' kp'⟩
theorem zn6(W:Walks prog w A.in1 I fp wr n P St)(bt:Nat->Nat->Bool)(hc:CmpK prog w A.in1 g P bt)(S:Addr)(nS:S∉fp)(gS:g.objs.size<=S)(gw:∀b,b∈wr->g.objs.size<=b){s:Shared}{c:Nat}(hn:0<n)(kg:Keeps g s.heap)(st:St 0 s.heap)
  (oS:s.heap.get? S=some {cls:=.type "list",dict:=none,data:=.seq #[] c,slots:=#[]})
  (q:∀v h' tk,P (argBest bt (n-1)) v->Keeps g h'->R (.ok (.ret v)) {s with heap:=h',toks:=tk}):
  codeAny (model prog w) A (.builtin "min.loop" ⟨[.ref I,.none,.ref S],[]⟩) R s:=by
 have nw:S∉wr:=fun z=>nS (W.sub _ z);have nm:(toString "min"++toString ".loop":String)="min.loop":=by decide
 have kw:∀{h h':Heap},Keeps g h->(∀b o,b∉wr->h.get? b=some o->h'.get? b=some o)->Keeps g h':=fun k0 kp b o e=>kp b o (fun z=>Nat.not_lt.mpr (gw b z) (Heap.lt_size e)) (k0 b o e);refine codeAny_builtin F.entry_min_loop ?_;rw[Around.under_plainId F.plain_min_loop _];refine wpAny_bind (m:=seqItems? (.ref S)) (wpAny_seqItems oS rfl (wpAny_bind (wpAny_tryCatch (W.item 0 s _ _ (by omega) st fun v h' tk hP st' kp=>?_))))
 refine wpAny_bind (wpAny_pure ?_);refine wpAny_bind (wpAny_updateSeq (kp S _ nw oS) rfl ?_);rw[nm];exact wpAny_pure ⟨plainId_quiet F.plain_min_loop _,minK_on W bt hc S nS gS gw _ 0 _ v _ rfl (by omega) ((kw kg kp).upd gS) (W.frame _ _ _ st' fun b hf o e=>(Heap.get?_update_other _ _ (fun z:S=b=>nS (by rw[z];exact hf))).trans e) hP (Heap.get?_update_self _ (kp S _ nw oS) rfl) fun v' h'' tk'' hP' kp'=>q v' h'' tk'' hP' kp'⟩
end
theorem zoi(val:Nat->Int×Int):∀k,argBest (fun i j=>lt2 (val i) (val j)) k<=k/\∀i,i<=k->lt2 (val i) (val (argBest (fun i j=>lt2 (val i) (val j)) k))=false
 |0=>⟨Nat.le_refl _,fun i hi=>by rw[Nat.le_zero.mp hi];exact sto2.irr _⟩
 |k+1=>by
  obtain⟨h1,h2⟩:=zoi val k;unfold argBest
  cases c:lt2 (val (k+1)) (val (argBest (fun i j=>lt2 (val i) (val j)) k)) with
  |true=>
   rw[if_pos rfl];refine⟨Nat.le_refl _,fun i hi=>?_⟩
   by_cases e:i=k+1
   ·rw[e];exact sto2.irr _
   ·have:=h2 i (by omega)
    cases d:lt2 (val i) (val (k+1)) with
    |false=>rfl
    |true=>rw[sto2.tr _ _ _ d c] at this;cases this
  |false=>
   rw[if_neg (by decide)]
   refine⟨by omega,fun i hi=>?_⟩
   by_cases e:i=k+1
   ·rw[e];exact c
   ·exact h2 i (by omega)
def rMinP:List V->Hp->VK->Prop:=fun xs H Q=>∃(v:V)(ks:List (Int×Int)),xs=[v]/\LsI H v ks/\0<ks.length/\∀(b:Addr)(j:Nat)(k:Int×Int),ks[j]?=some k->H b=some (.tup [.int k.1,.int k.2])->(∀x,x∈ks->lt2 x k=false)->Q (.ref b) H
section
variable{X:Cx}
theorem zpj(hcalm:X.calm=true)(hu:X.A.units+100<cLine):zdo X (.builtin "min") rMinP:=by
 intro pins s σ H xs us Q I r h;obtain⟨v,ks,rfl,⟨p,vs,rfl,hp,hl,he⟩,hn,q⟩:=h;obtain⟨u,rfl,ru⟩:=vals1 r
 cases ru;obtain⟨its,rv,pl,hz⟩:=I.list (.of hp);have len:vs.length=its.length:=rv.length;have ne:p≠s.heap.objs.size:=Nat.ne_of_lt pl.lt;have nm:(toString "min"++toString ".loop":String)="min.loop":=by decide
 have it:∀i v,its.toArray[i]?=some v->∃b,v=Value.ref b/\H b=some (.tup [.int (ks.getD i (0,0)).1,.int (ks.getD i (0,0)).2])/\TupI s.heap v [(ks.getD i (0,0)).1,(ks.getD i (0,0)).2]:=fun i v hv=>by
  have hv:its[i]?=some v:=by simpa using hv
  obtain⟨z,z1,z2⟩:=vals_get? rv hv;have hi:i<ks.length:=by have:=(List.getElem?_eq_some_iff.mp hv).1;omega
  obtain⟨b,b1,b2⟩:=he i _ (List.getElem?_eq_getElem hi);rw[b1] at z1
  cases z1
  cases(show v=Value.ref b from z2);have e:ks.getD i (0,0)=ks[i]:=by simp[hi]
  rw[e];exact⟨b,rfl,b2,zf8 I (ns:=[ks[i].1,ks[i].2]) b2⟩
 refine call_function_tree F.kind_min F.plain_min F.entry_min (F.args_min1 _) ?_;refine wpAny_bind (m:=Builtin.Builtins.bindParams "min" ["key","default"] 0 ⟨[],[]⟩) (wpAny_of_eq (show Builtin.Builtins.bindParams "min" ["key","default"] 0 ⟨[],[]⟩=pure [none,none] from rfl) (wpAny_bind (wpAny_pure (wpAny_bind (wpAny_pyIter_list pl.isList (wpAny_bind (wpAny_newList ?_ (Nat.zero_le _))))))));rw[nm];have W:=Walks.list (prog:=X.prog) (w:=X.w) (A:=X.A.in1) (show X.A.in1.handled=none from I.ok.hd hcalm) s.heap.objs.size p ne its.toArray;have sz:(s.heap.push {cls:=.type "list_iterator",data:=.fields #[.ref p,.int 0 0]}).objs.size=s.heap.objs.size+1:=by rw[Heap.size_push]
 have kg:Keeps s.heap ((s.heap.push {cls:=.type "list_iterator",data:=.fields #[.ref p,.int 0 0]}).push (seqObj "list" #[] 0)):=fun b o e=>Heap.get?_push_of_some _ (Heap.get?_push_of_some _ e);refine wpAny_pure ⟨plainId_quiet PySem.F.plain_min_loop _,zn6 (g:=s.heap) W (fun i j=>lt2 (ks.getD i (0,0)) (ks.getD j (0,0))) (fun i j vi vj s' Q' E' k hi hj q'=>?_) _ (fun z=>?_) ?_ (fun b hb=>?_) (by show 0<its.length;omega) kg (st:=W.frame 0 _ _ ⟨⟨_,Heap.get?_push_size _ rfl,rfl,rfl⟩,pl.isList.push _⟩ fun b _ o e=>Heap.get?_push_of_some _ e) (Heap.get?_push_size _ rfl) fun v h' tk hv kp=>?_⟩
 ·obtain⟨_,_,_,t1⟩:=it i vi hi;obtain⟨_,_,_,t2⟩:=it j vj hj;exact zng (t1.keeps k) (t2.keeps k) (by show X.A.units+1+64<_;omega) (by rw[lex2];exact q')
 ·rw[sz] at z;have l2:p<s.heap.objs.size:=pl.lt;rcases List.mem_cons.mp z with z|z
  ·exact absurd z (Nat.ne_of_gt (Nat.lt_succ_self _))
  ·exact absurd (List.mem_singleton.mp z) (Nat.ne_of_gt (Nat.lt_succ_of_lt l2))
 ·rw[sz];exact Nat.le_succ _
 ·rw[List.mem_singleton.mp hb];exact Nat.le_refl _
 ·obtain⟨b,rfl,hb,_⟩:=it _ _ hv;obtain⟨b1,b2⟩:=zoi (fun i=>ks.getD i (0,0)) (its.toArray.size-1);have zi:its.toArray.size=its.length:=rfl;rw[zi] at b1 b2 hb;have lt:argBest (fun i j=>lt2 (ks.getD i (0,0)) (ks.getD j (0,0))) (its.length-1)<ks.length:=by omega
  have J:Inv X pins σ H {s with heap:=h',toks:=tk}:=I.kept kp;refine⟨.ref b,H,J,rfl,q b (argBest (fun i j=>lt2 (ks.getD i (0,0)) (ks.getD j (0,0))) (its.length-1)) (ks.getD (argBest (fun i j=>lt2 (ks.getD i (0,0)) (ks.getD j (0,0))) (its.length-1)) (0,0)) ?_ hb fun x hx=>?_⟩
  ·rw[List.getD_eq_getElem?_getD,List.getElem?_eq_getElem lt];rfl
  ·obtain⟨i,hi,e⟩:=List.mem_iff_getElem.mp hx;have:=b2 i (by omega)
   have e':ks.getD i (0,0)=x:=by simp[hi,e]
   rw[e'] at this;exact this
end
def tDisp1(tk tv:TE):TE:=fun σ H Q=>∀p,H p=none->tk σ (upd H p (.dT [])) fun x H1=>tv σ H1 fun y H2=>∃k b,x=.ref b/\H2 b=some (.tup (k.map kV))/\H2 p=some (.dT [])/\Q (.ref p) (upd H2 p (.dT (putK [] k y)))
theorem pe_disp1{X:Cx}{pos:Pos}{e f:Expr}{tk tv:TE}(hu:X.A.units+1<cLine)(hk:PE X e tk)(hv:PE X f tv):PE X (.Dict [some e] [f] pos) (tDisp1 tk tv):=by
 intro pins s σ H Q I q;have hn:=I.hok.fresh (Nat.le_refl s.heap.objs.size);have I1:=I.laid (a:=s.heap.objs.size) (o:=.dT []) (h':=s.heap.push {cls:=.type "dict",data:=.dict #[]}) (t':=s.toks) (fun _ _ q=>Heap.get?_push_of_some _ q) (Nat.le_refl _) (zl4 s.heap I.big);rw[arm_eval_Dict,zip_pairTrees [some e] [f] X.env pos rfl rfl,dictDisplay_pairs (pairTrees [some e] [f] X.env pos) (by intro z;cases z) (by rw[pairTrees_length _ _ _ _ rfl rfl];show 1<17;decide)]
 refine wpAny_bind (wpAny_standAt (wpAny_bind ?_));unfold subDict;refine wpAny_bind (wpAny_alloc ?_);refine wpAny_bind (wpAny_holding ?_);rw[if_pos (by rw[pairTrees_length _ _ _ _ rfl rfl];show 1<=15;decide)]
 refine wpAny_bind (pairTrees_cons_walk (thn (hk pins _ σ _ _ I1 (q _ hn)) fun u s1⟨x,H1,I2,rx,q1⟩=>thn (hv pins s1 σ H1 _ I2 q1) fun w2 s2⟨y,H2,I3,ry,k,b,ex,hb,hp,q2⟩=>pairTrees_nil_walk ?_));subst ex
 cases(show u=Value.ref b from rx);refine wpAny_holding ?_;rw[List.forIn_cons];obtain⟨z,hd,xs,rel,dd⟩:=znl I3.hok hp;have hz:xs.length<=sizeLine:=by rw[←Paired.length rel];exact z
 have hl:(putK ([]:List (List Key×V)) k y).length<=sizeLine:=by have:=zbp ([]:List (List Key×V)) k y;exact Nat.le_trans this (by decide)
 refine wpAny_bind (wpAny_bind (wpAny_bind (m:=dictSet s.heap.objs.size (Value.ref b) w2) (wpAny_dictSet_heap (hsz:=hz) (show X.A.units<cLine by omega) (ze0 I3.hok hb) dd fun h' dd' hs=>wpAny_pure ?_)))
 show wpAny _ _ (forIn [] PUnit.unit _) _ _ _
 rw[List.forIn_nil];refine wpAny_pure (wpAny_pure (wpAny_pure (wpAny_pure ?_)));obtain⟨o,es,ep,ho,h2,h3,h4,_,h5⟩:=dd';refine⟨.ref s.heap.objs.size,upd H2 s.heap.objs.size (.dT (putK [] k y)),zeo I3 (by rw[hp];exact True.intro) hs ⟨o,ho⟩ ⟨hl,hd,_,(rel.put k hb ry).keeps fun c ys ec=>?_,o,es,ep,ho,h2,h3,h4,h5⟩,rfl,q2⟩
 rw[za5 (zkk ec hp (fun z=>nomatch z))];exact ec
theorem zg0{α β:Type}(f:α->β):∀(l:List α)(i:Nat),(l.map f).eraseIdx i=(l.eraseIdx i).map f
 |[],_=>rfl
 |_::_,0=>rfl
 |x::l,i+1=>by
  show f x::(l.map f).eraseIdx i=f x::(l.eraseIdx i).map f
  rw[zg0 f l i]
section
variable{prog:Program}{w:World}{K:Type}[DecidableEq K]{knd:HeapKind prog w K}{A:Around}{E:Value->Shared->Prop}{s:Shared}
theorem zid{d a:Addr}{xs:List (K×Addr×Value)}{k:K}{p:Addr×Value}{j:Nat}{Q:Option DictEntry->Shared->Prop}(hu:knd.room A)(hkey:knd.is s.heap k a)(hm:s.heap.DictOfH knd d xs)(hz:xs.length<=sizeLine)(hj:xs[j]?=some (k,p))
  (q:∀e h',e.val=p.2->h'.DictOfH knd d (xs.eraseIdx j)->Heap.SameBut d s.heap h'->Q (some e) {s with heap:=h',toks:=s.toks+knd.draws k}):
  wpAny (model prog w) A (Builtin.Dict.takeOut d (.ref a)) Q E s:=by
 obtain⟨o,es,ep,ho,hc,hd,he,his,hn⟩:=hm;have hsz:es.size=xs.length:=size_of_entries he;unfold Builtin.Dict.takeOut;refine wpAny_holding (wpAny_bind (knd.pyHash hu hkey (wpAny_bind (wpAny_dictFind_heap (s:={s with toks:=s.toks+knd.draws k}) hu hkey ho hd he his hn (fun hno=>?_) fun i p' hi=>?_))))
 ·exact absurd hj (hno j p)
 ·have ij:i=j:=by
   have h1:=List.getElem?_eq_some_iff.mp hi;have h2:=List.getElem?_eq_some_iff.mp hj;have e:(xs.map (·.1))[i]?=(xs.map (·.1))[j]?:=by rw[List.getElem?_map,List.getElem?_map,hi,hj];rfl
   exact(List.getElem?_inj (by rw[List.length_map];exact h1.1) hn).mp e
  subst ij;rw[hj] at hi
  cases hi;refine wpAny_bind (wpAny_dictEntries (s:={s with toks:=s.toks+knd.draws k}) ho hd ?_);rw[entry_at he i,hj];refine wpAny_bind (wpAny_updateDictKeys (hz:=by omega) (s:={s with toks:=s.toks+knd.draws k}) ho hd (wpAny_pure (q _ _ rfl ⟨_,_,ep+1,Heap.get?_update_self _ ho (Obj.isFreed_of_dict (Obj.data_mapDictKeys hd _)),hc.mapDictKeys _,Obj.data_mapDictKeys hd _,?_,?_,?_⟩ (Heap.SameBut.update ..))))
  ·have hi:i<es.size:=by rw[hsz];exact(List.getElem?_eq_some_iff.mp hj).1
   rw[Array.eraseIdxIfInBounds,dif_pos hi,Array.toList_eraseIdx,he,zg0]
  ·intro x hx;exact knd.keeps (his x (List.mem_of_mem_eraseIdx hx)) ho hd (Heap.SameBut.update ..)
  ·rw[←zg0];exact hn.sublist (List.eraseIdx_sublist _ _)
theorem zj8{d a:Addr}:MeetsIn prog w (Builtin.«dict.pop» ⟨[.ref d,.ref a],[]⟩) (fun A R s=>knd.room A.in1/\∃k xs j p,knd.is s.heap k a/\s.heap.DictOfH knd d xs/\xs.length<=sizeLine/\xs[j]?=some (k,p)/\
  ∀h',h'.DictOfH knd d (xs.eraseIdx j)->Heap.SameBut d s.heap h'->R (.ok (.ret p.2)) {s with heap:=h',toks:=s.toks+knd.draws k}):=
 .of_wp fun A R s⟨hu,k,xs,j,p,hkey,hm,hz,hj,h⟩=>by
  unfold Builtin.«dict.pop» Builtin.Dict.keyAndDefault;refine wpAny_bind (wpAny_bind (wpAny_notOrdered_dict hm.typeIs ?_));show wpAny _ _ (pure (d,Value.ref a,none)) _ _ s;refine wpAny_pure ?_;obtain⟨o,es,ep,ho,hc,hd,he,his,hn⟩:=id hm;have hsz:es.size=xs.length:=size_of_entries he;have ne:es.isEmpty=false:=by
   have:=(List.getElem?_eq_some_iff.mp hj).1;rw[Array.isEmpty];exact decide_eq_false (by omega)
  simp only[keyPart,Option.isSome_none,Bool.false_eq_true,if_false];refine wpAny_bind (wpAny_dictEntries ho hd (wpAny_bind (wpAny_pure ?_)));rw[ne];simp only[Bool.false_eq_true,if_false];refine wpAny_bind (zid hu hkey hm hz hj fun e h' ev hm' hs'=>?_);simp only[Option.isNone_some,Bool.false_eq_true,if_false];exact wpAny_bind (wpAny_letGo (wpAny_pure ⟨e.val,rfl,by rw[ev];exact h h' hm' hs'⟩))
end
theorem Paired.split{α β:Type}{F:α->β->Prop}{x:α}{r:List α}:∀{l:List α}{ys:List β},Paired F (l++x::r) ys->∃l' y r',ys=l'++y::r'/\l'.length=l.length/\Paired F l l'/\F x y/\Paired F r r'
 |[],_,.cons h t=>⟨[],_,_,rfl,rfl,.nil,h,t⟩
 |a::l,_,.cons h t=>by
  obtain⟨l',y,r',rfl,e,p1,p2,p3⟩:=Paired.split (l:=l) t;exact⟨_::l',y,r',rfl,by rw[List.length_cons,e,List.length_cons],.cons h p1,p2,p3⟩
theorem Paired.app{α β:Type}{F:α->β->Prop}{r:List α}{r':List β}(h:Paired F r r'):∀{l:List α}{l':List β},Paired F l l'->Paired F (l++r) (l'++r')
 |_,_,.nil=>h
 |_,_,.cons a t=>.cons a (Paired.app h t)
theorem zif{α:Type}(l:List α)(y:α)(r:List α):(l++y::r).eraseIdx l.length=l++r:=by
 rw[List.eraseIdx_append_of_length_le (Nat.le_refl _),Nat.sub_self];rfl
def zoe(td ty:TE):TE:=fun σ H Q=>td σ H fun x H1=>∃a,x=.ref a/\IsD H1 a/\ty σ H1 fun y H2=>∃l r k v b,H2 a=some (.dT (l++(k,v)::r))/\y=.ref b/\H2 b=some (.tup (k.map kV))/\Q v (upd H2 a (.dT (l++r)))
def tNPop(P:Program)(w:World)(td ty:TE):TE:=fun σ H Q=>td σ H fun x H1=>∃a kvs0,x=.ref a/\H1 a=some (nD P w a kvs0)/\KN H1 kvs0/\ty σ H1 fun y H2=>∃l r k c v b,H2 a=some (nD P w a (l++(k,c,v)::r))/\KN H2 (l++(k,c,v)::r)/\y=.ref b/\NK H2 b k/\Q v (upd H2 a (nD P w a (l++r)))
section
variable{X:Cx}{o e:Expr}{apos cpos:Pos}{td ty:TE}
theorem pe_dpopT(hu:X.A.units+1<cLine)(ho:PE X o td)(he:PE X e ty)(m:M1 X o "pop" apos e cpos):PE X (.Call (.Attribute o "pop" apos) [e] [] cpos) (zoe td ty):=by
 intro pins s σ H Q I h;refine wpAny_Call_method m.base m.few m.line PySem.F.plainAttrs_dict PySem.F.slot_dict_pop PySem.F.type_dict_pop (thn (ho pins s σ H _ I h) fun u s1⟨x,H1,I1,rx,a,ex,d,q1⟩=>?_);subst ex;obtain rfl:u=Value.ref a:=rx;obtain⟨t1,t2,_⟩:=zps I1 d;refine⟨t1,t2,?_⟩;rw[m.trees];refine Calls.callWith_builtin rfl (Calls.evalArgs_plain (Calls.spliced_cons (thn (he pins s1 σ H1 _ I1 q1) fun iv s2⟨y,H2,I2,ry,l,r,k,v,b,ea,ey,eb,q2⟩=>Calls.spliced_nil ?_)));subst ey
 cases(show iv=Value.ref b from ry);obtain⟨z,hd,xs,rel,dd⟩:=znl I2.hok ea;have hz:xs.length<=sizeLine:=by rw[←Paired.length rel];exact z
 obtain⟨l',p,r',rfl,el,p1,p2,p3⟩:=Paired.split rel;obtain⟨pk,pa,pv⟩:=p;obtain⟨e1,e2,e3⟩:=p2
 cases(show k=pk from e1);refine call_meetsIn PySem.F.slot_dict_pop dd.typeIs PySem.F.entry_dict_pop (PySem.F.args_dict_pop_2 _ _) (zj8 (knd:=tupleKind (zaa X.prog X.w))) ⟨tupleKind_room_in1 hu,k,_,l'.length,(pa,pv),ze0 I2.hok eb,dd,hz,by rw[List.getElem?_append_right (Nat.le_refl _),Nat.sub_self];rfl,fun h' dd' hs=>?_⟩
 rw[zif] at dd';obtain⟨q,es,ep,hq,h2,h3,h4,_,h5⟩:=dd';refine⟨v,upd H2 a (.dT (l++r)),zeo I2 (by rw[ea];exact True.intro) hs ⟨q,hq⟩ ⟨?_,hd,_,KT.keeps (Paired.app p3 p1) fun c ys ec=>?_,q,es,ep,hq,h2,h3,h4,h5⟩,e3,q2⟩
 ·rw[List.length_append] at z⊢;rw[List.length_cons] at z;omega
 ·rw[za5 (zkk ec ea (fun z=>nomatch z))];exact ec
theorem pe_npop{P:Program}{w:World}(hP:X.prog=P)(hw:X.w=w)(hu:X.A.units+64<cLine)(ho:PE X o td)(he:PE X e ty)(m:M1 X o "pop" apos e cpos):PE X (.Call (.Attribute o "pop" apos) [e] [] cpos) (tNPop P w td ty):=by
 subst hP hw;intro pins s σ H Q I h;refine wpAny_Call_method m.base m.few m.line PySem.F.plainAttrs_dict PySem.F.slot_dict_pop PySem.F.type_dict_pop (thn (ho pins s σ H _ I h) fun u s1⟨x,H1,I1,rx,a,kvs0,ex,d,kn0,q1⟩=>?_);subst ex;obtain rfl:u=Value.ref a:=rx;obtain⟨_,_,xs0,_,dd0⟩:=znf I1.hok (.inl d) kn0;refine⟨dd0.typeIs,fun b q=>?_,?_⟩
 ·cases q;obtain⟨ob,_,_,h1,h2,_⟩:=dd0;exact⟨ob,h1,h2.2.1⟩
 rw[m.trees];refine Calls.callWith_builtin rfl (Calls.evalArgs_plain (Calls.spliced_cons (thn (he pins s1 σ H1 _ I1 q1) fun iv s2⟨y,H2,I2,ry,l,r,k,c,v,b,ea,kn,ey,eb,q2⟩=>Calls.spliced_nil ?_)));subst ey
 cases(show iv=Value.ref b from ry);obtain⟨z,hd,xs,rel,dd⟩:=znf I2.hok (.inl ea) kn;have hz:xs.length<=sizeLine:=by rw[←Paired.length rel];exact z
 obtain⟨l',p,r',rfl,el,p1,p2,p3⟩:=Paired.split rel;obtain⟨pk,pa,pv⟩:=p;obtain⟨e1,e2,e3⟩:=p2
 cases(show k=pk from e1);refine call_meetsIn PySem.F.slot_dict_pop dd.typeIs PySem.F.entry_dict_pop (PySem.F.args_dict_pop_2 _ _) (zj8 (knd:=zdq (zaa X.prog X.w))) ⟨zfx (by omega),k,_,l'.length,(pa,pv),zfr I2.hok eb,dd,hz,by rw[List.getElem?_append_right (Nat.le_refl _),Nat.sub_self];rfl,fun h' dd' hs=>?_⟩
 rw[zif] at dd';obtain⟨⟨_,_,nd,_⟩,_⟩:=I2.hok a _ ea;have he':∃q,h'.get? a=some q:=let⟨q,_,_,hq,_⟩:=dd';⟨q,hq⟩;refine⟨v,upd H2 a (nD X.prog X.w a (l++r)),zeo I2 (by rw[ea];exact True.intro) hs he' (nd_ok ?_ hd ?_ (Paired.app p3 p1) dd'),e3,q2⟩
 ·rw[List.length_append] at z⊢;rw[List.length_cons] at z;omega
 ·rw[List.map_append,List.map_cons] at nd;rw[List.map_append];exact nd.sublist (List.Sublist.append_left (List.sublist_cons_self _ _) _)
end
theorem eq_empty{a b:Addr}(ha:(a==sysModules)=false)(hb:(b==sysModules)=false):Meets (Builtin.«dict.__eq__» ⟨[.ref a,.ref b],[]⟩) (fun A R s=>∃oa ob ea eb,s.heap.get? a=some oa/\oa.ExactDict/\oa.data=.dict #[] ea/\s.heap.get? b=some ob/\ob.ExactDict/\ob.data=.dict #[] eb/\R (.ok (.ret (.bool true))) s):=
 .of_wp fun prog w A R s h=>by
  obtain⟨oa,ob,ea,eb,h1,h2,h3,h4,h5,h6,q⟩:=h;unfold Builtin.«dict.__eq__»;show wpAny _ _ (Builtin.Dict.dictSlotArgs "__eq__" ⟨[.ref a,.ref b],[]⟩>>=_) _ _ s;have e0:Builtin.Dict.notOrdered "__eq__" ⟨[.ref a,.ref b],[]⟩=pure ():=by
   unfold Builtin.Dict.notOrdered;rw[if_neg (by decide)]
  have e1:slotArgs "__eq__" 1 ⟨[.ref a,.ref b],[]⟩=pure (.ref a,[.ref b]):=rfl;unfold Builtin.Dict.dictSlotArgs;rw[e0,e1];refine wpAny_bind (wpAny_bind (wpAny_pure (wpAny_bind (wpAny_pure (wpAny_pure ?_)))));refine wpAny_bind (wpAny_isInstance (T:="dict") (b:=true) ⟨_,h4,h5.1⟩ sub_dict_dict ?_);simp only[Bool.not_true,Bool.false_eq_true,if_false];refine wpAny_bind (m:=Builtin.Dict.addrOf (.ref a)) (wpAny_pure (wpAny_bind (m:=Builtin.Dict.addrOf (.ref b)) (wpAny_pure (wpAny_bind ?_))));unfold Builtin.Dict.samePairs Builtin.Dict.showsAll;rw[ha,hb];simp only[Bool.false_eq_true,if_false];refine wpAny_bind (wpAny_pure (wpAny_bind (wpAny_pure (wpAny_bind (wpAny_dictEntries h1 h3 (wpAny_bind (wpAny_dictEntries h4 h6 ?_)))))));rw[if_neg (by simp)]
  refine wpAny_bind (wpAny_dictEpoch h1 h3 (wpAny_bind ?_));simp only[List.size_toArray,List.length_nil,Std.Legacy.Range.forIn_eq_forIn_range',Std.Legacy.Range.size,Nat.sub_self,Nat.zero_add,Nat.sub_zero,Nat.div_one,List.range'_zero,List.forIn_nil];exact wpAny_pure (wpAny_pure (wpAny_pure ⟨_,rfl,q⟩))
def rEqN(P:Program)(w:World):R2:=fun x y H Q=>∃a b,x=.ref a/\y=.ref b/\H a=some (nD P w a [])/\H b=some (.dT [])/\Q (.bl true) H
theorem op_eqN{X:Cx}{P:Program}{w:World}(hP:X.prog=P)(hw:X.w=w)(hu:X.A.units+64<cLine):OpR X (compareOp .Eq) (rEqN P w):=by
 subst hP hw;intro pins s σ H x y v u Q I rx ry h;obtain⟨a,b,rfl,rfl,ha,hb,q⟩:=h
 cases rx
 cases ry;obtain⟨_,da,xs,rel,o,es,ep,ho,hc,hd,he,_⟩:=znf I.hok (.inl ha) (fun p hp=>by cases hp)
 obtain⟨_,db,xs2,rel2,o2,es2,ep2,ho2,hc2,hd2,he2,_⟩:=znl I.hok hb
 cases rel
 cases rel2;have z1:es=#[]:=Array.toList_inj.mp (by rw[he];rfl)
 have z2:es2=#[]:=Array.toList_inj.mp (by rw[he2];rfl)
 subst z1 z2;exact richCompare_meets_room (op:=.Eq) ⟨_,ho,hc.1⟩ ⟨_,ho2,hc2.1⟩ PySem.F.slot_dict_eq PySem.F.entry_dict_eq (PySem.F.args_dict_eq_2 _ _) (eq_empty da db) ⟨o,o2,ep,ep2,ho,hc,hd,ho2,hc2,hd2,(fun z=>nomatch z),⟨.bl _,H,I,rfl,q⟩⟩ (by omega)
theorem ltP_four(a b c d a' b' c' d':Int):ltP ([a,b],[c,d]) ([a',b'],[c',d'])=lt22 ((a,b),(c,d)) ((a',b'),(c',d')):=by
 unfold ltP;rw[lex2,lex2];show(if[a,b]=[a',b'] then(if[c,d]=[c',d'] then false else lt2 (c,d) (c',d')) else lt2 (a,b) (a',b'))=if(a,b)=(a',b') then lt2 (c,d) (c',d') else lt2 (a,b) (a',b')
 by_cases e:(a,b)=(a',b')
 ·rw[if_pos e,if_pos (by injection e with e1 e2;rw[e1,e2])]
  by_cases f:(c,d)=(c',d')
  ·rw[if_pos (by injection f with f1 f2;rw[f1,f2]),f,sto2.irr]
  ·rw[if_neg (fun z=>f (by injection z with z1 z2;injection z2 with z2;rw[z1,z2]))]
 ·rw[if_neg e,if_neg (fun z=>e (by injection z with z1 z2;injection z2 with z2;rw[z1,z2]))]
def F2D(H:Hp)(v:V)(e:(Int×Int)×(Int×Int)):Prop:=∃(p a b:Addr),v=.ref p/\H p=some (.tup [.ref a,.ref b])/\H a=some (.tup [.int e.1.1,.int e.1.2])/\H b=some (.tup [.int e.2.1,.int e.2.2])
def zlm:List V->Hp->VK->Prop:=fun xs H Q=>∃(l:Addr)(vs:List V)(d:Nat->(Int×Int)×(Int×Int)),xs=[.ref l]/\H l=some (.lst vs)/\vs.length<64/\(∀i,i<vs.length->F2D H (vs.getD i .non) (d i))/\
 ∀D p,H D=none->Ord vs.length p->(2<=vs.length->p=ansT (fun i j=>lt22 (d i) (d j)) (PySem.W.kas_sort vs.length))->Q (.ref D) (upd H D (.lst (p.toList.map fun i=>vs.getD i .non)))
section
variable{X:Cx}
theorem zir(hu:X.A.units+100<cLine):zdo X (.builtin "sorted") zlm:=by
 intro pins s σ H xs us Q I r h;obtain⟨l,vs,d,rfl,hl,h64,hf,q⟩:=h;obtain⟨u,rfl,ru⟩:=vals1 r
 cases ru;obtain⟨its,rv,pl,hz⟩:=I.list (.of hl);have len:vs.length=its.length:=rv.length;have dd:∀i,i<its.length->TupP s.heap (its.getD i Value.none) [(d i).1.1,(d i).1.2] [(d i).2.1,(d i).2.2]:=fun i hi=>by
  obtain⟨p,a,b,e,hp,ha,hb⟩:=hf i (by omega)
  have rr:=zfa rv i (by omega)
  rw[e] at rr;rw[show its.getD i Value.none=Value.ref p from rr];have ta:=zf8 I (ns:=[(d i).1.1,(d i).1.2]) ha;have tb:=zf8 I (ns:=[(d i).2.1,(d i).2.2]) hb;obtain⟨its,r,⟨⟨cls,dd,data,sl⟩,ho,hc,n,hd⟩,_⟩:=I.tuple (.of hp)
  simp only at hc hd
  subst hc hd;obtain⟨u1,u2,rfl,r1,r2⟩:=vals2 r
  cases r1
  cases r2;exact⟨p,_,_,n,dd,sl,rfl,ho,ta,tb⟩
 refine zpw (κ:=tuples' false) (ans:=fun i j=>lt22 (d i) (d j)) pl.isList (by omega) (fun h2 h' k Q' q'=>?_) (fun h2 h' k i j C hi hj c=>?_) fun p h' c k or ep ho=>?_
 ·refine zgy (by omega) (fun v hv=>?_) q'
  obtain⟨i,hi,e⟩:=List.mem_iff_getElem.mp hv;have t:=dd i hi;have e':its.getD i Value.none=v:=by simp[hi,e]
  rw[e'] at t;exact⟨_,_,(fun z=>by cases z),t.keeps k⟩
 ·refine zow (a:=([(d i).1.1,(d i).1.2],[(d i).2.1,(d i).2.2])) (b:=([(d j).1.1,(d j).1.2],[(d j).2.1,(d j).2.2])) ((dd i hi).keeps k) ((dd j hj).keeps k) rfl rfl (by show X.A.units+1+1+64<_;omega) ?_
  rw[ltP_four];exact c
 ·have lo:p.toList.length=its.length:=by rw[or.length_eq,List.length_range]
  refine⟨.ref _,upd H (s.heap.objs.size+1) (.lst (p.toList.map fun i=>vs.getD i .non)),I.laid (t':=s.toks) k (Nat.le_succ _) ⟨?_,_,c,zhc _ (fun i hi=>zfa rv i ?_),ho⟩,rfl,q _ _ (I.hok.fresh (Nat.le_succ _)) (by rw[len];exact or) (by rw[len];exact ep)⟩
  ·rw[List.length_map,lo];exact Nat.le_trans (Nat.le_of_lt (by omega:its.length<64)) (by decide)
  ·have:=List.mem_range.mp (or.mem_iff.mp hi);omega
end
section
variable{prog:Program}{w:World}{A:Around}{E:Value->Shared->Prop}{s:Shared}{K:Type}[DecidableEq K]{knd:KeyKind prog w K}
theorem grow_okW{m n:Nat}(g:zgk m)(hn:n<64)(h1:n*5<m*3)(h2:(n+1)*5≥m*3):zgk (SetTable.sizeAbove (SetTable.grown (n+1))-1)/\(n+1)*5<(SetTable.sizeAbove (SetTable.grown (n+1))-1)*3/\SetTable.sizeAbove (SetTable.grown (n+1))<=128:=by
 rcases g with rfl|rfl|rfl
 ·have e:n=4:=by omega
  subst e;have z:SetTable.sizeAbove (SetTable.grown (4+1))=32:=by decide
  rw[z];exact⟨.inr (.inl rfl),by decide,by decide⟩
 ·have e:n=18:=by omega
  subst e;have z:SetTable.sizeAbove (SetTable.grown (18+1))=128:=by decide
  rw[z];exact⟨.inr (.inr rfl),by decide,by decide⟩
 ·omega
theorem add_atW{S a:Addr}{k:List K}{keys:List (List K)}{n:Nat}{hs:Int}{Q:Bool->Shared->Prop}(hu:A.units<cLine)(hS:SetT knd s.heap S keys n)(hn:n<64)(hk:IsTupleKey knd s.heap k a)(nk:k∉keys)
  (q:∀h',Heap.SameBut S s.heap h'->SetT knd h' S (k::keys) (n+1)->Q true {s with heap:=h'}):wpAny (model prog w) A (setAddHashed S (.ref a) hs) Q E s:=by
 obtain⟨o,es,ep,t,ho,hx,hd,ht,hf,rfl,he⟩:=hS;have oth:Others knd s.heap es k:=fun e h=>by
  obtain⟨b,k',e1,e2,e3⟩:=he e h;exact⟨b,k',e1,e2,fun z=>nk (by rw[←z];exact e3)⟩
 unfold setAddHashed;refine wpAny_holding ?_;unfold setAddHashedIn;refine wpAny_bind (wpAny_setState_of ho hd ht.fits ?_);dsimp only;have bs:byScan (.ref a) es=false:=rfl;rw[bs];simp only[Bool.false_eq_true,if_false];obtain⟨m,hm,em⟩:=zq2 ht hs;have t100:10*SetTable.turns t.mask<100000:=by
  rcases ht.good with z|z|z<;>rw[z]<;>decide
 unfold setSearch;refine wpAny_bind (zpn (hs:=hs) hu ho hd ht hk oth m 100000 none _ (by omega) hm rfl em fun j=>?_)
 dsimp only;refine wpAny_bind (wpAny_setState_of ho hd ht.fits ?_);dsimp only;have room:es.size+1<=t.mask:=by
  rcases ht.good with z|z|z<;>rw[z] at hf⊢<;>omega
 have pk:=put_ok (j:=j) ht room;have sz:(SetTable.insertAt es (t.put j).2 (hs,Value.ref a)).size=es.size+1:=zld _ _ _;have core:∀tt:SetTable,ze5 tt (es.size+1)->tt.mask=t.mask->wpAny (model prog w) A (do
   storeSet S (SetTable.insertAt es (t.put j).2 (hs,Value.ref a)) tt
   if(!false&&tt.tooFull)=true then do
     setRelay S (SetTable.grown (es.size+1))
     pure true
    else pure true) Q E s:=fun tt htt em=>by
  have hz:(SetTable.insertAt es (t.put j).2 (hs,Value.ref a)).size<=sizeLine:=by
   rw[sz];have:sizeLine≥1000:=by decide
   omega
  refine wpAny_bind (wpAny_storeSet_of ho hd ?_ hz);have hg:(s.heap.update S (Obj.putSet (SetTable.insertAt es (t.put j).2 (hs,Value.ref a)) tt)).get? S=some {o with data:=.set (SetTable.insertAt es (t.put j).2 (hs,Value.ref a)) (ep+1) tt}:=by
   have:=Heap.get?_update_self (Obj.putSet (SetTable.insertAt es (t.put j).2 (hs,Value.ref a)) tt) ho (by rw[putSet_of _ _ hd];rfl)
   rw[putSet_of _ _ hd] at this;exact this
  have sb:Heap.SameBut S s.heap (s.heap.update S (Obj.putSet (SetTable.insertAt es (t.put j).2 (hs,Value.ref a)) tt)):=Heap.SameBut.update ..;have items:∀e,e∈(SetTable.insertAt es (t.put j).2 (hs,Value.ref a)).toList->∃b k',e.2=.ref b/\IsTupleKey knd s.heap k' b/\k'∈k::keys:=fun e h=>by
   rcases ins_mem h with h|h
   ·exact⟨a,k,by rw[h],hk,List.mem_cons_self ..⟩
   ·obtain⟨b,k',e1,e2,e3⟩:=he e h;exact⟨b,k',e1,e2,List.mem_cons_of_mem _ e3⟩
  have full:tt.tooFull=decide ((es.size+1)*5≥t.mask*3):=by
   unfold SetTable.tooFull SetTable.fill;rw[htt.size,htt.nod,em];rfl
  rw[full]
  by_cases c:(es.size+1)*5≥t.mask*3
  ·rw[decide_eq_true c];simp only[Bool.not_false,Bool.and_self,if_true];obtain⟨g1,g2,g3⟩:=grow_okW ht.good hn hf c;refine wpAny_bind (relay_at (s:={s with heap:=_}) hg hx rfl (by rw[sz];exact htt) g1 (by rw[sz];exact g2) g3 fun h' o' es' t' sb' ho' hx' hd' ht' hf' sz' mem=>wpAny_pure (q h' ?_ ⟨o',es',_,t',ho',hx',hd',ht',hf',by rw[sz',sz],fun e h=>?_⟩))
   ·exact sb.trans sb'
   ·obtain⟨b,k',e1,e2,e3⟩:=items e (mem e h);exact⟨b,k',e1,zkp ho hd (sb.trans sb') e2,e3⟩
  ·rw[decide_eq_false c];simp only[Bool.and_false,Bool.false_eq_true,if_false];refine wpAny_pure (q _ sb ⟨_,_,_,tt,hg,hx,rfl,by rw[sz];exact htt,by rw[sz,em];omega,sz,fun e h=>?_⟩)
   obtain⟨b,k',e1,e2,e3⟩:=items e h;exact⟨b,k',e1,zkp ho hd sb e2,e3⟩
 have off:ze5 {(t.put j).1 with plain:=false} (es.size+1):=⟨pk.good,pk.nod,pk.size,pk.room⟩
 split
 ·refine wpAny_bind (hash_by hk fun b=>?_)
  cases b with
  |true=>exact core _ pk rfl
  |false=>exact core _ off rfl
 ·exact wpAny_bind (wpAny_pure (core _ pk rfl))
end
section
variable{prog:Program}{w:World}{A:Around}{R:Result->Shared->Prop}{I:Addr}{fp wr:List Addr}{G:Array GenState->Array GenState->Prop}{n:Nat}{P:Nat->Value->Prop}{St:Nat->Shared->Prop}{K:Type}[DecidableEq K]{knd:KeyKind prog w K}
theorem zn0(W:WalksS prog w A.in1 I fp wr G n P St)(S:Addr)(hSf:S∉fp)(ks:Nat->List K)(hu:A.units+1<cLine)(hn:n<=64)(inj:∀i j,i<n->j<n->ks i=ks j->i=j)(nowr:∀(i:Nat)(s:Shared)(k:List K)(b:Addr),St i s->b∈wr->¬IsTupleKey knd s.heap k b):
  ∀(k i:Nat)(s:Shared),n-i=k->i<=n->St i s->SetT knd s.heap S (zfn ks i) i->(∀j v,P j v->∃b,v=.ref b/\IsTupleKey knd s.heap (ks j) b)->
   (∀s',Moved (S::wr) G s s'->SetT knd s'.heap S (zfn ks n) n->R (.ok (.ret .none)) s')->
   codeAny (model prog w) A (.builtin "set.update.loop" ⟨[.ref S,.ref I],[]⟩) R s:=by
 have hSw:S∉wr:=fun h=>hSf (W.sub _ h);have hsub:∀b∈wr,b∈S::wr:=fun b hb=>List.mem_cons_of_mem _ hb;intro k
 induction k with
 |zero=>
  intro i s hk hi hst hS hv hR;have hin:i=n:=by omega
  subst hin;refine codeAny_builtin F.entry_set_update_loop ?_;rw[Around.under_plainId F.plain_set_update_loop _];show wpAny _ A.in1 (pyNext (.ref I)>>=_) _ _ s;refine wpAny_bind (W.done s _ _ hst fun s' hm=>?_);show wpAny _ A.in1 (ret Value.none) _ _ s';refine wpAny_pure (hR s' (hm.mono hsub) (zjf hS fun b o ho hb=>hm.heap b o (fun z=>?_) ho));rcases hb with rfl|⟨k',hb⟩
  ·exact hSw z
  ·exact nowr _ _ _ _ hst z hb
 |succ k ih=>
  intro i s hk hi hst hS hv hR;have hlt:i<n:=by omega
  refine codeAny_builtin F.entry_set_update_loop ?_;rw[Around.under_plainId F.plain_set_update_loop _];show wpAny _ A.in1 (pyNext (.ref I)>>=_) _ _ s;refine wpAny_bind (W.item i s _ _ hlt hst fun v s' hP hst' hm=>?_);have tk:∀{ks':List K}{b:Addr},IsTupleKey knd s.heap ks' b->IsTupleKey knd s'.heap ks' b:=fun{ks' b} x=>zhu x fun o ho=>hm.heap b o (fun z=>nowr _ _ _ _ hst z x) ho;obtain⟨b,rfl,hb⟩:=hv i v hP;have hb':=tk hb;have hS':SetT knd s'.heap S (zfn ks i) i:=zjf hS fun b o ho hb=>hm.heap b o (fun z=>by
   rcases hb with rfl|⟨k',hb⟩
   ·exact hSw z
   ·exact nowr _ _ _ _ hst z hb) ho
  show wpAny _ A.in1 (holding [Value.ref b] (setAdd S (.ref b))>>=_) _ _ s'
  refine wpAny_bind (wpAny_holding ?_);unfold setAdd;refine wpAny_holding ?_;refine wpAny_bind ((tupleKind knd).pyHash (k:=ks i) hu hb' ?_);refine add_atW (s:={s' with toks:=s'.toks+(tupleKind knd).draws (ks i)}) hu hS' (by omega) hb' (fun z=>?_) fun h' hsb hS2=>?_
  ·obtain⟨j,hj,e⟩:=zgr z;have:=inj i j hlt (by omega) e
   omega
  ·obtain⟨oS,esS,epS,tS,hoS,_,hdS,_⟩:=id hS';refine wpAny_pure ⟨plainId_quiet F.plain_set_update_loop _,ih (i+1) _ (by omega) hlt (W.frame _ s' _ _ hst' (Nat.le_add_right _ _) fun b hb o e=>?_) hS2 (fun j v hj=>?_) fun s'' hm'' hS''=>?_⟩
   ·rw[hsb.2 b (fun h:b=S=>hSf (by rw[←h];exact hb))];exact e
   ·obtain⟨b',e1,e2⟩:=hv j v hj;exact⟨b',e1,zkp hoS hdS hsb (tk e2)⟩
   ·refine hR s'' (Moved.trans W.gtrans ((hm.mono hsub).then_heap (Nat.le_add_right _ _) fun b o hb e=>?_) hm'') hS'';rw[hsb.2 b (fun h:b=S=>hb (by rw[h];exact List.mem_cons_self))];exact e
end
section
variable{prog:Program}{w:World}{A:Around}{E:Value->Shared->Prop}{s:Shared}{K:Type}[DecidableEq K]{knd:KeyKind prog w K}
theorem init_TW{l:Addr}{items:Array Value}{led:Bool}{ks:Nat->List K}{h0:Heap}{P:PySem.Fin->Shared->Prop}(hu:A.units+8<cLine)(hh:A.handled=none)(hl:h0.IsList l items)(hv:∀j v,items[j]?=some v->∃b,v=.ref b/\IsTupleKey knd h0 (ks j) b)(hn:items.size<=64)(inj:∀i j,i<items.size->j<items.size->ks i=ks j->i=j)
  (h:∀(h':Heap)(tk:Nat),SetT knd h' h0.objs.size (zfn ks items.size) items.size->(∀b o,b<h0.objs.size->h0.get? b=some o->h'.get? b=some o)->P (.done (.ret .none)) {s with heap:=h',toks:=tk}):
  wpAny (model prog w) A (Builtin.«set.__init__» ⟨[.ref h0.objs.size,.ref l],[]⟩) P E {s with heap:=h0.push (set0 led)}:=by
 obtain⟨ol,hol,hcl,nl,hdl⟩:=hl;obtain⟨ocls,odict,odata,oslots⟩:=ol
 simp only at hcl hdl
 subst hcl;subst hdl;have hS:(h0.push (set0 led)).get? h0.objs.size=some (set0 led):=Heap.get?_push_size _ rfl;have hT:Shared.TypeIs {s with heap:=h0.push (set0 led)} (.ref h0.objs.size) "set":=⟨_,hS,rfl⟩;have hol':=Heap.get?_push_of_some (set0 led) hol;have hsls:=PySem.F.sub_list_set;have hslf:=PySem.F.sub_list_frozenset;have hne:(Value.type "list"==Value.type "dict")=false:=by decide
 have hl1:(h0.push (set0 led)).IsList l items:=⟨_,hol',rfl,nl,rfl⟩;unfold Builtin.«set.__init__» noKeywords Builtin.Frozenset.updateFrom;generalize hPI:pyIter=PI
 wp_walk
 subst hPI;refine wpAny_pyIter_list hl1 (wpAny_bind (wpAny_runValue ?_));have hlS:l<h0.objs.size:=Heap.lt_size hol;have sz1:(h0.push (set0 led)).objs.size=h0.objs.size+1:=Heap.size_push ..;have neI:l≠(h0.push (set0 led)).objs.size:=by rw[sz1];exact Nat.ne_of_lt (Nat.lt_succ_of_lt hlS)
 have SnI:h0.objs.size∉[(h0.push (set0 led)).objs.size,l]:=fun z=>by
  rw[sz1] at z;rcases List.mem_cons.mp z with z|z
  ·exact absurd z (Nat.ne_of_lt (Nat.lt_succ_self _))
  ·exact absurd (List.mem_singleton.mp z) (Nat.ne_of_gt hlS)
 have W:=(Walks.list (prog:=prog) (w:=w) (A:=A.in1) (show A.in1.handled=none from hh) _ l neI items).toS;refine zn0 (knd:=knd) (n:=items.size) W h0.objs.size SnI ks (by omega) hn inj (fun i s' k b st hb x=>?_) (items.size-0) 0 _ (by omega) (Nat.zero_le _) ⟨⟨_,Heap.get?_push_size _ rfl,rfl,rfl⟩,hl1.push _⟩ (setT_new (Heap.get?_push_of_some _ hS)) (fun j v hj=>?_) fun s' hm hS'=>?_
 ·have eb:=List.mem_singleton.mp hb;subst eb;obtain⟨u,e,hc,_⟩:=st.1;exact iter_no (knd:=knd) e (by rw[hc];decide) x
 ·obtain⟨b,e1,e2⟩:=hv j v hj;exact⟨b,e1,zhu e2 fun o ho=>Heap.get?_push_of_some _ (Heap.get?_push_of_some _ ho)⟩
 ·obtain⟨h',g',d',tk',os'⟩:=s';have eg:g'=s.gens:=hm.gens;have ed:d'=s.drawn:=hm.drawn;have eo:os'=s.os:=hm.os;subst eg;subst ed;subst eo;refine wpAny_pure (wpAny_pure (h h' tk' hS' fun b o hb e=>?_));refine hm.heap b o (fun z=>?_) (Heap.get?_push_of_some _ (Heap.get?_push_of_some _ e));rcases List.mem_cons.mp z with z|z
  ·exact absurd z (Nat.ne_of_lt hb)
  ·have z:=List.mem_singleton.mp z;have z:b=(h0.push (set0 led)).objs.size:=z;rw[sz1] at z;exact absurd z (Nat.ne_of_lt (Nat.lt_succ_of_lt hb))
end
section
variable{prog:Program}{w:World}{A:Around}{E:Value->Shared->Prop}{s:Shared}{K:Type}[DecidableEq K]{knd:KeyKind prog w K}
theorem zmj{l:Addr}{items:Array Value}{ks:Nat->List K}{Q:Value->Shared->Prop}(hu:A.units+20<cLine)(hh:A.handled=none)(hl:s.heap.IsList l items)(hv:∀j v,items[j]?=some v->∃b,v=.ref b/\IsTupleKey knd s.heap (ks j) b)(hn:items.size<=64)(inj:∀i j,i<items.size->j<items.size->ks i=ks j->i=j)
  (h:∀(h':Heap)(tk:Nat),SetT knd h' s.heap.objs.size (zfn ks items.size) items.size->(∀b o,b<s.heap.objs.size->s.heap.get? b=some o->h'.get? b=some o)->Q (.ref s.heap.objs.size) {s with heap:=h',toks:=tk}):
  wpAny (model prog w) A (call (.type "set") [.ref l]) Q E s:=by
 obtain⟨c,tl,hmro⟩:=PySem.F.called_set.mro;have hmade:=PySem.F.called_set.made;have hsub:=PySem.F.called_set.sub;refine wpAny_call (codeAny_of_tree ?_);show wpAny _ _ (callAny (.type "set") _) _ _ _;refine wpAny_pure ⟨Code.quiet_builtin _ (by decide+kernel),codeAny_builtin PySem.F.entry_type_call ?_⟩
 rw[Around.under_plain (weight_type_call_type "set" [.ref l] []) rfl];have h1:=PySem.F.called_set.notType;have h2:=PySem.F.called_set.canCreate;have hct:=PySem.F.typeCall_set_1 (.ref l)
 repeat (any_goals (first|assumption|wp_step))
 refine codeAny_mono (code_set_new_1 (.ref l) (E:=E) (Q₁:=fun obj s₁=>∃led:Bool,obj=.ref s.heap.objs.size/\s₁={s with heap:=s.heap.push (set0 led)}) fun led=>⟨led,rfl,rfl⟩) fun r s₁ hr=>?_
 cases r with
 |error e=>exact hr
 |ok fl=>
  cases fl with
  |ret obj=>
   obtain⟨led,rfl,rfl⟩:=hr;have hS:(s.heap.push (set0 led)).get? s.heap.objs.size=some (set0 led):=Heap.get?_push_size _ rfl;have hT:Shared.TypeIs {s with heap:=s.heap.push (set0 led)} (.ref s.heap.objs.size) "set":=⟨_,hS,rfl⟩;have hli:=PySem.F.called_set.init.lookup;have hbi:=PySem.F.called_set.init.bind (.ref s.heap.objs.size)
   repeat (any_goals (first|assumption|wp_step))
   refine codeAny_mono (codeAny_call_builtin (R:=wants (fun r s₂=>r=.none/\∃h' tk,s₂={s with heap:=h',toks:=tk}/\SetT knd h' s.heap.objs.size (zfn ks items.size) items.size/\
     (∀b o,b<s.heap.objs.size->s.heap.get? b=some o->h'.get? b=some o)) E) PySem.F.called_set.init.plain PySem.F.entry_set_init (check_set_init_1 hT ?_)) fun r₂ s₂ hr₂=>?_
   ·refine init_TW (knd:=knd) (ks:=ks) (items:=items) ?hu ?hh hl hv hn inj fun h' tk hS' hk=>?_
    case hu=>simp at*;omega
    case hh=>simp[hh]
    exact⟨rfl,h',tk,rfl,hS',hk⟩
   ·cases r₂ with
    |error e=>exact hr₂
    |ok fl₂=>
     cases fl₂ with
     |ret r=>
      obtain⟨rfl,h',tk,rfl,hS',hk'⟩:=hr₂
      repeat (any_goals (first|assumption|wp_step))
      exact h _ _ hS' hk'
     |_=>exact hr₂.elim
  |_=>exact hr.elim
end
section
variable{X:Cx}
def rSetW:List V->Hp->VK->Prop:=fun xs H Q=>∃(p:Addr)(ys:List V)(kk:Nat->List Key),xs=[.ref p]/\H p=some (.lst ys)/\ys.length<=64/\(∀j v,ys[j]?=some v->∃b,v=.ref b/\H b=some (.tup ((kk j).map kV)))/\(∀i j,i<ys.length->j<ys.length->kk i=kk j->i=j)/\∀l,H l=none->Q (.ref l) (upd H l (setO l ys.length))
theorem zp3(hu:X.A.units+64<cLine)(hc:X.calm=true):zdo X (.type "set") rSetW:=by
 intro pins s σ H xs us Q I r h;obtain⟨p,ys,kk,rfl,hp,hn,hk,inj,q⟩:=h;obtain⟨u,rfl,rx⟩:=vals1 r
 cases rx;obtain⟨its,r',pl,hz⟩:=I.list (.inl (.of hp));have hlen:=r'.length;have hsz:its.toArray.size=ys.length:=by rw[List.size_toArray,hlen]
 refine zmj (knd:=zaa X.prog X.w) (ks:=kk) (by omega) (I.ok.hd hc) pl.isList (fun j v e=>?_) (by rw[hsz];exact hn) (by rw[hsz];exact inj) fun h' tk hS kp=>?_
 ·have e:its[j]?=some v:=by simpa using e
  have hj:j<ys.length:=by rw[hlen];exact(List.getElem?_eq_some_iff.mp e).1
  obtain⟨b,eb,hb⟩:=hk j ys[j] (List.getElem?_eq_getElem hj);obtain⟨u,eu,ru⟩:=r'.get (List.getElem?_eq_getElem hj);rw[e] at eu
  cases eu;rw[eb] at ru
  cases ru;exact⟨b,rfl,ze0 I.hok hb⟩
 ·rw[hsz] at hS;obtain⟨o,es,ep,t,ho,hx,hd,ht,_,hes,_⟩:=hS;refine⟨.ref s.heap.objs.size,_,I.laid (t':=tk) (fun b u e=>kp b u (Heap.lt_size e) e) (Nat.le_refl _) ?_,rfl,q _ (I.hok.fresh (Nat.le_refl _))⟩;refine⟨⟨o,es,ep,t,ho,hx,hd,ht.fits,hes⟩,⟨o,ho⟩,?_⟩;rintro h1 h2 ⟨o,es,ep,t,ho,hx,hd,ht,hes⟩ k;exact⟨o,es,ep,t,k _ ho,hx,hd,ht,hes⟩
end
section
variable{t u:TS}{te ta tb:TE}{c c':TT}{D:Ends}{σ:St}{H:Hp}{Q:VK}{g:TG}{gs:TGs}{a:TA}{v w x y:V}{xs l:List V}{p:Addr}{i j k:Int}{b:Bool}
def yB(v:V)(Q:Bool->Prop):Prop:=∃k,v=.bl k/\Q k
def yI(v:V)(Q:Int->Prop):Prop:=∃k,v=.int k/\Q k
def yTw(vs:List V)(Q:V->V->Prop):Prop:=∃v w,vs=[v,w]/\Q v w
def yX(xs:List V)(i:Int)(Q:V->Prop):Prop:=∃v,atI xs i=some v/\Q v
def yJ(o:Option Nat)(Q:Nat->Prop):Prop:=∃j,o=some j/\Q j
theorem yB_bl{Q:Bool->Prop}:yB (.bl b) Q=Q b:=propext ⟨fun⟨k,e,q⟩=>by cases e;exact q,fun q=>⟨_,rfl,q⟩⟩
theorem yI_int{Q:Int->Prop}:yI (.int i) Q=Q i:=propext ⟨fun⟨k,e,q⟩=>by cases e;exact q,fun q=>⟨_,rfl,q⟩⟩
theorem yTw_two{Q:V->V->Prop}:yTw [v,w] Q=Q v w:=propext ⟨fun⟨k,e,f,q⟩=>by cases f;exact q,fun q=>⟨_,_,rfl,q⟩⟩
theorem yX_of{Q:V->Prop}{v:V}(h:atI xs i=some v):yX xs i Q=Q v:=propext ⟨fun⟨k,e,q⟩=>by rw[h] at e;cases e;exact q,fun q=>⟨_,h,q⟩⟩
theorem yX_0{Q:V->Prop}{x0:V}:yX (x0::l) 0 Q=Q x0:=yX_of at0
theorem yX_1{Q:V->Prop}{x0 x1:V}:yX (x0::x1::l) 1 Q=Q x1:=yX_of at1
theorem yX_2{Q:V->Prop}{x0 x1 x2:V}:yX (x0::x1::x2::l) 2 Q=Q x2:=yX_of at2
theorem y_next:tNext D σ H=D.nx σ H:=rfl
theorem y_seq:tSeq t u D σ H=t {D with nx:=u D} σ H:=rfl
theorem y_ret:tRet te D σ H=te σ H D.rt:=rfl
theorem y_ifS:tIfS c t u D σ H=c σ H fun b H1=>if b=true then t D σ H1 else u D σ H1:=rfl
theorem y_asg:tAsg te g D σ H=te σ H fun x H1=>g x σ H1 D.nx:=rfl
theorem y_drop:tDrop te D σ H=te σ H fun _ H1=>D.nx σ H1:=rfl
theorem y_par{i j:Nat}:tPar i j a D σ H=a σ H fun vs H1=>yTw vs fun v w=>gName i v σ H1 fun σ' H'=>gName j w σ' H' D.nx:=rfl
theorem y_c:tC v σ H Q=Q v H:=rfl
theorem y_op{r:R2}:tOp r ta tb σ H Q=ta σ H fun x H1=>tb σ H1 fun y H2=>r x y H2 Q:=rfl
theorem y_un{r:V->Hp->VK->Prop}:tUn r ta σ H Q=ta σ H fun x H1=>r x H1 Q:=rfl
theorem y_rI{C:Int->Int->Prop}{g:Int->Int->V}:rI C g (.int i) (.int j) H Q=(C i j/\Q (g i j) H):=propext ⟨fun⟨a,b,e,f,q⟩=>by cases e;cases f;exact q,fun q=>⟨_,_,rfl,rfl,q⟩⟩
theorem y_rI0{g:Int->Int->V}:rI0 g (.int i) (.int j) H Q=Q (g i j) H:=propext ⟨fun⟨a,b,e,f,q⟩=>by cases e;cases f;exact q,fun q=>⟨_,_,rfl,rfl,q⟩⟩
theorem y_rU{g:Int->V}:rU g (.int i) H Q=Q (g i) H:=propext ⟨fun⟨a,e,q⟩=>by cases e;exact q,fun q=>⟨_,rfl,q⟩⟩
theorem y_eq:rEq x y H Q=(scal x y=true/\Q (.bl (decide (x=y))) H):=rfl
theorem y_ne:rNe x y H Q=(scal x y=true/\Q (.bl (!decide (x=y))) H):=rfl
section
variable{Q:Bool->Hp->Prop}
theorem y_test:tTest te σ H Q=te σ H fun x H'=>yB x fun k=>Q k H':=rfl
theorem y_B:tB te σ H Q=te σ H fun x H'=>yB x fun k=>Q k H':=rfl
theorem y_not:tNot c σ H Q=c σ H fun c H1=>Q (!c) H1:=rfl
theorem y_or:tOr c c' σ H Q=c σ H fun b H1=>if b=true then Q true H1 else c' σ H1 Q:=rfl
theorem y_yes:tYes σ H Q=Q true H:=rfl
end
theorem y_andV:tAndV ta tb σ H Q=ta σ H fun x H1=>yB x fun c=>if c=true then tb σ H1 Q else Q (.bl false) H1:=rfl
theorem y_cb{r:List V->Hp->VK->Prop}:tCB r a σ H Q=a σ H fun vs H1=>r vs H1 Q:=rfl
theorem y_call{sp:Sp}{dvs:List V}{E:XK}:tCall sp dvs E a σ H Q=a σ H fun vs H1=>sp (vs++dvs) H1 Q E:=rfl
section
variable{Q:List V->Hp->Prop}
theorem y_nil:tNil σ H Q=Q [] H:=rfl
theorem y_cons:zcc te a σ H Q=te σ H fun x H1=>a σ H1 fun xs H2=>Q (x::xs) H2:=rfl
end
theorem y_tup:tTup a σ H Q=a σ H fun xs H1=>xs.length<=sizeLine/\∀p,H1 p=none->Q (.ref p) (upd H1 p (.tup xs)):=rfl
theorem y_lst:tLst a σ H Q=a σ H fun xs H1=>xs.length<=sizeLine/\∀p,H1 p=none->Q (.ref p) (upd H1 p (.lst xs)):=rfl
section
variable{Q:St->Hp->Prop}
theorem y_gnil:gNil [] σ H Q=Q σ H:=propext ⟨fun h=>h.2,fun h=>⟨rfl,h⟩⟩
theorem y_gcons:gCons g gs (v::l) σ H Q=g v σ H fun σ' H'=>gs l σ' H' Q:=propext ⟨fun⟨a,b,e,q⟩=>by cases e;exact q,fun q=>⟨_,_,rfl,q⟩⟩
theorem y_gtup{n:Nat}:gTupH n gs (.ref p) σ H Q=match H p with|some (.tup xs)=>(xs.length=n/\gs xs σ H Q)|_=>False:=by
 refine propext ⟨fun⟨a,xs,e,h,q⟩=>?_,fun q=>?_⟩
 ·cases e;rw[h];exact q
 ·split at q
  ·exact⟨_,_,rfl,‹_›,q⟩
  ·exact q.elim
end
theorem y_ixT:rIxTH (.ref p) (.int i) H Q=match H p with|some (.tup xs)=>yX xs i fun v=>Q v H|_=>False:=by
 refine propext ⟨fun⟨a,xs,k,v,e,f,h,g,q⟩=>?_,fun q=>?_⟩
 ·cases e;cases f;rw[h];exact⟨v,g,q⟩
 ·split at q
  ·obtain⟨v,g,q⟩:=q;exact⟨_,_,_,v,rfl,rfl,‹_›,g,q⟩
  ·exact q.elim
theorem y_ixL:rIxLH (.ref p) (.int i) H Q=match H p with|some (.lst xs)=>yX xs i fun v=>Q v H|_=>False:=by
 refine propext ⟨fun⟨a,xs,k,v,e,f,h,g,q⟩=>?_,fun q=>?_⟩
 ·cases e;cases f;rw[h];exact⟨v,g,q⟩
 ·split at q
  ·obtain⟨v,g,q⟩:=q;exact⟨_,_,_,v,rfl,rfl,‹_›,g,q⟩
  ·exact q.elim
theorem y_len:rLenH [.ref p] H Q=match H p with|some (.lst ys)=>Q (.int ys.length) H|some (.tup ys)=>Q (.int ys.length) H|_=>False:=by
 refine propext ⟨fun⟨a,xs,e,h,q⟩=>?_,fun q=>?_⟩
 ·cases e;rcases h with h|h<;>(rw[h];exact q)
 ·split at q
  ·exact⟨_,_,rfl,.inl ‹_›,q⟩
  ·exact⟨_,_,rfl,.inr ‹_›,q⟩
  ·exact q.elim
theorem y_list:rListH [.ref p] H Q=match H p with|some (.lst ys)=>(∀l,H l=none->Q (.ref l) (upd H l (.lst ys)))|some (.tup ys)=>(∀l,H l=none->Q (.ref l) (upd H l (.lst ys)))|_=>False:=by
 refine propext ⟨fun⟨a,xs,e,h,q⟩=>?_,fun q=>?_⟩
 ·cases e;rcases h with h|h<;>(rw[h];exact q)
 ·split at q
  ·exact⟨_,_,rfl,.inl ‹_›,q⟩
  ·exact⟨_,_,rfl,.inr ‹_›,q⟩
  ·exact q.elim
theorem y_slH{lo hi:Option Int}:rSlH (.ref p) lo hi H Q=match H p with|some (.lst xs)=>(∀q,H q=none->Q (.ref q) (upd H q (.lst (cutV xs lo hi))))|_=>False:=by
 refine propext ⟨fun⟨a,xs,e,h,q⟩=>?_,fun q=>?_⟩
 ·cases e;rw[h];exact q
 ·split at q
  ·exact⟨_,_,rfl,‹_›,q⟩
  ·exact q.elim
theorem y_isi{T:String}:rIsiF T [x,.ty T] H Q=match tyF H x with|some S=>Q (.bl (isiB S T)) H|none=>False:=by
 refine propext ⟨fun⟨a,S,e,h,q⟩=>?_,fun q=>?_⟩
 ·cases e;rw[h];exact q
 ·split at q
  ·exact⟨_,_,rfl,‹_›,q⟩
  ·exact q.elim
theorem y_append:rAppend (.ref p) [y] H Q=match H p with|some (.lst xs)=>(xs.length<sizeLine/\Q .non (upd H p (.lst (xs++[y]))))|_=>False:=by
 refine propext ⟨fun⟨a,xs,z,e,f,h,q⟩=>?_,fun q=>?_⟩
 ·cases e;cases f;rw[h];exact q
 ·split at q
  ·exact⟨_,_,_,rfl,rfl,‹_›,q⟩
  ·exact q.elim
theorem y_clear:rClear (.ref p) [] H Q=match H p with|some (.lst xs)=>Q .non (upd H p (.lst []))|_=>False:=by
 refine propext ⟨fun⟨a,xs,e,f,h,q⟩=>?_,fun q=>?_⟩
 ·cases e;rw[h];exact q
 ·split at q
  ·exact⟨_,_,rfl,rfl,‹_›,q⟩
  ·exact q.elim
theorem ym_tup{o:Option HO}{Q:List V->Prop}:(match o with|some (.tup xs)=>Q xs|_=>False)=∃xs,o=some (.tup xs)/\Q xs:=by
 refine propext ⟨fun q=>?_,fun⟨xs,e,q⟩=>by subst e;exact q⟩
 split at q
 ·exact⟨_,rfl,q⟩
 ·exact q.elim
theorem ym_lst{o:Option HO}{Q:List V->Prop}:(match o with|some (.lst xs)=>Q xs|_=>False)=∃xs,o=some (.lst xs)/\Q xs:=by
 refine propext ⟨fun q=>?_,fun⟨xs,e,q⟩=>by subst e;exact q⟩
 split at q
 ·exact⟨_,rfl,q⟩
 ·exact q.elim
theorem ym_two{o:Option HO}{Q:List V->Prop}:(match o with|some (.lst xs)=>Q xs|some (.tup xs)=>Q xs|_=>False)=∃xs,(o=some (.lst xs)∨o=some (.tup xs))/\Q xs:=by
 refine propext ⟨fun q=>?_,fun⟨xs,e,q⟩=>by rcases e with e|e<;>(subst e;exact q)⟩
 split at q
 ·exact⟨_,.inl rfl,q⟩
 ·exact⟨_,.inr rfl,q⟩
 ·exact q.elim
theorem ym_ty{o:Option String}{Q:String->Prop}:(match o with|some S=>Q S|none=>False)=∃S,o=some S/\Q S:=by
 refine propext ⟨fun q=>?_,fun⟨xs,e,q⟩=>by subst e;exact q⟩
 split at q
 ·exact⟨_,rfl,q⟩
 ·exact q.elim
section
variable{Q:Option Int->Hp->Prop}
theorem y_nopart:znx σ H Q=Q none H:=rfl
theorem y_part:tPart te σ H Q=te σ H fun x H1=>yI x fun i=>Q (some i) H1:=rfl
end
theorem y_sl{r:V->Option Int->Option Int->Hp->VK->Prop}{tl th:TO}:tSl r te tl th σ H Q=te σ H fun x H1=>tl σ H1 fun l H2=>th σ H2 fun u H3=>r x l u H3 Q:=rfl
theorem y_bm0{K:PySem.W.Frag}{T:String}{r:V->List V->Hp->VK->Prop}:tBM0 K T r te σ H Q=te σ H fun x H1=>tyV K T x H1/\r x [] H1 Q:=rfl
theorem y_bm{K:PySem.W.Frag}{T:String}{r:V->List V->Hp->VK->Prop}:tBM K T r te a σ H Q=te σ H fun x H1=>tyV K T x H1/\a σ H1 fun xs H2=>r x xs H2 Q:=rfl
theorem y_v0:tVar 0 (some v::σ) H Q=Q v H:=propext ⟨fun⟨_,e,q⟩=>by cases e;exact q,fun q=>⟨v,rfl,q⟩⟩
theorem y_n0{a0:Option V}{Q:St->Hp->Prop}:gName 0 v (a0::σ) H Q=Q (some v::σ) H:=rfl
theorem y_v1{a0:Option V}:tVar 1 (a0::some v::σ) H Q=Q v H:=propext ⟨fun⟨_,e,q⟩=>by cases e;exact q,fun q=>⟨v,rfl,q⟩⟩
theorem y_n1{a0 a1:Option V}{Q:St->Hp->Prop}:gName 1 v (a0::a1::σ) H Q=Q (a0::some v::σ) H:=rfl
theorem y_v2{a0 a1:Option V}:tVar 2 (a0::a1::some v::σ) H Q=Q v H:=propext ⟨fun⟨_,e,q⟩=>by cases e;exact q,fun q=>⟨v,rfl,q⟩⟩
theorem y_n2{a0 a1 a2:Option V}{Q:St->Hp->Prop}:gName 2 v (a0::a1::a2::σ) H Q=Q (a0::a1::some v::σ) H:=rfl
theorem y_v3{a0 a1 a2:Option V}:tVar 3 (a0::a1::a2::some v::σ) H Q=Q v H:=propext ⟨fun⟨_,e,q⟩=>by cases e;exact q,fun q=>⟨v,rfl,q⟩⟩
theorem y_n3{a0 a1 a2 a3:Option V}{Q:St->Hp->Prop}:gName 3 v (a0::a1::a2::a3::σ) H Q=Q (a0::a1::a2::some v::σ) H:=rfl
theorem y_v4{a0 a1 a2 a3:Option V}:tVar 4 (a0::a1::a2::a3::some v::σ) H Q=Q v H:=propext ⟨fun⟨_,e,q⟩=>by cases e;exact q,fun q=>⟨v,rfl,q⟩⟩
theorem y_n4{a0 a1 a2 a3 a4:Option V}{Q:St->Hp->Prop}:gName 4 v (a0::a1::a2::a3::a4::σ) H Q=Q (a0::a1::a2::a3::some v::σ) H:=rfl
theorem y_v5{a0 a1 a2 a3 a4:Option V}:tVar 5 (a0::a1::a2::a3::a4::some v::σ) H Q=Q v H:=propext ⟨fun⟨_,e,q⟩=>by cases e;exact q,fun q=>⟨v,rfl,q⟩⟩
theorem y_n5{a0 a1 a2 a3 a4 a5:Option V}{Q:St->Hp->Prop}:gName 5 v (a0::a1::a2::a3::a4::a5::σ) H Q=Q (a0::a1::a2::a3::a4::some v::σ) H:=rfl
theorem y_v6{a0 a1 a2 a3 a4 a5:Option V}:tVar 6 (a0::a1::a2::a3::a4::a5::some v::σ) H Q=Q v H:=propext ⟨fun⟨_,e,q⟩=>by cases e;exact q,fun q=>⟨v,rfl,q⟩⟩
theorem y_n6{a0 a1 a2 a3 a4 a5 a6:Option V}{Q:St->Hp->Prop}:gName 6 v (a0::a1::a2::a3::a4::a5::a6::σ) H Q=Q (a0::a1::a2::a3::a4::a5::some v::σ) H:=rfl
theorem y_v7{a0 a1 a2 a3 a4 a5 a6:Option V}:tVar 7 (a0::a1::a2::a3::a4::a5::a6::some v::σ) H Q=Q v H:=propext ⟨fun⟨_,e,q⟩=>by cases e;exact q,fun q=>⟨v,rfl,q⟩⟩
theorem y_n7{a0 a1 a2 a3 a4 a5 a6 a7:Option V}{Q:St->Hp->Prop}:gName 7 v (a0::a1::a2::a3::a4::a5::a6::a7::σ) H Q=Q (a0::a1::a2::a3::a4::a5::a6::some v::σ) H:=rfl
theorem y_v8{a0 a1 a2 a3 a4 a5 a6 a7:Option V}:tVar 8 (a0::a1::a2::a3::a4::a5::a6::a7::some v::σ) H Q=Q v H:=propext ⟨fun⟨_,e,q⟩=>by cases e;exact q,fun q=>⟨v,rfl,q⟩⟩
theorem y_n8{a0 a1 a2 a3 a4 a5 a6 a7 a8:Option V}{Q:St->Hp->Prop}:gName 8 v (a0::a1::a2::a3::a4::a5::a6::a7::a8::σ) H Q=Q (a0::a1::a2::a3::a4::a5::a6::a7::some v::σ) H:=rfl
theorem y_v9{a0 a1 a2 a3 a4 a5 a6 a7 a8:Option V}:tVar 9 (a0::a1::a2::a3::a4::a5::a6::a7::a8::some v::σ) H Q=Q v H:=propext ⟨fun⟨_,e,q⟩=>by cases e;exact q,fun q=>⟨v,rfl,q⟩⟩
theorem y_n9{a0 a1 a2 a3 a4 a5 a6 a7 a8 a9:Option V}{Q:St->Hp->Prop}:gName 9 v (a0::a1::a2::a3::a4::a5::a6::a7::a8::a9::σ) H Q=Q (a0::a1::a2::a3::a4::a5::a6::a7::a8::some v::σ) H:=rfl
theorem y_v10{a0 a1 a2 a3 a4 a5 a6 a7 a8 a9:Option V}:tVar 10 (a0::a1::a2::a3::a4::a5::a6::a7::a8::a9::some v::σ) H Q=Q v H:=propext ⟨fun⟨_,e,q⟩=>by cases e;exact q,fun q=>⟨v,rfl,q⟩⟩
theorem y_n10{a0 a1 a2 a3 a4 a5 a6 a7 a8 a9 a10:Option V}{Q:St->Hp->Prop}:gName 10 v (a0::a1::a2::a3::a4::a5::a6::a7::a8::a9::a10::σ) H Q=Q (a0::a1::a2::a3::a4::a5::a6::a7::a8::a9::some v::σ) H:=rfl
theorem y_n11{a0 a1 a2 a3 a4 a5 a6 a7 a8 a9 a10 a11:Option V}{Q:St->Hp->Prop}:gName 11 v (a0::a1::a2::a3::a4::a5::a6::a7::a8::a9::a10::a11::σ) H Q=Q (a0::a1::a2::a3::a4::a5::a6::a7::a8::a9::a10::some v::σ) H:=rfl
theorem y_n12{a0 a1 a2 a3 a4 a5 a6 a7 a8 a9 a10 a11 a12:Option V}{Q:St->Hp->Prop}:gName 12 v (a0::a1::a2::a3::a4::a5::a6::a7::a8::a9::a10::a11::a12::σ) H Q=Q (a0::a1::a2::a3::a4::a5::a6::a7::a8::a9::a10::a11::some v::σ) H:=rfl
theorem y_n13{a0 a1 a2 a3 a4 a5 a6 a7 a8 a9 a10 a11 a12 a13:Option V}{Q:St->Hp->Prop}:gName 13 v (a0::a1::a2::a3::a4::a5::a6::a7::a8::a9::a10::a11::a12::a13::σ) H Q=Q (a0::a1::a2::a3::a4::a5::a6::a7::a8::a9::a10::a11::a12::some v::σ) H:=rfl
end
section
variable{K:PySem.W.Frag}{a l l1 l2:Addr}{xs ys:List V}{lo:Int}{n:Nat}{g:TG}{tb:TS}{D:Ends}{σ:St}{H:Hp}
theorem zaz(Pv:Nat->St->Hp->Prop)(h0:Pv 0 σ H)(hl:∀i σ H,i<=xs.length->Pv i σ H->SqL K H a xs)(hs:∀bk ct i x σ H,xs[i]?=some x->Pv i σ H->g x σ H fun σ2 H2=>tb {D with nx:=Pv (i+1),ct:=ct,bk:=bk} σ2 H2)(hd:∀σ H,Pv xs.length σ H->D.nx σ H):ForW (Itl K a) g tb D σ H:=for_list Pv h0 hl (fun i=>hs D.nx (Pv (i+1)) i) hd
theorem ze6(Pv:Nat->St->Hp->Prop)(h0:Pv 0 σ H)(hs:∀bk ct i σ H,i<n->Pv i σ H->g (.int (lo+i)) σ H fun σ2 H2=>tb {D with nx:=Pv (i+1),ct:=ct,bk:=bk} σ2 H2)(hd:∀σ H,Pv n σ H->D.nx σ H):ForW (Itr lo n) g tb D σ H:=zoc Pv h0 (fun i=>hs D.nx (Pv (i+1)) i) hd
end
end L2
namespace My
def G(a b:Int):Int:=(Int.gcd a b:Nat)
theorem G_nonneg(a b:Int):0<=G a b:=Int.natCast_nonneg _
end My
namespace My
theorem zcd{a b:Int}(h:b ∣ a):a.fdiv b*b=a:=by
 have e:=Int.fmod_add_mul_fdiv a b;have z:a.fmod b=0:=Int.fmod_eq_zero_of_dvd h;rw[z] at e;rw[Int.mul_comm];omega
theorem zcj{x f y:Int}(e:x*f=y)(hf:f≠0):x.natAbs<=y.natAbs:=by
 rw[←e,Int.natAbs_mul];exact Nat.le_mul_of_pos_right _ (by omega)
theorem zmk{x f y:Int}(e:x*f=y)(h:(0<f/\0<y)∨(f<0/\y<0)):0<x:=by
 rcases(by omega:0<x∨x=0∨x<0) with hx|hx|hx
 ·exact hx
 ·rw[hx,Int.zero_mul] at e;omega
 ·exfalso
  rcases h with⟨h1,h2⟩|⟨h1,h2⟩
  ·have:=Int.mul_neg_of_neg_of_pos hx h1;omega
  ·have:=Int.mul_pos_of_neg_of_neg hx h1;omega
theorem zgv{a b:Int}{m n:Nat}(h1:a.natAbs<2^m)(h2:b.natAbs<2^n):(a*b).natAbs<2^(m+n):=by
 rw[Int.natAbs_mul,Nat.pow_add];exact Nat.mul_lt_mul'' h1 h2
theorem zn9{a b:Int}{m:Nat}(h1:a.natAbs<2^m)(h2:b.natAbs<2^m):(a-b).natAbs<2^(m+1):=by
 rw[Nat.pow_succ];omega
theorem zdc{a:Int}{m n:Nat}(h:a.natAbs<2^m)(hm:m<=n):a.natAbs<2^n:=Nat.lt_of_lt_of_le h (Nat.pow_le_pow_right (by decide) hm)
end My
namespace My
end My
namespace My
end My
namespace My
def g3(a b c:Int):Nat:=Nat.gcd (Nat.gcd a.natAbs b.natAbs) c.natAbs
theorem G_nat(a b:Int):(G a b).natAbs=Nat.gcd a.natAbs b.natAbs:=by unfold G;rw[Int.natAbs_natCast];rfl
theorem G3(a b c:Int):G (G a b) c=(g3 a b c:Int):=by
 have h:(G (G a b) c).natAbs=g3 a b c:=by rw[G_nat,G_nat];rfl
 have h0:=G_nonneg (G a b) c;omega
theorem znb(a b c f:Int):g3 (a*f) (b*f) (c*f)=g3 a b c*f.natAbs:=by
 unfold g3;rw[Int.natAbs_mul,Int.natAbs_mul,Int.natAbs_mul,Nat.gcd_mul_right,Nat.gcd_mul_right]
theorem g3_pos{a b c:Int}(h:c≠0):0<g3 a b c:=by
 unfold g3;exact Nat.gcd_pos_of_pos_right _ (by omega)
theorem g3_da(a b c:Int):((g3 a b c:Nat):Int) ∣ a:=Int.ofNat_dvd_left.mpr (Nat.dvd_trans (Nat.gcd_dvd_left _ _) (Nat.gcd_dvd_left _ _))
theorem g3_db(a b c:Int):((g3 a b c:Nat):Int) ∣ b:=Int.ofNat_dvd_left.mpr (Nat.dvd_trans (Nat.gcd_dvd_left _ _) (Nat.gcd_dvd_right _ _))
theorem g3_dc(a b c:Int):((g3 a b c:Nat):Int) ∣ c:=Int.ofNat_dvd_left.mpr (Nat.gcd_dvd_right _ _)
structure Pt(n:Nat)(x y w:Int):Prop where
 pos:0<w
 one:g3 x y w=1
 lx:x.natAbs<2^n
 ly:y.natAbs<2^n
 lw:w.natAbs<2^n
theorem Pt.ne{n:Nat}{x y w:Int}(h:Pt n x y w):w≠0:=by have:=h.pos;omega
theorem Pt.mono{m n:Nat}{x y w:Int}(h:Pt m x y w)(hm:m<=n):Pt n x y w:=⟨h.pos,h.one,zdc h.lx hm,zdc h.ly hm,zdc h.lw hm⟩
theorem pt_of{n:Nat}{x y w f:Int}(hf:f.natAbs=g3 x y w)(hs:(0<f/\0<w)∨(f<0/\w<0))(lx:x.natAbs<2^n)(ly:y.natAbs<2^n)(lw:w.natAbs<2^n):Pt n (x.fdiv f) (y.fdiv f) (w.fdiv f):=by
 have hd:∀z:Int,((g3 x y w:Nat):Int) ∣ z->f ∣ z:=fun z h=>by
  rw[←hf] at h;exact Int.natAbs_dvd.mp h
 have ex:=zcd (hd x (g3_da x y w));have ey:=zcd (hd y (g3_db x y w));have ew:=zcd (hd w (g3_dc x y w));have hw:w≠0:=by omega
 have fn:f≠0:=by omega
 refine⟨zmk ew hs,?_,Nat.lt_of_le_of_lt (zcj ex fn) lx,Nat.lt_of_le_of_lt (zcj ey fn) ly,Nat.lt_of_le_of_lt (zcj ew fn) lw⟩;have e:=znb (x.fdiv f) (y.fdiv f) (w.fdiv f) f;rw[ex,ey,ew,hf] at e;have hp:=g3_pos (a:=x) (b:=y) hw;have e':1*g3 x y w=g3 (x.fdiv f) (y.fdiv f) (w.fdiv f)*g3 x y w:=by omega
 exact(Nat.eq_of_mul_eq_mul_right hp e').symm
end My
namespace My
theorem g3_gt{x y w:Int}(hw:0<w):0<G (G x y) w:=by
 rw[G3];have:=g3_pos (a:=x) (b:=y) (c:=w) (by omega)
 omega
theorem g3_ne{x y w:Int}(hw:0<w):G (G x y) w≠0:=by have:=g3_gt (x:=x) (y:=y) hw;omega
theorem g3_abs(x y w:Int):(G (G x y) w).natAbs=g3 x y w:=by rw[G3];simp
theorem g3_lt{n:Nat}{x y w:Int}(hw:0<w)(lw:w.natAbs<2^n):(G (G x y) w).natAbs<2^n:=by
 rw[g3_abs];exact Nat.lt_of_le_of_lt (Nat.le_of_dvd (by omega) (Nat.gcd_dvd_right _ _)) lw
theorem g3_pt{n:Nat}{x y w:Int}(hw:0<w)(lx:x.natAbs<2^n)(ly:y.natAbs<2^n)(lw:w.natAbs<2^n):Pt n (x.fdiv (G (G x y) w)) (y.fdiv (G (G x y) w)) (w.fdiv (G (G x y) w)):=
 pt_of (g3_abs x y w) (.inl ⟨g3_gt hw,hw⟩) lx ly lw
end My
namespace My
end My
namespace My
def sgn(z:Int):Int:=if 0<z then 1 else if z<0 then-1 else 0
def bef(x1 y1 w1 x2 y2 w2:Int):Bool:=if x1*w2=x2*w1 then decide (y1*w2<y2*w1) else decide (x1*w2<x2*w1)
theorem zky{a b c u v w:Int}(hu:0<u)(hv:0<v)(hw:0<w)(h1:a*v<=b*u)(h2:b*w<=c*v):a*w<=c*u/\((a*v<b*u∨b*w<c*v)->a*w<c*u):=by
 have e1:(a*v)*w<=(b*u)*w:=Int.mul_le_mul_of_nonneg_right h1 (Int.le_of_lt hw);have e2:(b*w)*u<=(c*v)*u:=Int.mul_le_mul_of_nonneg_right h2 (Int.le_of_lt hu);have i1:v*(a*w)=(a*v)*w:=by grind
 have i2:v*(c*u)=(c*v)*u:=by grind
 have i3:(b*u)*w=(b*w)*u:=by grind
 refine⟨Int.le_of_mul_le_mul_left (by omega) hv,fun h=>Int.lt_of_mul_lt_mul_left (a:=v) ?_ (Int.le_of_lt hv)⟩
 rcases h with h|h
 ·have:=Int.mul_lt_mul_of_pos_right h hw;omega
 ·have:=Int.mul_lt_mul_of_pos_right h hu;omega
theorem bef_irr(x y w:Int):bef x y w x y w=false:=by
 unfold bef;rw[if_pos rfl];exact decide_eq_false (by omega)
theorem zev{x1 y1 w1 x2 y2 w2:Int}:bef x1 y1 w1 x2 y2 w2=true↔(x1*w2<x2*w1∨(x1*w2=x2*w1/\y1*w2<y2*w1)):=by
 unfold bef
 split
 ·rename_i h
  rw[decide_eq_true_iff];omega
 ·rename_i h
  rw[decide_eq_true_iff];omega
theorem znq{x1 y1 w1 x2 y2 w2:Int}:bef x1 y1 w1 x2 y2 w2=false↔(x2*w1<x1*w2∨(x1*w2=x2*w1/\y2*w1<=y1*w2)):=by
 rw[←Bool.not_eq_true,zev];omega
theorem znz{x1 y1 w1 x2 y2 w2 x3 y3 w3:Int}(h1:0<w1)(h2:0<w2)(h3:0<w3)(a:bef x1 y1 w1 x2 y2 w2=true)(b:bef x2 y2 w2 x3 y3 w3=true):bef x1 y1 w1 x3 y3 w3=true:=by
 rw[zev] at a b⊢;have X:=zky (a:=x1) (b:=x2) (c:=x3) h1 h2 h3 (by omega) (by omega)
 rcases a with a|⟨a,a'⟩
 ·exact .inl (X.2 (.inl a))
 ·rcases b with b|⟨b,b'⟩
  ·exact .inl (X.2 (.inr b))
  ·have X':=zky (a:=x3) (b:=x2) (c:=x1) h3 h2 h1 (by omega) (by omega)
   have Y:=zky (a:=y1) (b:=y2) (c:=y3) h1 h2 h3 (by omega) (by omega)
   exact .inr ⟨Int.le_antisymm X.1 X'.1,Y.2 (.inl a')⟩
theorem pt_uniq{n:Nat}{x1 y1 w1 x2 y2 w2:Int}(p:Pt n x1 y1 w1)(q:Pt n x2 y2 w2)(ex:x1*w2=x2*w1)(ey:y1*w2=y2*w1):x1=x2/\y1=y2/\w1=w2:=by
 have a:=znb x1 y1 w1 w2;have b:=znb x2 y2 w2 w1;rw[p.one,Nat.one_mul] at a;rw[q.one,Nat.one_mul] at b;rw[ex,ey,Int.mul_comm w1 w2] at a;have hw:w1=w2:=by
  have:=p.pos;have:=q.pos;omega
 subst hw;exact⟨Int.eq_of_mul_eq_mul_right p.ne ex,Int.eq_of_mul_eq_mul_right p.ne ey,rfl⟩
theorem bef_tri{n:Nat}{x1 y1 w1 x2 y2 w2:Int}(p:Pt n x1 y1 w1)(q:Pt n x2 y2 w2)(h:bef x1 y1 w1 x2 y2 w2=bef x2 y2 w2 x1 y1 w1):x1=x2/\y1=y2/\w1=w2:=by
 cases e:bef x1 y1 w1 x2 y2 w2 with
 |true=>
  have e':=h.symm.trans e;rw[zev] at e e';omega
 |false=>
  have e':=h.symm.trans e;rw[znq] at e e';exact pt_uniq p q (by omega) (by omega)
def lnA(x1 y1 w1 x2 y2 w2:Int):Int:=y1*w2-w1*y2
def lnB(x1 y1 w1 x2 y2 w2:Int):Int:=w1*x2-x1*w2
def lnC(x1 y1 w1 x2 y2 w2:Int):Int:=x1*y2-y1*x2
def det3(x1 y1 w1 x2 y2 w2 x3 y3 w3:Int):Int:=lnA x1 y1 w1 x2 y2 w2*x3+lnB x1 y1 w1 x2 y2 w2*y3+lnC x1 y1 w1 x2 y2 w2*w3
end My
namespace My
end My
namespace My
end My
namespace My
end My
namespace My
theorem G_fmod(x y:Int):G y (x.fmod y)=G x y:=by
 unfold G;rw[Int.gcd_comm x y];have e:x.fmod y+x.fdiv y*y=x:=by rw[Int.mul_comm];exact Int.fmod_add_mul_fdiv x y
 rw[←Int.gcd_add_mul_right_right y (x.fmod y) (x.fdiv y),e]
theorem zmn{x y:Int}(h:y≠0):(x.fmod y).natAbs<y.natAbs:=by
 have h0:=Int.emod_nonneg x h;have h1:=Int.emod_lt x h;rw[Int.fmod_eq_emod]
 split
 ·omega
 ·rename_i c
  have hn:x%y≠0:=fun z=>c (.inr (Int.dvd_of_emod_eq_zero z));have hy:¬0<=y:=fun z=>c (.inl z);omega
theorem G_end(x:Int):(if x<0 then-x else x)=G x 0:=by
 unfold G;rw[Int.gcd_zero_right]
 split<;>omega
end My
namespace My
structure Q3 where
 x:Int
 y:Int
 w:Int
deriving DecidableEq
theorem sc{s A B C u v w:Int}(e:A*u=B*v+C*w):A*(s*u)=B*(s*v)+C*(s*w):=by
 have:A*(s*u)=s*(A*u):=by grind
 rw[this,e]
 grind
end My
namespace My
theorem fl_lt{a b c d G:Int}(hb:0<b)(hd:0<d)(h:a*d<c*b)(hG:b*d<=G):a*G/b<c*G/d:=by
 have g0:0<=G:=Int.le_trans (Int.le_of_lt (Int.mul_pos hb hd)) hG;have h0:a*G/b*b<=a*G:=Int.ediv_mul_le _ (by omega)
 have h1:=Int.mul_le_mul_of_nonneg_right h0 (Int.le_of_lt hd);have h2:G*(a*d+1)<=G*(c*b):=Int.mul_le_mul_of_nonneg_left (by omega) g0
 refine Int.lt_of_lt_of_le (Int.lt_succ _) (Int.le_ediv_of_mul_le hd (Int.le_of_mul_le_mul_right ?_ hb));generalize a*G/b=A at*
 calc (A+1)*d*b=A*b*d+b*d:=by grind
  _<=a*G*d+G:=Int.add_le_add h1 hG
  _=G*(a*d+1):=by grind
  _<=G*(c*b):=h2
  _=c*G*b:=by grind
theorem fl_eq{a b c d G:Int}(hb:0<b)(hd:0<d)(h:a*d=c*b):a*G/b=c*G/d:=by
 have e1:a*G/b=(a*G*d)/(b*d):=(Int.mul_ediv_mul_of_pos_left (a*G) b hd).symm;have e2:c*G/d=(c*G*b)/(d*b):=(Int.mul_ediv_mul_of_pos_left (c*G) d hb).symm;rw[e1,e2,Int.mul_comm d b]
 congr 1
 have:a*G*d=G*(a*d):=by grind
 rw[this,h]
 grind
def bq(a b:Q3):Bool:=bef a.x a.y a.w b.x b.y b.w
def PQ(n:Nat)(a:Q3):Prop:=Pt n a.x a.y a.w
theorem zpd{n:Nat}{a b:Q3}(ha:PQ n a)(hb:PQ n b)(h1:bq a b=false)(h2:bq b a=false):a=b:=by
 obtain⟨e1,e2,e3⟩:=bef_tri ha hb (h1.trans h2.symm);obtain⟨x,y,w⟩:=a;obtain⟨x',y',w'⟩:=b
 simp only at e1 e2 e3
 rw[e1,e2,e3]
def kyQ(g:Int)(r:Q3):Int×Int:=(r.x*(g*g)/r.w,r.y*(g*g)/r.w)
theorem ky_lt{a b:Q3}{g:Int}(ha:0<a.w)(hb:0<b.w)(ga:a.w<=g)(gb:b.w<=g)(h:bq a b=true):L2.lt2 (kyQ g a) (kyQ g b)=true:=by
 have hG:a.w*b.w<=g*g:=Int.mul_le_mul ga gb (Int.le_of_lt hb) (Int.le_trans (Int.le_of_lt ha) ga);unfold bq at h;rw[zev] at h;unfold L2.lt2 L2.lexB kyQ;rcases h with h|⟨h,h'⟩
 ·have:=fl_lt ha hb h hG;rw[if_neg (by omega)]
  exact decide_eq_true this
 ·rw[if_pos (fl_eq ha hb h)];exact decide_eq_true (fl_lt ha hb h' hG)
end My
namespace Mine
open PySem L2 My
local macro_rules
  | `(tactic| simp! [$xs,*]) => do let f := fun (s : String) => (s.splitOn " ").toArray.map fun x => Lean.mkIdent x.toName; let p := f "y_next y_seq y_ret y_ifS y_asg y_drop y_par y_c y_op y_un y_rI y_rI0 y_rU y_eq y_ne y_test y_B y_not y_or y_yes y_andV y_cb y_call y_nil y_cons y_tup y_lst y_gnil y_gcons y_gtup y_ixT y_ixL y_len y_list y_slH y_isi y_append y_clear y_nopart y_part y_sl y_bm0 y_bm yB_bl yI_int yTw_two yX_0 yX_1 yX_2 y_v0 y_v1 y_v2 y_v3 y_v4 y_v5 y_v6 y_v7 y_v8 y_v9 y_v10 y_n0 y_n1 y_n2 y_n3 y_n4 y_n5 y_n6 y_n7 y_n8 y_n9 y_n10 y_n11 y_n12 y_n13"; let q := f "yB yI yTw yX yJ ym_tup ym_lst ym_two ym_ty gName tVar rI rI0 rU rEq rNe gTup gCons gNil L2.start rIsi rIxT rIxL cx_K tyN_non tyN_bl tyN_int tyN_str isi_ll scal_ii scal_bb sz0 sz1 sz2 sz3 List.map_cons List.map_nil List.length_cons List.length_nil List.replicate List.cons_append List.nil_append List.append_nil List.getElem?_cons_zero List.getElem?_cons_succ List.set_cons_zero List.set_cons_succ Option.some.injEq V.int.injEq V.bl.injEq V.ref.injEq V.ty.injEq List.cons.injEq and_true true_and exists_eq_left exists_eq_left' exists_and_left exists_and_right exists_eq exists_eq' and_assoc Nat.reduceAdd Nat.reduceSub Bool.not_true Bool.not_false Bool.false_eq_true if_true if_false reduceIte Nat.zero_add decide_true decide_false selC comp_K Option.join_some rIxTH rIxLH rLenH rIsiF at0 at1 at2 at3 at4 HO.tup.injEq HO.lst.injEq reduceCtorEq false_or or_false tyF_non tyF_bl tyF_int tyF_str exists_const Int.reduceAdd Int.reduceMul Int.reduceSub rSlH upd_same upd_upd rListH rAppend rClear gTupH"; `(tactic| simp only [$[↓$p:term],*, $[$q:term],*, $xs,*])
local macro_rules
  | `(tactic| dsimp! [$xs,*]) => `(tactic| simp only [List.map_cons, List.map_nil, List.length_cons, List.length_nil, List.replicate, List.cons_append, List.nil_append, Nat.reduceAdd, Nat.reduceSub, Nat.zero_add, $xs,*])
def top(i:Nat):Stmt:=PySem.Challenge.pw_acre_k41_fences_in_rings.main.body.getD i (.Pass ⟨0,0,0,0⟩)
abbrev zbz:Stmt:=top 1
theorem zgd:zae ["P","Q","left","right"] ["P","Q"] (za0 zbz):=⟨rfl,rfl,rfl,by decide+kernel,rfl,by decide+kernel,by decide+kernel⟩
abbrev zc8:Stmt:=top 2
theorem zms:zae ["number"] ["number"] (za0 zc8):=⟨rfl,rfl,rfl,by decide+kernel,rfl,by decide+kernel,by decide+kernel⟩
abbrev zc6:Stmt:=top 3
theorem zmu:zae ["P","Q"] ["P","Q"] (za0 zc6):=⟨rfl,rfl,rfl,by decide+kernel,rfl,by decide+kernel,by decide+kernel⟩
abbrev zcb:Stmt:=top 4
theorem zmd:zae ["line","P"] ["line","P"] (za0 zcb):=⟨rfl,rfl,rfl,by decide+kernel,rfl,by decide+kernel,by decide+kernel⟩
abbrev zey:Stmt:=top 5
theorem sc_turn:zae ["P","Q","R"] ["P","Q","R"] (za0 zey):=⟨rfl,rfl,rfl,by decide+kernel,rfl,by decide+kernel,by decide+kernel⟩
abbrev zaq:Stmt:=top 6
theorem zc9:zae ["points","greatest","scale","keys","P"] ["points"] (za0 zaq):=⟨rfl,rfl,rfl,by decide+kernel,rfl,by decide+kernel,by decide+kernel⟩
abbrev zag:Stmt:=top 7
theorem zd6:zae ["things","points","thing","keys"] ["things"] (za0 zag):=⟨rfl,rfl,rfl,by decide+kernel,rfl,by decide+kernel,by decide+kernel⟩
abbrev zbh:Stmt:=top 9
theorem zcz:zae ["land","leaving","gone","rings","fence"] ["land"] (za0 zbh):=⟨rfl,rfl,rfl,by decide+kernel,rfl,by decide+kernel,by decide+kernel⟩
abbrev zay:Stmt:=top 10
theorem zcn:zae ["land","leaving","P","Q"] ["land"] (za0 zay):=⟨rfl,rfl,rfl,by decide+kernel,rfl,by decide+kernel,by decide+kernel⟩
abbrev zbc:Stmt:=top 11
theorem zap:zae ["start","leaving","gone","rings","way","places","fence","P","ring","Q"] ["start","leaving","gone"] (za0 zbc):=⟨rfl,rfl,rfl,by decide+kernel,rfl,by decide+kernel,by decide+kernel⟩
abbrev zan:Stmt:=top 12
theorem zce:zae ["P","Q","tips","best","tip"] ["P","Q","tips"] (za0 zan):=⟨rfl,rfl,rfl,by decide+kernel,rfl,by decide+kernel,by decide+kernel⟩
abbrev zah:Stmt:=top 13
theorem zci:zae ["P","Q","one","other","side","other_side"] ["P","Q","one","other"] (za0 zah):=⟨rfl,rfl,rfl,by decide+kernel,rfl,by decide+kernel,by decide+kernel⟩
abbrev zaw:Stmt:=top 14
theorem zcq:zae ["ring","least","k"] ["ring"] (za0 zaw):=⟨rfl,rfl,rfl,by decide+kernel,rfl,by decide+kernel,by decide+kernel⟩
abbrev zbr:Stmt:=top 16
theorem zem:zae ["_law_script","_law_k","_law_number"] ["_law_script","_law_k"] (za0 zbr):=⟨rfl,rfl,rfl,by decide+kernel,rfl,by decide+kernel,by decide+kernel⟩
abbrev zao:Stmt:=top 17
theorem zef:zae ["_law_one","_law_other"] ["_law_one","_law_other"] (za0 zao):=⟨rfl,rfl,rfl,by decide+kernel,rfl,by decide+kernel,by decide+kernel⟩
abbrev zbe:Stmt:=top 18
theorem zfo:zae ["_law_east","_law_north","_law_share","_law_many"] ["_law_east","_law_north","_law_share"] (za0 zbe):=⟨rfl,rfl,rfl,by decide+kernel,rfl,by decide+kernel,by decide+kernel⟩
abbrev zb9:Stmt:=top 19
theorem ze2:zae ["_law_script","_law_wide","_law_high","_law_cells_here","_law_k"] ["_law_script","_law_wide","_law_high"] (za0 zb9):=⟨rfl,rfl,rfl,by decide+kernel,rfl,by decide+kernel,by decide+kernel⟩
abbrev zbs:Stmt:=top 20
theorem zdm:zae ["_law_cell_here","_law_x","_law_y","_law_rim"] ["_law_cell_here"] (za0 zbs):=⟨rfl,rfl,rfl,by decide+kernel,rfl,by decide+kernel,by decide+kernel⟩
abbrev zb1:Stmt:=top 21
theorem zch:zae ["_law_cells_here","_law_sides_here","_law_cell_here","_law_ends_here","_law_k"] ["_law_cells_here"] (za0 zb1):=⟨rfl,rfl,rfl,by decide+kernel,rfl,by decide+kernel,by decide+kernel⟩
abbrev zaj:Stmt:=top 22
theorem zdz:zae ["_law_starts","_law_begin","_law_end","_law_behind"] ["_law_starts","_law_begin","_law_end"] (za0 zaj):=⟨rfl,rfl,rfl,by decide+kernel,rfl,by decide+kernel,by decide+kernel⟩
abbrev zb6:Stmt:=top 23
theorem zar:zae ["_law_edges_here","_law_starts","_law_first","_law_last","_law_ways","_law_back","_law_begin","_law_end"] ["_law_edges_here"] (za0 zb6):=⟨rfl,rfl,rfl,by decide+kernel,rfl,by decide+kernel,by decide+kernel⟩
abbrev zba:Stmt:=top 24
theorem zb8:zae ["_law_script","_law_cell_here","_law_p","_law_q","_law_r","_law_far","_law_share"] ["_law_script"] (za0 zba):=⟨rfl,rfl,rfl,by decide+kernel,rfl,by decide+kernel,by decide+kernel⟩
abbrev zbf:Stmt:=top 25
theorem zfm:zae ["_law_place","_law_frame_here","_law_east"] ["_law_place","_law_frame_here"] (za0 zbf):=⟨rfl,rfl,rfl,by decide+kernel,rfl,by decide+kernel,by decide+kernel⟩
abbrev zbj:Stmt:=top 26
theorem zge:zae ["_law_cells_here","_law_frame_here","_law_ways"] ["_law_cells_here","_law_frame_here"] (za0 zbj):=⟨rfl,rfl,rfl,by decide+kernel,rfl,by decide+kernel,by decide+kernel⟩
abbrev zbg:Stmt:=top 27
theorem zke:zae ["_law_ways","_law_share"] ["_law_ways","_law_share"] (za0 zbg):=⟨rfl,rfl,rfl,by decide+kernel,rfl,by decide+kernel,by decide+kernel⟩
abbrev zbb:Stmt:=top 28
theorem zbn:zae ["_law_found","_law_back","_law_ways","_law_left","_law_way","_law_ring","_law_k","_law_one","_law_other"] ["_law_found","_law_back","_law_ways"] (za0 zbb):=⟨rfl,rfl,rfl,by decide+kernel,rfl,by decide+kernel,by decide+kernel⟩
abbrev zb2:Stmt:=top 29
theorem zd3:zae ["_law_found","_law_back","_law_begins","_law_ring","_law_places"] ["_law_found","_law_back"] (za0 zb2):=⟨rfl,rfl,rfl,by decide+kernel,rfl,by decide+kernel,by decide+kernel⟩
abbrev zfg:Stmt:=top 30
theorem zdj:zae ["_law_script","_law_cells_here","_law_frame_here","_law_ways","_law_back","_law_first","_law_last","_law_land_here","_law_handed","_law_found","_law_kept","_law_other","_law_ring"] ["_law_script"] (za0 zfg):=⟨rfl,rfl,rfl,by decide+kernel,rfl,by decide+kernel,by decide+kernel⟩
structure FnAt(K:PySem.W.Frag)(mg:Str->Option Value)(x:Str)(st:Stmt)(ps:List Str)(f:Addr)(fd:FuncData):Prop where
 fn:Fun K x x st f fd
 bn:Binds K fd ps []
 mg:mg x=some (.ref f)
structure Txt(K:PySem.W.Frag)(mg:Str->Option Value)(ad:Nat->Addr)(fd:Nat->FuncData):Prop where
 before:FnAt K mg "before" zbz ["P","Q"] (ad 0) (fd 0)
 sign_of:FnAt K mg "sign_of" zc8 ["number"] (ad 1) (fd 1)
 line_of:FnAt K mg "line_of" zc6 ["P","Q"] (ad 2) (fd 2)
 side_of:FnAt K mg "side_of" zcb ["line","P"] (ad 3) (fd 3)
 turn:FnAt K mg "turn" zey ["P","Q","R"] (ad 4) (fd 4)
 order_keys:FnAt K mg "order_keys" zaq ["points"] (ad 5) (fd 5)
 by_points:FnAt K mg "by_points" zag ["things"] (ad 6) (fd 6)
 by_points_c:FunC K "by_points" "by_points" zag (ad 6) (fd 6) (ad 28) (ad 29)
 rings_of:FnAt K mg "rings_of" zbh ["land"] (ad 7) (fd 7)
 leaving_of:FnAt K mg "leaving_of" zay ["land"] (ad 8) (fd 8)
 way_round:FnAt K mg "way_round" zbc ["start","leaving","gone"] (ad 9) (fd 9)
 first_right:FnAt K mg "first_right" zan ["P","Q","tips"] (ad 10) (fd 10)
 is_met_sooner:FnAt K mg "is_met_sooner" zah ["P","Q","one","other"] (ad 11) (fd 11)
 from_least:FnAt K mg "from_least" zaw ["ring"] (ad 12) (fd 12)
 law_cell:FnAt K mg "_law_cell" zbr ["_law_script","_law_k"] (ad 13) (fd 13)
 law_divisor:FnAt K mg "_law_divisor" zao ["_law_one","_law_other"] (ad 14) (fd 14)
 law_point:FnAt K mg "_law_point" zbe ["_law_east","_law_north","_law_share"] (ad 15) (fd 15)
 law_cells:FnAt K mg "_law_cells" zb9 ["_law_script","_law_wide","_law_high"] (ad 16) (fd 16)
 law_ends:FnAt K mg "_law_ends" zbs ["_law_cell_here"] (ad 17) (fd 17)
 law_edges:FnAt K mg "_law_edges" zb1 ["_law_cells_here"] (ad 18) (fd 18)
 law_straight:FnAt K mg "_law_straight" zaj ["_law_starts","_law_begin","_law_end"] (ad 19) (fd 19)
 law_long:FnAt K mg "_law_long" zb6 ["_law_edges_here"] (ad 20) (fd 20)
 law_frame:FnAt K mg "_law_frame" zba ["_law_script"] (ad 21) (fd 21)
 law_moved:FnAt K mg "_law_moved" zbf ["_law_place","_law_frame_here"] (ad 22) (fd 22)
 law_land:FnAt K mg "_law_land" zbj ["_law_cells_here","_law_frame_here"] (ad 23) (fd 23)
 law_told:FnAt K mg "_law_told" zbg ["_law_ways","_law_share"] (ad 24) (fd 24)
 law_sides:FnAt K mg "_law_sides" zbb ["_law_found","_law_back","_law_ways"] (ad 25) (fd 25)
 law_order:FnAt K mg "_law_order" zb2 ["_law_found","_law_back"] (ad 26) (fd 26)
 law:FnAt K mg "law" zfg ["_law_script"] (ad 27) (fd 27)
 b_abs:mg "abs"=none
 b_isinstance:mg "isinstance"=none
 b_len:mg "len"=none
 b_list:mg "list"=none
 b_max:mg "max"=none
 b_min:mg "min"=none
 b_range:mg "range"=none
 b_set:mg "set"=none
 b_sorted:mg "sorted"=none
def zgq:Sp:=fun vs H Q _=>∃a b:Int,vs=[.int a,.int b]/\Q (.int (G a b)) H
def Bd3(n:Nat)(a b c:Int):Prop:=a.natAbs<2^n/\b.natAbs<2^n/\c.natAbs<2^n
def TB(n:Nat)(H:Hp)(p:Addr)(x y w:Int):Prop:=H p=some (.tup [.int x,.int y,.int w])/\Bd3 n x y w
theorem TB.same{n:Nat}{H H':Hp}{p:Addr}{x y w:Int}(h:TB n H p x y w)(g:Same H H'):TB n H' p x y w:=⟨g _ _ h.1,h.2⟩
theorem Pt.bd{m n:Nat}{x y w:Int}(h:Pt m x y w)(hm:m<=n:=by decide):Bd3 n x y w:=⟨zdc h.lx hm,zdc h.ly hm,zdc h.lw hm⟩
def zns:Sp:=fun vs H Q _=>∃(p q:Addr)(x1 y1 w1 x2 y2 w2:Int),vs=[.ref p,.ref q]/\TB 1000 H p x1 y1 w1/\TB 1000 H q x2 y2 w2/\Q (.bl (bef x1 y1 w1 x2 y2 w2)) H
def znh:Sp:=fun vs H Q _=>∃z:Int,vs=[.int z]/\Q (.int (sgn z)) H
def zq0:Sp:=fun vs H Q _=>∃(p q:Addr)(x1 y1 w1 x2 y2 w2:Int),vs=[.ref p,.ref q]/\TB 1000 H p x1 y1 w1/\TB 1000 H q x2 y2 w2/\∀(r:Addr)(H':Hp),Same H H'->
 H' r=some (.tup [.int (lnA x1 y1 w1 x2 y2 w2),.int (lnB x1 y1 w1 x2 y2 w2),.int (lnC x1 y1 w1 x2 y2 w2)])->Q (.ref r) H'
theorem ln_bd{x1 y1 w1 x2 y2 w2:Int}(p:Bd3 1000 x1 y1 w1)(q:Bd3 1000 x2 y2 w2):Bd3 2001 (lnA x1 y1 w1 x2 y2 w2) (lnB x1 y1 w1 x2 y2 w2) (lnC x1 y1 w1 x2 y2 w2):=
 ⟨zn9 (zgv p.2.1 q.2.2) (zgv p.2.2 q.2.1),zn9 (zgv p.2.2 q.1) (zgv p.1 q.2.2),zn9 (zgv p.1 q.2.1) (zgv p.2.1 q.1)⟩
def zon:Sp:=fun vs H Q _=>∃(l p:Addr)(a b c x y w:Int),vs=[.ref l,.ref p]/\H l=some (.tup [.int a,.int b,.int c])/\Bd3 2001 a b c/\H p=some (.tup [.int x,.int y,.int w])/\Bd3 5000 x y w/\Q (.int (sgn (a*x+b*y+c*w))) H
def sp_turn:Sp:=fun vs H Q _=>∃(p q r:Addr)(x1 y1 w1 x2 y2 w2 x3 y3 w3:Int),vs=[.ref p,.ref q,.ref r]/\TB 1000 H p x1 y1 w1/\TB 1000 H q x2 y2 w2/\TB 5000 H r x3 y3 w3/\∀H',Same H H'->Q (.int (sgn (det3 x1 y1 w1 x2 y2 w2 x3 y3 w3))) H'
def zad(H H':Hp):Prop:=∀b xs,H b=some (.tup xs)->H' b=some (.tup xs)
theorem za9{H H':Hp}(g:Same H H'):zad H H':=fun b xs h=>g b _ h
theorem zcg{H:Hp}{D:Addr}{ys:List V}{o:HO}(h:H D=some (.lst ys)):zad H (upd H D o):=fun b xs q=>by
 rw[za5 (zkk q h (by intro z;cases z))]
 exact q
def iv_ldiv(a b:Int)(H₀:Hp):St->Hp->Prop:=fun σ H'=>H'=H₀/\∃x y:Int,σ=[some (.int x),some (.int y)]/\G x y=G a b
structure P3 where
 x:Int
 y:Int
 w:Int
theorem ziq(xs:List V):cutV xs (some 1) none=xs.drop 1:=by
 unfold cutV;rw[show(1:Int)=((1:Nat):Int) from rfl,HT.sIx_nat,HT.sIx_none];rcases xs with _|⟨x,xs⟩
 ·rfl
 ·rw[Nat.min_eq_left (by rw[List.length_cons];omega),List.take_of_length_le (by rw[List.length_drop];omega)]
structure I2 where
 x:Int
 y:Int
def lw(s:Int)(a:I2):P3:=⟨a.x.fdiv (G (G a.x a.y) s),a.y.fdiv (G (G a.x a.y) s),s.fdiv (G (G a.x a.y) s)⟩
theorem zjg{s:Int}(hs:0<s)(a:I2):∃g:Int,0<g/\(lw s a).x*g=a.x/\(lw s a).y*g=a.y/\(lw s a).w*g=s:=by
 refine⟨G (G a.x a.y) s,g3_gt hs,?_,?_,?_⟩
 ·exact zcd (by rw[G3];exact g3_da _ _ _)
 ·exact zcd (by rw[G3];exact g3_db _ _ _)
 ·exact zcd (by rw[G3];exact g3_dc _ _ _)
theorem zc3{k a b:Int}(hk:0<k):k*a<k*b↔a<b:=⟨fun h=>Int.lt_of_mul_lt_mul_left h (Int.le_of_lt hk),fun h=>Int.mul_lt_mul_of_pos_left h hk⟩
theorem zhq{x w x' w' g h X W X' W':Int}(hg:0<g)(hh:0<h)(e1:x*g=X)(e2:w*g=W)(e3:x'*h=X')(e4:w'*h=W'):(x*w'<x'*w)↔(X*W'<X'*W):=by
 rw[←zc3 (k:=g*h) (Int.mul_pos hg hh),←e1,←e2,←e3,←e4];have a1:g*h*(x*w')=x*g*(w'*h):=by grind
 have a2:g*h*(x'*w)=x'*h*(w*g):=by grind
 rw[a1,a2]
theorem zn2(g1 g2 g3 x1 y1 w1 x2 y2 w2 x3 y3 w3:Int):det3 (x1*g1) (y1*g1) (w1*g1) (x2*g2) (y2*g2) (w2*g2) (x3*g3) (y3*g3) (w3*g3)=g1*g2*g3*det3 x1 y1 w1 x2 y2 w2 x3 y3 w3:=by
 unfold det3 lnA lnB lnC;grind
theorem lw_inj{s:Int}(hs:0<s){a b:I2}(e1:(lw s a).x=(lw s b).x)(e2:(lw s a).y=(lw s b).y)(e3:(lw s a).w=(lw s b).w):a.x=b.x/\a.y=b.y:=by
 obtain⟨g1,hg1,a1,a2,a3⟩:=zjg hs a;obtain⟨g2,hg2,b1,b2,b3⟩:=zjg hs b;rw[e1] at a1;rw[e2] at a2;rw[e3] at a3;have wn:(lw s b).w≠0:=fun z=>by rw[z,Int.zero_mul] at b3;omega
 have g:g1=g2:=Int.eq_of_mul_eq_mul_left wn (a3.trans b3.symm);subst g;exact⟨a1.symm.trans b1,a2.symm.trans b2⟩
theorem bef_lw{s:Int}(hs:0<s)(a b:I2):bef (lw s a).x (lw s a).y (lw s a).w (lw s b).x (lw s b).y (lw s b).w=true↔(a.x<b.x∨(a.x=b.x/\a.y<b.y)):=by
 obtain⟨g1,hg1,a1,a2,a3⟩:=zjg hs a;obtain⟨g2,hg2,b1,b2,b3⟩:=zjg hs b;have c1:=zhq hg1 hg2 a1 a3 b1 b3;have c2:=zhq hg2 hg1 b1 b3 a1 a3;have c3:=zhq hg1 hg2 a2 a3 b2 b3;have m:∀u v:Int,u*s<v*s↔u<v:=fun u v=>by rw[Int.mul_comm u,Int.mul_comm v];exact zc3 hs
 rw[m] at c1 c2 c3;rw[zev];omega
def LR{α:Type}(R:Hp->Addr->α->Prop)(H:Hp)(ys:List V)(as:List α):Prop:=ys.length=as.length/\∀(j:Nat)(v:V),ys[j]?=some v->∃(p:Addr)(a:α),v=.ref p/\as[j]?=some a/\R H p a
section
variable{α:Type}{R:Hp->Addr->α->Prop}
theorem LR.ts(hR:∀H H' p a,zad H H'->R H p a->R H' p a){H H':Hp}{ys:List V}{as:List α}(h:LR R H ys as)(g:zad H H'):LR R H' ys as:=⟨h.1,fun j v z=>by
 obtain⟨p,d,e,f,s⟩:=h.2 j v z;exact⟨p,d,e,f,hR _ _ _ _ g s⟩⟩
theorem LR.nil{H:Hp}:LR R H [] []:=⟨rfl,fun j v z=>by cases z⟩
theorem LR.app{H:Hp}{ys zs:List V}{as bs:List α}(h:LR R H ys as)(h':LR R H zs bs):LR R H (ys++zs) (as++bs):=by
 refine⟨by rw[List.length_append,List.length_append,h.1,h'.1],fun j v z=>?_⟩
 by_cases hj:j<ys.length
 ·rw[List.getElem?_append_left hj] at z;obtain⟨q,e,f,g,t⟩:=h.2 j v z;exact⟨q,e,f,by rw[List.getElem?_append_left (by rw[←h.1];exact hj)];exact g,t⟩
 ·rw[List.getElem?_append_right (by omega)] at z
  obtain⟨q,e,f,g,t⟩:=h'.2 _ v z;exact⟨q,e,f,by rw[List.getElem?_append_right (by rw[←h.1];omega),←h.1];exact g,t⟩
theorem LR.one{H:Hp}{p:Addr}{a:α}(s:R H p a):LR R H [.ref p] [a]:=⟨rfl,fun j v z=>by
 cases j with
 |zero=>cases z;exact⟨p,a,rfl,rfl,s⟩
 |succ n=>cases z⟩
theorem LR.snoc{H:Hp}{ys:List V}{as:List α}{p:Addr}{a:α}(h:LR R H ys as)(s:R H p a):LR R H (ys++[.ref p]) (as++[a]):=h.app (.one s)
theorem LR.drop{H:Hp}{ys:List V}{as:List α}(h:LR R H ys as)(n:Nat):LR R H (ys.drop n) (as.drop n):=by
 refine⟨by rw[List.length_drop,List.length_drop,h.1],fun j v z=>?_⟩
 rw[List.getElem?_drop] at z;obtain⟨q,e,f,g,t⟩:=h.2 _ v z;exact⟨q,e,f,by rw[List.getElem?_drop];exact g,t⟩
theorem LR.at{H:Hp}{ys:List V}{as:List α}(h:LR R H ys as){j:Nat}(hj:j<ys.length):∃(p:Addr)(a:α),ys[j]?=some (.ref p)/\as[j]?=some a/\R H p a:=by
 obtain⟨p,a,e,f,r⟩:=h.2 j ys[j] (List.getElem?_eq_getElem hj);exact⟨p,a,by rw[List.getElem?_eq_getElem hj,e],f,r⟩
theorem LR.map{β:Type}{f:β->α}{H:Hp}{ys:List V}{bs:List β}(h:LR (fun H p b=>R H p (f b)) H ys bs):LR R H ys (bs.map f):=by
 refine⟨by rw[List.length_map,h.1],fun j v z=>?_⟩
 obtain⟨q,e,g,k,t⟩:=h.2 _ v z;exact⟨q,f e,g,by rw[List.getElem?_map,k];rfl,t⟩
theorem LR.cons_inv{H:Hp}{v:V}{vs:List V}{as:List α}(h:LR R H (v::vs) as):∃a as',as=a::as'/\(∃p,v=.ref p/\R H p a)/\LR R H vs as':=by
 cases as with
 |nil=>cases h.1
 |cons a as'=>
  refine⟨a,as',rfl,?_,Nat.succ.inj h.1,fun j u z=>h.2 (j+1) u z⟩;obtain⟨p,b,e,f,r⟩:=h.2 0 v rfl
  cases f;exact⟨p,e,r⟩
theorem LR.cons{H:Hp}{v:V}{vs:List V}{a:α}{as:List α}(h:∃p,v=.ref p/\R H p a)(t:LR R H vs as):LR R H (v::vs) (a::as):=by
 obtain⟨p,rfl,r⟩:=h;exact(LR.one r).app t
theorem LR.perm{H:Hp}{vs ys:List V}(h:vs.Perm ys):∀{as:List α},LR R H vs as->∃as',as.Perm as'/\LR R H ys as':=by
 induction h with
 |nil=>exact fun{as} t=>⟨as,.refl _,t⟩
 |cons v _ ih=>
  intro as t;obtain⟨a,as',rfl,hp,t'⟩:=t.cons_inv;obtain⟨bs,pb,tb⟩:=ih t';exact⟨a::bs,pb.cons a,.cons hp tb⟩
 |swap u v l=>
  intro as t;obtain⟨a,as',rfl,hp,t'⟩:=t.cons_inv;obtain⟨b,as2,rfl,hq,t2⟩:=t'.cons_inv;exact⟨b::a::as2,.swap b a as2,.cons hq (.cons hp t2)⟩
 |trans _ _ i1 i2=>
  intro as t;obtain⟨bs,p1,t1⟩:=i1 t;obtain⟨cs,p2,t2⟩:=i2 t1;exact⟨cs,p1.trans p2,t2⟩
def zk6(R:Hp->Addr->α->Prop)(as:List α)(H2:Hp)(D:Addr):Nat->List V->Hp->Prop:=fun i ys H'=>Same H2 H'/\H' D=some (.lst ys)/\ys.length=i/\LR R H' ys (as.take i)
theorem zeq{as:List α}{H2:Hp}{D:Addr}(hD:H2 D=none):zk6 R as H2 D 0 [] (upd H2 D (.lst [])):=⟨za1 hD _,upd_same,rfl,by rw[List.take_zero];exact .nil⟩
theorem zf1(hR:∀H H' p a,zad H H'->R H p a->R H' p a){m:Nat}{H2 H3 H4:Hp}{D:Addr}{i:Nat}{ys:List V}{p:Addr}{as:List α}{a:α}(hD:H2 D=none)(hm:m<100000)(iv:zk6 R as H2 D i ys H3)(hi:i<m)(ha:as[i]?=some a)(g4:Same H3 H4)(hp:R H4 p a):CPut m (zk6 R as H2 D) D i (.ref p) H4:=by
 obtain⟨g3',hD3,hy,hall⟩:=iv;have hD4:=g4 _ _ hD3;refine cw_put hi hD4 (by rw[hy];exact Nat.lt_trans hi (Nat.lt_trans hm (by decide))) ⟨zat (g3'.trans g4) hD,upd_same,by rw[List.length_append,hy];rfl,?_⟩
 rw[List.take_add_one,ha];exact((hall.ts hR (za9 g4)).snoc hp).ts hR (zcg hD4)
end
theorem zp8{X:Cx}{K':PySem.W.Frag}(hK:X.K=K')(hu:X.A.units+64<cLine):OpR X (compareOp .NotIn) (zjs K'):=by subst hK;exact znp hu
theorem zhi{H H' H'':Hp}(a:zad H H')(b:zad H' H''):zad H H'':=fun p xs h=>b _ _ (a _ _ h)
def QH(H:Hp)(p:Addr)(r:Q3):Prop:=H p=some (.tup [.int r.x,.int r.y,.int r.w])/\PQ 700 r
theorem zc2:∀(H H':Hp)(p:Addr)(r:Q3),zad H H'->QH H p r->QH H' p r:=fun _ _ _ _ g h=>⟨g _ _ h.1,h.2⟩
theorem QH.same{H H':Hp}{p:Addr}{r:Q3}(h:QH H p r)(g:Same H H'):QH H' p r:=⟨g _ _ h.1,h.2⟩
theorem QH.tb{H:Hp}{p:Addr}{r:Q3}(h:QH H p r){n:Nat}(hn:700<=n:=by decide):TB n H p r.x r.y r.w:=⟨h.1,Pt.bd h.2 hn⟩
theorem LR.same{H H':Hp}{ys:List V}{ps:List Q3}(h:LR QH H ys ps)(g:Same H H'):LR QH H' ys ps:=h.ts zc2 (za9 g)
theorem LR.take{α:Type}{R:Hp->Addr->α->Prop}{H:Hp}{ys:List V}{as:List α}(h:LR R H ys as)(n:Nat):LR R H (ys.take n) (as.take n):=by
 refine⟨by rw[List.length_take,List.length_take,h.1],fun j v z=>?_⟩
 rw[List.getElem?_take] at z
 by_cases c:j<n
 ·rw[if_pos c] at z;obtain⟨q,e,f,g,t⟩:=h.2 _ v z;exact⟨q,e,f,by rw[List.getElem?_take,if_pos c];exact g,t⟩
 ·rw[if_neg c] at z
  cases z
section
variable{P:Program}{w:World}{K:PySem.W.Frag}{mg:Str->Option Value}{base:Heap}{ad:Nat->Addr}{fd:Nat->FuncData}
theorem small10k{n:Nat}(h:n<=20000):n<sizeLine:=Nat.lt_of_le_of_lt h (by decide)
def kQ(r:Q3):List Key:=[.inl r.x,.inl r.y,.inl r.w]
theorem zei{p q:Q3}(h:kQ p=kQ q):p=q:=by
 obtain⟨x,y,w⟩:=p;obtain⟨x',y',w'⟩:=q;unfold kQ at h
 cases h;rfl
def KyOk(H:Hp)(kvs:List (List Key×V))(g:Int)(ps:List Q3):Prop:=∀p,p∈ps->∃b,valV kvs (kQ p)=some (.ref b)/\H b=some (.tup [.int (kyQ g p).1,.int (kyQ g p).2])
theorem KyOk.ts{H H':Hp}{kvs:List (List Key×V)}{g:Int}{ps:List Q3}(h:KyOk H kvs g ps)(t:zad H H'):KyOk H' kvs g ps:=fun p hp=>by
 obtain⟨b,e,hb⟩:=h p hp;exact⟨b,e,t _ _ hb⟩
def sp_okeys:Sp:=fun vs H Q _=>∃(l:Addr)(ys:List V)(ps:List Q3),vs=[.ref l]/\H l=some (.lst ys)/\ys.length<=20000/\LR QH H ys ps/\
 ∀d kvs g(qs:List Q3) H',Same H H'->H' d=some (.dT kvs)->0<g->(∀p,p∈ps->p.w<=g)->KyOk H' kvs g ps->kvs.map Prod.fst=qs.map kQ->qs.Nodup->(∀p,p∈qs↔p∈ps)->qs.length<=ps.length->Q (.ref d) H'
theorem zkh{H:Hp}{D:Addr}{kvs:List (List Key×V)}{o:HO}(h:H D=some (.dT kvs)):zad H (upd H D o):=fun b xs q=>by
 rw[za5 (fun z=>by rw[z,h] at q;cases q)]
 exact q
theorem zh9(T:Txt K mg ad fd):FnOk P w K mg base CX0 1 (ad 5) (fd 5) ["points"] sp_okeys:=by
 refine T.order_keys.fn.ok zc9 (fun vs H Q E h=>?_) (fun cdv A outer s H vs Q E hr h=>?_)
 ·obtain⟨l,ys,ps,rfl,_⟩:=h;rfl
 obtain⟨l,ys,ps,rfl,hl,hn,hp,k⟩:=h;have hs:∀p,p∈ps->0<p.w/\p.x.natAbs<2^720/\p.y.natAbs<2^720/\p.w.natAbs<2^720:=fun p hp'=>by
  obtain⟨j,hj⟩:=List.mem_iff_getElem?.mp hp';have hj':j<ys.length:=by rw[hp.1];exact(List.getElem?_eq_some_iff.mp hj).1
  obtain⟨b,r,_,e2,hr⟩:=hp.at hj';rw[hj] at e2
  cases e2;exact⟨hr.2.pos,zdc hr.2.lx (by decide),zdc hr.2.ly (by decide),zdc hr.2.lw (by decide)⟩
 have zQ:=@pss5;have zd:=@zbu;have yn:=@zpq;have zg:=@pa1;have zI:=@zg8;unfold L2.CompBody at zI;have zp:=@zc1;have qpv:=@pv;have zm:=@zbw;have zF:=@zel;have zc:=@ze3;have za:=@zbt;have yo:=@pk_cons;have yp:=@pk_nil;have zb:=@zdv;have zO:=@zf4;have zq:=@zd8;have zf:=@zaf;have zn:=@zen;have zM:=@zi6;have ye:=@zjc;have zZ:=@zk8;have zk:=@zcv;have zh:=@pa2;have zo:=@zc0;have ze:=@zb3;generalize @L2.PE=QE,@L2.PT=QT,@L2.PW=QW,@L2.PA=QA,@L2.PS=QS,@L2.PSs=QSs,@L2.PG=QG,@L2.PGs=QGs,@L2.PI=QI,@L2.PO=QO,@L2.PIf=QIf,@L2.PC=QC,@L2.PK=QK at zQ zd yn zg zI zp qpv zm zF zc za yo yp zb zO zq zf zn zM ye zZ zk zh zo ze⊢;refine⟨_,
  (zQ
   (zd (i:=1) zc9.nd rfl (Or.inl rfl) (yn (zop rfl) rfl T.b_max bt_max (zg (zI (dsc:=za0 zaq) (N:=["points","greatest","scale","keys","P"]) (own:=["P"]) (ix:=[]) rfl rfl rfl ⟨rfl,by decide+kernel,by decide+kernel,by decide+kernel,by decide+kernel⟩ (zp (qpv 0)) (fun cl C fp s2 H2 xe=>⟨(zm (i:=0) (show List.Nodup (["P"]:List Str) from by decide+kernel) rfl (Or.inl rfl)),zF,(zc za6 (qpv 0) za (fun _ _=>rfl))⟩)) zg2) (yo za yp)))
   (zd (i:=2) zc9.nd rfl (Or.inl rfl) (zb zas (qpv 1) (qpv 1)))
   (zd (i:=3) zc9.nd rfl (Or.inl rfl) zO)
   (zq PassesOwn.never rfl (zp (qpv 0)) (zm (i:=4) zc9.nd rfl (Or.inl rfl)) (zf (zn (zM (ye (zda hr) (qpv 4) (qpv 3))) (zf (zZ (zda hr) (qpv 3) (qpv 4) (zk (zh (zb zdn (zb zas (zc za6 (qpv 4) za (fun _ _=>rfl)) (qpv 2)) (zc za6 (qpv 4) za (fun _ _=>rfl))) zac (zb zdn (zb zas (zc za6 (qpv 4) za (fun _ _=>rfl)) (qpv 2)) (zc za6 (qpv 4) za (fun _ _=>rfl))) zac)) rfl)) zo)))
   (ze (qpv 3)))
  ,?_⟩
 clear zQ zd yn zg zI zp qpv zm zF zc za yo yp zb zO zq zf zn zM ye zZ zk zh zo ze QE QT QW QA QS QSs QG QGs QI QO QIf QC QK
 dsimp! [L2.start]
 simp! [tCBK];refine zd2 ?_;simp! [zcx];refine⟨⟨_,.of hl⟩,fun D hD=>?_⟩;refine zcs (xs:=ys) (fun i zs H'=>Same H H'/\H' D=some (.lst zs)/\zs=((ps.take i).map fun p=>V.int p.w)) ⟨za1 hD _,upd_same,by rw[List.take_zero];rfl⟩ (fun i zs H' p=>.of (p.1 _ _ hl)) ?_ ?_
 ·rintro i zs H1 v hi hv ⟨g1,hD1,ez⟩;obtain⟨p,r,rfl,hr',hq⟩:=hp.2 i v hv;have hq1:H1 p=some (.tup [.int r.x,.int r.y,.int r.w]):=g1 _ _ hq.1;simp! [hq1];refine cw_put hi hD1 ?_ ⟨zat g1 hD,upd_same,?_⟩
  ·rw[ez,List.length_map,List.length_take];exact small10k (by have:=Nat.min_le_left i ps.length;omega)
  ·rw[List.take_add_one,hr',ez,List.map_append];rfl
 ·rintro zs H1 ⟨g1,hD1,ez⟩;rw[List.take_of_length_le (by rw[hp.1];exact Nat.le_refl _)] at ez
  refine⟨D,ps.map fun p=>p.w,1,rfl,rfl,by rw[hD1,ez,List.map_map];rfl,fun g gm gi=>?_⟩
  have g0:0<g:=by
   rcases gi with gi|gi
   ·obtain⟨p,hp',e⟩:=List.mem_map.mp gi;have:=(hs p hp').1;omega
   ·omega
  have gs:g.natAbs<2^720:=by
   rcases gi with gi|gi
   ·obtain⟨p,hp',e⟩:=List.mem_map.mp gi;rw[←e];exact(hs p hp').2.2.2
   ·rw[gi.2];decide
  refine⟨g,rfl,g,rfl,cbig gs gs,fun d hd=>?_⟩;have gg:(g*g).natAbs<2^1440:=by
   rw[Int.natAbs_mul];exact Nat.lt_of_lt_of_le (Nat.mul_lt_mul'' gs gs) (by rw[←Nat.pow_add];exact Nat.pow_le_pow_right (by decide) (by decide))
  refine zbk ?_;simp! [zcx];have g2:=za1 hd (HO.dT []);refine⟨⟨_,.of (g2 _ _ (g1 _ _ hl))⟩,?_⟩;refine zaz (K:=K) (a:=l) (xs:=ys) (fun i σ H'=>Same H1 H'/\∃(kvs:List (List Key×V))(o:Option V),σ=[some (.ref l),some (.int g),some (.int (g*g)),some (.ref d),o]/\H' d=some (.dT kvs)/\kvs.length<=i/\KyOk H' kvs g (ps.take i)/\(∀p,(valV kvs (kQ p)).isSome=true->p∈ps.take i)/\∃qs:List Q3,kvs.map Prod.fst=qs.map kQ/\qs.Nodup/\(∀p,p∈qs↔p∈ps.take i)/\qs.length<=i)
   ⟨g2,[],none,rfl,upd_same,Nat.le_refl _,fun p hp'=>(by rw[List.take_zero] at hp';cases hp'),fun p z=>(by cases z),[],rfl,.nil,fun p=>(by rw[List.take_zero]),Nat.le_refl _⟩ (fun i σ H' _ iv=>.of (iv.1 _ _ (g1 _ _ hl))) ?_ ?_
  ·intro _ _;rintro i v σ H2 hi ⟨g3,kvs,o,rfl,hd2,hk,ky,kb,qs,q1,q2,q3,q4⟩;obtain⟨p,r,rfl,hr',hq⟩:=hp.2 i v hi;have hq2:H2 p=some (.tup [.int r.x,.int r.y,.int r.w]):=g3 _ _ (g1 _ _ hq.1);simp! [zjw,sDPut,hq2];obtain⟨r0,rx,ry,rw'⟩:=hs r (List.mem_of_getElem? hr');have wn:r.w≠0:=by omega
   rw[List.take_add_one,hr'];refine⟨_,.t (k:=kQ r) hd2 hq2,ite2 (fun c=>⟨cbig rx gg,cdivb wn rw',cbig ry gg,cdivb wn rw',fun t ht=>?_⟩) fun c=>?_⟩
   ·rw[Int.fdiv_eq_ediv_of_nonneg _ (by omega),Int.fdiv_eq_ediv_of_nonneg _ (by omega)]
    have nv:valV kvs (kQ r)=none:=by
     cases e:valV kvs (kQ r) with
     |none=>rfl
     |some u=>rw[e] at c;cases c
    have g4:=za1 ht (HO.tup [V.int (r.x*(g*g)/r.w),V.int (r.y*(g*g)/r.w)]);have ht4:upd H2 t (HO.tup [V.int (r.x*(g*g)/r.w),V.int (r.y*(g*g)/r.w)]) t=some (HO.tup [V.int (r.x*(g*g)/r.w),V.int (r.y*(g*g)/r.w)]):=upd_same;generalize upd H2 t (HO.tup [V.int (r.x*(g*g)/r.w),V.int (r.y*(g*g)/r.w)])=H4 at*;have hd4:=g4 _ _ hd2;refine⟨_,.t (k:=kQ r) hd4 (g4 _ _ hq2) (small10k (by have:=(List.getElem?_eq_some_iff.mp hi).1;omega)),zat (g3.trans g4) hd,_,upd_same,Nat.le_trans (zbp _ _ _) (by omega),fun p' hp'=>?_,fun p' z=>?_,qs++[r],?_,?_,fun p'=>?_,by rw[List.length_append];exact Nat.succ_le_succ q4⟩
    ·rw[zco]
     by_cases e:kQ p'=kQ r
     ·rw[if_pos e];have e':=zei e;subst e';exact⟨t,rfl,zkh hd4 _ _ ht4⟩
     ·rw[if_neg e];rcases List.mem_append.mp hp' with hp'|hp'
      ·obtain⟨b,e1,e2⟩:=ky p' hp';exact⟨b,e1,zkh hd4 _ _ (g4 _ _ e2)⟩
      ·have e':p'=r:=by simpa using hp'
       exact absurd (by rw[e']) e
    ·rw[zco] at z
     by_cases e:kQ p'=kQ r
     ·rw[zei e];exact List.mem_append_right _ (by simp)
     ·rw[if_neg e] at z;exact List.mem_append_left _ (kb p' z)
    ·rw[zlb _ nv,List.map_append,List.map_append,q1];rfl
    ·exact List.nodup_append.mpr ⟨q2,List.pairwise_singleton _ _,fun a ha b hb e=>by
      rw[List.mem_singleton.mp hb] at e;subst e;obtain⟨b',e1,_⟩:=ky a ((q3 a).mp ha);rw[nv] at e1
      cases e1⟩
    ·rw[List.mem_append,List.mem_append,q3]
     simp
   ·have z:(valV kvs (kQ r)).isSome=true:=by
     cases e:(valV kvs (kQ r)).isSome with
     |true=>rfl
     |false=>exact absurd (by rw[e];rfl) c
    refine⟨g3,kvs,hd2,by omega,fun p' hp'=>?_,fun p' z'=>List.mem_append_left _ (kb p' z'),qs,q1,q2,fun p'=>?_,by omega⟩
    rcases List.mem_append.mp hp' with hp'|hp'
    ·exact ky p' hp'
    ·have e':p'=r:=by simpa using hp'
     rw[e'];exact ky r (kb r z)
    ·rw[List.mem_append,q3];refine⟨.inl,fun h=>h.elim id fun h=>?_⟩;have e':p'=r:=by simpa using h
     rw[e'];exact kb r z
  ·rintro σ H2 ⟨g3,kvs,o,rfl,hd2,hk,ky,kb,qs,q1,q2,q3,q4⟩;rw[List.take_of_length_le (by rw[hp.1];exact Nat.le_refl _)] at ky q3
   simp! [];exact k d kvs g qs H2 (g1.trans g3) hd2 g0 (fun p hp'=>gm _ (List.mem_map.mpr ⟨p,hp',rfl⟩)) ky q1 q2 q3 (by rw[←hp.1];exact q4)
theorem zpp(T:Txt K mg ad fd):FnOk P w K mg base CX0 1 (ad 0) (fd 0) ["P","Q"] zns:=by
 refine T.before.fn.ok zgd (fun vs H Q E h=>?_) (fun cdv A outer s H vs Q E hr h=>?_)
 ·obtain⟨p,q,x1,y1,w1,x2,y2,w2,rfl,_⟩:=h;rfl
 obtain⟨p,q,x1,y1,w1,x2,y2,w2,rfl,⟨hp,pp⟩,⟨hq,pq⟩,k⟩:=h;have zD:=@pss4;have zd:=@zbu;have zb:=@zdv;have zc:=@ze3;have qpv:=@pv;have za:=@zbt;have zn:=@zen;have zu:=@zd1;have zf:=@zaf;have ze:=@zb3;have zG:=@zfh;have zo:=@zc0;generalize @L2.PE=QE,@L2.PT=QT,@L2.PW=QW,@L2.PA=QA,@L2.PS=QS,@L2.PSs=QSs,@L2.PG=QG,@L2.PGs=QGs,@L2.PI=QI,@L2.PO=QO,@L2.PIf=QIf at zD zd zb zc qpv za zn zu zf ze zG zo⊢;refine⟨_,
  (zD
   (zd (i:=2) zgd.nd rfl (Or.inl rfl) (zb zas (zc za6 (qpv 0) za (fun _ _=>rfl)) (zc za6 (qpv 1) za (fun _ _=>rfl))))
   (zd (i:=3) zgd.nd rfl (Or.inl rfl) (zb zas (zc za6 (qpv 1) za (fun _ _=>rfl)) (zc za6 (qpv 0) za (fun _ _=>rfl))))
   (zn (zu op_ne (qpv 2) (qpv 3) (nomark _)) (zf (ze (zG zkj (qpv 2) (qpv 3) (nomark _)))) zo)
   (ze (zG zkj (zb zas (zc za6 (qpv 0) za (fun _ _=>rfl)) (zc za6 (qpv 1) za (fun _ _=>rfl))) (zb zas (zc za6 (qpv 1) za (fun _ _=>rfl)) (zc za6 (qpv 0) za (fun _ _=>rfl))) (nomark _))))
  ,?_⟩
 clear zD zd zb zc qpv za zn zu zf ze zG zo QE QT QW QA QS QSs QG QGs QI QO QIf
 dsimp! [L2.start]
 simp! [hp,hq];refine⟨cbig pp.1 pq.2.2,cbig pq.1 pp.2.2,?_⟩;unfold bef at k;refine ite2 (fun c=>?_) (fun c=>⟨cbig pp.2.1 pq.2.2,cbig pq.2.1 pp.2.2,?_⟩)
 ·have c':¬x1*w2=x2*w1:=by simpa using c
  rw[if_neg c'] at k;exact k
 ·have c':x1*w2=x2*w1:=by simpa using c
  rw[if_pos c'] at k;exact k
theorem zmb(T:Txt K mg ad fd):FnOk P w K mg base CX0 1 (ad 1) (fd 1) ["number"] znh:=by
 refine T.sign_of.fn.ok zms (fun vs H Q E h=>?_) (fun cdv A outer s H vs Q E hr h=>?_)
 ·obtain⟨z,rfl,_⟩:=h;rfl
 obtain⟨z,rfl,k⟩:=h;have zC:=@pss3;have zn:=@zen;have zu:=@zd1;have qpv:=@pv;have za:=@zbt;have zf:=@zaf;have ze:=@zb3;have zo:=@zc0;have yq:=@pe_un;generalize @L2.PE=QE,@L2.PT=QT,@L2.PW=QW,@L2.PA=QA,@L2.PS=QS,@L2.PSs=QSs,@L2.PG=QG,@L2.PGs=QGs,@L2.PI=QI,@L2.PO=QO,@L2.PIf=QIf at zC zn zu qpv za zf ze zo yq⊢;refine⟨_,
  (zC
   (zn (zu op_gt (qpv 0) za (nomark _)) (zf (ze za)) zo)
   (zn (zu zkj (qpv 0) za (nomark _)) (zf (ze (yq un_neg za))) zo)
   (ze za))
  ,?_⟩
 clear zC zn zu qpv za zf ze zo yq QE QT QW QA QS QSs QG QGs QI QO QIf
 dsimp! [L2.start]
 simp! [];unfold sgn at k;refine ite2 (fun c=>?_) (fun c=>ite2 (fun c2=>?_) (fun c2=>?_))
 ·rw[if_pos (of_decide_eq_true c)] at k;exact k
 ·rw[if_neg (fun z=>c (decide_eq_true z)),if_pos (of_decide_eq_true c2)] at k;exact k
 ·rw[if_neg (fun z=>c (decide_eq_true z)),if_neg (fun z=>c2 (decide_eq_true z))] at k;exact k
theorem zn3(T:Txt K mg ad fd):FnOk P w K mg base CX0 1 (ad 2) (fd 2) ["P","Q"] zq0:=by
 refine T.line_of.fn.ok zmu (fun vs H Q E h=>?_) (fun cdv A outer s H vs Q E hr h=>?_)
 ·obtain⟨p,q,x1,y1,w1,x2,y2,w2,rfl,_⟩:=h;rfl
 obtain⟨p,q,x1,y1,w1,x2,y2,w2,rfl,⟨hp,pp⟩,⟨hq,pq⟩,k⟩:=h;have zf:=@zaf;have ze:=@zb3;have zk:=@zcv;have zr:=@pa3;have zb:=@zdv;have zc:=@ze3;have qpv:=@pv;have za:=@zbt;generalize @L2.PE=QE,@L2.PT=QT,@L2.PW=QW,@L2.PA=QA,@L2.PS=QS,@L2.PSs=QSs,@L2.PG=QG,@L2.PGs=QGs,@L2.PI=QI,@L2.PO=QO,@L2.PIf=QIf at zf ze zk zr zb zc qpv za⊢;refine⟨_,
  (zf (ze (zk (zr (zb zde (zb zas (zc za6 (qpv 0) za (fun _ _=>rfl)) (zc za6 (qpv 1) za (fun _ _=>rfl))) (zb zas (zc za6 (qpv 0) za (fun _ _=>rfl)) (zc za6 (qpv 1) za (fun _ _=>rfl)))) zac (zb zde (zb zas (zc za6 (qpv 0) za (fun _ _=>rfl)) (zc za6 (qpv 1) za (fun _ _=>rfl))) (zb zas (zc za6 (qpv 0) za (fun _ _=>rfl)) (zc za6 (qpv 1) za (fun _ _=>rfl)))) zac (zb zde (zb zas (zc za6 (qpv 0) za (fun _ _=>rfl)) (zc za6 (qpv 1) za (fun _ _=>rfl))) (zb zas (zc za6 (qpv 0) za (fun _ _=>rfl)) (zc za6 (qpv 1) za (fun _ _=>rfl)))) zac))))
  ,?_⟩
 clear zf ze zk zr zb zc qpv za QE QT QW QA QS QSs QG QGs QI QO QIf
 dsimp! [L2.start]
 simp! [hp,hq];exact⟨cbig pp.2.1 pq.2.2,cbig pp.2.2 pq.2.1,cbig pp.2.2 pq.1,cbig pp.1 pq.2.2,cbig pp.1 pq.2.1,cbig pp.2.1 pq.1,fun r hr=>k r _ (za1 hr _) upd_same⟩
theorem zmr(T:Txt K mg ad fd):FnOk P w K mg base CX0 2 (ad 3) (fd 3) ["line","P"] zon:=by
 refine T.side_of.fn.ok zmd (fun vs H Q E h=>?_) (fun cdv A outer s H vs Q E hr h=>?_)
 ·obtain⟨l,p,a,b,c,x,y,w,rfl,_⟩:=h;rfl
 obtain⟨l,p,a,b,c,x,y,w,rfl,hl,⟨la,lb,lc⟩,hp,⟨lx,ly,lw⟩,k⟩:=h;have zf:=@zaf;have ze:=@zb3;have zj:=@zbv;have zg:=@pa1;have zb:=@zdv;have zc:=@ze3;have qpv:=@pv;have za:=@zbt;generalize @L2.PE=QE,@L2.PT=QT,@L2.PW=QW,@L2.PA=QA,@L2.PS=QS,@L2.PSs=QSs,@L2.PG=QG,@L2.PGs=QGs,@L2.PI=QI,@L2.PO=QO,@L2.PIf=QIf at zf ze zj zg zb zc qpv za⊢;refine⟨_,
  (zf (ze (zj (zmb T) (hr.mono (by decide)) rfl T.sign_of.mg T.sign_of.fn.kp T.sign_of.bn .nil pass0 (zg (zb zb7 (zb zb7 (zb zas (zc za6 (qpv 0) za (fun _ _=>rfl)) (zc za6 (qpv 1) za (fun _ _=>rfl))) (zb zas (zc za6 (qpv 0) za (fun _ _=>rfl)) (zc za6 (qpv 1) za (fun _ _=>rfl)))) (zb zas (zc za6 (qpv 0) za (fun _ _=>rfl)) (zc za6 (qpv 1) za (fun _ _=>rfl)))) zac))))
  ,?_⟩
 clear zf ze zj zg zb zc qpv za QE QT QW QA QS QSs QG QGs QI QO QIf
 dsimp! [L2.start]
 simp! [znh,hl,hp];exact⟨cbig la lx,cbig lb ly,cbig lc lw,k⟩
theorem zk5(T:Txt K mg ad fd):FnOk P w K mg base CX0 3 (ad 4) (fd 4) ["P","Q","R"] sp_turn:=by
 refine T.turn.fn.ok sc_turn (fun vs H Q E h=>?_) (fun cdv A outer s H vs Q E hr h=>?_)
 ·obtain⟨p,q,r,x1,y1,w1,x2,y2,w2,x3,y3,w3,rfl,_⟩:=h;rfl
 obtain⟨p,q,r,x1,y1,w1,x2,y2,w2,x3,y3,w3,rfl,hp,hq,hr',k⟩:=h;have zf:=@zaf;have ze:=@zb3;have zj:=@zbv;have zh:=@pa2;have qpv:=@pv;generalize @L2.PE=QE,@L2.PT=QT,@L2.PW=QW,@L2.PA=QA,@L2.PS=QS,@L2.PSs=QSs,@L2.PG=QG,@L2.PGs=QGs,@L2.PI=QI,@L2.PO=QO,@L2.PIf=QIf at zf ze zj zh qpv⊢;refine⟨_,
  (zf (ze (zj (zmr T) (hr.mono (by decide)) rfl T.side_of.mg T.side_of.fn.kp T.side_of.bn .nil pass0 (zh (zj (zn3 T) (hr.mono (by decide)) rfl T.line_of.mg T.line_of.fn.kp T.line_of.bn .nil pass0 (zh (qpv 0) za2 (qpv 1) za2)) zck (qpv 2) za2))))
  ,?_⟩
 clear zf ze zj zh qpv QE QT QW QA QS QSs QG QGs QI QO QIf
 dsimp! [L2.start]
 simp! [zq0,zon];exact⟨x1,y1,w1,hp,x2,y2,w2,hq,fun l H2 g2 hl=>⟨_,_,_,hl,ln_bd hp.2 hq.2,_,_,_,(hr'.same g2).1,hr'.2,k H2 g2⟩⟩
def sgD(a b c:Q3):Int:=sgn (det3 a.x a.y a.w b.x b.y b.w c.x c.y c.w)
def soon(a b c d:Q3):Bool:=if sgD a b c=sgD a b d then decide (sgD a c d<0) else decide (sgD a b c<sgD a b d)
def sp_soon:Sp:=fun vs H Q _=>∃(p q r t:Addr)(a b c d:Q3),vs=[.ref p,.ref q,.ref r,.ref t]/\QH H p a/\QH H q b/\QH H r c/\QH H t d/\∀H',Same H H'->Q (.bl (soon a b c d)) H'
theorem zfp(T:Txt K mg ad fd):FnOk P w K mg base CX0 4 (ad 11) (fd 11) ["P","Q","one","other"] sp_soon:=by
 refine T.is_met_sooner.fn.ok zci (fun vs H Q E h=>?_) (fun cdv A outer s H vs Q E hr h=>?_)
 ·obtain⟨p,q,r,t,a,b,c,d,rfl,_⟩:=h;rfl
 obtain⟨p,q,r,t,a,b,c,d,rfl,hp,hq,hc,hd,k⟩:=h;have zD:=@pss4;have zd:=@zbu;have zj:=@zbv;have zr:=@pa3;have qpv:=@pv;have zn:=@zen;have zu:=@zd1;have zf:=@zaf;have ze:=@zb3;have zG:=@zfh;have zo:=@zc0;have za:=@zbt;generalize @L2.PE=QE,@L2.PT=QT,@L2.PW=QW,@L2.PA=QA,@L2.PS=QS,@L2.PSs=QSs,@L2.PG=QG,@L2.PGs=QGs,@L2.PI=QI,@L2.PO=QO,@L2.PIf=QIf at zD zd zj zr qpv zn zu zf ze zG zo za⊢;refine⟨_,
  (zD
   (zd (i:=4) zci.nd rfl (Or.inl rfl) (zj (zk5 T) (hr.mono (by decide)) rfl T.turn.mg T.turn.fn.kp T.turn.bn .nil pass0 (zr (qpv 0) za2 (qpv 1) za2 (qpv 2) za2)))
   (zd (i:=5) zci.nd rfl (Or.inl rfl) (zj (zk5 T) (hr.mono (by decide)) rfl T.turn.mg T.turn.fn.kp T.turn.bn .nil pass0 (zr (qpv 0) za2 (qpv 1) za2 (qpv 3) za2)))
   (zn (zu op_ne (qpv 4) (qpv 5) (nomark _)) (zf (ze (zG zkj (qpv 4) (qpv 5) (nomark _)))) zo)
   (ze (zG zkj (zj (zk5 T) (hr.mono (by decide)) rfl T.turn.mg T.turn.fn.kp T.turn.bn .nil pass0 (zr (qpv 0) za2 (qpv 2) za2 (qpv 3) za2)) za (nomark _))))
  ,?_⟩
 clear zD zd zj zr qpv zn zu zf ze zG zo za QE QT QW QA QS QSs QG QGs QI QO QIf
 dsimp! [L2.start]
 simp! [];refine⟨p,q,r,_,_,_,_,_,_,_,_,_,rfl,hp.tb,hq.tb,hc.tb,fun H1 g1=>?_⟩;refine⟨p,q,t,_,_,_,_,_,_,_,_,_,rfl,(hp.same g1).tb,(hq.same g1).tb,(hd.same g1).tb,fun H2 g2=>?_⟩;unfold soon sgD at k;refine⟨rfl,ite2 (fun c1=>?_) (fun c1=>?_)⟩
 ·have z:=k H2 (g1.trans g2)
  split at z
  ·next e=>exact absurd e (by simpa using c1)
  ·exact⟨_,rfl,_,rfl,z⟩
 ·have g12:=g1.trans g2;refine⟨p,r,t,_,_,_,_,_,_,_,_,_,rfl,(hp.same g12).tb,(hc.same g12).tb,(hd.same g12).tb,fun H3 g3=>?_⟩;have z:=k H3 (g12.trans g3)
  split at z
  ·exact⟨_,rfl,z⟩
  ·next e=>exact absurd (by simpa using c1) e
def zgj(a b:Q3)(c:Q3)(ts:List Q3):Q3:=ts.foldl (fun m t=>if soon a b t m=true then t else m) c
def zil(a b:Q3):List Q3->Q3
 |[]=>a
 |c::ts=>zgj a b c ts
theorem zh3(a b c t:Q3)(ts:List Q3):zgj a b c (ts++[t])=if soon a b t (zgj a b c ts)=true then t else zgj a b c ts:=by
 unfold zgj;rw[List.foldl_append];rfl
def sp_first:Sp:=fun vs H Q _=>∃(p q l:Addr)(ys:List V)(a b:Q3)(ts:List Q3),vs=[.ref p,.ref q,.ref l]/\QH H p a/\QH H q b/\H l=some (.lst ys)/\ys.length<=200/\LR QH H ys ts/\ts≠[]/\∀r H',Same H H'->QH H' r (zil a b ts)->Q (.ref r) H'
theorem zgi(T:Txt K mg ad fd):FnOk P w K mg base CX0 5 (ad 10) (fd 10) ["P","Q","tips"] sp_first:=by
 refine T.first_right.fn.ok zce (fun vs H Q E h=>?_) (fun cdv A outer s H vs Q E hr h=>?_)
 ·obtain⟨p,q,l,ys,a,b,ts,rfl,_⟩:=h;rfl
 obtain⟨p,q,l,ys,a,b,ts,rfl,hp,hq,hl,hn,ht,ne,k⟩:=h;have zC:=@pss3;have zd:=@zbu;have zc:=@ze3;have qpv:=@pv;have za:=@zbt;have zq:=@zd8;have zp:=@zc1;have zU:=@zhe;have zV:=@zkx;have zW:=@zkd;have zm:=@zbw;have zf:=@zaf;have zn:=@zen;have zH:=@zgl;have zj:=@zbv;have yr:=@pa4;have zo:=@zc0;have ze:=@zb3;generalize @L2.PE=QE,@L2.PT=QT,@L2.PW=QW,@L2.PA=QA,@L2.PS=QS,@L2.PSs=QSs,@L2.PG=QG,@L2.PGs=QGs,@L2.PI=QI,@L2.PO=QO,@L2.PIf=QIf at zC zd zc qpv za zq zp zU zV zW zm zf zn zH zj yr zo ze⊢;refine⟨_,
  (zC
   (zd (i:=3) zce.nd rfl (Or.inl rfl) (zc zak (qpv 2) za (fun _ _=>rfl)))
   (zq PassesOwn.never rfl (zp (zU ze9 (qpv 2) (zV za) zW)) (zm (i:=4) zce.nd rfl (Or.inl rfl)) (zf (zn (zH (zj (zfp T) (hr.mono (by decide)) rfl T.is_met_sooner.mg T.is_met_sooner.fn.kp T.is_met_sooner.bn .nil pass0 (yr (qpv 0) za2 (qpv 1) za2 (qpv 4) za2 (qpv 3) za2))) (zf (zd (i:=3) zce.nd rfl (Or.inl rfl) (qpv 4))) zo)))
   (ze (qpv 3)))
  ,?_⟩
 clear zC zd zc qpv za zq zp zU zV zW zm zf zn zH zj yr zo ze QE QT QW QA QS QSs QG QGs QI QO QIf
 dsimp! [L2.start]
 obtain⟨c,cs,rfl⟩:∃c cs,ts=c::cs:=by
  cases ts with
  |nil=>exact absurd rfl ne
  |cons c cs=>exact⟨c,cs,rfl⟩
 obtain⟨y,ys,rfl⟩:∃y y',ys=y::y':=by
  cases ys with
  |nil=>cases ht.1
  |cons y y'=>exact⟨y,y',rfl⟩
 obtain⟨_,_,e,⟨pc,rfl,hc⟩,hys⟩:=ht.cons_inv
 cases e;simp! [hl];refine zbk ?_;simp! [zcx,hl,ziq,List.drop_succ_cons,List.drop_zero];intro D hD;have g1:=za1 hD (HO.lst ys);have hD1:upd H D (HO.lst ys) D=some (.lst ys):=upd_same;show _;generalize upd H D (HO.lst ys)=H1 at*;refine⟨⟨_,.of hD1⟩,?_⟩;refine zaz (K:=K) (a:=D) (xs:=ys) (fun i σ H'=>Same H1 H'/\∃(r:Addr)(o:Option V),σ=[some (V.ref p),some (V.ref q),some (V.ref l),some (V.ref r),o]/\QH H' r (zgj a b c (cs.take i))) ⟨.refl _,pc,none,rfl,hc.same g1⟩ (fun i σ H' _ iv=>.of (iv.1 _ _ hD1)) ?_ ?_
 ·intro _ _;rintro i v σ H2 hi ⟨g2,r,o,rfl,hr2⟩;obtain⟨t,d,rfl,hd',hd⟩:=hys.2 i v hi;have g02:=g1.trans g2;simp! [];refine⟨p,q,t,r,a,b,d,_,rfl,hp.same g02,hq.same g02,hd.same g02,hr2,fun H3 g3=>⟨_,rfl,?_⟩⟩;rw[List.take_add_one,hd'];show _;refine ite2 (fun c1=>?_) (fun c1=>?_)
  ·refine⟨g2.trans g3,?_⟩;rw[show(some d).toList=[d] from rfl,zh3,if_pos c1];exact hd.same (g02.trans g3)
  ·refine⟨g2.trans g3,?_⟩;rw[show(some d).toList=[d] from rfl,zh3,if_neg c1];exact hr2.same g3
 ·rintro σ H2 ⟨g2,r,o,rfl,hr2⟩;simp! [];rw[List.take_of_length_le (by rw[←hys.1];exact Nat.le_refl _)] at hr2
  exact k r H2 (g1.trans g2) hr2
def z3:Q3:=⟨0,0,1⟩
def rot{α:Type}(r:List α)(i:Nat):List α:=r.drop i++r.take i
def nx(r:List Q3)(i:Nat):Q3:=r.getD (i%r.length) z3
theorem zg5{α:Type}(r:List α)(i:Nat):(rot r i).length=r.length:=by
 unfold rot;rw[List.length_append,List.length_drop,List.length_take];omega
theorem rot_at{α:Type}{r:List α}{i j:Nat}(hi:i<r.length)(hj:j<r.length):(rot r i)[j]?=r[(i+j)%r.length]?:=by
 unfold rot
 by_cases c:i+j<r.length
 ·rw[List.getElem?_append_left (by rw[List.length_drop];omega),List.getElem?_drop,Nat.mod_eq_of_lt c]
 ·rw[List.getElem?_append_right (by rw[List.length_drop];omega),List.length_drop,Nat.mod_eq_sub_mod (by omega),Nat.mod_eq_of_lt (by omega),List.getElem?_take_of_lt (by omega)]
  congr 1
  omega
theorem rot_mem{α:Type}{r:List α}{i:Nat}{x:α}:x∈rot r i↔x∈r:=by
 unfold rot;rw[List.mem_append,or_comm,←List.mem_append,List.take_append_drop]
theorem zih{r:List Q3}{i:Nat}(hi:i<r.length)(j:Nat):nx (rot r i) j=nx r (i+j):=by
 unfold nx;rw[zg5,List.getD_eq_getElem?_getD,rot_at hi (Nat.mod_lt _ (by omega)),List.getD_eq_getElem?_getD,Nat.add_mod_mod]
theorem zdw{r:List Q3}{i:Nat}(hi:i<r.length):nx r i=r[i]:=by
 unfold nx;rw[Nat.mod_eq_of_lt hi,List.getD_eq_getElem?_getD,List.getElem?_eq_getElem hi];rfl
theorem zkw{r:List Q3}{i:Nat}(hi:i<r.length):r[i]?=some (nx r i):=by rw[zdw hi,List.getElem?_eq_getElem hi]
theorem zfi(r:List Q3)(i:Nat):nx r (i%r.length)=nx r i:=by
 unfold nx;rw[Nat.mod_mod]
theorem nx_len(r:List Q3)(i:Nat):nx r (r.length+i)=nx r i:=by
 unfold nx;rw[Nat.add_mod_left]
theorem zeg{r:List Q3}(h:0<r.length)(i:Nat):nx r i∈r:=by
 rw[←zfi,zdw (Nat.mod_lt _ h)];exact List.getElem_mem _
theorem nx_inj{r:List Q3}(nd:r.Nodup){i j:Nat}(hi:i<r.length)(hj:j<r.length)(h:nx r i=nx r j):i=j:=by
 rw[zdw hi,zdw hj] at h;exact(List.getElem_inj nd).mp h
def sds(r:List Q3):List (Q3×Q3):=(List.range r.length).map fun i=>(nx r i,nx r (i+1))
theorem sds_mem{r:List Q3}{e:Q3×Q3}:e∈sds r↔∃i,i<r.length/\e=(nx r i,nx r (i+1)):=by
 unfold sds;rw[List.mem_map];exact⟨fun⟨i,h,e⟩=>⟨i,List.mem_range.mp h,e.symm⟩,fun⟨i,h,e⟩=>⟨i,List.mem_range.mpr h,e.symm⟩⟩
theorem zfe{r:List Q3}(h:0<r.length)(i:Nat):(nx r i,nx r (i+1))∈sds r:=by
 refine sds_mem.mpr ⟨i%r.length,Nat.mod_lt _ h,?_⟩;rw[zfi,←zfi r (i+1),←zfi r (i%r.length+1),Nat.mod_add_mod]
def leav(ss:List (Q3×Q3))(p:Q3):List Q3:=(ss.filter fun e=>decide (e.1=p)).map Prod.snd
theorem zdi(ss:List (Q3×Q3))(e:Q3×Q3)(p:Q3):leav (ss++[e]) p=leav ss p++if e.1=p then[e.2] else[]:=by
 unfold leav;rw[List.filter_append,List.map_append]
 congr 1
 by_cases c:e.1=p
 ·rw[if_pos c,List.filter_cons,if_pos (decide_eq_true c)];rfl
 ·rw[if_neg c,List.filter_cons,if_neg (fun z=>c (of_decide_eq_true z))];rfl
theorem zi5{ss:List (Q3×Q3)}{p q:Q3}:q∈leav ss p↔(p,q)∈ss:=by
 unfold leav;rw[List.mem_map]
 constructor
 ·rintro⟨e,he,rfl⟩;obtain⟨h1,h2⟩:=List.mem_filter.mp he;rw[←of_decide_eq_true h2];exact h1
 ·intro h;exact⟨(p,q),List.mem_filter.mpr ⟨h,decide_eq_true rfl⟩,rfl⟩
theorem zla(ss:List (Q3×Q3))(p:Q3):(leav ss p).length<=ss.length:=by
 unfold leav;rw[List.length_map];exact List.length_filter_le _ _
def zdx(q r:List Q3):Prop:=∃i,i<r.length/\q=rot r i/\∀x,x∈r->bq x (nx q 0)=false
theorem zdx.uniq{n:Nat}{q q' r:List Q3}(nd:r.Nodup)(pq:∀x,x∈r->PQ n x)(h:zdx q r)(h':zdx q' r):q=q':=by
 obtain⟨i,hi,rfl,l⟩:=h;obtain⟨j,hj,rfl,l'⟩:=h';have e0:nx (Mine.rot r i) 0=nx r i:=zih hi 0;have e1:nx (Mine.rot r j) 0=nx r j:=zih hj 0;rw[e0] at l;rw[e1] at l';have mi:=zeg (r:=r) (by omega) i
 have mj:=zeg (r:=r) (by omega) j
 have e:nx r i=nx r j:=by
  exact zpd (pq _ mi) (pq _ mj) (l' _ mi) (l _ mj)
 rw[nx_inj nd hi hj e]
theorem zln{a b:Q3}:∀(ts:List Q3)(c:Q3),zgj a b c ts∈c::ts
 |[],c=>List.mem_singleton.mpr rfl
 |t::ts,c=>by
  show zgj a b (if soon a b t c=true then t else c) ts∈c::t::ts
  have:=zln (a:=a) (b:=b) ts (if soon a b t c=true then t else c);rcases List.mem_cons.mp this with z|z
  ·rw[z]
   split
   ·exact List.mem_cons_of_mem _ (List.mem_cons_self ..)
   ·exact List.mem_cons_self ..
  ·exact List.mem_cons_of_mem _ (List.mem_cons_of_mem _ z)
theorem zpt{a b:Q3}{ts:List Q3}(h:ts≠[]):zil a b ts∈ts:=by
 cases ts with
 |nil=>exact absurd rfl h
 |cons t ts=>exact zln ts t
def suc(ss:List (Q3×Q3))(e:Q3×Q3):Q3×Q3:=(e.2,zil e.2 e.1 (leav ss e.2))
structure Fen(ss:List (Q3×Q3)):Prop where
 nd:ss.Nodup
 ne:∀e,e∈ss->e.1≠e.2
 rv:∀e,e∈ss->¬(e.2,e.1)∈ss
 out:∀e,e∈ss->leav ss e.2≠[]
 inj:∀e e',e∈ss->e'∈ss->suc ss e=suc ss e'->e=e'
def itr(ss:List (Q3×Q3))(e:Q3×Q3):Nat->Q3×Q3
 |0=>e
 |n+1=>suc ss (itr ss e n)
section
variable{ss:List (Q3×Q3)}{e:Q3×Q3}
theorem Fen.suc(F:Fen ss)(he:e∈ss):Mine.suc ss e∈ss:=zi5.mp (zpt (F.out e he))
theorem Fen.itr(F:Fen ss)(he:e∈ss):∀n,Mine.itr ss e n∈ss
 |0=>he
 |n+1=>F.suc (F.itr he n)
theorem Fen.back(F:Fen ss)(he:e∈ss)(d:Nat):∀i,Mine.itr ss e i=Mine.itr ss e (i+d)->e=Mine.itr ss e d
 |0,h=>by rw[Nat.zero_add] at h;exact h
 |i+1,h=>by
  rw[Nat.add_right_comm] at h;exact F.back he d i (F.inj _ _ (F.itr he _) (F.itr he _) h)
theorem zf0{α:Type}[DecidableEq α]:∀(F os:List α),F.Nodup->(∀q,q∈F->q∈os)->F.length<=os.length
 |[],os,_,_=>Nat.zero_le _
 |a::F,os,nd,h=>by
  obtain⟨h1,h2⟩:=List.nodup_cons.mp nd;have ha:=h a (by simp)
  have:=zf0 F (os.erase a) h2 fun q hq=>(List.mem_erase_of_ne (fun z=>h1 (by rw[←z];exact hq))).mpr (h q (List.mem_cons_of_mem _ hq))
  rw[List.length_erase_of_mem ha] at this;have:=List.length_pos_of_mem ha;rw[List.length_cons];omega
theorem Fen.orb(F:Fen ss)(he:e∈ss){t:Nat}(no:∀j,0<j->j<=t->Mine.itr ss e j≠e):((List.range (t+1)).map (Mine.itr ss e)).Nodup:=by
 rw[List.nodup_iff_pairwise_ne,List.pairwise_map];refine List.pairwise_lt_range.imp_of_mem fun{i j} hi hj h z=>?_;have hj':=List.mem_range.mp hj;refine no (j-i) (by omega) (by omega) (F.back he (j-i) i ?_).symm
 rw[show i+(j-i)=j by omega]
 exact z
theorem Fen.few(F:Fen ss)(he:e∈ss){t:Nat}(no:∀j,0<j->j<=t->Mine.itr ss e j≠e):t<ss.length:=by
 have:=zf0 _ ss (F.orb he no) fun q hq=>by
  obtain⟨i,_,rfl⟩:=List.mem_map.mp hq;exact F.itr he i
 rw[List.length_map,List.length_range] at this;omega
end
def psd(w:List Q3):List (Q3×Q3):=(List.range (w.length-1)).map fun i=>(nx w i,nx w (i+1))
theorem zpk{w:List Q3}(h:0<w.length):sds w=psd w++[(nx w (w.length-1),nx w 0)]:=by
 unfold sds psd;have e:w.length=(w.length-1)+1:=by omega
 have e2:nx w (w.length-1+1)=nx w 0:=by rw[←e];exact nx_len w 0
 conv=>lhs;rw[e]
 rw[List.range_succ,List.map_append,List.map_cons,List.map_nil,e2]
theorem zix{w:List Q3}{p:Q3}{i:Nat}(h:i<w.length):nx (w++[p]) i=nx w i:=by
 rw[zdw (by rw[List.length_append];omega),zdw h,List.getElem_append_left h]
theorem zk3{w:List Q3}{p:Q3}:nx (w++[p]) w.length=p:=by
 rw[zdw (by rw[List.length_append,List.length_singleton];omega),List.getElem_append_right (Nat.le_refl _)]
 simp
theorem zfz{w:List Q3}{i j:Nat}(hi:i<w.length)(hj:j<=i):nx (w.take (i+1)) j=nx w j:=by
 rw[zdw (by rw[List.length_take];omega),zdw (by omega),List.getElem_take]
theorem zi3{w:List Q3}{i j:Nat}(h:i+j<w.length):nx (w.drop i) j=nx w (i+j):=by
 rw[zdw (by rw[List.length_drop];omega),zdw h,List.getElem_drop]
theorem psd_snoc{w:List Q3}{p:Q3}(h:0<w.length):psd (w++[p])=psd w++[(nx w (w.length-1),p)]:=by
 unfold psd;rw[List.length_append,List.length_singleton,Nat.add_sub_cancel];have e:w.length=(w.length-1)+1:=by omega
 conv=>lhs;rw[e]
 rw[List.range_succ,List.map_append,List.map_cons,List.map_nil,zix (by omega),show w.length-1+1=w.length by omega,zk3]
 congr 1
 refine List.map_congr_left fun i hi=>?_;have:=List.mem_range.mp hi;rw[zix (by omega),zix (by omega)]
theorem psd_cut{w:List Q3}{i:Nat}(h:i<w.length):psd w=psd (w.take (i+1))++psd (w.drop i):=by
 unfold psd;rw[List.length_take,List.length_drop,Nat.min_eq_left (by omega),Nat.add_sub_cancel,show w.length-1=i+(w.length-i-1) by omega,List.range_add,List.map_append,List.map_map]
 congr 1
 ·refine List.map_congr_left fun j hj=>?_;have:=List.mem_range.mp hj;rw[zfz h (by omega),zfz h (by omega)]
 ·refine List.map_congr_left fun j hj=>?_;have:=List.mem_range.mp hj;show(nx w (i+j),nx w (i+j+1))=_;rw[zi3 (by omega),zi3 (by omega),Nat.add_assoc]
def wyF(ss:List (Q3×Q3))(e:Q3×Q3):Nat->List Q3×List (List Q3)
 |0=>([e.1],[])
 |t+1=>if(itr ss e t).2∈(wyF ss e t).1 then((wyF ss e t).1.take ((wyF ss e t).1.idxOf (itr ss e t).2+1),(wyF ss e t).2++[(wyF ss e t).1.drop ((wyF ss e t).1.idxOf (itr ss e t).2)]) else((wyF ss e t).1++[(itr ss e t).2],(wyF ss e t).2)
structure Way(ss:List (Q3×Q3))(e:Q3×Q3)(t:Nat)(w:List Q3)(rs:List (List Q3)):Prop where
 pos:0<w.length
 nd:w.Nodup
 hd:nx w 0=e.1
 lst:nx w (w.length-1)=(itr ss e t).1
 rg:∀q,q∈rs->q.Nodup/\2<=q.length
 pm:(rs.flatMap sds++psd w).Perm ((List.range t).map (itr ss e))
 no:∀j,0<j->j<=t->itr ss e j≠e
 fn:wyF ss e t=(w,rs)
section
variable{ss:List (Q3×Q3)}{e:Q3×Q3}{t:Nat}{w:List Q3}{rs:List (List Q3)}
theorem Way.start:Way ss e 0 [e.1] []:=⟨Nat.zero_lt_one,List.pairwise_singleton _ _,rfl,rfl,(fun q hq=>by cases hq),.refl _,(fun j h1 h2=>by omega),rfl⟩
theorem zpg(no:∀j,0<j->j<=t->itr ss e j≠e)(hn:suc ss (itr ss e t)≠e):∀j,0<j->j<=t+1->itr ss e j≠e:=fun j h1 h2=>by
 by_cases c:j<=t
 ·exact no j h1 c
 ·rw[show j=t+1 by omega]
  exact hn
theorem Way.push(h:Way ss e t w rs)(hn:suc ss (itr ss e t)≠e)(hp:¬(itr ss e t).2∈w):Way ss e (t+1) (w++[(itr ss e t).2]) rs:=by
 have pos:=h.pos;refine⟨by rw[List.length_append];omega,List.nodup_append.mpr ⟨h.nd,List.pairwise_singleton _ _,fun a ha b hb z=>hp (by rw[List.mem_singleton.mp hb] at z;rw[←z];exact ha)⟩,by rw[zix pos];exact h.hd,?_,h.rg,?_,zpg h.no hn,by show(if _ then _ else _)=_;rw[h.fn,if_neg hp]⟩
 ·rw[List.length_append,List.length_singleton,Nat.add_sub_cancel,zk3];rfl
 ·rw[psd_snoc pos,←List.append_assoc,h.lst,List.range_succ,List.map_append];exact h.pm.append_right _
theorem Way.cut(F:Fen ss)(he:e∈ss)(h:Way ss e t w rs){i:Nat}(hi:i<w.length)(hp:nx w i=(itr ss e t).2)(hn:suc ss (itr ss e t)≠e):Way ss e (t+1) (w.take (i+1)) (rs++[w.drop i]):=by
 have pos:=h.pos;have ne:=F.ne _ (F.itr he t);have l2:i+1<w.length:=by
  rcases Nat.lt_or_ge (i+1) w.length with z|z
  ·exact z
  ·exfalso
   rw[←h.lst,←hp,show i=w.length-1 by omega] at ne
   exact ne rfl
 have ld:(w.drop i).length=w.length-i:=List.length_drop ..;refine⟨by rw[List.length_take];omega,h.nd.sublist (List.take_sublist _ _),by rw[zfz hi (by omega)];exact h.hd,?_,fun q hq=>?_,?_,zpg h.no hn,?_⟩
 ·rw[List.length_take,Nat.min_eq_left (by omega),Nat.add_sub_cancel,zfz hi (Nat.le_refl _),hp]
  rfl
 ·rcases List.mem_append.mp hq with hq|hq
  ·exact h.rg q hq
  ·rw[List.mem_singleton.mp hq];exact⟨h.nd.sublist (List.drop_sublist _ _),by omega⟩
 ·rw[List.flatMap_append,List.flatMap_cons,List.flatMap_nil,List.append_nil,zpk (w:=w.drop i) (by omega),ld,zi3 (by omega),zi3 (by omega),show i+(w.length-i-1)=w.length-1 by omega,Nat.add_zero,h.lst,hp,List.range_succ,List.map_append,List.map_cons,List.map_nil]
  have pm:=h.pm;rw[psd_cut hi] at pm;show(rs.flatMap sds++(psd (w.drop i)++[itr ss e t])++psd (w.take (i+1))).Perm _;refine List.Perm.trans ?_ (pm.append_right [itr ss e t]);rw[List.append_assoc,List.append_assoc (rs.flatMap sds)];refine List.Perm.append_left _ ?_;rw[List.append_assoc (psd (w.take (i+1)))];exact List.perm_append_comm
 ·have ix:w.idxOf (itr ss e t).2=i:=by
   rw[←hp,zdw hi];exact h.nd.idxOf_getElem i hi
  show(if _ then _ else _)=_
  rw[h.fn,if_pos (by rw[←hp,zdw hi];exact List.getElem_mem _),ix]
theorem Way.done(F:Fen ss)(he:e∈ss)(h:Way ss e t w rs)(hn:suc ss (itr ss e t)=e):(∀q,q∈rs++[w]->q.Nodup/\2<=q.length)/\((rs++[w]).flatMap sds).Perm ((List.range (t+1)).map (itr ss e)):=by
 have pos:=h.pos;have ne:=F.ne _ (F.itr he t);have e1:(itr ss e t).2=e.1:=congrArg Prod.fst hn;refine⟨fun q hq=>?_,?_⟩
 ·rcases List.mem_append.mp hq with hq|hq
  ·exact h.rg q hq
  ·rw[List.mem_singleton.mp hq];refine⟨h.nd,?_⟩;rcases Nat.lt_or_ge 1 w.length with z|z
   ·exact z
   ·exfalso
    have l:=h.lst;rw[show w.length-1=0 by omega,h.hd,←e1] at l
    exact ne l.symm
 ·rw[List.flatMap_append,List.flatMap_cons,List.flatMap_nil,List.append_nil,zpk pos,h.lst,h.hd,←e1,←List.append_assoc,List.range_succ,List.map_append];exact h.pm.append_right _
end
theorem zlj{xs:List V}{m:Nat}(h:m<=xs.length):cutV xs (some (m:Int)) none=xs.drop m:=by
 unfold cutV;rw[HT.sIx_nat,HT.sIx_none,Nat.min_eq_left h,List.take_of_length_le (by rw[List.length_drop];omega)]
theorem cut_to{xs:List V}{m:Nat}(h:m<=xs.length):cutV xs none (some (m:Int))=xs.take m:=by
 unfold cutV;rw[HT.sIx_nat,HT.sIx_none,List.drop_zero,Nat.sub_zero,Nat.min_eq_left h]
def sp_least:Sp:=fun vs H Q _=>∃(l:Addr)(ys:List V)(r:List Q3),vs=[.ref l]/\H l=some (.lst ys)/\LR QH H ys r/\0<r.length/\r.length<=200/\∀D zs q H',H D=none->Same H H'->H' D=some (.lst zs)->LR QH H' zs q->zdx q r->Q (.ref D) H'
theorem lr_pq{H:Hp}{ys:List V}{ps:List Q3}(h:LR QH H ys ps){p:Q3}(hp:p∈ps):PQ 700 p:=by
 obtain⟨j,hj⟩:=List.mem_iff_getElem?.mp hp;have hj':j<ys.length:=by rw[h.1];exact(List.getElem?_eq_some_iff.mp hj).1
 obtain⟨b,r,_,e2,hr⟩:=h.at hj';rw[hj] at e2
 cases e2;exact hr.2
theorem zhw(T:Txt K mg ad fd):FnOk P w K mg base CX0 2 (ad 12) (fd 12) ["ring"] sp_least:=by
 refine T.from_least.fn.ok zcq (fun vs H Q E h=>?_) (fun cdv A outer s H vs Q E hr h=>?_)
 ·obtain⟨l,ys,r,rfl,_⟩:=h;rfl
 obtain⟨l,ys,r,rfl,hl,hy,n0,n10,k⟩:=h;have zC:=@pss3;have zd:=@zbu;have za:=@zbt;have zq:=@zd8;have zR:=@zf2;have zg:=@pa1;have zy:=@zd7;have qpv:=@pv;have zm:=@zbw;have zf:=@zaf;have zn:=@zen;have zH:=@zgl;have zj:=@zbv;have zh:=@pa2;have zc:=@ze3;have zo:=@zc0;have ze:=@zb3;have zb:=@zdv;have zU:=@zhe;have zV:=@zkx;have zW:=@zkd;generalize @L2.PE=QE,@L2.PT=QT,@L2.PW=QW,@L2.PA=QA,@L2.PS=QS,@L2.PSs=QSs,@L2.PG=QG,@L2.PGs=QGs,@L2.PI=QI,@L2.PO=QO,@L2.PIf=QIf at zC zd za zq zR zg zy qpv zm zf zn zH zj zh zc zo ze zb zU zV zW⊢;refine⟨_,
  (zC
   (zd (i:=1) zcq.nd rfl (Or.inl rfl) za)
   (zq PassesOwn.never rfl (zR rfl T.b_range (zg (zy zdg rfl T.b_len zee (zg (qpv 0) za2)) zck)) (zm (i:=2) zcq.nd rfl (Or.inl rfl)) (zf (zn (zH (zj (zpp T) (hr.mono (by decide)) rfl T.before.mg T.before.fn.kp T.before.bn .nil pass0 (zh (zc zak (qpv 0) (qpv 2) (fun _ _=>rfl)) za8 (zc zak (qpv 0) (qpv 1) (fun _ _=>rfl)) za8))) (zf (zd (i:=1) zcq.nd rfl (Or.inl rfl) (qpv 2))) zo)))
   (ze (zb op_cat (zU ze9 (qpv 0) (zV (qpv 1)) zW) (zU ze9 (qpv 0) zW (zV (qpv 1))))))
  ,?_⟩
 clear zC zd za zq zR zg zy qpv zm zf zn zH zj zh zc zo ze zb zU zV zW QE QT QW QA QS QSs QG QGs QI QO QIf
 dsimp! [L2.start]
 have pq:∀x,x∈r->PQ 700 x:=fun x hx=>lr_pq hy hx;simp! [];refine zbk ?_;simp! [zp0,hl];refine⟨by omega,by have:=hy.1;omega,?_⟩
 rw[show((ys.length:Int)).toNat=ys.length by omega]
 refine ze6 (n:=ys.length) (fun i σ H'=>H'=H/\∃(m:Nat)(o:Option V),σ=[some (V.ref l),some (V.int m),o]/\m<r.length/\∀j,j<i->bq (nx r j) (nx r m)=false) ⟨rfl,0,none,rfl,n0,fun j hj=>by omega⟩ ?_ ?_
 ·intro _ _;rintro i σ H2 hi ⟨rfl,m,o,rfl,hm,hj⟩;have hir:i<r.length:=by rw[←hy.1];exact hi
  have hmy:m<ys.length:=by rw[hy.1];exact hm
  obtain⟨pi,qi,ei,fi,hqi⟩:=hy.at hi;obtain⟨pm,qm,em,fm,hqm⟩:=hy.at hmy;rw[zkw hir] at fi;rw[zkw hm] at fm
  cases fi
  cases fm;have ai:atI ys (i:Int)=some (V.ref pi):=zc5 ei;have am:atI ys (m:Int)=some (V.ref pm):=zc5 em;simp! [Int.zero_add,hl,ai,am];refine⟨pi,pm,_,_,_,_,_,_,rfl,hqi.tb,hqm.tb,_,rfl,ite2 (fun c=>?_) (fun c=>?_)⟩
  ·refine⟨rfl,i,rfl,hir,fun j hji=>?_⟩;rcases Nat.lt_or_ge j i with z|z
   ·cases e:bq (nx r j) (nx r i) with
    |false=>rfl
    |true=>
     have:=znz (pq _ (zeg n0 j)).pos (pq _ (zeg n0 i)).pos (pq _ (zeg n0 m)).pos e c;have h0:=hj j z;unfold bq at h0;rw[this] at h0
     cases h0
   ·rw[show j=i by omega]
    exact bef_irr _ _ _
  ·refine⟨rfl,m,rfl,hm,fun j hji=>?_⟩;rcases Nat.lt_or_ge j i with z|z
   ·exact hj j z
   ·rw[show j=i by omega]
    exact Bool.eq_false_iff.mpr c
 ·rintro σ H2 ⟨rfl,m,o,rfl,hm,hj⟩;have hmy:m<=ys.length:=by rw[hy.1];omega
  simp! [hl,zlj hmy];intro p1 hp1;have g3:=za1 hp1 (HO.lst (ys.drop m));have h31:upd H2 p1 (HO.lst (ys.drop m)) p1=some (HO.lst (ys.drop m)):=upd_same;have hr3:=g3 _ _ hl;generalize upd H2 p1 (HO.lst (ys.drop m))=H3 at*;simp! [hr3,cut_to hmy];intro p2 hq2;have g4:=za1 hq2 (HO.lst (ys.take m));have h42:upd H3 p2 (HO.lst (ys.take m)) p2=some (HO.lst (ys.take m)):=upd_same;have h41:=g4 _ _ h31;generalize upd H3 p2 (HO.lst (ys.take m))=H4 at*;have ly:=hy.1;refine⟨p1,p2,_,_,rfl,rfl,h41,h42,Nat.le_of_lt (small1000 ?_),fun p3 hp3=>?_⟩
  ·rw[List.length_drop,List.length_take];omega
  have g5:=za1 hp3 (HO.lst (ys.drop m++ys.take m));have g25:=g3.trans (g4.trans g5);refine k p3 _ (rot r m) _ ((g3.trans g4).free hp3) g25 upd_same (((hy.drop m).app (hy.take m)).same g25) ⟨m,hm,rfl,fun x hx=>?_⟩;have e0:nx (rot r m) 0=nx r m:=zih hm 0;rw[e0];obtain⟨j,hj',rfl⟩:=List.mem_iff_getElem.mp hx;rw[←zdw hj'];exact hj j (by omega)
def S2H(H:Hp)(p:Addr)(e:Q3×Q3):Prop:=∃c d,H p=some (.tup [.ref c,.ref d])/\QH H c e.1/\QH H d e.2
theorem zed:∀(H H':Hp)(p:Addr)(e:Q3×Q3),zad H H'->S2H H p e->S2H H' p e:=fun _ _ _ _ g⟨c,d,h1,h2,h3⟩=>⟨c,d,g _ _ h1,zc2 _ _ _ _ g h2,zc2 _ _ _ _ g h3⟩
theorem zny{H:Hp}{d:Addr}{kvs:List (List Key×V)}(h:H d=some (.dT kvs)):IsD H d:=.inr ⟨kvs,.inl h⟩
structure Lv(H0 H:Hp)(d:Addr)(kvs:List (List Key×V))(ss:List (Q3×Q3)):Prop where
 same:Same H0 H
 new:H0 d=none
 at_:H d=some (.dT kvs)
 len:kvs.length<=ss.length
 ent:∀p v,valV kvs (kQ p)=some v->∃a zs,v=.ref a/\H0 a=none/\H a=some (.lst zs)/\LR QH H zs (leav ss p)
 non:∀p,valV kvs (kQ p)=none->leav ss p=[]
 dis:∀p p' v,valV kvs (kQ p)=some v->valV kvs (kQ p')=some v->p=p'
theorem Lv.mono{H0 H H':Hp}{d:Addr}{kvs:List (List Key×V)}{ss:List (Q3×Q3)}(h:Lv H0 H d kvs ss)(g:Same H H'):Lv H0 H' d kvs ss:=
 ⟨h.same.trans g,h.new,g _ _ h.at_,h.len,fun k v e=>by
  obtain⟨a,ys,e1,e2,e3,e4⟩:=h.ent k v e;exact⟨a,ys,e1,e2,g _ _ e3,e4.same g⟩,h.non,h.dis⟩
theorem Lv.app{H0 H:Hp}{d a t b:Addr}{kvs:List (List Key×V)}{ss:List (Q3×Q3)}{p q:Q3}{Qc:VK}(h:Lv H0 H d kvs ss)(hm:ss.length<500)(ha:QH H a p)(hb:QH H b q)(ht:H t=none)
  (k:∀(l:Addr)(H1:Hp)(zs:List V) kvs',H1 l=some (.lst zs)->zs.length<sizeLine->Lv H0 (upd H1 l (.lst (zs++[.ref b]))) d kvs' (ss++[(p,q)])->Qc (.ref l) H1):rSD d (.ref a) (.ref t) (upd H t (.lst [])) Qc:=by
 have g:=za1 ht (HO.lst []);have hg:=h.mono g;refine⟨kvs,kQ p,a,hg.at_,rfl,g _ _ ha.1,small1000 (by have:=h.len;omega),fun v hv=>?_,fun hv=>?_⟩
 ·obtain⟨l,ys,rfl,e2,e3,e4⟩:=hg.ent _ _ hv;have ly:ys.length<=ss.length:=by rw[e4.1];exact zla _ _
  refine k l _ ys kvs e3 (small1000 (by omega)) ⟨zat hg.same e2,h.new,?_,by have:=h.len;rw[List.length_append];omega,fun p' v' hv'=>?_,fun p' hv'=>?_,h.dis⟩
  ·rw[za5 (fun z=>by rw[←z,hg.at_] at e3;cases e3)]
   exact hg.at_
  ·obtain⟨l',ys',rfl,f2,f3,f4⟩:=hg.ent _ _ hv'
   by_cases el:l'=l
   ·subst el;rw[e3] at f3
    cases f3;have pp:=h.dis _ _ _ hv' hv;subst pp;refine⟨l',_,rfl,f2,upd_same,?_⟩;rw[zdi,if_pos rfl];exact(e4.snoc (hb.same g)).ts zc2 (zcg e3)
   ·refine⟨l',ys',rfl,f2,by rw[za5 el];exact f3,?_⟩
    rw[zdi,if_neg (fun z=>el (by
     have z':p=p':=z;rw[←z'] at hv';rw[hv] at hv'
     cases hv';rfl)),List.append_nil]
    exact f4.ts zc2 (zcg e3)
  ·rw[zdi,h.non _ hv',if_neg (fun z=>by
    have z':p=p':=z;rw[z',hv'] at hv
    cases hv)]
   rfl
 ·have td:t≠d:=fun z=>by rw[z,h.at_] at ht;cases ht
  have h0t:=h.same.free ht;have up:∀b' o,b'≠d->H b'=some o->upd (upd (upd H t (.lst [])) d (.dT (putK kvs (kQ p) (.ref t)))) t (.lst [.ref b]) b'=some o:=fun b' o nb hb'=>by
   have nt:b'≠t:=fun z=>by rw[z,ht] at hb';cases hb'
   rw[za5 nt,za5 nb,za5 nt];exact hb'
  have ts:zad H (upd (upd (upd H t (.lst [])) d (.dT (putK kvs (kQ p) (.ref t)))) t (.lst [.ref b])):=fun b' xs hb'=>up b' _ (fun z=>by rw[z,h.at_] at hb';cases hb') hb'
  have nt:∀p',valV kvs (kQ p')≠some (.ref t):=fun p' z=>by
   obtain⟨l',ys',e,f2,f3,f4⟩:=h.ent _ _ z
   cases e;rw[ht] at f3
   cases f3
  refine k t _ [] (putK kvs (kQ p) (.ref t)) (by rw[za5 td];exact upd_same) (small1000 (by simp)) ⟨fun b' o hb'=>up b' o (fun z=>by rw[z,h.new] at hb';cases hb') (h.same _ _ hb'),h.new,by rw[za5 td.symm];exact upd_same,Nat.le_trans (zbp _ _ _) (by have:=h.len;rw[List.length_append];exact Nat.succ_le_succ this),fun p' v' hv'=>?_,fun p' hv'=>?_,fun p' p2 v' h1 h2=>?_⟩
  ·rw[zco] at hv'
   by_cases ek:kQ p'=kQ p
   ·rw[if_pos ek] at hv'
    cases hv';have e':=zei ek;subst e';refine⟨t,[.ref b],rfl,h0t,upd_same,?_⟩;rw[zdi,if_pos rfl,h.non _ hv];exact LR.one (R:=QH) (zc2 _ _ _ _ ts hb)
   ·rw[if_neg ek] at hv';obtain⟨l',ys',rfl,f2,f3,f4⟩:=h.ent _ _ hv';refine⟨l',ys',rfl,f2,up _ _ (fun z=>by rw[z,h.at_] at f3;cases f3) f3,?_⟩
    rw[zdi,if_neg (fun z=>ek (by have z':p=p':=z;rw[z'])),List.append_nil]
    exact f4.ts zc2 ts
  ·rw[zco] at hv'
   by_cases ek:kQ p'=kQ p
   ·rw[if_pos ek] at hv'
    cases hv'
   ·rw[if_neg ek] at hv';rw[zdi,h.non _ hv',if_neg (fun z=>ek (by have z':p=p':=z;rw[z']))]
    rfl
  ·rw[zco] at h1 h2
   by_cases e1:kQ p'=kQ p
   ·by_cases e2:kQ p2=kQ p
    ·rw[zei e1,zei e2]
    ·rw[if_pos e1] at h1;rw[if_neg e2] at h2
     cases h1;exact absurd h2 (nt _)
   ·by_cases e2:kQ p2=kQ p
    ·rw[if_neg e1] at h1;rw[if_pos e2] at h2
     cases h2;exact absurd h1 (nt _)
    ·rw[if_neg e1] at h1;rw[if_neg e2] at h2;exact h.dis _ _ _ h1 h2
def sp_leav:Sp:=fun vs H Q _=>∃(l:Addr)(ys:List V)(ss:List (Q3×Q3)),vs=[.ref l]/\H l=some (.lst ys)/\ys.length<=200/\LR S2H H ys ss/\∀d kvs H',H d=none->Lv H H' d kvs ss->Q (.ref d) H'
theorem zhf(T:Txt K mg ad fd):FnOk P w K mg base CX0 1 (ad 8) (fd 8) ["land"] sp_leav:=by
 refine T.leaving_of.fn.ok zcn (fun vs H Q E h=>?_) (fun cdv A outer s H vs Q E hr h=>?_)
 ·obtain⟨l,ys,ss,rfl,_⟩:=h;rfl
 obtain⟨l,ys,ss,rfl,hl,hn,hs,k⟩:=h;have zC:=@pss3;have zd:=@zbu;have zO:=@zf4;have zq:=@zd8;have zp:=@zc1;have qpv:=@pv;have zK:=@zfb;have zE:=@ze8;have zm:=@zbw;have zL:=@zfd;have zf:=@zaf;have zv:=@zdb;have zA:=@zhk;have yg:=@pe_dsd;have zt:=@zdr;have zw:=@zcl;have zg:=@pa1;have ze:=@zb3;generalize @L2.PE=QE,@L2.PT=QT,@L2.PW=QW,@L2.PA=QA,@L2.PS=QS,@L2.PSs=QSs,@L2.PG=QG,@L2.PGs=QGs,@L2.PI=QI,@L2.PO=QO,@L2.PIf=QIf at zC zd zO zq zp qpv zK zE zm zL zf zv zA yg zt zw zg ze⊢;refine⟨_,
  (zC
   (zd (i:=1) zcn.nd rfl (Or.inl rfl) zO)
   (zq PassesOwn.never rfl (zp (qpv 0)) (zK (n:=2) rfl (zE (zm (i:=2) zcn.nd rfl (Or.inl rfl)) (zE (zm (i:=3) zcn.nd rfl (Or.inl rfl)) zL))) (zf (zv (zA PySem.F.plainAttrs_list PySem.F.slot_list_append PySem.F.type_list_append zbo (yg (zda hr) (qpv 1) (qpv 2) (zt zw) ⟨rfl,rfl,rfl,rfl⟩) (zg (qpv 3) za2)))))
   (ze (qpv 1)))
  ,?_⟩
 clear zC zd zO zq zp qpv zK zE zm zL zf zv zA yg zt zw zg ze QE QT QW QA QS QSs QG QGs QI QO QIf
 dsimp! [L2.start]
 simp! [zje];intro d hd;have gd:=za1 hd (HO.dT []);refine zbk ?_;simp! [zcx];refine⟨⟨_,.of (gd _ _ hl)⟩,?_⟩;refine zaz (K:=K) (a:=l) (xs:=ys) (fun i σ H'=>∃(kvs:List (List Key×V))(o1 o2:Option V),σ=[some (V.ref l),some (V.ref d),o1,o2]/\Lv H H' d kvs (ss.take i)) ⟨[],none,none,rfl,gd,hd,upd_same,Nat.zero_le _,fun p v z=>(by cases z),fun p z=>rfl,fun p p' v z=>(by cases z)⟩ (fun i σ H' _ iv=>.of (by obtain⟨_,_,_,_,lv⟩:=iv;exact lv.same _ _ hl)) ?_ ?_
 ·intro _ _;rintro i v σ H2 hi ⟨kvs,o1,o2,rfl,lv⟩;obtain⟨p,e,rfl,he',c,c',h1,h2,h3⟩:=hs.2 i v hi;have hi':=(List.getElem?_eq_some_iff.mp hi).1;have h1':=lv.same _ _ h1;simp! [tDSd,h1'];refine⟨zny lv.at_,fun t ht=>?_⟩;refine lv.app (p:=e.1) (q:=e.2) (by rw[List.length_take];omega) (h2.same lv.same) (h3.same lv.same) ht fun l' H3 zs kvs' e1 e2 lv'=>?_
  rw[List.take_add_one,he'];exact⟨zd5 e1,l',rfl,zs,e1,e2,kvs',lv'⟩
 ·rintro σ H2 ⟨kvs,o1,o2,rfl,lv⟩;simp! [];rw[List.take_of_length_le (Nat.le_of_eq hs.1.symm)] at lv;exact k d kvs H2 hd lv
def RgQ(H:Hp)(p:Addr)(r:List Q3):Prop:=∃zs,H p=some (.lst zs)/\LR QH H zs r
theorem RgQ.same{H H':Hp}{p:Addr}{r:List Q3}(h:RgQ H p r)(g:Same H H'):RgQ H' p r:=by
 obtain⟨zs,h1,h2⟩:=h;exact⟨zs,g _ _ h1,h2.same g⟩
theorem RgQ.put{H:Hp}{p R:Addr}{r:List Q3}{ys:List V}{o:HO}(h:RgQ H p r)(ne:p≠R)(hR:H R=some (.lst ys)):RgQ (upd H R o) p r:=by
 obtain⟨zs,h1,h2⟩:=h;exact⟨zs,by rw[za5 ne];exact h1,h2.ts zc2 (zcg hR)⟩
theorem LR.imp{α:Type}{R R':Hp->Addr->α->Prop}{H H':Hp}{ys:List V}{as:List α}(h:LR R H ys as)(k:∀p a,R H p a->R' H' p a):LR R' H' ys as:=⟨h.1,fun j v z=>by
 obtain⟨p,a,e,f,r⟩:=h.2 j v z;exact⟨p,a,e,f,k _ _ r⟩⟩
theorem zhp{H H':Hp}{ys:List V}{rs:List (List Q3)}(h:LR RgQ H ys rs)(g:Same H H'):LR RgQ H' ys rs:=h.imp fun _ _ t=>t.same g
theorem lr_ord{α:Type}{R:Hp->Addr->α->Prop}{H:Hp}{ys:List V}{fs:List α}{p:List Nat}(z0:α)(h:LR R H ys fs)(or:p.Perm (List.range fs.length)):LR R H (p.map fun i=>ys.getD i .non) (p.map fun i=>fs.getD i z0):=by
 refine⟨by rw[List.length_map,List.length_map],fun j v hv=>?_⟩
 rw[List.getElem?_map] at hv
 cases e:p[j]? with
 |none=>rw[e] at hv;cases hv
 |some i=>
  rw[e] at hv;have ev:ys.getD i .non=v:=by simpa using hv
  have hi:i<fs.length:=List.mem_range.mp (or.mem_iff.mp (List.mem_of_getElem? e));obtain⟨q1,f,e1,e2,e3⟩:=h.at (j:=i) (by rw[h.1];exact hi)
  rw[List.getD_eq_getElem?_getD,e1] at ev;refine⟨q1,f,ev.symm,?_,e3⟩;rw[List.getElem?_map,e,Option.map_some,List.getD_eq_getElem?_getD,e2];rfl
theorem zeu{g:Int}{a b:Q3}(ha:PQ 700 a)(hb:PQ 700 b)(ga:a.w<=g)(gb:b.w<=g)(e:kyQ g a=kyQ g b):a=b:=by
 cases h1:bq a b with
 |true=>
  have:=ky_lt ha.pos hb.pos ga gb h1;rw[e,sto2.irr] at this
  cases this
 |false=>
  cases h2:bq b a with
  |true=>
   have:=ky_lt hb.pos ha.pos gb ga h2;rw[e,sto2.irr] at this
   cases this
  |false=>exact zpd ha hb h1 h2
theorem zji{g:Int}:∀{a b:List Q3},(∀p,p∈a->PQ 700 p/\p.w<=g)->(∀p,p∈b->PQ 700 p/\p.w<=g)->a.map (kyQ g)=b.map (kyQ g)->a=b
 |[],[],_,_,_=>rfl
 |[],_::_,_,_,e=>by cases e
 |_::_,[],_,_,e=>by cases e
 |x::xs,y::ys,ha,hb,e=>by
  rw[List.map_cons,List.map_cons] at e
  injection e with e1 e2
  have h1:=ha x (by simp)
  have h2:=hb y (by simp)
  rw[zeu h1.1 h2.1 h1.2 h2.2 e1,zji (fun p hp=>ha p (List.mem_cons_of_mem _ hp)) (fun p hp=>hb p (List.mem_cons_of_mem _ hp)) e2]
def P2H(H:Hp)(p:Addr)(a:Int×Int):Prop:=H p=some (.tup [.int a.1,.int a.2])
theorem zec:∀(H H':Hp)(p:Addr)(a:Int×Int),zad H H'->P2H H p a->P2H H' p a:=fun _ _ _ _ g h=>g _ _ h
theorem lsI_lr{H:Hp}{p:Addr}{qs:List V}{ks:List (Int×Int)}(h:H p=some (.lst qs))(r:LR P2H H qs ks):LsI H (.ref p) ks:=by
 refine⟨p,qs,rfl,h,r.1,fun j k hk=>?_⟩;obtain⟨b,k',e1,e2,e3⟩:=r.at (j:=j) (by rw[r.1];exact(List.getElem?_eq_some_iff.mp hk).1)
 rw[hk] at e2
 cases e2;exact⟨b,e1,e3⟩
theorem LsI.same'{H H':Hp}{v:V}{ks:List (Int×Int)}(h:LsI H v ks)(g:Same H H'):LsI H' v ks:=by
 obtain⟨q0,qs0,e0,hq0,l0,k0⟩:=h;refine⟨q0,qs0,e0,g _ _ hq0,l0,fun j k hk=>?_⟩;obtain⟨b,hb1,hb2⟩:=k0 j k hk;exact⟨b,hb1,g _ _ hb2⟩
theorem stoL:STO ltL:=⟨zpb,ltL_tr,znc⟩
def lposP:Pos:=(lamAt zag).2
def qlP:Str:=(PyProof.Rows.envOfC "by_points" (za0 zag) 0 0 .none).qual++"<lambda>"
theorem zlo{fs:List (List Q3)}(h:∀r,r∈fs->r.length<=150):fs.flatten.length<=150*fs.length:=by
 induction fs with
 |nil=>exact Nat.le_refl _
 |cons r fs ih=>
  rw[List.flatten_cons,List.length_append,List.length_cons];have:=h r (by simp)
  have:=ih fun r hr=>h r (List.mem_cons_of_mem _ hr);omega
def OrdR(g:Int)(os:List (List Q3)):Prop:=os.Pairwise fun a b=>ltL (a.map (kyQ g)) (b.map (kyQ g))=true
def sp_byp(tb:Addr)(lp:Pos)(ql:Str):Sp:=fun vs H Q _=>∃(l:Addr)(ys:List V)(fs:List (List Q3))(A:Addr->Prop),vs=[.ref l]/\H l=some (.lst ys)/\ys.length<64/\LR (fun H1 p r=>A p/\RgQ H1 p r) H ys fs/\(∀r,r∈fs->r.length<=150)/\fs.Nodup/\zbq H tb lp ql/\
 ∀D zs os g H',H D=none->zb0 tb H H'->zbq H' tb lp ql->H' D=some (.lst zs)->LR (fun H1 p r=>A p/\RgQ H1 p r) H' zs os->os.Perm fs->(∀r,r∈fs->∀p,p∈r->PQ 700 p/\p.w<=g)->OrdR g os->Q (.ref D) H'
theorem zj6(T:Txt K mg ad fd)(hK:K.In base)(hB:base.BuiltinsAt mg (ad 29)):FnOk P w K mg base CX0 3 (ad 6) (fd 6) ["things"] (sp_byp (ad 29) lposP qlP):=by
 refine T.by_points_c.ok zd6 (fun vs H Q E h=>?_) (fun A outer s H vs Q E hr h=>?_)
 ·obtain⟨l,ys,fs,A,rfl,_⟩:=h;rfl
 obtain⟨l,ys,fs,A,rfl,hl,h64,hpA,h10,nd,lt,k⟩:=h;have hp:LR RgQ H ys fs:=hpA.imp (R':=RgQ) fun _ _ t=>t.2;have zD:=@pss4;have zd:=@zbu;have zt:=@zdr;have zw:=@zcl;have zq:=@zd8;have zp:=@zc1;have qpv:=@pv;have zm:=@zbw;have zf:=@zaf;have zv:=@zdb;have zA:=@zhk;have zg:=@pa1;have zj:=@zbv;have ze:=@zb3;have yt:=@pe_sortK;have zI:=@zg8;unfold L2.CompBody at zI;have yu:=@pi_listK;have zF:=@zel;have zN:=@zhd;generalize @L2.PE=QE,@L2.PT=QT,@L2.PW=QW,@L2.PA=QA,@L2.PS=QS,@L2.PSs=QSs,@L2.PG=QG,@L2.PGs=QGs,@L2.PI=QI,@L2.PO=QO,@L2.PIf=QIf at zD zd zt zw zq zp qpv zm zf zv zA zg zj ze yt zI yu zF zN⊢;refine⟨_,
  (zD
   (zd (i:=1) zd6.nd rfl (Or.inl rfl) (zt zw))
   (zq PassesOwn.never rfl (zp (qpv 0)) (zm (i:=2) zd6.nd rfl (Or.inl rfl)) (zf (zv (zA PySem.F.plainAttrs_list PySem.F.slot_list_extend PySem.F.type_list_extend ziy (qpv 1) (zg (qpv 2) za2)))))
   (zd (i:=3) zd6.nd rfl (Or.inr rfl) (zj (zh9 T) (hr.mono (by omega)) rfl T.order_keys.mg T.order_keys.fn.kp T.order_keys.bn .nil pass0 (zg (qpv 1) za2)))
   (ze (yt (P:=ad 29) (c0:=ad 28) (x:="thing") (y:="keys") (c:=s.heap.objs.size+1) (i0:=3) (zn1 (hu80 hr)) hr rfl T.b_sorted (zg (qpv 0) za2) ⟨rfl,rfl,rfl,rfl,rfl,by decide+kernel,by decide+kernel⟩ rfl rfl rfl rfl rfl rfl (PySem.W.codeHd_of_K hK T.by_points_c.hd) hB (fun _ _ _ _=>rfl) (by intro fa2 c2 A2 s3 H3 hu2;exact(zI (dsc:=(lamAt zag).1) (N:=["thing","keys"]) (own:=["P"]) (ix:=[1]) rfl rfl rfl ⟨rfl,by decide+kernel,by decide+kernel,by decide+kernel,by decide+kernel⟩ (yu (K':=K) rfl (qpv 0)) (fun cl C fp s2 H2 xe=>⟨(zm (i:=0) (show List.Nodup (["P","keys"]:List Str) from by decide+kernel) rfl (Or.inl rfl)),zF,(zN (by show A2.units+3+1<cLine;omega) (qpv 1) (qpv 0) (fun _ _=>rfl))⟩))))))
  ,?_⟩
 clear zD zd zt zw zq zp qpv zm zf zv zA zg zj ze yt zI yu zF zN QE QT QW QA QS QSs QG QGs QI QO QIf
 dsimp! [L2.start]
 simp! [];intro D0 hD0;have g0:=za1 hD0 (HO.lst []);refine zbk ?_;simp! [zcx];refine⟨⟨_,.of (g0 _ _ hl)⟩,?_⟩;have lenF:fs.length=ys.length:=hp.1.symm;refine zaz (K:=K) (a:=l) (xs:=ys) (fun i σ H'=>Same H H'/\∃(zs:List V)(o:Option V),σ=[some (.ref l),some (.ref D0),o,none]/\H' D0=some (.lst zs)/\LR QH H' zs (fs.take i).flatten) ⟨g0,[],none,rfl,upd_same,by rw[List.take_zero];exact .nil⟩ (fun i σ H' _ iv=>.of (iv.1 _ _ hl)) ?_ ?_
 ·intro _ _;rintro i v σ H1 hi ⟨g1,zs,o,rfl,hD1,hz⟩;obtain⟨p,f,rfl,hf,us,hq,hu⟩:=hp.2 i v hi;have hq1:=g1 _ _ hq;have hi':=(List.getElem?_eq_some_iff.mp hi).1;have lf:=h10 f (List.mem_of_getElem? hf);have lz:zs.length<=9700:=by
   rw[hz.1];have:=zlo (fs:=fs.take i) fun r hr=>h10 r (List.mem_of_mem_take hr);rw[List.length_take] at this;omega
  simp! [zkt,hq1];refine⟨zd5 hD1,zs,hD1,Nat.le_of_lt (small10k (by have:=hu.1;omega)),zat g1 hD0,?_⟩
  rw[List.take_add_one,hf];show LR QH _ _ (fs.take i++[f]).flatten;rw[List.flatten_append,List.flatten_cons,List.flatten_nil,List.append_nil];exact(hz.app (hu.same g1)).ts zc2 (zcg hD1)
 ·rintro σ H1 ⟨g1,zs,o,rfl,hD1,hz⟩;rw[List.take_of_length_le (by rw[lenF];exact Nat.le_refl _)] at hz
  simp! [];refine⟨D0,zs,fs.flatten,rfl,hD1,by rw[hz.1];have:=zlo h10;omega,hz,fun d kvs g qs H2 g2 hd2 gp gm ky _ _ _ _=>?_⟩
  have g12:=g1.trans g2;simp! [tSortK];refine⟨ys,g12 _ _ hl,h64,lt.same g12,fun c' H3 st3 lt3 hc3=>?_⟩;have lt2:=lt.same g12;have hl3:=st3.lst lt2 (g12 _ _ hl);have hd3:H3 d=some (.dT kvs):=st3 _ _ (lt2.ne hd2 fun _ z=>nomatch z) hd2;have ts3:zad H2 H3:=fun b xs q=>st3.tup lt2 q;have ky3:=ky.ts ts3;have hp3:LR RgQ H3 ys fs:=(zhp hp g12).imp fun p r⟨us,h1,h2⟩=>⟨us,st3.lst lt2 h1,h2.ts zc2 ts3⟩;have hpA3:LR (fun H1 p r=>A p/\RgQ H1 p r) H3 ys fs:=hpA.imp fun p r⟨x,t⟩=>⟨x,(by obtain⟨us,h1,h2⟩:=t.same g12;exact⟨us,st3.lst lt2 h1,h2.ts zc2 ts3⟩)⟩
  refine⟨fun i ks H'=>Same H3 H'/\ks.length=i/\∀j,j<i->LsI H' (ks.getD j .non) ((fs.getD j []).map (kyQ g)),⟨⟨.refl _,rfl,fun j hj=>by omega⟩,fun i ks H' q=>q.1 _ _ hc3,fun i ks H' q=>q.2.1,fun i ks H4 v hv q=>?_,fun ks H4 q=>?_⟩⟩
  ·obtain⟨g4,lk,q⟩:=q;obtain⟨p,f,rfl,hf,hpf⟩:=hp3.2 i v hv;obtain⟨us,hq,hu⟩:=hpf.same g4;have hd4:=g4 _ _ hd3;have lf:=h10 f (List.mem_of_getElem? hf);refine zd2 ?_;simp! [zcx];refine⟨⟨_,.of hq⟩,fun D hD=>?_⟩;refine zcs (xs:=us) (zk6 P2H (f.map (kyQ g)) H4 D) (zeq hD) (fun n qs H' z=>.of (z.1 _ _ hq)) ?_ ?_
   ·rintro n qs H5 x hn hx iv;obtain⟨g5,hD5,lq,hqs⟩:=id iv;obtain⟨a,c,rfl,hc',hc⟩:=hu.2 n x hx;obtain⟨b,e1,h1⟩:=ky3 c (List.mem_flatten.mpr ⟨f,List.mem_of_getElem? hf,List.mem_of_getElem? hc'⟩);simp! [zmv];refine⟨_,by rw[←e1];exact .t (k:=kQ c) (g5 _ _ hd4) (g5 _ _ hc.1),?_⟩
    exact zf1 zec hD (by have:=hu.1;omega) iv hn (by rw[List.getElem?_map,hc'];rfl) (.refl _) (g5 _ _ (g4 _ _ h1))
   ·rintro qs H5 ⟨g5,hD5,lq,hqs⟩;rw[List.take_of_length_le (by rw[List.length_map,hu.1];exact Nat.le_refl _)] at hqs
    refine⟨g4.trans g5,by rw[List.length_append,lk];rfl,fun j hj=>?_⟩
    by_cases e:j<i
    ·have ej:(ks++[V.ref D]).getD j .non=ks.getD j .non:=by
      rw[List.getD_eq_getElem?_getD,List.getElem?_append_left (by omega),←List.getD_eq_getElem?_getD]
     rw[ej];exact LsI.same' (q j e) g5
    ·have ej:j=i:=by omega
     subst ej;have e3:(ks++[V.ref D]).getD j .non=.ref D:=by
      rw[List.getD_eq_getElem?_getD,List.getElem?_append_right (by omega),lk,Nat.sub_self]
      rfl
     have e4:fs.getD j []=f:=by rw[List.getD_eq_getElem?_getD,hf];rfl
     rw[e3,e4];exact lsI_lr hD5 hqs
  ·obtain⟨g4,lk,q⟩:=q;refine⟨_,⟨fun i=>(fs.getD i []).map (kyQ g),fun i hi=>q i (by omega),rfl⟩,fun D pp hD or ep=>?_⟩
   have gw:∀r,r∈fs->∀p,p∈r->PQ 700 p/\p.w<=g:=fun r hr p hp'=>⟨lr_pq hz (List.mem_flatten.mpr ⟨r,hr,hp'⟩),gm _ (List.mem_flatten.mpr ⟨r,hr,hp'⟩)⟩;rw[←lenF] at or ep;have ndk:(fs.map fun r=>r.map (kyQ g)).Nodup:=by
    rw[List.nodup_iff_pairwise_ne,List.pairwise_map];rw[List.nodup_iff_pairwise_ne] at nd;exact nd.imp_of_mem fun{a b} ha hb ne e=>ne (zji (gw a ha) (gw b hb) e)
   obtain⟨pm,pw⟩:=zib stoL (fun r:List Q3=>r.map (kyQ g)) [] ndk or ep;have g5:=za1 hD (HO.lst (pp.toList.map fun i=>ys.getD i .non));refine k D _ _ g _ (g12.free (?_:H2 D=none)) (fun b o nb e=>g5 _ _ (g4 _ _ (st3 _ _ nb (g12 _ _ e)))) ((lt3.same g4).same g5) upd_same ((lr_ord [] hpA3 or).imp fun p r t=>⟨t.1,t.2.same (g4.trans g5)⟩) pm gw pw;have h3:=g4.free hD
   cases e:H2 D with
   |none=>rfl
   |some o=>
    by_cases nb:D=(ad 29)
    ·obtain⟨tp,e3,_⟩:=lt3;rw[←nb,h3] at e3
     cases e3
    ·rw[st3 _ _ nb e] at h3
     cases h3
theorem zeh(T:Txt K mg ad fd):FnOk P w K mg base CX0 1 (ad 14) (fd 14) ["_law_one","_law_other"] zgq:=by
 refine T.law_divisor.fn.ok zef (fun vs H Q E h=>?_) (fun cdv A outer s H vs Q E hr h=>?_)
 ·obtain⟨a,b,rfl,_⟩:=h;rfl
 obtain⟨a,b,rfl,q⟩:=h;have zB:=@pss2;have ya:=@zha;have zu:=@zd1;have qpv:=@pv;have za:=@zbt;have zf:=@zaf;have yh:=@ps_par;have zh:=@pa2;have zb:=@zdv;have ze:=@zb3;have zy:=@zd7;have zg:=@pa1;generalize @L2.PE=QE,@L2.PT=QT,@L2.PW=QW,@L2.PA=QA,@L2.PS=QS,@L2.PSs=QSs,@L2.PG=QG,@L2.PGs=QGs,@L2.PI=QI,@L2.PO=QO,@L2.PIf=QIf at zB ya zu qpv za zf yh zh zb ze zy zg⊢;refine⟨_,
  (zB
   (ya PassesOwn.never (zu op_ne (qpv 1) za (nomark _)) (zf (yh (i:=0) (j:=1) rfl zef.nd rfl rfl (by decide) rfl rfl (zh (qpv 1) za2 (zb zhs (qpv 0) (qpv 1)) zac) rfl)))
   (ze (zy call_abs rfl T.b_abs bt_abs (zg (qpv 0) za2))))
  ,?_⟩
 clear zB ya zu qpv za zf yh zh zb ze zy zg QE QT QW QA QS QSs QG QGs QI QO QIf
 dsimp! [L2.start]
 simp! [];refine while_by (iv_ldiv a b H) (fun σ _=>(getI σ 1).natAbs) ⟨rfl,_,_,rfl,rfl⟩ ?_
  (fun σ H Q Q' m h=>by obtain⟨v,e,s,k,e2,q⟩:=h;exact⟨v,e,s,k,e2,m _ _ q⟩)
 rintro σ H' ⟨rfl,x,y,rfl,e⟩;simp! [];refine ite2 (fun c=>?_) (fun c=>?_)
 ·have hy:y≠0:=by simpa using c
  exact⟨hy,⟨rfl,_,_,rfl,(G_fmod x y).trans e⟩,zmn hy⟩
 ·have hy:y=0:=by simpa using c
  subst hy;rw[G_end,e];exact q
theorem zpe{xs:List Int}{j:Int}(h0:0<=j)(h1:j<xs.length):∃x:Int,atI (xs.map V.int) j=some (.int x):=by
 have hk:j.toNat<xs.length:=by omega
 refine⟨xs[j.toNat],?_⟩;have z:atI (xs.map V.int) ((j.toNat:Nat):Int)=some (.int xs[j.toNat]):=zc5 (by rw[List.getElem?_map,List.getElem?_eq_getElem hk];rfl)
 rw[show((j.toNat:Nat):Int)=j by omega] at z
 exact z
def sp_cellN(K:PySem.W.Frag):Sp:=fun vs H Q _=>∃(a:Addr)(ns:List Int)(k:Int),vs=[.ref a,.int k]/\SqL K H a (ns.map V.int)/\0<=k/\k<=1000/\∀v:Int,Q (.int v) H
theorem zbm(T:Txt K mg ad fd):FnOk P w K mg base CX0 1 (ad 13) (fd 13) ["_law_script","_law_k"] (sp_cellN K):=by
 refine T.law_cell.fn.ok zem (fun vs H Q E h=>?_) (fun cdv A outer s H vs Q E hr h=>?_)
 ·obtain⟨a,ns,k,rfl,_⟩:=h;rfl
 obtain⟨a,ns,k,rfl,hS,k0,k1,q⟩:=h;have zD:=@pss4;have zn:=@zen;have zu:=@zd1;have qpv:=@pv;have zy:=@zd7;have zg:=@pa1;have zf:=@zaf;have ze:=@zb3;have zc:=@ze3;have zo:=@zc0;have zd:=@zbu;have zb:=@zdv;have za:=@zbt;generalize @L2.PE=QE,@L2.PT=QT,@L2.PW=QW,@L2.PA=QA,@L2.PS=QS,@L2.PSs=QSs,@L2.PG=QG,@L2.PGs=QGs,@L2.PI=QI,@L2.PO=QO,@L2.PIf=QIf at zD zn zu qpv zy zg zf ze zc zo zd zb za⊢;refine⟨_,
  (zD
   (zn (zu zkj (qpv 1) (zy zd4 rfl T.b_len zee (zg (qpv 0) za2)) (nomark _)) (zf (ze (zc zl1 (qpv 0) (qpv 1) (fun _ _=>rfl)))) zo)
   (zd (i:=2) zem.nd rfl (Or.inl rfl) (zb zb7 (zb zdf (qpv 1) za) za))
   (zn (zu op_gt (zy zd4 rfl T.b_len zee (zg (qpv 0) za2)) za (nomark _)) (zf (zd (i:=2) zem.nd rfl (Or.inl rfl) (zb zcm (zb zb7 (zb zdf (zc zl1 (qpv 0) (zb zhs (zb zdf (qpv 1) za) (zy zd4 rfl T.b_len zee (zg (qpv 0) za2))) (fun _ _=>rfl)) za) (zb zdf (qpv 1) za)) za))) zo)
   (ze (zb zcm (zb zas (qpv 2) (qpv 2)) za)))
  ,?_⟩
 clear zD zn zu qpv zy zg zf ze zc zo zd zb za QE QT QW QA QS QSs QG QGs QI QO QIf
 dsimp! [L2.start]
 simp only[tSeq,tNext,tRet,tRetN,tIfS,tAsg,gName,tDrop,tVar,tC,tOp,tUn,rI,rI0,rU,rEq,rNe,tTest,tB,tNot,tAnd,tOr,tAndV,tOrV,tNotV,tIf,tCB,tCall,tNil,zcc,tTup,tLst,gTup,gCons,gNil,L2.start,rIsi,rIxT,rIxL,cx_K,tyN_non,tyN_bl,tyN_int,tyN_str,isi_ii,isi_ib,isi_it,isi_il,isi_bi,isi_bb,isi_tt,isi_ni,isi_si,isi_ti,isi_li,isi_di,isi_ll,scal_ii,scal_bb,sz0,sz1,sz2,sz3,sz4,List.map_cons,List.map_nil,List.length_cons,List.length_nil,List.replicate,List.cons_append,List.nil_append,List.append_nil,List.getElem?_cons_zero,List.getElem?_cons_succ,List.set_cons_zero,List.set_cons_succ,Option.some.injEq,V.int.injEq,V.bl.injEq,V.ref.injEq,V.ty.injEq,List.cons.injEq,and_true,true_and,exists_eq_left,exists_eq_left',exists_and_left,exists_and_right,exists_eq,exists_eq',and_assoc,Nat.reduceAdd,Nat.reduceSub,Bool.not_true,Bool.not_false,Bool.false_eq_true,if_true,if_false,reduceIte,Nat.zero_add,decide_true,decide_false];have e32:(2:Nat)^32=4294967296:=rfl;refine⟨_,.inl hS,ite2 (fun c=>?_) (fun c=>⟨.inr ⟨by decide,by decide⟩,_,.inl hS,ite2 (fun c2=>?_) (fun c2=>?_)⟩)⟩
 ·have c:=of_decide_eq_true c;rw[List.length_map] at c;obtain⟨x,ax⟩:=zpe (xs:=ns) k0 c;exact⟨_,hS,_,ax,q x⟩
 ·have c2:=of_decide_eq_true c2;have l0:0<(ns.map V.int).length:=by omega
  have f0:=Int.fmod_nonneg_of_pos (k*7) (show(0:Int)<((ns.map V.int).length:Int) by omega)
  have f1:=Int.fmod_lt_of_pos (k*7) (show(0:Int)<((ns.map V.int).length:Int) by omega)
  refine⟨.inr ⟨by decide,by decide⟩,_,.inl hS,by omega,_,hS,?_⟩
  generalize (k*7).fmod ((ns.map V.int).length:Int)=m at*;rw[List.length_map] at f1;obtain⟨x,ax⟩:=zpe (xs:=ns) f0 f1;refine⟨_,ax,x,rfl,.inr ⟨by decide,by decide⟩,.inr ⟨by decide,by decide⟩,by decide,?_,by decide,q _⟩
  have v0:=Int.emod_nonneg (x*48271+k*7919) (show(2147483647:Int)≠0 by decide)
  have v1:=Int.emod_lt_of_pos (x*48271+k*7919) (show(0:Int)<2147483647 by decide)
  generalize (x*48271+k*7919)%2147483647=v at*;exact cbig (m:=32) (n:=32) (by omega) (by omega)
 ·exact⟨cbig (m:=32) (n:=32) (by omega) (by omega),by decide,q _⟩
def ptQ(x y w:Int):Q3:=⟨x.fdiv (G (G x y) w),y.fdiv (G (G x y) w),w.fdiv (G (G x y) w)⟩
def sp_pt:Sp:=fun vs H Q _=>∃x y w:Int,vs=[.int x,.int y,.int w]/\Bd3 60 x y w/\0<w/\∀p H',Same H H'->QH H' p (ptQ x y w)->Q (.ref p) H'
theorem ptQ_pq{x y w:Int}(b:Bd3 60 x y w)(hw:0<w):PQ 60 (ptQ x y w):=g3_pt hw b.1 b.2.1 b.2.2
theorem ze1(T:Txt K mg ad fd):FnOk P w K mg base CX0 2 (ad 15) (fd 15) ["_law_east","_law_north","_law_share"] sp_pt:=by
 refine T.law_point.fn.ok zfo (fun vs H Q E h=>?_) (fun cdv A outer s H vs Q E hr h=>?_)
 ·obtain⟨x,y,w,rfl,_⟩:=h;rfl
 obtain⟨x,y,w,rfl,b,hw,k⟩:=h;have zB:=@pss2;have zd:=@zbu;have zj:=@zbv;have zh:=@pa2;have qpv:=@pv;have ze:=@zb3;have zk:=@zcv;have zr:=@pa3;have zb:=@zdv;generalize @L2.PE=QE,@L2.PT=QT,@L2.PW=QW,@L2.PA=QA,@L2.PS=QS,@L2.PSs=QSs,@L2.PG=QG,@L2.PGs=QGs,@L2.PI=QI,@L2.PO=QO,@L2.PIf=QIf at zB zd zj zh qpv ze zk zr zb⊢;refine⟨_,
  (zB
   (zd (i:=3) zfo.nd rfl (Or.inl rfl) (zj (zeh T) (hr.mono (by decide)) rfl T.law_divisor.mg T.law_divisor.fn.kp T.law_divisor.bn .nil pass0 (zh (zj (zeh T) (hr.mono (by decide)) rfl T.law_divisor.mg T.law_divisor.fn.kp T.law_divisor.bn .nil pass0 (zh (qpv 0) za2 (qpv 1) za2)) zck (qpv 2) za2)))
   (ze (zk (zr (zb zdn (qpv 0) (qpv 3)) zac (zb zdn (qpv 1) (qpv 3)) zac (zb zdn (qpv 2) (qpv 3)) zac))))
  ,?_⟩
 clear zB zd zj zh qpv ze zk zr zb QE QT QW QA QS QSs QG QGs QI QO QIf
 dsimp! [L2.start]
 simp! [zgq];have lt:=zdc (g3_lt (x:=x) (y:=y) hw b.2.2) (show 60<=8000 by decide)
 exact⟨cdivb (g3_ne hw) lt,cdivb (g3_ne hw) lt,cdivb (g3_ne hw) lt,fun p hp=>k p _ (za1 hp _) ⟨upd_same,Pt.mono (ptQ_pq b hw) (by decide)⟩⟩
structure Fr where
 (p q r s t u w:Int)
def sm(x:Int):Prop:= -100<=x/\x<=100
def bg(x:Int):Prop:= -2000000<=x/\x<=2000000
def FrB(f:Fr):Prop:=sm f.p/\sm f.q/\sm f.r/\sm f.s/\bg f.t/\bg f.u/\1<=f.w/\f.w<=2000000/\f.q*f.r<f.p*f.s
def FmH(H:Hp)(l:Addr)(f:Fr):Prop:=∃xs,H l=some (.lst xs)/\atI xs 0=some (.int f.p)/\atI xs 1=some (.int f.q)/\atI xs 2=some (.int f.r)/\atI xs 3=some (.int f.s)/\atI xs 4=some (.int f.t)/\atI xs 5=some (.int f.u)/\atI xs 6=some (.int f.w)/\FrB f
theorem FmH.same{H H':Hp}{l:Addr}{f:Fr}(h:FmH H l f)(g:Same H H'):FmH H' l f:=by
 obtain⟨xs,h1,h2⟩:=h;exact⟨xs,g _ _ h1,h2⟩
theorem fr_mul{q r:Int}(q0: -3<=q)(q1:q<=3)(r0: -3<=r)(r1:r<=3): -9<=q*r/\q*r<=9:=by
 rcases(by omega:q= -3∨q= -2∨q= -1∨q=0∨q=1∨q=2∨q=3) with e|e|e|e|e|e|e<;>subst e<;>omega
theorem fr_div{m p:Int}(h0: -9<=m)(h1:m<=9)(p1:1<=p)(p4:p<=4): -9<=m.fdiv p/\m.fdiv p<=9:=by
 rw[Int.fdiv_eq_ediv_of_nonneg _ (by omega)]
 rcases(by omega:p=1∨p=2∨p=3∨p=4) with e|e|e|e<;>subst e<;>omega
theorem fr_det{m p c:Int}(p1:1<=p)(c0:0<=c):m<p*(m.fdiv p+1+c):=by
 rw[Int.fdiv_eq_ediv_of_nonneg _ (by omega)]
 have h1:=Int.emod_lt_of_pos m (show 0<p by omega)
 have h2:=Int.mul_ediv_add_emod m p;have h3:0<=p*c:=Int.mul_nonneg (by omega) c0
 have h4:p*(m/p+1+c)=p*(m/p)+p+p*c:=by grind
 omega
def sp_frame(K:PySem.W.Frag):Sp:=fun vs H Q _=>∃(a:Addr)(ns:List Int),vs=[.ref a]/\SqL K H a (ns.map V.int)/\∀D f H',H D=none->Same H H'->FmH H' D f->Q (.ref D) H'
theorem zjo(T:Txt K mg ad fd):FnOk P w K mg base CX0 2 (ad 21) (fd 21) ["_law_script"] (sp_frame K):=by
 refine T.law_frame.fn.ok zb8 (fun vs H Q E h=>?_) (fun cdv A outer s H vs Q E hr h=>?_)
 ·obtain⟨a,ns,rfl,_⟩:=h;rfl
 obtain⟨a,ns,rfl,hS,k⟩:=h;have yv:=@pss8;have zd:=@zbu;have zj:=@zbv;have zh:=@pa2;have qpv:=@pv;have za:=@zbt;have zb:=@zdv;have zn:=@zen;have zu:=@zd1;have zf:=@zaf;have zo:=@zc0;have ze:=@zb3;have zt:=@zdr;have yw:=@pa7;generalize @L2.PE=QE,@L2.PT=QT,@L2.PW=QW,@L2.PA=QA,@L2.PS=QS,@L2.PSs=QSs,@L2.PG=QG,@L2.PGs=QGs,@L2.PI=QI,@L2.PO=QO,@L2.PIf=QIf at yv zd zj zh qpv za zb zn zu zf zo ze zt yw⊢;refine⟨_,
  (yv
   (zd (i:=1) zb8.nd rfl (Or.inl rfl) (zj (zbm T) (hr.mono (by decide)) rfl T.law_cell.mg T.law_cell.fn.kp T.law_cell.bn .nil pass0 (zh (qpv 0) za2 za za3)))
   (zd (i:=2) zb8.nd rfl (Or.inl rfl) (zb zb7 za (zb zcm (qpv 1) za)))
   (zd (i:=3) zb8.nd rfl (Or.inl rfl) (zb zde (zb zcm (zb zej (qpv 1) za) za) za))
   (zd (i:=4) zb8.nd rfl (Or.inl rfl) (zb zde (zb zcm (zb zej (qpv 1) za) za) za))
   (zd (i:=5) zb8.nd rfl (Or.inl rfl) (zj (zbm T) (hr.mono (by decide)) rfl T.law_cell.mg T.law_cell.fn.kp T.law_cell.bn .nil pass0 (zh (qpv 0) za2 za za3)))
   (zd (i:=6) zb8.nd rfl (Or.inl rfl) (zb zb7 za (zb zcm (zj (zbm T) (hr.mono (by decide)) rfl T.law_cell.mg T.law_cell.fn.kp T.law_cell.bn .nil pass0 (zh (qpv 0) za2 za za3)) za)))
   (zn (zu op_eq (zb zcm (zb zej (zj (zbm T) (hr.mono (by decide)) rfl T.law_cell.mg T.law_cell.fn.kp T.law_cell.bn .nil pass0 (zh (qpv 0) za2 za za3)) za) za) za (nomark _)) (zf (zd (i:=6) zb8.nd rfl (Or.inl rfl) (zb zb7 za (zb zcm (zj (zbm T) (hr.mono (by decide)) rfl T.law_cell.mg T.law_cell.fn.kp T.law_cell.bn .nil pass0 (zh (qpv 0) za2 za za3)) za)))) zo)
   (ze (zt (yw (qpv 2) za2 (qpv 3) za2 (qpv 4) za2 (zb zb7 (zb zb7 (zb zdn (zb zas (qpv 3) (qpv 4)) (qpv 2)) za) (zb zcm (zb zej (qpv 1) za) za)) zac (zb zde (zb zcm (qpv 5) za) za) zac (zb zde (zb zcm (zb zej (qpv 5) za) za) za) zac (qpv 6) za2))))
  ,?_⟩
 clear yv zd zj zh qpv za zb zn zu zf zo ze zt yw QE QT QW QA QS QSs QG QGs QI QO QIf
 dsimp! [L2.start]
 simp! [];have e8:(2:Nat)^8=256:=rfl;refine⟨a,ns,2,rfl,hS,by decide,by decide,fun v=>?_⟩
 have p1:1<=1+v%4/\1+v%4<=4:=by omega
 have q1: -3<=v/4%7-3/\v/4%7-3<=3:=by omega
 have r1: -3<=v/28%7-3/\v/28%7-3<=3:=by omega
 have c1:CBig (v/4%7-3) (v/28%7-3):=cbig (m:=8) (n:=8) (by omega) (by omega)
 have c2:CDivB ((v/4%7-3)*(v/28%7-3)) (1+v%4):=cdivb (by omega) (n:=8) (by omega)
 have s1:=fr_mul q1.1 q1.2 r1.1 r1.2;have s2:=fr_div s1.1 s1.2 p1.1 p1.2;have fin:∀(v2 w:Int)(D:Addr),H D=none->1<=w->w<=2000000->Q (.ref D) (upd H D (HO.lst [V.int (1+v%4),V.int (v/4%7-3),V.int (v/28%7-3),V.int (((v/4%7-3)*(v/28%7-3)).fdiv (1+v%4)+1+v/196%3),V.int (v2%2000003-1000001),V.int (v2/7%31-15),V.int w])):=fun v2 w D hD w1 w2=>
  k D ⟨_,_,_,_,_,_,w⟩ _ hD (za1 hD _) ⟨_,upd_same,rfl,rfl,rfl,rfl,rfl,rfl,rfl,⟨by show _<=1+v%4;omega,by show 1+v%4<=_;omega⟩,⟨by show _<=v/4%7-3;omega,by show v/4%7-3<=_;omega⟩,⟨by show _<=v/28%7-3;omega,by show v/28%7-3<=_;omega⟩,⟨by show _<=((v/4%7-3)*(v/28%7-3)).fdiv (1+v%4)+1+v/196%3;omega,by show((v/4%7-3)*(v/28%7-3)).fdiv (1+v%4)+1+v/196%3<=_;omega⟩,⟨by show _<=v2%2000003-1000001;omega,by show v2%2000003-1000001<=_;omega⟩,⟨by show _<=v2/7%31-15;omega,by show v2/7%31-15<=_;omega⟩,w1,w2,fr_det p1.1 (by omega)⟩
 refine⟨v,rfl,by decide,v,rfl,⟨by decide,by decide⟩,by decide,v,rfl,⟨by decide,by decide⟩,by decide,a,ns,3,rfl,hS,by decide,by decide,fun v2=>?_⟩
 refine⟨a,ns,4,rfl,hS,by decide,by decide,fun v3=>⟨v3,rfl,by decide,a,ns,4,rfl,hS,by decide,by decide,fun v4=>⟨v4,rfl,⟨by decide,by decide⟩,by decide,ite2 (fun _=>?_) (fun _=>?_)⟩⟩⟩
 ·exact⟨a,ns,4,rfl,hS,by decide,by decide,fun v5=>⟨v5,rfl,by decide,c1,c2,v,rfl,⟨by decide,by decide⟩,by decide,v2,rfl,by decide,v2,rfl,⟨by decide,by decide⟩,by decide,by decide,fun D hD=>fin v2 _ D hD (by omega) (by omega)⟩⟩
 ·exact⟨c1,c2,v,rfl,⟨by decide,by decide⟩,by decide,v2,rfl,by decide,v2,rfl,⟨by decide,by decide⟩,by decide,by decide,fun D hD=>fin v2 _ D hD (by omega) (by omega)⟩
def mv(f:Fr)(a:Int×Int):Int×Int:=(f.p*a.1+f.q*a.2+f.t,f.r*a.1+f.s*a.2+f.u)
def Bx(a:Int×Int):Prop:=0<=a.1/\a.1<=8/\0<=a.2/\a.2<=6
theorem zlp{a b:Int}(h:sm a)(b0: -300<=b)(b1:b<=300):(a*b).natAbs<=30000:=by
 obtain⟨h0,h1⟩:=h;rw[Int.natAbs_mul];exact Nat.mul_le_mul (show a.natAbs<=100 by omega) (show b.natAbs<=300 by omega)
theorem mv_bd{f:Fr}{x:Int×Int}(fb:FrB f)(bx:Bx x):Bd3 60 (mv f x).1 (mv f x).2 f.w:=by
 obtain⟨f1,f2,f3,f4,⟨t1,t2⟩,⟨u1,u2⟩,w1,w2,_⟩:=fb;obtain⟨x1,x2,x3,x4⟩:=bx;have m1:=zlp f1 (show-300<=x.1 by omega) (by omega)
 have m2:=zlp f2 (show-300<=x.2 by omega) (by omega)
 have m3:=zlp f3 (show-300<=x.1 by omega) (by omega)
 have m4:=zlp f4 (show-300<=x.2 by omega) (by omega)
 have e:(2:Nat)^60=1152921504606846976:=rfl;refine⟨?_,?_,by omega⟩
 ·show(f.p*x.1+f.q*x.2+f.t).natAbs<_
  omega
 ·show(f.r*x.1+f.s*x.2+f.u).natAbs<_
  omega
def ori(a b c:Int×Int):Int:=(b.1-a.1)*(c.2-a.2)-(b.2-a.2)*(c.1-a.1)
def fd2(f:Fr):Int:=f.p*f.s-f.q*f.r
def ptP(w:Int)(k:Int×Int):Q3:=ptQ k.1 k.2 w
def PF(f:Fr)(x:Int×Int):Q3:=ptP f.w (mv f x)
theorem zoz{w:Int}(hw:0<w)(k:Int×Int):∃g:Int,0<g/\(ptP w k).x*g=k.1/\(ptP w k).y*g=k.2/\(ptP w k).w*g=w:=zjg hw ⟨k.1,k.2⟩
theorem pt_inj{w:Int}(hw:0<w){a b:Int×Int}(e:ptP w a=ptP w b):a=b:=by
 obtain⟨e1,e2⟩:=lw_inj (a:=⟨a.1,a.2⟩) (b:=⟨b.1,b.2⟩) hw (congrArg Q3.x e) (congrArg Q3.y e) (congrArg Q3.w e);exact Prod.ext e1 e2
theorem lt2_iff{a b:Int×Int}:lt2 a b=true↔(a.1<b.1∨(a.1=b.1/\a.2<b.2)):=by
 unfold lt2 lexB
 by_cases c:a.1=b.1
 ·rw[if_pos c,decide_eq_true_iff];omega
 ·rw[if_neg c,decide_eq_true_iff];omega
theorem bq_pt{w:Int}(hw:0<w){a b:Int×Int}:bq (ptP w a) (ptP w b)=true↔lt2 a b=true:=by
 rw[lt2_iff];exact bef_lw hw ⟨a.1,a.2⟩ ⟨b.1,b.2⟩
theorem zl5{f:Fr}(hd:0<fd2 f){a b:Int×Int}(e:mv f a=mv f b):a=b:=by
 unfold mv at e
 injection e with e1 e2
 unfold fd2 at hd;have k1:(f.p*f.s-f.q*f.r)*(a.1-b.1)=0:=by grind
 have k2:(f.p*f.s-f.q*f.r)*(a.2-b.2)=0:=by grind
 have z1:=(Int.mul_eq_zero.mp k1).resolve_left (by omega)
 have z2:=(Int.mul_eq_zero.mp k2).resolve_left (by omega)
 exact Prod.ext (by omega) (by omega)
theorem zgb{f:Fr}(hw:0<f.w)(hd:0<fd2 f){a b:Int×Int}(e:PF f a=PF f b):a=b:=zl5 hd (pt_inj hw e)
theorem zll{y z:Int}(h1:0<y↔0<z)(h2:y<0↔z<0):sgn y=sgn z:=by
 unfold sgn
 by_cases c:0<y
 ·rw[if_pos c,if_pos (h1.mp c)]
 ·rw[if_neg c,if_neg (fun z=>c (h1.mpr z))]
  by_cases d:y<0
  ·rw[if_pos d,if_pos (h2.mp d)]
  ·rw[if_neg d,if_neg (fun z=>d (h2.mpr z))]
theorem zni{f:Fr}(hw:0<f.w)(hd:0<fd2 f)(a b c:Int×Int):sgD (PF f a) (PF f b) (PF f c)=sgn (ori a b c):=by
 obtain⟨g1,h1,a1,a2,a3⟩:=zoz hw (mv f a);obtain⟨g2,h2,b1,b2,b3⟩:=zoz hw (mv f b);obtain⟨g3,h3,c1,c2,c3⟩:=zoz hw (mv f c);have d:=zn2 g1 g2 g3 (PF f a).x (PF f a).y (PF f a).w (PF f b).x (PF f b).y (PF f b).w (PF f c).x (PF f c).y (PF f c).w;unfold PF at d;rw[a1,a2,a3,b1,b2,b3,c1,c2,c3] at d;have e:det3 (mv f a).1 (mv f a).2 f.w (mv f b).1 (mv f b).2 f.w (mv f c).1 (mv f c).2 f.w=f.w*fd2 f*ori a b c:=by
  unfold det3 lnA lnB lnC fd2 ori mv;dsimp only
  grind
 rw[e] at d;have k1:0<f.w*fd2 f:=Int.mul_pos hw hd;have k2:0<g1*g2*g3:=Int.mul_pos (Int.mul_pos h1 h2) h3;unfold sgD PF;generalize det3 (ptP f.w (mv f a)).x (ptP f.w (mv f a)).y (ptP f.w (mv f a)).w (ptP f.w (mv f b)).x (ptP f.w (mv f b)).y (ptP f.w (mv f b)).w (ptP f.w (mv f c)).x (ptP f.w (mv f c)).y (ptP f.w (mv f c)).w=y at*;generalize ori a b c=z at*;generalize f.w*fd2 f=k at*;generalize g1*g2*g3=g at*;have s1:=zc3 (a:=0) (b:=y) k2;have s2:=zc3 (a:=0) (b:=z) k1;have s3:=zc3 (a:=y) (b:=0) k2;have s4:=zc3 (a:=z) (b:=0) k1;rw[Int.mul_zero] at s1 s2 s3 s4;refine zll ?_ ?_
 ·rw[←s1,←s2,d]
 ·rw[←s3,←s4,d]
theorem zhn{a b c:Q3}:∀(ts:List Q3)(m:Q3),(m=c∨(soon a b c m=true/\c∈ts))->(∀t,t∈ts->t≠c->soon a b c t=true/\soon a b t c=false)->zgj a b m ts=c
 |[],m,h,_=>by
  rcases h with h|⟨_,h⟩
  ·exact h
  ·cases h
 |t::ts,m,h,k=>by
  show zgj a b (if soon a b t m=true then t else m) ts=c
  have kt:∀u,u∈ts->u≠c->soon a b c u=true/\soon a b u c=false:=fun u hu=>k u (List.mem_cons_of_mem _ hu)
  by_cases e:t=c
  ·refine zhn ts _ (.inl ?_) kt;rcases h with h|⟨h,_⟩
   ·rw[e,h];split<;>rfl
   ·rw[e,if_pos h]
  ·have kk:=k t (by simp) e
   rcases h with h|⟨h,hm⟩
   ·refine zhn ts _ (.inl ?_) kt;rw[h,if_neg (by rw[kk.2];decide)]
   ·refine zhn ts _ (.inr ⟨?_,?_⟩) kt
    ·split
     ·exact kk.1
     ·exact h
    ·rcases List.mem_cons.mp hm with z|z
     ·exact absurd z.symm e
     ·exact z
theorem first_is{a b c:Q3}{ts:List Q3}(hc:c∈ts)(h:∀t,t∈ts->t≠c->soon a b c t=true/\soon a b t c=false):zil a b ts=c:=by
 cases ts with
 |nil=>cases hc
 |cons t ts=>
  refine zhn ts t ?_ fun u hu=>h u (List.mem_cons_of_mem _ hu)
  by_cases e:t=c
  ·exact .inl e
  ·refine .inr ⟨(h t (by simp) e).1,?_⟩
   rcases List.mem_cons.mp hc with z|z
   ·exact absurd z.symm e
   ·exact z
theorem zp6{f:Fr}(hw:0<f.w)(hd:0<fd2 f)(a b c d:Int×Int):soon (PF f a) (PF f b) (PF f c) (PF f d)=if sgn (ori a b c)=sgn (ori a b d) then decide (sgn (ori a c d)<0) else decide (sgn (ori a b c)<sgn (ori a b d)):=by
 unfold soon;rw[zni hw hd,zni hw hd,zni hw hd]
abbrev E2:=(Int×Int)×(Int×Int)
abbrev C3:=Int×Int×Int
theorem fin8{p:Fin 8->Prop}(h0:p 0)(h1:p 1)(h2:p 2)(h3:p 3)(h4:p 4)(h5:p 5)(h6:p 6)(h7:p 7):∀k,p k
 |⟨0,_⟩=>h0
 |⟨1,_⟩=>h1
 |⟨2,_⟩=>h2
 |⟨3,_⟩=>h3
 |⟨4,_⟩=>h4
 |⟨5,_⟩=>h5
 |⟨6,_⟩=>h6
 |⟨7,_⟩=>h7
theorem k8:∀k:Fin 8,k=0∨k=1∨k=2∨k=3∨k=4∨k=5∨k=6∨k=7:=by decide
theorem f44:∀k:Fin 8,k+4+4=k:=by decide
def dv(k:Fin 8):Int×Int:=[(2,0),(1,1),(0,2),(-1,1),(-2,0),(-1,-1),(0,-2),(1,-1)].getD k.val (0,0)
theorem dv_inj:∀k j,dv k=dv j->k=j:=by decide
theorem zpm:∀k,dv (k+4)=(-(dv k).1,-(dv k).2):=by decide
def stp(a:Int×Int)(k:Fin 8):Int×Int:=(a.1+(dv k).1,a.2+(dv k).2)
theorem zl9(a:Int×Int)(k:Fin 8):stp (stp a k) (k+4)=a:=by
 unfold stp;rw[zpm];exact Prod.ext (by show a.1+_+ -_=_;omega) (by show a.2+_+ -_=_;omega)
theorem zpz{a:Int×Int}{k j:Fin 8}(h:stp a k=stp a j):k=j:=by
 unfold stp at h
 injection h with h1 h2
 exact dv_inj _ _ (Prod.ext (by omega) (by omega))
def triK(c:C3):List ((Int×Int)×Fin 8):=
 if c.2.2=0 then[((2*c.1,2*c.2.1),0),((2*c.1+2,2*c.2.1),3),((2*c.1+1,2*c.2.1+1),5)]
 else if c.2.2=1 then[((2*c.1+2,2*c.2.1),2),((2*c.1+2,2*c.2.1+2),5),((2*c.1+1,2*c.2.1+1),7)]
 else if c.2.2=2 then[((2*c.1+2,2*c.2.1+2),4),((2*c.1,2*c.2.1+2),7),((2*c.1+1,2*c.2.1+1),1)]
 else if c.2.2=3 then[((2*c.1,2*c.2.1+2),6),((2*c.1,2*c.2.1),1),((2*c.1+1,2*c.2.1+1),3)]
 else[]
def ok(a:Int×Int):Prop:=(a.1%2=0/\a.2%2=0)∨(a.1%2=1/\a.2%2=1)
def okp(a:Int×Int)(k:Fin 8):Prop:=(a.1%2=0/\a.2%2=0)∨(a.1%2=1/\a.2%2=1/\k.val%2=1)
def zcf(a:Int×Int)(k:Fin 8):C3:=
 if a.1%2=0 then[(a.1/2,a.2/2,0),(a.1/2,a.2/2,3),(a.1/2-1,a.2/2,1),(a.1/2-1,a.2/2,0),(a.1/2-1,a.2/2-1,2),(a.1/2-1,a.2/2-1,1),(a.1/2,a.2/2-1,3),(a.1/2,a.2/2-1,2)].getD k.val (0,0,0)
 else(a.1/2,a.2/2,([1,2,2,3,3,0,0,1]:List Int).getD k.val 0)
theorem zdu{a:Int×Int}(h:a.1%2=0)(k:Fin 8):zcf a k=[(a.1/2,a.2/2,0),(a.1/2,a.2/2,3),(a.1/2-1,a.2/2,1),(a.1/2-1,a.2/2,0),(a.1/2-1,a.2/2-1,2),(a.1/2-1,a.2/2-1,1),(a.1/2,a.2/2-1,3),(a.1/2,a.2/2-1,2)].getD k.val (0,0,0):=by
 unfold zcf;rw[if_pos h]
theorem zfq{a:Int×Int}(h:a.1%2=1)(k:Fin 8):zcf a k=(a.1/2,a.2/2,([1,2,2,3,3,0,0,1]:List Int).getD k.val 0):=by
 unfold zcf;rw[if_neg (by omega)]
theorem zbl{a b c a' b' c':Int}(h1:a=a')(h2:b=b')(h3:c=c'):((a,b,c):C3)=(a',b',c'):=by rw[h1,h2,h3]
theorem e_of{a:Int×Int}{k:Fin 8}{c:C3}(h1:a.1%2=0)(h2:a.2%2=0)(h:[(a.1/2,a.2/2,(0:Int)),(a.1/2,a.2/2,3),(a.1/2-1,a.2/2,1),(a.1/2-1,a.2/2,0),(a.1/2-1,a.2/2-1,2),(a.1/2-1,a.2/2-1,1),(a.1/2,a.2/2-1,3),(a.1/2,a.2/2-1,2)].getD k.val (0,0,0)=c):okp a k/\zcf a k=c:=⟨.inl ⟨h1,h2⟩,by rw[zdu h1];exact h⟩
theorem o_of{a:Int×Int}{k:Fin 8}{c:C3}(h1:a.1%2=1)(h2:a.2%2=1)(hk:k.val%2=1)(h:(a.1/2,a.2/2,([1,2,2,3,3,0,0,1]:List Int).getD k.val 0)=c):okp a k/\zcf a k=c:=⟨.inr ⟨h1,h2,hk⟩,by rw[zfq h1];exact h⟩
theorem triK_of{a:Int×Int}{k:Fin 8}{c:C3}(h:(a,k)∈triK c):okp a k/\zcf a k=c:=by
 obtain⟨x,y,q⟩:=c;unfold triK at h;dsimp only at h
 split at h
 ·subst q;simp only[List.mem_cons,List.not_mem_nil,or_false,Prod.mk.injEq] at h;rcases h with⟨e,rfl⟩|⟨e,rfl⟩|⟨e,rfl⟩<;>subst e
  ·exact e_of (by dsimp only;omega) (by dsimp only;omega) (zbl (by dsimp only;omega) (by dsimp only;omega) rfl)
  ·exact e_of (by dsimp only;omega) (by dsimp only;omega) (zbl (by dsimp only;omega) (by dsimp only;omega) rfl)
  ·exact o_of (by dsimp only;omega) (by dsimp only;omega) rfl (zbl (by dsimp only;omega) (by dsimp only;omega) rfl)
 split at h
 ·subst q;simp only[List.mem_cons,List.not_mem_nil,or_false,Prod.mk.injEq] at h;rcases h with⟨e,rfl⟩|⟨e,rfl⟩|⟨e,rfl⟩<;>subst e
  ·exact e_of (by dsimp only;omega) (by dsimp only;omega) (zbl (by dsimp only;omega) (by dsimp only;omega) rfl)
  ·exact e_of (by dsimp only;omega) (by dsimp only;omega) (zbl (by dsimp only;omega) (by dsimp only;omega) rfl)
  ·exact o_of (by dsimp only;omega) (by dsimp only;omega) rfl (zbl (by dsimp only;omega) (by dsimp only;omega) rfl)
 split at h
 ·subst q;simp only[List.mem_cons,List.not_mem_nil,or_false,Prod.mk.injEq] at h;rcases h with⟨e,rfl⟩|⟨e,rfl⟩|⟨e,rfl⟩<;>subst e
  ·exact e_of (by dsimp only;omega) (by dsimp only;omega) (zbl (by dsimp only;omega) (by dsimp only;omega) rfl)
  ·exact e_of (by dsimp only;omega) (by dsimp only;omega) (zbl (by dsimp only;omega) (by dsimp only;omega) rfl)
  ·exact o_of (by dsimp only;omega) (by dsimp only;omega) rfl (zbl (by dsimp only;omega) (by dsimp only;omega) rfl)
 split at h
 ·subst q;simp only[List.mem_cons,List.not_mem_nil,or_false,Prod.mk.injEq] at h;rcases h with⟨e,rfl⟩|⟨e,rfl⟩|⟨e,rfl⟩<;>subst e
  ·exact e_of (by dsimp only;omega) (by dsimp only;omega) (zbl (by dsimp only;omega) (by dsimp only;omega) rfl)
  ·exact e_of (by dsimp only;omega) (by dsimp only;omega) (zbl (by dsimp only;omega) (by dsimp only;omega) rfl)
  ·exact o_of (by dsimp only;omega) (by dsimp only;omega) rfl (zbl (by dsimp only;omega) (by dsimp only;omega) rfl)
 ·cases h
theorem zds{a b a' b':Int}{k:Fin 8}(h1:a=a')(h2:b=b'):(((a,b),k):(Int×Int)×Fin 8)=((a',b'),k):=by rw[h1,h2]
theorem triK_at{a:Int×Int}{k:Fin 8}(h:okp a k):(a,k)∈triK (zcf a k):=by
 obtain⟨x,y⟩:=a;rcases h with⟨h1,h2⟩|⟨h1,h2,h3⟩
 ·rw[zdu h1];dsimp only at h1 h2;rcases k8 k with rfl|rfl|rfl|rfl|rfl|rfl|rfl|rfl
  ·show _∈triK (x/2,y/2,0)
   exact List.mem_cons.mpr (.inl (zds (by dsimp only;omega) (by dsimp only;omega)))
  ·show _∈triK (x/2,y/2,3)
   exact List.mem_cons_of_mem _ (List.mem_cons.mpr (.inl (zds (by dsimp only;omega) (by dsimp only;omega))))
  ·show _∈triK (x/2-1,y/2,1)
   exact List.mem_cons.mpr (.inl (zds (by dsimp only;omega) (by dsimp only;omega)))
  ·show _∈triK (x/2-1,y/2,0)
   exact List.mem_cons_of_mem _ (List.mem_cons.mpr (.inl (zds (by dsimp only;omega) (by dsimp only;omega))))
  ·show _∈triK (x/2-1,y/2-1,2)
   exact List.mem_cons.mpr (.inl (zds (by dsimp only;omega) (by dsimp only;omega)))
  ·show _∈triK (x/2-1,y/2-1,1)
   exact List.mem_cons_of_mem _ (List.mem_cons.mpr (.inl (zds (by dsimp only;omega) (by dsimp only;omega))))
  ·show _∈triK (x/2,y/2-1,3)
   exact List.mem_cons.mpr (.inl (zds (by dsimp only;omega) (by dsimp only;omega)))
  ·show _∈triK (x/2,y/2-1,2)
   exact List.mem_cons_of_mem _ (List.mem_cons.mpr (.inl (zds (by dsimp only;omega) (by dsimp only;omega))))
 ·rw[zfq h1];dsimp only at h1 h2;have m3:∀{α:Type}{p q r s:α},s=r->s∈[p,q,r]:=fun e=>by rw[e];simp
  rcases k8 k with rfl|rfl|rfl|rfl|rfl|rfl|rfl|rfl
  ·exact absurd h3 (by decide)
  ·exact m3 (zds (by dsimp only;omega) (by dsimp only;omega))
  ·exact absurd h3 (by decide)
  ·exact m3 (zds (by dsimp only;omega) (by dsimp only;omega))
  ·exact absurd h3 (by decide)
  ·exact m3 (zds (by dsimp only;omega) (by dsimp only;omega))
  ·exact absurd h3 (by decide)
  ·exact m3 (zds (by dsimp only;omega) (by dsimp only;omega))
theorem okp_back{a:Int×Int}{k:Fin 8}:okp (stp a k) (k+4)↔okp a k:=by
 obtain⟨x,y⟩:=a;have d:dv 0=(2,0)/\dv 1=(1,1)/\dv 2=(0,2)/\dv 3=(-1,1)/\dv 4=(-2,0)/\dv 5=(-1,-1)/\dv 6=(0,-2)/\dv 7=(1,-1):=by decide
 obtain⟨d0,d1,d2,d3,d4,d5,d6,d7⟩:=d;unfold okp stp;dsimp only;rcases k8 k with rfl|rfl|rfl|rfl|rfl|rfl|rfl|rfl
 all_goals
  simp only[d0,d1,d2,d3,d4,d5,d6,d7]
  constructor
  ·rintro(⟨h1,h2⟩|⟨h1,h2,h3⟩)
   ·first|exact .inl ⟨by omega,by omega⟩|exact .inr ⟨by omega,by omega,by decide⟩
   ·first|exact absurd h3 (by decide)|exact .inl ⟨by omega,by omega⟩|exact .inr ⟨by omega,by omega,by decide⟩
  ·rintro(⟨h1,h2⟩|⟨h1,h2,h3⟩)
   ·first|exact .inl ⟨by omega,by omega⟩|exact .inr ⟨by omega,by omega,by decide⟩
   ·first|exact absurd h3 (by decide)|exact .inl ⟨by omega,by omega⟩|exact .inr ⟨by omega,by omega,by decide⟩
theorem zii{a:Int×Int}{k:Fin 8}(h:okp a k):zcf (stp a k) (k+4)=zcf a (k+7):=by
 obtain⟨x,y⟩:=a;rcases h with⟨h1,h2⟩|⟨h1,h2,h3⟩
 ·dsimp only at h1 h2;rcases k8 k with rfl|rfl|rfl|rfl|rfl|rfl|rfl|rfl
  ·rw[zdu (a:=(x,y)) h1,zdu (a:=stp (x,y) 0) (by show(x+2)%2=0;omega)]
   show(((x+2)/2-1,(y+0)/2-1,2):C3)=(x/2,y/2-1,2)
   exact zbl (by omega) (by omega) rfl
  ·rw[zdu (a:=(x,y)) h1,zfq (a:=stp (x,y) 1) (by show(x+1)%2=1;omega)]
   show(((x+1)/2,(y+1)/2,0):C3)=(x/2,y/2,0)
   exact zbl (by omega) (by omega) rfl
  ·rw[zdu (a:=(x,y)) h1,zdu (a:=stp (x,y) 2) (by show(x+0)%2=0;omega)]
   show(((x+0)/2,(y+2)/2-1,3):C3)=(x/2,y/2,3)
   exact zbl (by omega) (by omega) rfl
  ·rw[zdu (a:=(x,y)) h1,zfq (a:=stp (x,y) 3) (by show(x+ -1)%2=1;omega)]
   show(((x+ -1)/2,(y+1)/2,1):C3)=(x/2-1,y/2,1)
   exact zbl (by omega) (by omega) rfl
  ·rw[zdu (a:=(x,y)) h1,zdu (a:=stp (x,y) 4) (by show(x+ -2)%2=0;omega)]
   show(((x+ -2)/2,(y+0)/2,0):C3)=(x/2-1,y/2,0)
   exact zbl (by omega) (by omega) rfl
  ·rw[zdu (a:=(x,y)) h1,zfq (a:=stp (x,y) 5) (by show(x+ -1)%2=1;omega)]
   show(((x+ -1)/2,(y+ -1)/2,2):C3)=(x/2-1,y/2-1,2)
   exact zbl (by omega) (by omega) rfl
  ·rw[zdu (a:=(x,y)) h1,zdu (a:=stp (x,y) 6) (by show(x+0)%2=0;omega)]
   show(((x+0)/2-1,(y+ -2)/2,1):C3)=(x/2-1,y/2-1,1)
   exact zbl (by omega) (by omega) rfl
  ·rw[zdu (a:=(x,y)) h1,zfq (a:=stp (x,y) 7) (by show(x+1)%2=1;omega)]
   show(((x+1)/2,(y+ -1)/2,3):C3)=(x/2,y/2-1,3)
   exact zbl (by omega) (by omega) rfl
 ·dsimp only at h1 h2;rcases k8 k with rfl|rfl|rfl|rfl|rfl|rfl|rfl|rfl
  ·exact absurd h3 (by decide)
  ·rw[zfq (a:=(x,y)) h1,zdu (a:=stp (x,y) 1) (by show(x+1)%2=0;omega)]
   show(((x+1)/2-1,(y+1)/2-1,1):C3)=(x/2,y/2,1)
   exact zbl (by omega) (by omega) rfl
  ·exact absurd h3 (by decide)
  ·rw[zfq (a:=(x,y)) h1,zdu (a:=stp (x,y) 3) (by show(x+ -1)%2=0;omega)]
   show(((x+ -1)/2,(y+1)/2-1,2):C3)=(x/2,y/2,2)
   exact zbl (by omega) (by omega) rfl
  ·exact absurd h3 (by decide)
  ·rw[zfq (a:=(x,y)) h1,zdu (a:=stp (x,y) 5) (by show(x+ -1)%2=0;omega)]
   show(((x+ -1)/2,(y+ -1)/2,3):C3)=(x/2,y/2,3)
   exact zbl (by omega) (by omega) rfl
  ·exact absurd h3 (by decide)
  ·rw[zfq (a:=(x,y)) h1,zdu (a:=stp (x,y) 7) (by show(x+1)%2=0;omega)]
   show(((x+1)/2-1,(y+ -1)/2,0):C3)=(x/2,y/2,0)
   exact zbl (by omega) (by omega) rfl
def Sd(cs:List C3)(e:E2):Prop:=∃c,c∈cs/\∃a k,(a,k)∈triK c/\e=(a,stp a k)
theorem znw{cs:List C3}{a:Int×Int}{k:Fin 8}:Sd cs (a,stp a k)↔okp a k/\zcf a k∈cs:=by
 constructor
 ·rintro⟨c,hc,a',k',hm,e⟩
  injection e with e1 e2
  subst e1;have:=zpz e2;subst this;obtain⟨h1,rfl⟩:=triK_of hm;exact⟨h1,hc⟩
 ·rintro⟨h1,h2⟩;exact⟨_,h2,a,k,triK_at h1,rfl⟩
theorem zna{cs:List C3}{a:Int×Int}{k:Fin 8}:Sd cs (stp a k,a)↔okp a k/\zcf a (k+7)∈cs:=by
 have e:(stp a k,a)=(stp a k,stp (stp a k) (k+4)):=by rw[zl9]
 rw[e,znw,okp_back];exact⟨fun⟨h1,h2⟩=>⟨h1,by rw[←zii h1];exact h2⟩,fun⟨h1,h2⟩=>⟨h1,by rw[zii h1];exact h2⟩⟩
def Edg(cs:List C3)(es:List E2):Prop:=∀e,e∈es↔Sd cs e/\¬Sd cs (e.2,e.1)
def sec(cs:List C3)(a:Int×Int)(k:Fin 8):Bool:=decide (((a.1%2=0/\a.2%2=0)∨(a.1%2=1/\a.2%2=1))/\zcf a k∈cs)
def oB(b:Fin 8->Bool)(k:Fin 8):Bool:=b k&& !b (k+7)
def iB(b:Fin 8->Bool)(k:Fin 8):Bool:=b (k+7)&& !b k
theorem cell_odd:∀{a:Int×Int}{k:Fin 8},a.1%2=1->k.val%2=0->zcf a k=zcf a (k+7):=by
 intro a k h1 h2;rw[zfq h1,zfq h1];rcases k8 k with rfl|rfl|rfl|rfl|rfl|rfl|rfl|rfl
 ·rfl
 ·exact absurd h2 (by decide)
 ·rfl
 ·exact absurd h2 (by decide)
 ·rfl
 ·exact absurd h2 (by decide)
 ·rfl
 ·exact absurd h2 (by decide)
theorem zp9{cs:List C3}{a:Int×Int}{k:Fin 8}(h:sec cs a k≠sec cs a (k+7)):okp a k:=by
 unfold sec at h
 by_cases c1:a.1%2=0/\a.2%2=0
 ·exact .inl c1
 ·by_cases c2:a.1%2=1/\a.2%2=1
  ·by_cases c3:k.val%2=0
   ·rw[cell_odd c2.1 c3] at h;exact absurd rfl h
   ·exact .inr ⟨c2.1,c2.2,by omega⟩
  ·rw[decide_eq_false (fun z=>z.1.elim c1 c2),decide_eq_false (fun z=>z.1.elim c1 c2)] at h;exact absurd rfl h
theorem zgt{cs:List C3}{a:Int×Int}{k j:Fin 8}(h:okp a k):sec cs a j=decide (zcf a j∈cs):=by
 have h':(a.1%2=0/\a.2%2=0)∨(a.1%2=1/\a.2%2=1):=h.imp id fun z=>⟨z.1,z.2.1⟩;unfold sec
 by_cases c:zcf a j∈cs
 ·rw[decide_eq_true ⟨h',c⟩,decide_eq_true c]
 ·rw[decide_eq_false (fun z=>c z.2),decide_eq_false c]
theorem oB_iff{b:Fin 8->Bool}{k:Fin 8}:oB b k=true↔b k=true/\b (k+7)=false:=by
 unfold oB
 cases b k<;>cases b (k+7)<;>decide
theorem iB_iff{b:Fin 8->Bool}{k:Fin 8}:iB b k=true↔b (k+7)=true/\b k=false:=by
 unfold iB
 cases b k<;>cases b (k+7)<;>decide
theorem Edg.out{cs:List C3}{es:List E2}(h:Edg cs es){a:Int×Int}{k:Fin 8}:(a,stp a k)∈es↔oB (sec cs a) k=true:=by
 rw[h,oB_iff];show Sd cs (a,stp a k)/\¬Sd cs (stp a k,a)↔_;rw[znw,zna]
 constructor
 ·rintro⟨⟨h1,h2⟩,h3⟩;rw[zgt h1,zgt h1];exact⟨decide_eq_true h2,decide_eq_false fun z=>h3 ⟨h1,z⟩⟩
 ·rintro⟨h1,h2⟩;have hk:=zp9 (by rw[h1,h2];decide:sec cs a k≠sec cs a (k+7))
  rw[zgt hk] at h1 h2;exact⟨⟨hk,of_decide_eq_true h1⟩,fun z=>of_decide_eq_false h2 z.2⟩
theorem Edg.inn{cs:List C3}{es:List E2}(h:Edg cs es){a:Int×Int}{k:Fin 8}:(stp a k,a)∈es↔iB (sec cs a) k=true:=by
 rw[h,iB_iff];show Sd cs (stp a k,a)/\¬Sd cs (a,stp a k)↔_;rw[znw,zna]
 constructor
 ·rintro⟨⟨h1,h2⟩,h3⟩;rw[zgt h1,zgt h1];exact⟨decide_eq_true h2,decide_eq_false fun z=>h3 ⟨h1,z⟩⟩
 ·rintro⟨h1,h2⟩;have hk:=zp9 (by rw[h1,h2];decide:sec cs a k≠sec cs a (k+7))
  rw[zgt hk] at h1 h2;exact⟨⟨hk,of_decide_eq_true h1⟩,fun z=>of_decide_eq_false h2 z.2⟩
theorem Edg.ray{cs:List C3}{es:List E2}(h:Edg cs es){e:E2}(he:e∈es):∃k,e.2=stp e.1 k:=by
 obtain⟨⟨c,_,a,k,_,rfl⟩,_⟩:=(h e).mp he;exact⟨k,rfl⟩
def mkb(b0 b1 b2 b3 b4 b5 b6 b7:Bool):Fin 8->Bool:=fun k=>[b0,b1,b2,b3,b4,b5,b6,b7].getD k.val false
theorem mkb_of(b:Fin 8->Bool):b=mkb (b 0) (b 1) (b 2) (b 3) (b 4) (b 5) (b 6) (b 7):=funext (fin8 rfl rfl rfl rfl rfl rfl rfl rfl)
def rk(k j:Fin 8):Nat:=(k-j).val
theorem v1':∀b0 b1 b2 b3 b4 b5 b6 b7:Bool,(∃k,iB (mkb b0 b1 b2 b3 b4 b5 b6 b7) k=true)->∃k,oB (mkb b0 b1 b2 b3 b4 b5 b6 b7) k=true:=by decide+kernel
theorem v2':∀b0 b1 b2 b3 b4 b5 b6 b7:Bool,∀k1 k2:Fin 8,iB (mkb b0 b1 b2 b3 b4 b5 b6 b7) k1=true->iB (mkb b0 b1 b2 b3 b4 b5 b6 b7) k2=true->k1≠k2->∃j,oB (mkb b0 b1 b2 b3 b4 b5 b6 b7) j=true/\rk k2 j<rk k2 k1:=by decide+kernel
theorem v0:∀k1 k2 j:Fin 8,rk k2 j<rk k2 k1->rk k1 j<rk k1 k2->False:=by decide
theorem v1{b:Fin 8->Bool}{k:Fin 8}(h:iB b k=true):∃j,oB b j=true:=by
 rw[mkb_of b] at h⊢;exact v1' _ _ _ _ _ _ _ _ ⟨k,h⟩
theorem v2{b:Fin 8->Bool}{k1 k2:Fin 8}(h1:iB b k1=true)(h2:iB b k2=true)(n:k1≠k2):∃j,oB b j=true/\rk k2 j<rk k2 k1:=by
 rw[mkb_of b] at h1 h2⊢;exact v2' _ _ _ _ _ _ _ _ k1 k2 h1 h2 n
theorem v_one{b:Fin 8->Bool}{k1 k2 j:Fin 8}(o:∀j',oB b j'=true->j'=j)(h1:iB b k1=true)(h2:iB b k2=true):k1=k2:=by
 by_cases n:k1=k2
 ·exact n
 ·exfalso
  obtain⟨a,a1,a2⟩:=v2 h1 h2 n;obtain⟨c,c1,c2⟩:=v2 h2 h1 (Ne.symm n);rw[o a a1] at a2;rw[o c c1] at c2;exact v0 k1 k2 j a2 c2
theorem v3{b:Fin 8->Bool}{k1 k2 j:Fin 8}(h1:iB b k1=true)(h2:iB b k2=true)(m1:∀j',oB b j'=true->rk k1 j<=rk k1 j')(m2:∀j',oB b j'=true->rk k2 j<=rk k2 j'):k1=k2:=by
 by_cases n:k1=k2
 ·exact n
 ·exfalso
  obtain⟨a,a1,a2⟩:=v2 h1 h2 n;obtain⟨c,c1,c2⟩:=v2 h2 h1 (Ne.symm n);exact v0 k1 k2 j (Nat.lt_of_le_of_lt (m2 a a1) a2) (Nat.lt_of_le_of_lt (m1 c c1) c2)
theorem v_min{p:Fin 8->Bool}{f:Fin 8->Nat}:∀n,(∃j,p j=true/\f j<=n)->∃j,p j=true/\∀j',p j'=true->f j<=f j'
 |0,⟨j,h1,h2⟩=>⟨j,h1,fun j' _=>by omega⟩
 |n+1,⟨j,h1,h2⟩=>by
  by_cases c:∃j',p j'=true/\f j'<=n
  ·exact v_min n c
  ·exact⟨j,h1,fun j' h=>by
    rcases Nat.lt_or_ge n (f j') with z|z
    ·omega
    ·exact absurd ⟨j',h,z⟩ c⟩
theorem rk_inj:∀k j j':Fin 8,rk k j=rk k j'->j=j':=by decide
theorem oi_ne{b:Fin 8->Bool}{k j:Fin 8}(h1:iB b k=true)(h2:oB b j=true):j≠k:=fun z=>by
 subst z;have:=(iB_iff.mp h1).2;rw[(oB_iff.mp h2).1] at this
 cases this
def att(a:Int×Int)(k:Fin 8)(j:Int):Int×Int:=(a.1+j*(dv k).1,a.2+j*(dv k).2)
def onP(a b:Int×Int):Int×Int:=(2*b.1-a.1,2*b.2-a.2)
theorem zkv(a:Int×Int)(k:Fin 8):att a k 0=a:=by
 unfold att;rw[Int.zero_mul,Int.zero_mul,Int.add_zero,Int.add_zero]
theorem zf9(a:Int×Int)(k:Fin 8)(i j:Int):att (att a k i) k j=att a k (i+j):=by
 unfold att;dsimp only;rw[Int.add_mul,Int.add_mul,Int.add_assoc,Int.add_assoc]
theorem zi9(a:Int×Int)(k:Fin 8):att a k 1=stp a k:=by
 unfold att stp;rw[Int.one_mul,Int.one_mul]
theorem zjx(a:Int×Int)(k:Fin 8)(j:Int):att a (k+4) j=att a k (-j):=by
 unfold att;rw[zpm];dsimp only;rw[Int.mul_neg,Int.mul_neg,Int.neg_mul,Int.neg_mul]
theorem zk7(a:Int×Int)(k:Fin 8):stp a (k+4)=att a k (-1):=by rw[←zi9,zjx]
theorem zhm(a:Int×Int)(k:Fin 8):onP a (stp a k)=stp (stp a k) k:=by
 unfold onP stp;exact Prod.ext (by dsimp only;omega) (by dsimp only;omega)
theorem onP_back(a:Int×Int)(k:Fin 8):onP (stp a k) a=stp a (k+4):=by
 unfold onP stp;rw[zpm];exact Prod.ext (by dsimp only;omega) (by dsimp only;omega)
theorem dv_lit:dv 0=(2,0)/\dv 1=(1,1)/\dv 2=(0,2)/\dv 3=(-1,1)/\dv 4=(-2,0)/\dv 5=(-1,-1)/\dv 6=(0,-2)/\dv 7=(1,-1):=by decide
theorem dv_mul{k j:Fin 8}{m n:Int}(hm:0<m)(hn:0<n)(h1:m*(dv k).1=n*(dv j).1)(h2:m*(dv k).2=n*(dv j).2):k=j:=by
 obtain⟨d0,d1,d2,d3,d4,d5,d6,d7⟩:=dv_lit
 rcases k8 k with rfl|rfl|rfl|rfl|rfl|rfl|rfl|rfl<;>rcases k8 j with rfl|rfl|rfl|rfl|rfl|rfl|rfl|rfl<;>first|rfl|(exfalso;simp only[d0,d1,d2,d3,d4,d5,d6,d7] at h1 h2;omega)
theorem zq1{a:Int×Int}{k j:Fin 8}{m n:Int}(hm:0<m)(hn:0<n)(h:att a k m=att a j n):k=j:=by
 unfold att at h
 injection h with h1 h2
 exact dv_mul hm hn (by omega) (by omega)
theorem dv_ne:∀k,dv k≠(0,0):=by decide
theorem att_inj{a:Int×Int}{k:Fin 8}{m n:Int}(h:att a k m=att a k n):m=n:=by
 unfold att at h
 injection h with h1 h2
 have e1:m*(dv k).1=n*(dv k).1:=by omega
 have e2:m*(dv k).2=n*(dv k).2:=by omega
 by_cases c:(dv k).1=0
 ·by_cases c2:(dv k).2=0
  ·exact absurd (Prod.ext c c2) (dv_ne k)
  ·exact Int.eq_of_mul_eq_mul_right c2 e2
 ·exact Int.eq_of_mul_eq_mul_right c e1
def lvP(es:List E2)(p:Int×Int):List (Int×Int):=(es.filter fun e=>decide (e.1=p)).map Prod.snd
theorem zkf{es:List E2}{p q:Int×Int}:q∈lvP es p↔(p,q)∈es:=by
 unfold lvP;rw[List.mem_map]
 constructor
 ·rintro⟨e,he,rfl⟩;obtain⟨h1,h2⟩:=List.mem_filter.mp he;rw[←of_decide_eq_true h2];exact h1
 ·intro h;exact⟨(p,q),List.mem_filter.mpr ⟨h,decide_eq_true rfl⟩,rfl⟩
def str(es:List E2)(a b:Int×Int):Bool:=decide (lvP es b=[onP a b])
theorem zjv{es:List E2}{a b:Int×Int}(h:str es a b=true):(b,onP a b)∈es:=by
 rw[←zkf,of_decide_eq_true h];exact List.mem_singleton.mpr rfl
theorem str_one{es:List E2}{a:Int×Int}{k j:Fin 8}(h:str es a (stp a k)=true)(hj:(stp a k,stp (stp a k) j)∈es):j=k:=by
 rw[←zkf,of_decide_eq_true h,List.mem_singleton,zhm] at hj;exact zpz hj
inductive Goes (es:List E2):Int×Int->Int×Int->Int×Int->Prop where
 |stop {a b}:str es a b=false->Goes es a b b
 |step {a b c}:str es a b=true->Goes es b (onP a b) c->Goes es a b c
structure Wy(es:List E2)(a c:Int×Int)(k:Fin 8)(m:Nat):Prop where
 fin:c=att a k (m+1)
 mem:∀j:Nat,j<=m->(att a k j,att a k (j+1))∈es
 str:∀j:Nat,j<m->str es (att a k j) (att a k (j+1))=true
 stop:Mine.str es (att a k m) (att a k (m+1))=false
theorem Goes.wy{es:List E2}{a b c:Int×Int}(g:Goes es a b c):∀{k:Fin 8},b=stp a k->(a,b)∈es->∃m,Wy es a c k m:=by
 induction g with
 |@stop a b h=>
  intro k e he;subst e;refine⟨0,?_,fun j hj=>?_,fun j hj=>by omega,?_⟩
  ·show _=att a k (0+1)
   rw[Int.zero_add,zi9]
  ·have:j=0:=by omega
   subst this;show(att a k 0,att a k (0+1))∈es;rw[Int.zero_add,zi9,zkv];exact he
  ·show str es (att a k 0) (att a k (0+1))=false
   rw[Int.zero_add,zi9,zkv];exact h
 |@step a b c h g ih=>
  intro k e he;subst e;have hm:=zjv h;rw[zhm] at hm;obtain⟨m,w⟩:=ih (k:=k) (zhm a k) (by rw[zhm];exact hm)
  have sh:∀j:Int,att (stp a k) k j=att a k (j+1):=fun j=>by rw[←zi9,zf9,Int.add_comm]
  refine⟨m+1,?_,fun j hj=>?_,fun j hj=>?_,?_⟩
  ·rw[w.fin,sh];rfl
  ·cases j with
   |zero=>
    show(att a k 0,att a k (0+1))∈es
    rw[Int.zero_add,zi9,zkv];exact he
   |succ j=>
    have:=w.mem j (by omega)
    rw[sh,sh] at this;exact this
  ·cases j with
   |zero=>
    show Mine.str es (att a k 0) (att a k (0+1))=true
    rw[Int.zero_add,zi9,zkv];exact h
   |succ j=>
    have:=w.str j (by omega)
    rw[sh,sh] at this;exact this
  ·have:=w.stop;rw[sh,sh] at this;exact this
def Bgn(es:List E2)(a:Int×Int)(k:Fin 8):Prop:=¬((stp a (k+4),a)∈es/\str es (stp a (k+4)) a=true)
section
variable{es:List E2}{a a' c c':Int×Int}{k k':Fin 8}{m m':Nat}
theorem Wy.dir(h:Wy es a c k m)(h':Wy es a c k' m'):k=k':=zq1 (by omega:(0:Int)<(m:Int)+1) (by omega:(0:Int)<(m':Int)+1) (h.fin.symm.trans h'.fin)
theorem Wy.one(h:Wy es a c k m)(h':Wy es a c' k m'):c=c':=by
 rcases Nat.lt_trichotomy m m' with z|z|z
 ·have:=h'.str m z;rw[h.stop] at this
  cases this
 ·subst z;rw[h.fin,h'.fin]
 ·have:=h.str m' z;rw[h'.stop] at this
  cases this
theorem Wy.from(h:Wy es a c k m):a=att c (k+4) (m+1):=by
 rw[zjx,h.fin,zf9,show((m:Int)+1+ -((m:Int)+1))=0 by omega,zkv]
theorem Wy.last(h:Wy es a c k m):(stp c (k+4),c)∈es:=by
 have:=h.mem m (Nat.le_refl _);rw[←h.fin] at this;rw[zk7,h.fin,zf9,show((m:Int)+1+ -1)=m by omega,←h.fin]
 exact this
theorem Wy.lastS(h:Wy es a c k m):Mine.str es (stp c (k+4)) c=false:=by
 have:=h.stop;rw[←h.fin] at this;rw[zk7,h.fin,zf9,show((m:Int)+1+ -1)=m by omega,←h.fin]
 exact this
theorem Wy.first(h:Wy es a c k m):(a,stp a k)∈es:=by
 have:=h.mem 0 (Nat.zero_le _);rw[show((0:Nat):Int)=0 from rfl,Int.zero_add,zi9,zkv] at this;exact this
theorem Wy.lt(h:Wy es a c k m)(h':Wy es a' c k m')(b:Bgn es a k)(z:m<m'):False:=by
 have e:a=att a' k ((m':Int)-m):=by
  have:=h.from
  rw[zjx,h'.fin,zf9,show((m':Int)+1+ -((m:Int)+1))=(m':Int)-m by omega] at this
  exact this
 have e1:((m':Int)-m)=((m'-m-1:Nat):Int)+1:=by omega
 have h1:=h'.mem (m'-m-1) (by omega)
 have h2:=h'.str (m'-m-1) (by omega)
 rw[←e1,←e] at h1 h2;refine b ?_;rw[zk7];have e2:att a k (-1)=att a' k ((m'-m-1:Nat):Int):=by
  rw[e,zf9,show((m':Int)-m+ -1)=((m'-m-1:Nat):Int) by omega]
 rw[e2];exact⟨h1,h2⟩
theorem Wy.back(h:Wy es a c k m)(h':Wy es a' c k m')(b:Bgn es a k)(b':Bgn es a' k):a=a':=by
 rcases Nat.lt_trichotomy m m' with z|z|z
 ·exact(h.lt h' b z).elim
 ·subst z;rw[h.from,h'.from]
 ·exact(h'.lt h b' z).elim
theorem Wy.ne(h:Wy es a c k m):a≠c:=fun z=>by
 have e:=h.fin;rw[←z] at e;have:att a k 0=att a k ((m:Int)+1):=by rw[zkv];exact e
 have:=att_inj this;omega
end
structure Wys(es:List E2)(ws:List E2):Prop where
 nd:ws.Nodup
 of:∀w,w∈ws->∃k m,Wy es w.1 w.2 k m/\Bgn es w.1 k
 all:∀a k,(a,stp a k)∈es->Bgn es a k->∃c m,(a,c)∈ws/\Wy es a c k m
section
variable{cs:List C3}{es ws:List E2}
theorem Edg.bgn(E:Edg cs es){a c:Int×Int}{k j:Fin 8}{m:Nat}(h:Wy es a c k m)(hj:(c,stp c j)∈es):Bgn es c j:=by
 rintro⟨h1,h2⟩;have e:stp (stp c (j+4)) j=c:=by
  have:=zl9 c (j+4)
  rwa [f44] at this
 have one:∀j',oB (sec cs c) j'=true->j'=j:=fun j' z=>by
  have z:=E.out.mpr z;have g:∀d,d=c->str es (stp c (j+4)) d=true/\(d,stp d j')∈es:=fun d q=>by rw[q];exact⟨h2,z⟩
  exact str_one (a:=stp c (j+4)) (g _ e).1 (g _ e).2
 have i1:=E.inn.mp h1;have i2:=E.inn.mp h.last;have ek:=v_one one i1 i2;rw[ek,h.lastS] at h2
 cases h2
theorem Wys.next(E:Edg cs es)(W:Wys es ws){a c:Int×Int}{k j:Fin 8}{m:Nat}(h:Wy es a c k m)(hj:oB (sec cs c) j=true):∃d n,(c,d)∈ws/\Wy es c d j n:=W.all c j (E.out.mpr hj) (E.bgn h (E.out.mpr hj))
theorem Wys.rev(E:Edg cs es)(W:Wys es ws){w:E2}(h:w∈ws):¬(w.2,w.1)∈ws:=fun z=>by
 obtain⟨k,m,h1,_⟩:=W.of w h;obtain⟨j,n,h2,_⟩:=W.of _ z;have e:j=k+4:=by
  have a:=h2.fin;have b:=h1.from
  exact zq1 (by omega:(0:Int)<(n:Int)+1) (by omega:(0:Int)<(m:Int)+1) (a.symm.trans b)
 have l:=h2.last;dsimp only at l;rw[e,f44] at l;have i1:=E.inn.mp l
 have o1:=E.out.mp h1.first
 exact oi_ne i1 o1 rfl
end
def sg8(k j:Fin 8):Int:=sgn ((dv k).1*(dv j).2-(dv k).2*(dv j).1)
theorem sg8_rk:∀k j j':Fin 8,j≠k->j'≠k->rk k j<rk k j'->((if sg8 k j=sg8 k j' then decide (sg8 j j'<0) else decide (sg8 k j<sg8 k j'))=true/\(if sg8 k j'=sg8 k j then decide (sg8 j' j<0) else decide (sg8 k j'<sg8 k j))=false):=by decide
theorem zht{a:Int×Int}{k j:Fin 8}{m n:Int}(hm:0<m)(hn:0<n):sgn (ori a (att a k m) (att a j n))=sg8 k j:=by
 have e:ori a (att a k m) (att a j n)=m*n*((dv k).1*(dv j).2-(dv k).2*(dv j).1):=by
  unfold ori att;dsimp only
  grind
 have h:0<m*n:=Int.mul_pos hm hn;unfold sg8;rw[e];generalize (dv k).1*(dv j).2-(dv k).2*(dv j).1=z;generalize m*n=y at*;have s2:=zc3 (a:=0) (b:=z) h;have s4:=zc3 (a:=z) (b:=0) h;rw[Int.mul_zero] at s2 s4;exact zll s2 s4
theorem soon_att{f:Fr}(hw:0<f.w)(hd:0<fd2 f){a:Int×Int}{k j j':Fin 8}{m n n':Int}(hm:0<m)(hn:0<n)(hn':0<n')(h1:j≠k)(h2:j'≠k)(h:rk k j<rk k j'):soon (PF f a) (PF f (att a k m)) (PF f (att a j n)) (PF f (att a j' n'))=true/\soon (PF f a) (PF f (att a k m)) (PF f (att a j' n')) (PF f (att a j n))=false:=by
 rw[zp6 hw hd,zp6 hw hd,zht hm hn,zht hm hn',zht hn hn',zht hn' hn];exact sg8_rk k j j' h1 h2 h
def tdF(f:Fr)(e:E2):Q3×Q3:=(PF f e.1,PF f e.2)
section
variable{f:Fr}{cs:List C3}{es ws:List E2}
theorem zoa(hw:0<f.w)(hd:0<fd2 f){e e':E2}(h:tdF f e=tdF f e'):e=e':=by
 unfold tdF at h
 injection h with h1 h2
 exact Prod.ext (zgb hw hd h1) (zgb hw hd h2)
theorem zpr(hw:0<f.w)(hd:0<fd2 f){p:Int×Int}{t:Q3}(h:t∈leav (ws.map (tdF f)) (PF f p)):∃q,(p,q)∈ws/\t=PF f q:=by
 obtain⟨⟨a,b⟩,h1,h2⟩:=List.mem_map.mp (zi5.mp h);unfold tdF at h2
 injection h2 with h2 h3
 have:=zgb hw hd h2;subst this;exact⟨b,h1,h3.symm⟩
theorem zpu{p q:Int×Int}(h:(p,q)∈ws):PF f q∈leav (ws.map (tdF f)) (PF f p):=zi5.mpr (List.mem_map.mpr ⟨(p,q),h,rfl⟩)
theorem zgh(hw:0<f.w)(hd:0<fd2 f)(E:Edg cs es)(W:Wys es ws){a c:Int×Int}{k:Fin 8}{m:Nat}(h:Wy es a c k m):∃d j n,(c,d)∈ws/\Wy es c d j n/\zil (PF f c) (PF f a) (leav (ws.map (tdF f)) (PF f c))=PF f d/\∀j',oB (sec cs c) j'=true->rk (k+4) j<=rk (k+4) j':=by
 have i1:=E.inn.mp h.last;obtain⟨j0,o0⟩:=v1 i1;obtain⟨j,oj,mj⟩:=v_min (p:=oB (sec cs c)) (f:=rk (k+4)) _ ⟨j0,o0,Nat.le_refl _⟩
 obtain⟨d,n,hd1,wd⟩:=W.next E h oj
 refine⟨d,j,n,hd1,wd,first_is (zpu hd1) fun t ht ne=>?_,mj⟩;obtain⟨q,hq,rfl⟩:=zpr hw hd ht;obtain⟨j',n',wq,_⟩:=W.of _ hq;dsimp only at wq
 have oq:=E.out.mp wq.first
 have nj:j≠j':=fun z=>by
  subst z;exact ne (by rw[wd.one wq])
 have lt:rk (k+4) j<rk (k+4) j':=by
  have:=mj j' oq;rcases Nat.lt_or_eq_of_le this with z|z
  ·exact z
  ·exact absurd (rk_inj _ _ _ z) nj
 rw[h.from,wd.fin,wq.fin];exact soon_att hw hd (by omega) (by omega) (by omega) (oi_ne i1 oj) (oi_ne i1 oq) lt
theorem fen_of(hw:0<f.w)(hd:0<fd2 f)(E:Edg cs es)(W:Wys es ws):Fen (ws.map (tdF f)):=by
 refine⟨?_,fun e he=>?_,fun e he z=>?_,fun e he=>?_,fun e e' he he' z=>?_⟩
 ·rw[List.nodup_iff_pairwise_ne,List.pairwise_map];exact(List.nodup_iff_pairwise_ne.mp W.nd).imp fun n z=>n (zoa hw hd z)
 ·obtain⟨x,hx,rfl⟩:=List.mem_map.mp he;obtain⟨k,m,h,_⟩:=W.of x hx;exact fun z=>h.ne (zgb hw hd z)
 ·obtain⟨x,hx,rfl⟩:=List.mem_map.mp he;obtain⟨y,hy,e2⟩:=List.mem_map.mp z;have:y=(x.2,x.1):=zoa hw hd e2;rw[this] at hy;exact W.rev E hx hy
 ·obtain⟨x,hx,rfl⟩:=List.mem_map.mp he;obtain⟨k,m,h,_⟩:=W.of x hx;obtain⟨d,j,n,hd1,_⟩:=zgh hw hd E W h;exact List.ne_nil_of_mem (zpu hd1)
 ·obtain⟨x,hx,rfl⟩:=List.mem_map.mp he;obtain⟨y,hy,rfl⟩:=List.mem_map.mp he';obtain⟨k,m,h,b⟩:=W.of x hx;obtain⟨k',m',h',b'⟩:=W.of y hy;obtain⟨x1,x2⟩:=x;obtain⟨y1,y2⟩:=y;dsimp only at h b h' b';unfold suc at z
  injection z with z1 z2
  have:=zgb hw hd z1;subst this;obtain⟨d,j,n,d1,d2,d3,d4⟩:=zgh hw hd E W h;obtain⟨d',j',n',d1',d2',d3',d4'⟩:=zgh hw hd E W h';dsimp only[tdF] at z2;rw[d3,d3'] at z2;have:=zgb hw hd z2;subst this;have:=d2.dir d2';subst this;have e4:=v3 (E.inn.mp h.last) (E.inn.mp h'.last) d4 d4';have ek:k=k':=by rw[←f44 k,e4,f44]
  subst ek;rw[h.back h' b b']
end
def kE(e:Q3×Q3):List (List Key):=[kQ e.1,kQ e.2]
theorem kE_inj{e f:Q3×Q3}(h:kE e=kE f):e=f:=by
 unfold kE at h
 injection h with h1 h2
 injection h2 with h2
 exact Prod.ext (zei h1) (zei h2)
theorem S2H.nk{H:Hp}{p:Addr}{e:Q3×Q3}(h:S2H H p e):NK H p (kE e):=by
 obtain⟨c,d,h1,h2,h3⟩:=h;exact NK.two h1 h2.1 h3.1
def GnK(H:Hp)(kvs:List N3):Prop:=∀p,p∈kvs->∃e,p.1=kE e/\S2H H p.2.1 e
theorem GnK.kn{H:Hp}{kvs:List N3}(h:GnK H kvs):KN H kvs:=fun p hp=>by
 obtain⟨e,e1,e2⟩:=h p hp;rw[e1];exact e2.nk
theorem GnK.ts{H H':Hp}{kvs:List N3}(h:GnK H kvs)(g:zad H H'):GnK H' kvs:=fun p hp=>by
 obtain⟨e,e1,e2⟩:=h p hp;exact⟨e,e1,zed _ _ _ _ g e2⟩
theorem GnK.put{H:Hp}{kvs:List N3}{b:Addr}{e:Q3×Q3}{v:V}(h:GnK H kvs)(hb:S2H H b e):GnK H (putN kvs (kE e) b v):=by
 unfold putN
 split
 ·intro p hp;obtain⟨q,hq,z⟩:=List.mem_map.mp hp;obtain⟨f,f1,f2⟩:=h q hq;rw[←z]
  split
  ·exact⟨f,f1,f2⟩
  ·exact⟨f,f1,f2⟩
 ·intro p hp;rcases List.mem_append.mp hp with hp|hp
  ·exact h p hp
  ·rw[List.mem_singleton.mp hp];exact⟨e,rfl,hb⟩
theorem zfc{P:Program}{w:World}{H:Hp}{D:Addr}{kvs:List N3}{o:HO}(h:H D=some (nD P w D kvs)):zad H (upd H D o):=fun b xs q=>by
 rw[za5 (fun z=>by rw[z,h] at q;cases q)]
 exact q
def hasG(kvs:List N3)(e:Q3×Q3):Prop:=(valN kvs (kE e)).isSome=true
theorem has_put{kvs:List N3}{e f:Q3×Q3}{b:Addr}{v:V}:hasG (putN kvs (kE e) b v) f↔hasG kvs f∨f=e:=by
 unfold hasG;rw[zc4,zg3]
 by_cases c:(valN kvs (kE e)).isSome=true
 ·rw[if_pos c,zc4];rw[zc4] at c;exact⟨.inl,fun h=>h.elim id fun z=>by rw[z];exact c⟩
 ·rw[if_neg c,zc4,List.mem_append,List.mem_singleton];exact⟨fun h=>h.imp id kE_inj,fun h=>h.imp id fun z=>by rw[z]⟩
def dQ(r:Q3):PyData:=.tuple [.int r.x,.int r.y,.int r.w]
theorem rd_q{K:PySem.W.Frag}{H:Hp}{p:Addr}{r:Q3}(h:QH H p r):RdD K H (dQ r) (.ref p):=by
 unfold dQ;rw[RdD];refine⟨p,_,rfl,.of h.1,?_⟩;rw[RdDs];refine⟨_,_,rfl,by rw[RdD],?_⟩
 rw[RdDs];refine⟨_,_,rfl,by rw[RdD],?_⟩
 rw[RdDs];refine⟨_,_,rfl,by rw[RdD],?_⟩
 rw[RdDs]
theorem rd_qs{K:PySem.W.Frag}{H:Hp}:∀{zs:List V}{F:List Q3},LR QH H zs F->RdDs K H (F.map dQ) zs
 |[],[],_=>by rw[List.map_nil,RdDs]
 |[],_::_,h=>by cases h.1
 |v::zs,F,h=>by
  obtain⟨a,as,rfl,⟨p,rfl,hp⟩,t⟩:=h.cons_inv;rw[List.map_cons,RdDs];exact⟨_,_,rfl,rd_q hp,rd_qs t⟩
theorem rd_ql{K:PySem.W.Frag}{H:Hp}{l:Addr}{zs:List V}{F:List Q3}(h:H l=some (.lst zs))(hz:LR QH H zs F):RdD K H (.list (F.map dQ)) (.ref l):=by
 rw[RdD];exact⟨l,_,rfl,.of h,rd_qs hz⟩
theorem dQ_lay(r:Q3):(dQ r).canLay0=true/\(dQ r).depth<=3:=by
 simp[dQ,PyData.canLay0,PyData.canLayAll0,PyData.depth,PyData.depthAll]
theorem dQs_lay(F:List Q3):PyData.canLayAll0 (F.map dQ)=true/\PyData.depthAll (F.map dQ)<=3:=by
 induction F with
 |nil=>exact⟨rfl,by simp[PyData.depthAll]⟩
 |cons r F ih=>
  have h:=dQ_lay r;rw[List.map_cons]
  constructor
  ·rw[PyData.canLayAll0,h.1,ih.1];rfl
  ·rw[PyData.depthAll];have:=h.2;have:=ih.2;omega
theorem zj0(a b:Q3):PyData.eqv (dQ a) (dQ b)=decide (a=b):=by
 rw[Bool.eq_iff_iff];obtain⟨x,y,w⟩:=a;obtain⟨x',y',w'⟩:=b
 simp[dQ,PyData.eqv,PyData.eqvAll]
theorem zh4:∀F G:List Q3,PyData.eqvAll (F.map dQ) (G.map dQ)=decide (F=G)
 |[],[]=>by simp[PyData.eqvAll]
 |[],_::_=>by simp[PyData.eqvAll]
 |_::_,[]=>by simp[PyData.eqvAll]
 |a::F,b::G=>by
  rw[List.map_cons,List.map_cons,PyData.eqvAll,zj0,zh4 F G];rw[Bool.eq_iff_iff]
  simp
theorem dQs_eqv(F G:List Q3):PyData.eqv (.list (F.map dQ)) (.list (G.map dQ))=decide (F=G):=by
 rw[PyData.eqv,zh4]
def dS(s:Q3×Q3):PyData:=.tuple [dQ s.1,dQ s.2]
theorem rd_s{K:PySem.W.Frag}{H:Hp}{p:Addr}{s:Q3×Q3}(h:S2H H p s):RdD K H (dS s) (.ref p):=by
 obtain⟨c,d,h1,h2,h3⟩:=h;unfold dS;rw[RdD];refine⟨p,_,rfl,.of h1,?_⟩;rw[RdDs];refine⟨_,_,rfl,rd_q h2,?_⟩;rw[RdDs];refine⟨_,_,rfl,rd_q h3,?_⟩;rw[RdDs]
theorem rd_ss{K:PySem.W.Frag}{H:Hp}:∀{zs:List V}{F:List (Q3×Q3)},LR S2H H zs F->RdDs K H (F.map dS) zs
 |[],[],_=>by rw[List.map_nil,RdDs]
 |[],_::_,h=>by cases h.1
 |v::zs,F,h=>by
  obtain⟨a,as,rfl,⟨p,rfl,hp⟩,t⟩:=h.cons_inv;rw[List.map_cons,RdDs];exact⟨_,_,rfl,rd_s hp,rd_ss t⟩
theorem rd_sl{K:PySem.W.Frag}{H:Hp}{l:Addr}{zs:List V}{F:List (Q3×Q3)}(h:H l=some (.lst zs))(hz:LR S2H H zs F):RdD K H (.list (F.map dS)) (.ref l):=by
 rw[RdD];exact⟨l,_,rfl,.of h,rd_ss hz⟩
theorem dS_lay(r:Q3×Q3):(dS r).canLay0=true/\(dS r).depth<=4:=by
 simp[dS,dQ,PyData.canLay0,PyData.canLayAll0,PyData.depth,PyData.depthAll]
theorem dSs_lay(F:List (Q3×Q3)):PyData.canLayAll0 (F.map dS)=true/\PyData.depthAll (F.map dS)<=4:=by
 induction F with
 |nil=>exact⟨rfl,by simp[PyData.depthAll]⟩
 |cons r F ih=>
  have h:=dS_lay r;rw[List.map_cons]
  constructor
  ·rw[PyData.canLayAll0,h.1,ih.1];rfl
  ·rw[PyData.depthAll];have:=h.2;have:=ih.2;omega
theorem zh7(F:List (Q3×Q3)):SeqAt.shaped (.list (F.map dS))=true:=by
 have h:=dSs_lay F;unfold SeqAt.shaped
 simp[PyData.canLay0,PyData.depth,h.1]
 have:=h.2;omega
theorem zlt:∀F:List (Q3×Q3),PyData.eqvAll (F.map dS) (F.map dS)=true
 |[]=>by simp[PyData.eqvAll]
 |a::F=>by
  have e:PyData.eqv (dS a) (dS a)=true:=by
   unfold dS;rw[PyData.eqv,PyData.eqvAll,PyData.eqvAll,PyData.eqvAll,zj0,zj0]
   simp
  rw[List.map_cons,PyData.eqvAll,e,zlt F];rfl
theorem dSs_eqv(F:List (Q3×Q3)):PyData.eqv (.list (F.map dS)) (.list (F.map dS))=true:=by
 rw[PyData.eqv,zlt]
theorem zim(e:Q3×Q3):SeqAt.shaped (dS e)=true:=by
 simp[dS,dQ,SeqAt.shaped,PyData.canLay0,PyData.canLayAll0,PyData.depth,PyData.depthAll]
theorem dS_eqv(a b:Q3×Q3):PyData.eqv (dS a) (dS b)=decide (a=b):=by
 unfold dS;rw[PyData.eqv,PyData.eqvAll,PyData.eqvAll,PyData.eqvAll,zj0,zj0,Bool.and_true,Bool.eq_iff_iff,Bool.and_eq_true,decide_eq_true_iff,decide_eq_true_iff,decide_eq_true_iff];exact⟨fun h=>Prod.ext h.1 h.2,fun h=>by rw[h];exact⟨rfl,rfl⟩⟩
theorem zlk{c:TT}{tb:TS}{D:Ends}{σ:St}{H:Hp}(Pv:St->Hp->Prop)(μ:St->Hp->Nat)(h0:Pv σ H)
  (hs:∀σ H,Pv σ H->c σ H fun b H1=>if b=true then ∃N:St->Hp->Prop,(∀σ' H',N σ' H'->∃m',m'<μ σ H/\m'=μ σ' H'/\Pv σ' H')/\tb {D with nx:=N,ct:=N,bk:=D.nx} σ H1 else D.nx σ H1):zlh c tb D σ H:=by
 refine⟨fun m σ H=>m=μ σ H/\Pv σ H,⟨_,rfl,h0⟩,?_⟩;rintro m σ H ⟨rfl,p⟩;exact hs σ H p
theorem zb0.put{P D:Addr}{H H':Hp}{o:HO}(g:zb0 P H H')(h:H D=none):zb0 P H (upd H' D o):=fun b u nb e=>by
 rw[za5 (fun z=>by rw[z,h] at e;cases e)]
 exact g b u nb e
theorem zb0.own{D:Addr}{H H':Hp}{o:HO}(g:zb0 D H H'):zb0 D H (upd H' D o):=fun b u nb e=>by
 rw[za5 nb];exact g b u nb e
theorem zb0.same{P:Addr}{H H' H'':Hp}(g:zb0 P H H')(g':Same H' H''):zb0 P H H'':=fun b u nb e=>g' _ _ (g b u nb e)
theorem ts_sg{P:Program}{w:World}{H H':Hp}{gn:Addr}{gk:List N3}(g:zb0 gn H H')(h:H gn=some (nD P w gn gk)):zad H H':=fun b xs q=>g b _ (fun z=>by rw[z,h] at q;cases q) q
theorem zdy{H:Hp}{a b:Addr}{o u:HO}{x:Option HO}(ne:a≠b)(h:H a=x):upd H b o a=x:=by
 rw[za5 ne];exact h
theorem while_m{c:TT}{tb:TS}{D:L2.Ends}{σ:St}{H:Hp}(W:Nat->St->Hp->Prop)(h0:∃m,W m σ H)
  (hs:∀m σ H,W m σ H->c σ H fun b H1=>if b=true then ∃N:St->Hp->Prop,(∀σ' H',N σ' H'->∃m',m'<m/\W m' σ' H')/\tb {D with nx:=N,ct:=N,bk:=D.nx} σ H1 else D.nx σ H1):zlh c tb D σ H:=⟨W,h0,hs⟩
def pkW(w:List Q3):List (List Key×V):=(List.range w.length).map fun i=>(kQ (nx w i),V.int ((i:Nat):Int))
theorem zkz(w:List Q3):(pkW w).length=w.length:=by unfold pkW;rw[List.length_map,List.length_range]
theorem pkW_at{w:List Q3}{i:Nat}(h:i<w.length):(pkW w)[i]?=some (kQ (nx w i),V.int ((i:Nat):Int)):=by
 unfold pkW;rw[List.getElem?_map,List.getElem?_range h];rfl
theorem zit{κ:Type}[DecidableEq κ]{k k':κ}{v:V}{r:List (κ×V)}:valV ((k',v)::r) k=if k'=k then some v else valV r k:=by
 unfold valV;rw[List.find?_cons]
 by_cases c:k'=k
 ·rw[if_pos c]
  simp[c]
 ·rw[if_neg c]
  simp[c]
theorem zet{κ:Type}[DecidableEq κ]{f:Nat->κ×V}{k:κ}:∀{l:List Nat}{i:Nat},i∈l->(f i).1=k->(∀j,j∈l->(f j).1=k->j=i)->valV (l.map f) k=some (f i).2
 |[],_,h,_,_=>by cases h
 |a::l,i,h,e,u=>by
  rw[List.map_cons,show f a=((f a).1,(f a).2) from rfl,zit]
  by_cases c:(f a).1=k
  ·rw[if_pos c,u a (by simp) c]
  ·rw[if_neg c];rcases List.mem_cons.mp h with z|z
   ·rw[←z] at c;exact absurd e c
   ·exact zet z e fun j hj=>u j (List.mem_cons_of_mem _ hj)
theorem zob{κ:Type}[DecidableEq κ]{k:κ}:∀{l:List (κ×V)},(∀p,p∈l->p.1≠k)->valV l k=none
 |[],_=>rfl
 |(k',v)::l,h=>by
  rw[zit,if_neg (h (k',v) (by simp))]
  exact zob fun p hp=>h p (List.mem_cons_of_mem _ hp)
theorem pkW_val{w:List Q3}(nd:w.Nodup){i:Nat}(h:i<w.length):valV (pkW w) (kQ (nx w i))=some (V.int ((i:Nat):Int)):=
 zet (f:=fun i=>(kQ (nx w i),V.int ((i:Nat):Int))) (List.mem_range.mpr h) rfl fun j hj e=>nx_inj nd (List.mem_range.mp hj) h (zei e)
theorem zle{w:List Q3}{p:Q3}(h:¬p∈w):valV (pkW w) (kQ p)=none:=by
 refine zob fun q hq e=>h ?_;unfold pkW at hq;obtain⟨i,hi,rfl⟩:=List.mem_map.mp hq;rw[←zei e];exact zeg (by have:=List.mem_range.mp hi;omega) i
theorem pkW_snoc{w:List Q3}{p:Q3}:pkW (w++[p])=pkW w++[(kQ p,V.int ((w.length:Nat):Int))]:=by
 unfold pkW;rw[List.length_append,List.length_singleton,List.range_succ,List.map_append,List.map_cons,List.map_nil,zk3]
 congr 1
 refine List.map_congr_left fun i hi=>?_;rw[zix (List.mem_range.mp hi)]
theorem pkW_take{w:List Q3}{i:Nat}(h:i<w.length):pkW (w.take (i+1))=(pkW w).take (i+1):=by
 unfold pkW;rw[List.length_take,Nat.min_eq_left (by omega),←List.map_take,List.take_range,Nat.min_eq_left (by omega)]
 refine List.map_congr_left fun j hj=>?_;rw[zfz h (by have:=List.mem_range.mp hj;omega)]
theorem zoh{H H':Hp}{gn q:Addr}{o:HO}(g:zb0 gn H H')(hg:H' gn=some o)(hq:H' q=none):H q=none:=by
 cases z:H q with
 |none=>rfl
 |some u=>
  rw[g q u (fun y=>by rw[y,hg] at hq;cases hq) z] at hq
  cases hq
theorem ts_T{H H':Hp}{D:Addr}{kvs:List (List Key×V)}(g:zb0 D H H')(h:H D=some (.dT kvs)):zad H H':=fun b xs q=>g b _ (fun z=>by rw[z,h] at q;cases q) q
def RgX(H0:Hp)(R W:Addr)(H:Hp)(p:Addr)(r:List Q3):Prop:=H0 p=none/\p≠R/\p≠W/\RgQ H p r
def WayJ(P:Program)(w:World)(H:Hp)(st lv gn R D:Addr)(gk:List N3)(ss:List (Q3×Q3))(e:Q3×Q3)(m:Nat)(σ:St)(H':Hp):Prop:=∃(t:Nat)(f W:Addr)(ys zs:List V)(wy:List Q3)(rs:List (List Q3))(gk':List N3)(o1 o2 o3:Option V),σ=[some (V.ref st),some (V.ref lv),some (V.ref gn),some (V.ref R),some (V.ref W),some (V.ref D),some (V.ref f),o1,o2,o3]/\m=ss.length-t/\zb0 gn H H'/\H' gn=some (nD P w gn gk')/\GnK H' gk'/\(∀g,hasG gk' g↔hasG gk g∨∃i,i<t/\g=itr ss e i)/\gk'.length<=gk.length+t/\H' R=some (.lst zs)/\LR (RgX H R W) H' zs rs/\zs.length<=t/\H W=none/\W≠R/\H' W=some (.lst ys)/\LR QH H' ys wy/\wy.length<=t+1/\H' D=some (.dT (pkW wy))/\S2H H' f (itr ss e t)/\Way ss e t wy rs
def sp_way(P:Program)(w:World):Sp:=fun vs H Q _=>∃(H0:Hp)(st lv gn:Addr)(kvs:List (List Key×V))(gk:List N3)(ss:List (Q3×Q3))(e:Q3×Q3),vs=[.ref st,.ref lv,.ref gn]/\S2H H st e/\Lv H0 H lv kvs ss/\ss.length<=150/\H gn=some (nD P w gn gk)/\GnK H gk/\gk.length<=10000/\Fen ss/\e∈ss/\
 ∀(R:Addr)(zs:List V)(rs:List (List Q3))(t:Nat)(H':Hp)(gk':List N3),zb0 gn H H'->H' gn=some (nD P w gn gk')->GnK H' gk'->(∀g,hasG gk' g↔hasG gk g∨g∈(List.range (t+1)).map (itr ss e))->gk'.length<=gk.length+(t+1)->t<ss.length->H R=none->H' R=some (.lst zs)->LR (RgX H R R) H' zs rs->zs.length<=t+1->(∀q,q∈rs->q.Nodup/\2<=q.length)->(rs.flatMap sds).Perm ((List.range (t+1)).map (itr ss e))->suc ss (itr ss e t)=e->(∀j,0<j->j<=t->itr ss e j≠e)->rs=(wyF ss e t).2++[(wyF ss e t).1]->Q (.ref R) H'
theorem zis(T:Txt K mg ad fd):FnOk P w K mg base CX0 6 (ad 9) (fd 9) ["start","leaving","gone"] (sp_way P w):=by
 refine T.way_round.fn.ok zap (fun vs H Q E h=>?_) (fun cdv A outer s H vs Q E hr h=>?_)
 ·obtain⟨H0,st,lv,gn,kvs,gk,ss,e,rfl,_⟩:=h;rfl
 obtain⟨H0,st,lv,gn,kvs,gk,ss,e,rfl,hst,hlv,hss,hgn,hgk,lgk,Fe,hes,k⟩:=h;have zQ:=@pss5;have zd:=@zbu;have zt:=@zdr;have zw:=@zcl;have zg:=@pa1;have zc:=@ze3;have qpv:=@pv;have za:=@zbt;have yx:=@pe_disp1;have ya:=@zha;have zH:=@zgl;have zJ:=@znn;have yb:=@zki;have zk:=@zcv;have zh:=@pa2;have zj:=@zbv;have zr:=@pa3;have zN:=@zhd;have zn:=@zen;have zu:=@zd1;have zB:=@pss2;have zv:=@zdb;have zA:=@zhk;have ze:=@zb3;have zo:=@zc0;have zM:=@zi6;have yy:=@pc_din;have zD:=@pss4;have zU:=@zhe;have zV:=@zkx;have zW:=@zkd;have zb:=@zdv;have zq:=@zd8;have zp:=@zc1;have zm:=@zbw;have zf:=@zaf;have yz:=@pe_dpopT;have zZ:=@zk8;have zy:=@zd7;generalize @L2.PE=QE,@L2.PT=QT,@L2.PW=QW,@L2.PA=QA,@L2.PS=QS,@L2.PSs=QSs,@L2.PG=QG,@L2.PGs=QGs,@L2.PI=QI,@L2.PO=QO,@L2.PIf=QIf,@L2.PC=QC,@L2.PK=QK at zQ zd zt zw zg zc qpv za yx ya zH zJ yb zk zh zj zr zN zn zu zB zv zA ze zo zM yy zD zU zV zW zb zq zp zm zf yz zZ zy⊢;refine⟨_,
  (zQ
   (zd (i:=3) zap.nd rfl (Or.inl rfl) (zt zw))
   (zd (i:=4) zap.nd rfl (Or.inl rfl) (zt (zg (zc za6 (qpv 0) za (fun _ _=>rfl)) za8)))
   (zd (i:=5) zap.nd rfl (Or.inl rfl) (yx (zda hr) (zc za6 (qpv 0) za (fun _ _=>rfl)) za))
   (zd (i:=6) zap.nd rfl (Or.inl rfl) (qpv 0))
   (ya PassesOwn.never (zH zJ) (zQ
   (yb (P:=P) (w:=w) rfl rfl (hu64 hr) (qpv 2) (qpv 6) zJ rfl)
   (zd (i:=7) zap.nd rfl (Or.inl rfl) (zc za6 (qpv 6) za (fun _ _=>rfl)))
   (zd (i:=6) zap.nd rfl (Or.inl rfl) (zk (zh (qpv 7) za2 (zj (zgi T) (hr.mono (by decide)) rfl T.first_right.mg T.first_right.fn.kp T.first_right.bn .nil pass0 (zr (qpv 7) za2 (zc za6 (qpv 6) za (fun _ _=>rfl)) za8 (zN (zda hr) (qpv 1) (qpv 7) (fun _ _=>rfl)) za8)) zck)))
   (zn (zu (zj3 (hu64 hr)) (qpv 6) (qpv 0) (nomark _)) (zB
   (zv (zA PySem.F.plainAttrs_list PySem.F.slot_list_append PySem.F.type_list_append zbo (qpv 3) (zg (qpv 4) za2)))
   (ze (qpv 3))) zo)
   (zn (zM (yy (zda hr) (qpv 7) (qpv 5))) (zD
   (zd (i:=8) zap.nd rfl (Or.inl rfl) (zU ze9 (qpv 4) (zV (zN (zda hr) (qpv 5) (qpv 7) (fun _ _=>rfl))) zW))
   (zv (zA PySem.F.plainAttrs_list PySem.F.slot_list_append PySem.F.type_list_append zbo (qpv 3) (zg (qpv 8) za2)))
   (zd (i:=4) zap.nd rfl (Or.inl rfl) (zU ze9 (qpv 4) zW (zV (zb zb7 (zN (zda hr) (qpv 5) (qpv 7) (fun _ _=>rfl)) za))))
   (zq PassesOwn.never rfl (zp (zU ze9 (qpv 8) (zV za) zW)) (zm (i:=9) zap.nd rfl (Or.inl rfl)) (zf (zv (yz (zda hr) (qpv 5) (qpv 9) ⟨rfl,rfl,rfl,rfl⟩))))) (zB
   (zZ (zda hr) (qpv 5) (qpv 7) (zy zdg rfl T.b_len zee (zg (qpv 4) za2)) rfl)
   (zv (zA PySem.F.plainAttrs_list PySem.F.slot_list_append PySem.F.type_list_append zbo (qpv 4) (zg (qpv 7) za2))))))))
  ,?_⟩
 clear zQ zd zt zw zg zc qpv za yx ya zH zJ yb zk zh zj zr zN zn zu zB zv zA ze zo zM yy zD zU zV zW zb zq zp zm zf yz zZ zy QE QT QW QA QS QSs QG QGs QI QO QIf QC QK
 dsimp! [L2.start]
 obtain⟨s0,s1,hst',hs0,hs1⟩:=id hst;simp! [tDisp1];intro R hR;have gR:=za1 hR (HO.lst []);have hR1:upd H R (HO.lst []) R=some (.lst []):=upd_same;generalize upd H R (HO.lst [])=H1 at*;have hst1:=gR _ _ hst';simp! [hst1];intro W hW;have gW:=za1 hW (HO.lst [V.ref s0]);have hW1:upd H1 W (HO.lst [V.ref s0]) W=some (.lst [V.ref s0]):=upd_same;generalize upd H1 W (HO.lst [V.ref s0])=H2 at*;intro D hD;have gD:=za1 hD (HO.dT (putK [] (kQ e.1) (V.int 0)));have gD':=za1 hD (HO.dT []);have g2:=gR.trans gW;have hRW:R≠W:=zb5 hR1 hW;have hRD:R≠D:=zb5 (gW _ _ hR1) hD;have hWH:H W=none:=gR.free hW;have hDH:H D=none:=g2.free hD;have lvn:lv≠gn:=fun z=>by have:=hlv.at_;rw[z,hgn] at this;cases this
 refine⟨_,gD' _ _ (g2 _ _ hst'),_,at0,kQ e.1,s0,rfl,(gD' _ _ (g2 _ _ hs0.1)),?_⟩;refine while_m (WayJ P w H st lv gn R D gk ss e) ⟨_,0,st,W,[V.ref s0],[],[e.1],[],gk,none,none,none,rfl,rfl,fun b u nb z=>gD _ _ (g2 _ _ z),gD _ _ (g2 _ _ hgn),hgk.ts (za9 (g2.trans gD)),fun g=>⟨.inl,fun h=>h.elim id fun⟨i,hi,_⟩=>absurd hi (Nat.not_lt_zero _)⟩,Nat.le_refl _,gD _ _ (gW _ _ hR1),.nil,Nat.le_refl _,hWH,hRW.symm,gD _ _ hW1,LR.one (R:=QH) (hs0.same (g2.trans gD)),Nat.le_refl _,upd_same,zed _ _ _ _ (za9 (g2.trans gD)) hst,Way.start⟩ ?_;clear gD gD' gR gW hW1 hR1 hRW hWH hD hW;rintro m σ H3 ⟨t,f,W,ys,zs,wy,rs,gk2,o1,o2,o3,rfl,rfl,sg,hg3,hk3,hh,lg,hR3,hz3,lz,hWH,nWR,hW3,hy3,lw3,hD3,hf,wa⟩;have tf:=Fe.few hes wa.no;have fm:=Fe.itr hes t;have pos:=wa.pos;have lyw:=hy3.1;obtain⟨f0,f1,hf',hf0,hf1⟩:=id hf;simp! [sNPut,zmv,tDIn,sDPut,zoe];refine⟨_,fun σ' H' z=>z,gk2,hg3,hk3.kn,kE (itr ss e t),hf.nk,small10k (by omega),?_⟩
 generalize hO:nD P w gn (putN gk2 (kE (itr ss e t)) f (V.bl true))=O;have tp:=zfc (o:=O) hg3;have hg4:upd H3 gn O gn=some O:=upd_same;have hk4:=(hk3.put (v:=V.bl true) hf).ts tp;have sg4:=zb0.own sg (o:=O);have hR4:=zdy (o:=O) (u:=.lst []) (a:=R) (b:=gn) (fun z=>by rw[z,hg3] at hR3;cases hR3) hR3
 have hW4:=zdy (o:=O) (u:=.lst []) (a:=W) (b:=gn) (fun z=>by rw[z,hg3] at hW3;cases hW3) hW3
 have hD4:=zdy (o:=O) (u:=.lst []) (a:=D) (b:=gn) (fun z=>by rw[z,hg3] at hD3;cases hD3) hD3
 have hy4:=hy3.ts zc2 tp;have hz4:LR (RgX H R W) (upd H3 gn O) zs rs:=hz3.imp fun p r⟨x1,x2,x3,us,x4,x5⟩=>⟨x1,x2,x3,us,zdy (u:=.lst []) (fun z=>by rw[z,hg3] at x4;cases x4) x4,x5.ts zc2 tp⟩
 have hf4:=tp _ _ hf';have hf04:QH _ f0 (itr ss e t).1:=zc2 _ _ _ _ tp hf0;have hf14:QH _ f1 (itr ss e t).2:=zc2 _ _ _ _ tp hf1;generalize upd H3 gn O=H4 at*;have ts4:zad H H4:=ts_sg sg4 hgn;have hlv4:H4 lv=some (.dT kvs):=sg4 _ _ lvn hlv.at_;have out:=Fe.out _ fm;obtain⟨v,hv⟩:∃v,valV kvs (kQ (itr ss e t).2)=some v:=by
  cases z:valV kvs (kQ (itr ss e t).2) with
  |some v=>exact⟨v,rfl⟩
  |none=>exact absurd (hlv.non _ z) out
 obtain⟨l,us,rfl,_,hl,hu⟩:=hlv.ent _ _ hv;have hl4:H4 l=some (.lst us):=sg4 _ _ (fun z=>by rw[z,hgn] at hl;cases hl) hl
 have lu:us.length<=200:=by rw[hu.1];exact Nat.le_trans (zla _ _) (by omega)
 refine⟨_,hf4,_,at1,_,hf4,_,at0,_,by rw[←hv];exact .t (k:=kQ (itr ss e t).2) hlv4 hf14.1,f1,f0,l,us,(itr ss e t).2,(itr ss e t).1,leav ss (itr ss e t).2,rfl,hf14,hf04,hl4,lu,hu.ts zc2 ts4,out,fun rr H5 g5 hr5=>?_⟩
 intro p hp;have g6:=za1 hp (HO.tup [V.ref f1,V.ref rr]);have hp6:upd H5 p (HO.tup [V.ref f1,V.ref rr]) p=some (.tup [V.ref f1,V.ref rr]):=upd_same;generalize upd H5 p (HO.tup [V.ref f1,V.ref rr])=H6 at*;have g46:=g5.trans g6;have hf16:=hf14.same g46;have hs6:S2H H6 p (suc ss (itr ss e t)):=⟨f1,rr,hp6,hf16,hr5.same g6⟩;have sg6:=zb0.same sg4 g46;have ts6:zad H H6:=ts_sg sg6 hgn;have hg6:=g46 _ _ hg4;have hR6:=g46 _ _ hR4;have hW6:=g46 _ _ hW4;have hD6:=g46 _ _ hD4;have hy6:=hy4.same g46;have hk6:=hk4.ts (za9 g46);have hz6:LR (RgX H R W) H6 zs rs:=hz4.imp fun p r⟨x1,x2,x3,x4⟩=>⟨x1,x2,x3,x4.same g46⟩;have lp:=zhr gk2 (kE (itr ss e t)) f (V.bl true);have hh6:∀g,hasG (putN gk2 (kE (itr ss e t)) f (V.bl true)) g↔hasG gk g∨∃i,i<t+1/\g=itr ss e i:=fun g=>by
  rw[has_put,hh,or_assoc];refine or_congr Iff.rfl ⟨fun h=>?_,fun⟨i,hi,z⟩=>?_⟩
  ·rcases h with⟨i,hi,z⟩|z
   ·exact⟨i,by omega,z⟩
   ·exact⟨t,by omega,z⟩
  ·rcases Nat.lt_or_ge i t with y|y
   ·exact .inl ⟨i,y,z⟩
   ·exact .inr (by rw[z,show i=t by omega])
 refine⟨_,_,rd_s hs6,rd_s (zed _ _ _ _ ts6 hst),zim _,zim _,_,rfl,?_⟩;rw[dS_eqv]
 by_cases c:suc ss (itr ss e t)=e
 ·rw[decide_eq_true c];refine iteT ⟨zd5 hR6,zs,hR6,small1000 (by omega),?_⟩
  subst hO;obtain⟨d1,d2⟩:=wa.done Fe hes c;refine k R (zs++[V.ref W]) (rs++[wy]) t _ _ (zb0.put sg6 hR) (zdy (u:=.lst []) (fun z=>by rw[z,hR6] at hg6;cases hg6) hg6) (hk6.ts (zcg hR6)) (fun g=>?_) (by omega) tf hR upd_same ?_ (by rw[List.length_append,List.length_singleton];omega) d1 d2 c wa.no (by rw[wa.fn])
  ·rw[hh6,List.mem_map];exact or_congr Iff.rfl ⟨fun⟨i,hi,z⟩=>⟨i,List.mem_range.mpr hi,z.symm⟩,fun⟨i,hi,z⟩=>⟨i,List.mem_range.mp hi,z.symm⟩⟩
  ·refine(LR.snoc (R:=RgX H R R) (hz6.imp fun p r⟨x1,x2,x3,x4⟩=>⟨x1,x2,x2,x4⟩) (p:=W) (a:=wy) ⟨hWH,nWR,nWR,ys,hW6,hy6⟩).imp fun p r⟨x1,x2,x3,x4⟩=>⟨x1,x2,x3,x4.put x2 hR6⟩
 ·rw[decide_eq_false c];refine iteF ⟨_,.t (k:=kQ (itr ss e t).2) hD6 hf16.1,?_⟩
  by_cases pw:(itr ss e t).2∈wy
  ·obtain⟨i,hi,ei⟩:=List.mem_iff_getElem.mp pw;rw[←zdw hi] at ei;have vi:=pkW_val wa.nd hi;rw[ei] at vi;rw[vi];refine iteT ⟨_,by rw[←vi];exact .t (k:=kQ (itr ss e t).2) hD6 hf16.1,_,rfl,ys,hW6,fun q1 hq1=>?_⟩
   rw[zlj (xs:=ys) (m:=i) (by omega)]
   have g7:=za1 hq1 (HO.lst (ys.drop i));have h71:upd H6 q1 (HO.lst (ys.drop i)) q1=some (HO.lst (ys.drop i)):=upd_same;have q1H:=zoh sg6 hg6 hq1;have q1R:q1≠R:=fun z=>by rw[z,hR6] at hq1;cases hq1
   have q1W:q1≠W:=fun z=>by rw[z,hW6] at hq1;cases hq1
   generalize upd H6 q1 (HO.lst (ys.drop i))=H7 at*;have hR7:=g7 _ _ hR6;refine⟨zd5 hR7,zs,hR7,small1000 (by omega),?_⟩
   have nDR:D≠R:=hRD.symm;have t8:=zcg (o:=HO.lst (zs++[V.ref q1])) hR7;have h81:=zdy (o:=HO.lst (zs++[V.ref q1])) (u:=.lst []) q1R h71;have hD8:=zdy (o:=HO.lst (zs++[V.ref q1])) (u:=.lst []) nDR (g7 _ _ hD6);have hW8:=zdy (o:=HO.lst (zs++[V.ref q1])) (u:=.lst []) nWR (g7 _ _ hW6);have hg8:=zdy (o:=HO.lst (zs++[V.ref q1])) (u:=.lst []) (a:=gn) (b:=R) (fun z=>by rw[z,hR6,←hO] at hg6;cases hg6) (g7 _ _ hg6)
   have hR8:upd H7 R (HO.lst (zs++[V.ref q1])) R=some (HO.lst (zs++[V.ref q1])):=upd_same;have sg8:=zb0.put (zb0.same sg6 g7) (o:=HO.lst (zs++[V.ref q1])) hR;have t68:zad H6 _:=zhi (za9 g7) t8;have hf18:=zc2 _ _ _ _ t68 hf16;have hz8:LR (RgX H R W) (upd H7 R (HO.lst (zs++[V.ref q1]))) (zs++[V.ref q1]) (rs++[wy.drop i]):=(LR.snoc (R:=RgX H R W) (hz6.imp fun p r⟨x1,x2,x3,x4⟩=>⟨x1,x2,x3,x4.same g7⟩) (p:=q1) (a:=wy.drop i) ⟨q1H,q1R,q1W,_,h71,(hy6.drop i).same g7⟩).imp fun p r⟨x1,x2,x3,x4⟩=>⟨x1,x2,x3,x4.put x2 hR7⟩;have hy8:=hy6.ts zc2 t68;have hk8:=hk6.ts t68;have hs8:=zed _ _ _ _ t68 hs6;generalize upd H7 R (HO.lst (zs++[V.ref q1]))=H8 at*;refine⟨_,by rw[←vi];exact .t (k:=kQ (itr ss e t).2) hD8 hf18.1,_,rfl,ys,hW8,fun q2 hq2=>?_⟩
   rw[show((i:Int)+1)=((i+1:Nat):Int) by omega,cut_to (xs:=ys) (m:=i+1) (by omega)]
   have g9:=za1 hq2 (HO.lst (ys.take (i+1)));have h92:upd H8 q2 (HO.lst (ys.take (i+1))) q2=some (HO.lst (ys.take (i+1))):=upd_same;have q2H:=zoh sg8 hg8 hq2;have q2R:q2≠R:=fun z=>by rw[z,hR8] at hq2;cases hq2
   have hz9:LR (RgX H R q2) (upd H8 q2 (HO.lst (ys.take (i+1)))) (zs++[V.ref q1]) (rs++[wy.drop i]):=hz8.imp fun p r⟨x1,x2,x3,us',x4,x5⟩=>⟨x1,x2,(fun z=>by rw[z,hq2] at x4;cases x4),us',g9 _ _ x4,x5.same g9⟩
   generalize upd H8 q2 (HO.lst (ys.take (i+1)))=H9 at*;have h91:=g9 _ _ h81;refine zbk ?_;simp! [zcx,h91,ziq];intro q3 hq3;have gA:=za1 hq3 (HO.lst ((ys.drop i).drop 1));have hA3:upd H9 q3 (HO.lst ((ys.drop i).drop 1)) q3=some (HO.lst ((ys.drop i).drop 1)):=upd_same;generalize upd H9 q3 (HO.lst ((ys.drop i).drop 1))=HA at*;have g8A:=g9.trans gA;have hDA:=g8A _ _ hD8;have hyA:=hy8.same g8A;refine⟨⟨_,.of hA3⟩,?_⟩;refine zaz (K:=K) (a:=q3) (xs:=(ys.drop i).drop 1) (fun j σ H'=>zb0 D HA H'/\H' D=some (.dT ((pkW wy).take (i+1)++(pkW wy).drop (i+1+j)))/\∃o:Option V,σ=[some (V.ref st),some (V.ref lv),some (V.ref gn),some (V.ref R),some (V.ref q2),some (V.ref D),some (V.ref p),some (V.ref f1),some (V.ref q1),o]) ⟨fun _ _ _ h=>h,by rw[Nat.add_zero,List.take_append_drop];exact hDA,o3,rfl⟩ (fun j σ H' _ iv=>.of (iv.1 _ _ (fun z=>by rw[z,hDA] at hA3;cases hA3) hA3)) ?_ ?_
   ·intro _ _;rintro j v σ HB hj ⟨sB,hDB,o,rfl⟩;rw[List.drop_drop,List.getElem?_drop] at hj;obtain⟨b,x,rfl,hx,hb⟩:=hyA.2 _ v hj;have hlt:=(List.getElem?_eq_some_iff.mp hx).1;have ex:nx wy (i+1+j)=x:=by
     rw[zkw (by omega)] at hx
     exact Option.some.inj hx
    have hbB:HB b=some (.tup ((kQ x).map kV)):=sB _ _ (fun z=>by have:=hb.1;rw[z,hDA] at this;cases this) hb.1
    have dr:(pkW wy).drop (i+1+j)=(kQ x,V.int ((i+1+j:Nat):Int))::(pkW wy).drop (i+1+(j+1)):=by
     have l1:i+1+j<(pkW wy).length:=by rw[zkz];exact hlt
     rw[List.drop_eq_getElem_cons l1];have:=pkW_at hlt;rw[List.getElem?_eq_getElem l1,ex] at this;rw[Option.some.inj this];rfl
    rw[dr] at hDB;simp! [zoe];exact⟨zny hDB,_,_,_,⟨_,hDB⟩,hbB,zb0.own sB,rfl⟩
   ·rintro σ HB ⟨sB,hDB,o,rfl⟩;subst hO;have le:i+1+((ys.drop i).drop 1).length=wy.length:=by rw[List.length_drop,List.length_drop];omega
    rw[le,List.drop_of_length_le (by rw[zkz];exact Nat.le_refl _),List.append_nil,←pkW_take hi] at hDB
    have tB:zad HA HB:=ts_T sB hDA;have nD:∀{a:Addr}{xs:List V},HA a=some (.lst xs)->HB a=some (.lst xs):=fun h=>sB _ _ (fun z=>by rw[z,hDA] at h;cases h) h
    have ngD:gn≠D:=fun z=>by rw[z,hD8] at hg8;cases hg8
    refine⟨ss.length-(t+1),by omega,t+1,p,q2,ys.take (i+1),zs++[V.ref q1],wy.take (i+1),rs++[wy.drop i],_,_,_,_,rfl,rfl,?_,sB _ _ ngD (g8A _ _ hg8),(hk8.ts (za9 g8A)).ts tB,hh6,by omega,nD (g8A _ _ hR8),?_,by rw[List.length_append,List.length_singleton];omega,q2H,q2R,nD (gA _ _ h92),((hyA.take (i+1)).ts zc2 tB),by rw[List.length_take];omega,hDB,zed _ _ _ _ tB (zed _ _ _ _ (za9 g8A) hs8),wa.cut Fe hes hi ei c⟩
    ·intro b u nb z;exact sB _ _ (fun y=>by rw[y,hDH] at z;cases z) (g8A _ _ (sg8 b u nb z))
    ·exact hz9.imp fun p r⟨x1,x2,x3,us',x4,x5⟩=>⟨x1,x2,x3,us',nD (gA _ _ x4),(x5.same gA).ts zc2 tB⟩
  ·rw[zle pw];have hD7:=DPut.t (v:=V.int ys.length) (k:=kQ (itr ss e t).2) hD6 hf16.1 (small1000 (by rw[zkz];omega))
   refine iteF ⟨ys,.inl hW6,_,hD7,?_⟩;rw[zlb _ (zle pw),show((ys.length:Int))=((wy.length:Nat):Int) by omega,←pkW_snoc]
   have nWD:W≠D:=fun z=>by rw[z,hD6] at hW6;cases hW6
   have t7:=zkh (o:=.dT (pkW (wy++[(itr ss e t).2]))) hD6;have hW7:=zdy (o:=.dT (pkW (wy++[(itr ss e t).2]))) (u:=.lst []) nWD hW6;have hR7:=zdy (o:=.dT (pkW (wy++[(itr ss e t).2]))) (u:=.lst []) hRD hR6;have hg7:=zdy (o:=.dT (pkW (wy++[(itr ss e t).2]))) (u:=.lst []) (a:=gn) (b:=D) (fun z=>by rw[z,hD6,←hO] at hg6;cases hg6) hg6
   have hD7':upd H6 D (.dT (pkW (wy++[(itr ss e t).2]))) D=some (.dT (pkW (wy++[(itr ss e t).2]))):=upd_same;have sg7:=zb0.put sg6 (o:=.dT (pkW (wy++[(itr ss e t).2]))) hDH;have hy7:=hy6.ts zc2 t7;have hk7:=hk6.ts t7;have hs7:=zed _ _ _ _ t7 hs6;have hf17:=zc2 _ _ _ _ t7 hf16;have hz7:LR (RgX H R W) (upd H6 D (.dT (pkW (wy++[(itr ss e t).2])))) zs rs:=hz6.imp fun p r⟨x1,x2,x3,us',x4,x5⟩=>⟨x1,x2,x3,us',zdy (u:=.lst []) (fun z=>by rw[z,hD6] at x4;cases x4) x4,x5.ts zc2 t7⟩
   generalize upd H6 D (.dT (pkW (wy++[(itr ss e t).2])))=H7 at*;subst hO;have tW:=zcg (o:=.lst (ys++[V.ref f1])) hW7;refine⟨zd5 hW7,ys,hW7,small1000 (by omega),ss.length-(t+1),by omega,t+1,p,W,ys++[V.ref f1],zs,wy++[(itr ss e t).2],rs,_,_,_,_,rfl,rfl,zb0.put sg7 hWH,zdy (u:=.lst []) (fun z=>by rw[z,hW7] at hg7;cases hg7) hg7,hk7.ts tW,hh6,by omega,zdy (u:=.lst []) nWR.symm hR7,hz7.imp fun p r⟨x1,x2,x3,x4⟩=>⟨x1,x2,x3,x4.put x3 hW7⟩,by omega,hWH,nWR,upd_same,(hy7.snoc hf17).ts zc2 tW,by rw[List.length_append,List.length_singleton];omega,zdy (u:=.lst []) nWD.symm hD7',zed _ _ _ _ tW hs7,wa.push c pw⟩
theorem Lv.sameT{P:Program}{w:World}{H0 H H':Hp}{d gn:Addr}{kvs:List (List Key×V)}{ss:List (Q3×Q3)}{gk:List N3}(h:Lv H0 H d kvs ss)(g:zb0 gn H H')(hg:H gn=some (nD P w gn gk))(h0:H0 gn=none):Lv H0 H' d kvs ss:=by
 refine⟨fun b u e=>g _ _ (fun z=>by rw[z,h0] at e;cases e) (h.same _ _ e),h.new,g _ _ (fun z=>by have:=h.at_;rw[z,hg] at this;cases this) h.at_,h.len,fun p v e=>?_,h.non,h.dis⟩
 obtain⟨a,zs,e1,e2,e3,e4⟩:=h.ent p v e;exact⟨a,zs,e1,e2,g _ _ (fun z=>by rw[z,hg] at e3;cases e3) e3,e4.ts zc2 (ts_sg g hg)⟩
theorem Lv.put{H0 H:Hp}{d R:Addr}{kvs:List (List Key×V)}{ss:List (Q3×Q3)}{zs us:List V}(h:Lv H0 H d kvs ss)(hR:H R=some (.lst zs))(h0:H0 R=none)(nR:∀p,valV kvs (kQ p)≠some (.ref R)):Lv H0 (upd H R (.lst us)) d kvs ss:=by
 refine⟨zat h.same h0,h.new,?_,h.len,fun p v e=>?_,h.non,h.dis⟩
 ·rw[za5 (fun z=>by rw[←z,h.at_] at hR;cases hR)]
  exact h.at_
 ·obtain⟨a,ys,e1,e2,e3,e4⟩:=h.ent p v e;refine⟨a,ys,e1,e2,?_,e4.ts zc2 (zcg hR)⟩;rw[za5 (fun z=>nR p (by rw[e,e1,z]))]
  exact e3
def RgN(R:Addr)(H:Hp)(p:Addr)(r:List Q3):Prop:=p≠R/\RgQ H p r
theorem rgn_put{R:Addr}{H:Hp}{ys us:List V}{rs:List (List Q3)}(h:LR (RgN R) H ys rs)(hR:H R=some (.lst us))(o:HO):LR (RgN R) (upd H R o) ys rs:=h.imp fun p r t=>⟨t.1,t.2.put t.1 hR⟩
theorem RgQ.sameT{P:Program}{w:World}{H H':Hp}{gn p:Addr}{gk:List N3}{r:List Q3}(h:RgQ H p r)(g:zb0 gn H H')(hg:H gn=some (nD P w gn gk)):RgQ H' p r:=by
 obtain⟨zs,h1,h2⟩:=h;exact⟨zs,g _ _ (fun z=>by rw[z,hg] at h1;cases h1) h1,h2.ts zc2 (ts_sg g hg)⟩
theorem zdx.len{q r:List Q3}(h:zdx q r):q.length=r.length:=by
 obtain⟨i,hi,rfl,_⟩:=h;exact zg5 _ _
theorem zdx.mem{q r:List Q3}(h:zdx q r){x:Q3}:x∈q↔x∈r:=by
 obtain⟨i,hi,rfl,_⟩:=h;exact rot_mem
theorem zdx.nodup{q r:List Q3}(h:zdx q r)(nd:r.Nodup):q.Nodup:=by
 obtain⟨i,hi,rfl,_⟩:=h;refine(List.Perm.nodup_iff ?_).mpr nd;unfold rot;refine List.perm_append_comm.trans ?_;rw[List.take_append_drop]
theorem zdx.least{q r:List Q3}(h:zdx q r){x:Q3}(hx:x∈q):bq x (nx q 0)=false:=by
 have hm:=h.mem.mp hx;obtain⟨i,hi,e,l⟩:=h;exact l x hm
theorem sds_perm{r:List Q3}{i:Nat}(hi:i<r.length):(sds (rot r i)).Perm (sds r):=by
 have e:sds (rot r i)=rot (sds r) i:=by
  refine List.ext_getElem? fun j=>?_;have l1:(sds r).length=r.length:=by unfold sds;rw[List.length_map,List.length_range]
  by_cases hj:j<r.length
  ·rw[rot_at (by rw[l1];exact hi) (by rw[l1];exact hj),l1]
   unfold sds;rw[zg5,List.getElem?_map,List.getElem?_map,List.getElem?_range hj,List.getElem?_range (Nat.mod_lt _ (by omega))]
   show some (nx (rot r i) j,nx (rot r i) (j+1))=some (nx r ((i+j)%r.length),nx r ((i+j)%r.length+1))
   rw[zih hi,zih hi,zfi,←zfi r ((i+j)%r.length+1),Nat.mod_add_mod,zfi,Nat.add_assoc]
  ·rw[List.getElem?_eq_none (by unfold sds;rw[List.length_map,List.length_range,zg5];omega),List.getElem?_eq_none (by rw[zg5,l1];omega)]
 rw[e];unfold rot;refine List.perm_append_comm.trans ?_;rw[List.take_append_drop]
theorem zdx.pm{q r:List Q3}(h:zdx q r):(Mine.sds q).Perm (Mine.sds r):=by
 obtain⟨i,hi,rfl,_⟩:=h;exact sds_perm hi
theorem zga(r:List Q3):(sds r).length=r.length:=by unfold sds;rw[List.length_map,List.length_range]
structure Fnd(ss:List (Q3×Q3))(qs:List (List Q3))(gk:List N3)(gl:List (Q3×Q3)):Prop where
 rg:∀q,q∈qs->q.Nodup/\2<=q.length
 pm:(qs.flatMap sds).Perm gl
 nd:gl.Nodup
 sub:∀e,e∈gl->e∈ss
 bk:∀e,e∈ss->suc ss e∈gl->e∈gl
 gone:∀e,hasG gk e↔e∈gl
theorem Fnd.put{ss:List (Q3×Q3)}{qs rs:List (List Q3)}{gk gk':List N3}{gl:List (Q3×Q3)}{e:Q3×Q3}{t:Nat}(F:Fen ss)(he:e∈ss)(h:Fnd ss qs gk gl)(hn:¬hasG gk e)(hg:∀g,hasG gk' g↔hasG gk g∨g∈(List.range (t+1)).map (itr ss e))(d1:∀q,q∈rs->q.Nodup/\2<=q.length)(d2:(rs.flatMap sds).Perm ((List.range (t+1)).map (itr ss e)))(cl:suc ss (itr ss e t)=e)(no:∀j,0<j->j<=t->itr ss e j≠e):Fnd ss (qs++rs) gk' (gl++(List.range (t+1)).map (itr ss e)):=by
 have down:∀i,itr ss e i∈gl->e∈gl:=fun i=>by
  induction i with
  |zero=>exact id
  |succ i ih=>exact fun z=>ih (h.bk _ (F.itr he i) z)
 have ne:¬e∈gl:=fun z=>hn ((h.gone e).mpr z);refine⟨fun q hq=>(List.mem_append.mp hq).elim (h.rg q) (d1 q),?_,?_,fun g hg'=>?_,fun g hgs hg'=>?_,fun g=>?_⟩
 ·rw[List.flatMap_append];exact h.pm.append d2
 ·refine List.nodup_append.mpr ⟨h.nd,F.orb he no,fun a ha b hb z=>?_⟩;obtain⟨i,_,rfl⟩:=List.mem_map.mp hb;rw[z] at ha;exact ne (down i ha)
 ·rcases List.mem_append.mp hg' with z|z
  ·exact h.sub g z
  ·obtain⟨i,_,rfl⟩:=List.mem_map.mp z;exact F.itr he i
 ·rcases List.mem_append.mp hg' with z|z
  ·exact List.mem_append_left _ (h.bk g hgs z)
  ·refine List.mem_append_right _ ?_;obtain⟨i,hi,z⟩:=List.mem_map.mp z;have hi:=List.mem_range.mp hi
   cases i with
   |zero=>
    have z:e=suc ss g:=z;rw[F.inj g (itr ss e t) hgs (F.itr he t) (by rw[←z,cl])]
    exact List.mem_map.mpr ⟨t,List.mem_range.mpr (by omega),rfl⟩
   |succ i=>
    rw[F.inj g (itr ss e i) hgs (F.itr he i) z.symm];exact List.mem_map.mpr ⟨i,List.mem_range.mpr (by omega),rfl⟩
 ·rw[hg,h.gone,List.mem_append]
inductive Run (ss:List (Q3×Q3)):Nat->List (List Q3)->List (Q3×Q3)->Prop where
 |nil:Run ss 0 [] []
 |skip {i qs gl e}:Run ss i qs gl->ss[i]?=some e->e∈gl->Run ss (i+1) qs gl
 |go {i qs gl e t}:Run ss i qs gl->ss[i]?=some e->¬e∈gl->suc ss (itr ss e t)=e->(∀j,0<j->j<=t->itr ss e j≠e)->Run ss (i+1) (qs++((wyF ss e t).2++[(wyF ss e t).1])) (gl++(List.range (t+1)).map (itr ss e))
theorem run_one{ss:List (Q3×Q3)}{e:Q3×Q3}{t t':Nat}(c:suc ss (itr ss e t)=e)(c':suc ss (itr ss e t')=e)(n:∀j,0<j->j<=t->itr ss e j≠e)(n':∀j,0<j->j<=t'->itr ss e j≠e):t=t':=by
 rcases Nat.lt_trichotomy t t' with z|z|z
 ·exact absurd c (n' (t+1) (by omega) (by omega))
 ·exact z
 ·exact absurd c' (n (t'+1) (by omega) (by omega))
theorem Run.det{ss:List (Q3×Q3)}{i:Nat}{qs qs':List (List Q3)}{gl gl':List (Q3×Q3)}(h:Run ss i qs gl)(h':Run ss i qs' gl'):qs=qs'/\gl=gl':=by
 induction h generalizing qs' gl' with
 |nil=>cases h';exact⟨rfl,rfl⟩
 |skip r e1 m ih=>
  cases h' with
  |skip r' e2 m'=>exact ih r'
  |go r' e2 m' _ _=>
   obtain⟨_,rfl⟩:=ih r';rw[e1] at e2
   cases e2;exact absurd m m'
 |go r e1 m c n ih=>
  cases h' with
  |skip r' e2 m'=>
   obtain⟨_,rfl⟩:=ih r';rw[e1] at e2
   cases e2;exact absurd m' m
  |go r' e2 m' c' n'=>
   obtain⟨rfl,rfl⟩:=ih r';rw[e1] at e2
   cases e2;rw[run_one c c' n n'];exact⟨rfl,rfl⟩
theorem zk1{α:Type}[DecidableEq α]:∀{a b:List α},a.Nodup->b.Nodup->(∀x,x∈a↔x∈b)->a.Perm b:=fun{a b} ha hb h=>(List.perm_ext_iff_of_nodup ha hb).mpr h
structure Told(ss:List (Q3×Q3))(g:Int)(os:List (List Q3)):Prop where
 pq:∀r,r∈os->∀p,p∈r->PQ 700 p/\p.w<=g
 ord:OrdR g os
 rg:∀q,q∈os->q.Nodup/\3<=q.length
 least:∀q,q∈os->∀x,x∈q->bq x (nx q 0)=false
 pm:(os.flatMap sds).Perm ss
 run:∃qs gl cs,Run ss ss.length qs gl/\(∀q,q∈qs->q.Nodup)/\cs.length=qs.length/\(∀(j:Nat) c q,cs[j]?=some c->qs[j]?=some q->zdx c q)/\os.Perm cs
theorem lt2_bq{g:Int}{a b:Q3}(ha:PQ 700 a)(hb:PQ 700 b)(ga:a.w<=g)(gb:b.w<=g)(h:lt2 (kyQ g a) (kyQ g b)=true):bq a b=true:=by
 cases h1:bq a b with
 |true=>rfl
 |false=>
  exfalso
  cases h2:bq b a with
  |true=>
   have:=sto2.tr _ _ _ h (ky_lt hb.pos ha.pos gb ga h2);rw[sto2.irr] at this
   cases this
  |false=>
   rw[zpd ha hb h1 h2,sto2.irr] at h
   cases h
theorem ltL_ky{g g':Int}:∀{a b:List Q3},(∀p,p∈a->PQ 700 p/\p.w<=g/\p.w<=g')->(∀p,p∈b->PQ 700 p/\p.w<=g/\p.w<=g')->ltL (a.map (kyQ g)) (b.map (kyQ g))=true->ltL (a.map (kyQ g')) (b.map (kyQ g'))=true
 |[],[],_,_,h=>h
 |[],_::_,_,_,_=>rfl
 |_::_,[],_,_,h=>h
 |x::xs,y::ys,ha,hb,h=>by
  obtain⟨x1,x2,x3⟩:=ha x (by simp)
  obtain⟨y1,y2,y3⟩:=hb y (by simp)
  rw[List.map_cons,List.map_cons,zdp] at h⊢
  by_cases e:x=y
  ·subst e;rw[if_pos rfl] at h⊢;exact ltL_ky (fun p hp=>ha p (List.mem_cons_of_mem _ hp)) (fun p hp=>hb p (List.mem_cons_of_mem _ hp)) h
  ·rw[if_neg (fun z=>e (zeu x1 y1 x2 y2 z))] at h;rw[if_neg (fun z=>e (zeu x1 y1 x3 y3 z))];exact ky_lt x1.pos y1.pos x3 y3 (lt2_bq x1 y1 x2 y2 h)
theorem zfw{α:Type}{r:α->α->Prop}(as:∀a b,r a b->¬r b a):∀{a b:List α},a.Pairwise r->b.Pairwise r->a.Perm b->a=b
 |[],b,_,_,p=>p.nil_eq
 |x::a,[],_,_,p=>by cases p.length_eq
 |x::a,y::b,ha,hb,p=>by
  have ha':=List.pairwise_cons.mp ha;have hb':=List.pairwise_cons.mp hb;have e:x=y:=by
   rcases List.mem_cons.mp (p.mem_iff.mp (List.mem_cons_self ..)) with z|z
   ·exact z
   ·rcases List.mem_cons.mp (p.mem_iff.mpr (List.mem_cons_self (a:=y) (l:=b))) with z'|z'
    ·exact z'.symm
    ·exact absurd (hb'.1 x z) (as _ _ (ha'.1 y z'))
  subst e;rw[zfw as ha'.2 hb'.2 (List.perm_cons _|>.mp p)]
theorem Told.det{ss:List (Q3×Q3)}{g g':Int}{os os':List (List Q3)}(h:Told ss g os)(h':Told ss g' os'):os=os':=by
 obtain⟨qs,gl,cs,r,nd,lc,can,pm⟩:=h.run;obtain⟨qs',gl',cs',r',nd',lc',can',pm'⟩:=h'.run;obtain⟨rfl,_⟩:=r.det r';have ec:cs=cs':=by
  refine List.ext_getElem? fun j=>?_
  by_cases hj:j<qs.length
  ·have z1:=List.getElem?_eq_getElem (l:=cs) (i:=j) (by omega)
   have z2:=List.getElem?_eq_getElem (l:=cs') (i:=j) (by omega)
   have z3:=List.getElem?_eq_getElem (l:=qs) (i:=j) hj;rw[z1,z2];have c1:=can j _ _ z1 z3;refine congrArg some (c1.uniq (n:=700) (nd _ (List.getElem_mem _)) (fun x hx=>?_) (can' j _ _ z2 z3));exact(h.pq _ (pm.mem_iff.mpr (List.getElem_mem (by omega:j<cs.length))) x (c1.mem.mpr hx)).1
  ·rw[List.getElem?_eq_none (by omega),List.getElem?_eq_none (by omega)]
 subst ec;have pp:=pm.trans pm'.symm;refine zfw (r:=fun(a b:List Q3)=>ltL (a.map (kyQ g)) (b.map (kyQ g))=true) (fun a b h1 h2=>?_) h.ord ?_ pp
 ·have:=stoL.tr _ _ _ h1 h2;rw[stoL.irr] at this
  cases this
 ·exact h'.ord.imp_of_mem fun{a b} ha hb z=>ltL_ky (fun p hp=>⟨(h'.pq a ha p hp).1,(h'.pq a ha p hp).2,(h.pq a (pp.mem_iff.mpr ha) p hp).2⟩) (fun p hp=>⟨(h'.pq b hb p hp).1,(h'.pq b hb p hp).2,(h.pq b (pp.mem_iff.mpr hb) p hp).2⟩) z
theorem zfs{α β:Type}{f:α->List β}{l:List α}{a:α}(h:a∈l){b:β}(hb:b∈f a):b∈l.flatMap f:=List.mem_flatMap.mpr ⟨a,h,hb⟩
theorem zg4{os:List (List Q3)}(h:∀q,q∈os->3<=q.length):3*os.length<=(os.flatMap sds).length:=by
 induction os with
 |nil=>exact Nat.le_refl _
 |cons q os ih=>
  rw[List.flatMap_cons,List.length_append,List.length_cons,zga];have:=h q (by simp)
  have:=ih fun q hq=>h q (List.mem_cons_of_mem _ hq);omega
theorem flat_len3'{os:List (List Q3)}(h:∀q,q∈os->2<=q.length):2*os.length<=(os.flatMap sds).length:=by
 induction os with
 |nil=>exact Nat.le_refl _
 |cons q os ih=>
  rw[List.flatMap_cons,List.length_append,List.length_cons,zga];have:=h q (by simp)
  have:=ih fun q hq=>h q (List.mem_cons_of_mem _ hq);omega
theorem zft{os:List (List Q3)}{q:List Q3}(h:q∈os):q.length<=(os.flatMap sds).length:=by
 induction os with
 |nil=>cases h
 |cons r os ih=>
  rw[List.flatMap_cons,List.length_append,zga];rcases List.mem_cons.mp h with z|z
  ·rw[z];omega
  ·have:=ih z;omega
theorem Fen.three{ss:List (Q3×Q3)}(F:Fen ss){q:List Q3}(h2:2<=q.length)(h:∀e,e∈sds q->e∈ss):3<=q.length:=by
 rcases Nat.lt_or_ge 2 q.length with z|z
 ·exact z
 ·exfalso
  have l:q.length=2:=by omega
  have a:=h _ (zfe (r:=q) (by omega) 0)
  have b:=h _ (zfe (r:=q) (by omega) 1)
  have e:nx q (1+1)=nx q 0:=by
   have:=nx_len q 0;rw[l] at this;exact this
  rw[e] at b;exact F.rv _ a b
theorem zmw{cs:List (List Q3)}(h:∀q,q∈cs->2<=q.length)(nd:(cs.flatMap sds).Nodup):cs.Nodup:=by
 induction cs with
 |nil=>exact List.nodup_nil
 |cons q cs ih=>
  rw[List.flatMap_cons,List.nodup_append] at nd;refine List.nodup_cons.mpr ⟨fun z=>?_,ih (fun q hq=>h q (List.mem_cons_of_mem _ hq)) nd.2.1⟩;have s0:=zfe (r:=q) (by have:=h q (by simp);omega) 0
  exact nd.2.2 _ s0 _ (zfs z s0) rfl
theorem zj2:∀{cs qs:List (List Q3)},cs.length=qs.length->(∀(j:Nat) c q,cs[j]?=some c->qs[j]?=some q->zdx c q)->(cs.flatMap sds).Perm (qs.flatMap sds)
 |[],[],_,_=>.refl _
 |[],_::_,l,_=>by cases l
 |_::_,[],l,_=>by cases l
 |c::cs,q::qs,l,h=>by
  rw[List.flatMap_cons,List.flatMap_cons];exact(h 0 c q rfl rfl).pm.append (zj2 (Nat.succ.inj l) fun j c q h1 h2=>h (j+1) c q h1 h2)
def sp_rings(P:Program)(w:World)(tb:Addr)(lp:Pos)(ql:Str):Sp:=fun vs H Q _=>∃(l:Addr)(ys:List V)(ss:List (Q3×Q3)),vs=[.ref l]/\H l=some (.lst ys)/\ys.length<=150/\LR S2H H ys ss/\Fen ss/\zbq H tb lp ql/\
 ∀D zs os g H',H D=none->zb0 tb H H'->zbq H' tb lp ql->H' D=some (.lst zs)->LR (fun H1 p r=>H p=none/\p≠D/\RgQ H1 p r) H' zs os->Told ss g os->Q (.ref D) H'
def RingI(P:Program)(w:World)(H:Hp)(l lv gn R:Addr)(kvs:List (List Key×V))(ss:List (Q3×Q3))(i:Nat)(σ:St)(H':Hp):Prop:=∃(zs:List V)(gk:List N3)(qs:List (List Q3))(gl:List (Q3×Q3))(o:Option V),σ=[some (V.ref l),some (V.ref lv),some (V.ref gn),some (V.ref R),o]/\Lv H H' lv kvs ss/\H' gn=some (nD P w gn gk)/\GnK H' gk/\gk.length<=gl.length/\H' R=some (.lst zs)/\LR (RgN R) H' zs qs/\Fnd ss qs gk gl/\Run ss i qs gl/\∀e,e∈ss.take i->hasG gk e
theorem zep(T:Txt K mg ad fd)(hK:K.In base)(hB:base.BuiltinsAt mg (ad 29)):FnOk P w K mg base CX0 7 (ad 7) (fd 7) ["land"] (sp_rings P w (ad 29) lposP qlP):=by
 refine T.rings_of.fn.ok zcz (fun vs H Q E h=>?_) (fun cdv A outer s H vs Q E hr h=>?_)
 ·obtain⟨l,ys,ss,rfl,_⟩:=h;rfl
 obtain⟨l,ys,ss,rfl,hl,hn,hs,Fe,lt,k⟩:=h;have zQ:=@pss5;have zd:=@zbu;have zj:=@zbv;have zg:=@pa1;have qpv:=@pv;have yc:=@zkc;have zt:=@zdr;have zw:=@zcl;have zq:=@zd8;have zp:=@zc1;have zm:=@zbw;have zf:=@zaf;have zn:=@zen;have zM:=@zi6;have yd:=@zgf;have zv:=@zdb;have zA:=@zhk;have zr:=@pa3;have zo:=@zc0;have ze:=@zb3;have zI:=@zg8;unfold L2.CompBody at zI;have zF:=@zel;generalize @L2.PE=QE,@L2.PT=QT,@L2.PW=QW,@L2.PA=QA,@L2.PS=QS,@L2.PSs=QSs,@L2.PG=QG,@L2.PGs=QGs,@L2.PI=QI,@L2.PO=QO,@L2.PIf=QIf,@L2.PC=QC,@L2.PK=QK at zQ zd zj zg qpv yc zt zw zq zp zm zf zn zM yd zv zA zr zo ze zI zF⊢;refine⟨_,
  (zQ
   (zd (i:=1) zcz.nd rfl (Or.inl rfl) (zj (zhf T) (hr.mono (by decide)) rfl T.leaving_of.mg T.leaving_of.fn.kp T.leaving_of.bn .nil pass0 (zg (qpv 0) za2)))
   (zd (i:=2) zcz.nd rfl (Or.inl rfl) (yc (P:=P) (w:=w) rfl rfl))
   (zd (i:=3) zcz.nd rfl (Or.inl rfl) (zt zw))
   (zq PassesOwn.never rfl (zp (qpv 0)) (zm (i:=4) zcz.nd rfl (Or.inl rfl)) (zf (zn (zM (yd (P:=P) (w:=w) rfl rfl (hu64 hr) (qpv 4) (qpv 2))) (zf (zv (zA PySem.F.plainAttrs_list PySem.F.slot_list_extend PySem.F.type_list_extend ziy (qpv 3) (zg (zj (zis T) (hr.mono (by decide)) rfl T.way_round.mg T.way_round.fn.kp T.way_round.bn .nil pass0 (zr (qpv 4) za2 (qpv 1) za2 (qpv 2) za2)) zck)))) zo)))
   (ze (zj (zj6 T hK hB) (hr.mono (by decide)) rfl T.by_points.mg T.by_points.fn.kp T.by_points.bn .nil pass0 (zg (zI (dsc:=za0 zbh) (N:=["land","leaving","gone","rings","fence"]) (own:=["ring"]) (ix:=[]) rfl rfl rfl ⟨rfl,by decide+kernel,by decide+kernel,by decide+kernel,by decide+kernel⟩ (zp (qpv 3)) (fun cl C fp s2 H2 xe=>⟨(zm (i:=0) (show List.Nodup (["ring"]:List Str) from by decide+kernel) rfl (Or.inl rfl)),zF,(zj (zhw T) (hr.mono (by decide)) rfl T.from_least.mg T.from_least.fn.kp T.from_least.bn .nil pass0 (zg (qpv 0) za2))⟩)) zg2))))
  ,?_⟩
 clear zQ zd zj zg qpv yc zt zw zq zp zm zf zn zM yd zv zA zr zo ze zI zF QE QT QW QA QS QSs QG QGs QI QO QIf QC QK
 dsimp! [L2.start]
 simp! [tNNew];have lss:=hs.1;refine⟨l,ys,ss,rfl,hl,by omega,hs,fun lv kvs H1 hlv lv1=>?_⟩
 intro gn hgn;have gG:=za1 hgn (nD P w gn []);have hg2:upd H1 gn (nD P w gn []) gn=some (nD P w gn []):=upd_same;have lv2:=lv1.mono gG;generalize upd H1 gn (nD P w gn [])=H2 at*;intro R hR;have gR:=za1 hR (HO.lst []);have hR3:upd H2 R (HO.lst []) R=some (.lst []):=upd_same;have nR:∀p,valV kvs (kQ p)≠some (.ref R):=fun p z=>by
  obtain⟨a,zs,e1,_,e3,_⟩:=lv2.ent _ _ z
  cases e1;rw[hR] at e3
  cases e3
 have lv3:=lv2.mono gR;have hgnH:H gn=none:=lv1.same.free hgn;have hRH:H R=none:=lv2.same.free hR;have hg3:=gR _ _ hg2;generalize upd H2 R (HO.lst [])=H3 at*;refine zbk ?_;simp! [zcx];refine⟨⟨_,.of (lv3.same _ _ hl)⟩,?_⟩;refine zaz (K:=K) (a:=l) (xs:=ys) (RingI P w H l lv gn R kvs ss)
  ⟨[],[],[],[],none,rfl,lv3,hg3,fun p hp=>(by cases hp),Nat.le_refl _,hR3,.nil,⟨fun q hq=>(by cases hq),.refl _,List.nodup_nil,fun e he=>(by cases he),fun e _ he=>(by cases he),fun e=>⟨fun z=>(by cases z),fun z=>(by cases z)⟩⟩,.nil,fun e he=>(by rw[List.take_zero] at he;cases he)⟩ (fun i σ H' _ iv=>.of (by obtain⟨_,_,_,_,_,_,lv',_⟩:=iv;exact lv'.same _ _ hl)) ?_ ?_
 ·intro _ _;rintro i v σ H4 hi ⟨zs,gk,qs,gl,o,rfl,lv4,hg4,hk4,lg,hR4,hq4,fd4,rn4,al⟩;obtain⟨p,e,rfl,he',hp⟩:=hs.2 i v hi;have hi':=(List.getElem?_eq_some_iff.mp hi).1;have hp4:=zed _ _ _ _ (za9 lv4.same) hp;have gkm:gn≠R:=fun z=>by rw[z,hR4] at hg4;cases hg4
  have hes:=List.mem_of_getElem? he';simp! [zi0];refine⟨gk,.inl hg4,hk4.kn,kE e,hp4.nk,ite2 (fun c=>?_) (fun c=>?_)⟩
  ·have hn':¬hasG gk e:=fun z=>by unfold hasG at z;rw[z] at c;cases c
   have gll:gl.length<=ss.length:=zf0 _ _ fd4.nd fd4.sub;have gkl:gk.length<=10000:=by omega
   refine⟨zd5 hR4,H,p,lv,gn,kvs,gk,ss,e,rfl,hp4,lv4,by omega,hg4,hk4,gkl,Fe,hes,fun R' us rs t H5 gk' sg5 hg5 hk5 hh lg5 tl hR' hR5 hu5 lu d1 d2 cl no fn=>?_⟩
   have lv5:=lv4.sameT sg5 hg4 hgnH;have hRR:H5 R=some (.lst zs):=sg5 _ _ gkm.symm hR4;have hq5:LR (RgN R) H5 zs qs:=hq4.imp fun p r t=>⟨t.1,t.2.sameT sg5 hg4⟩;have u5:LR (RgN R) H5 us rs:=hu5.imp fun p r⟨x1,_,_,x4⟩=>⟨(fun z=>by rw[z,hR4] at x1;cases x1),x4⟩
   have fd5:=fd4.put Fe hes hn' hh d1 d2 cl no;have lzs:zs.length<=150:=by
    rw[hq4.1];have a:=flat_len3' (os:=qs) fun q hq=>(fd4.rg q hq).2;rw[fd4.pm.length_eq] at a;omega
   simp! [zkt,hR5];refine⟨zs,hRR,Nat.le_of_lt (small1000 (by omega)),?_⟩
   have hg5:H5 gn=some (nD P w gn gk'):=hg5;refine⟨zs++us,gk',qs++rs,_,_,rfl,lv5.put hRR hRH nR,zdy (u:=.lst []) gkm hg5,hk5.ts (zcg hRR),?_,upd_same,?_,fd5,by rw[fn];exact .go rn4 he' (fun z=>hn' ((fd4.gone e).mpr z)) cl no,fun f hf=>?_⟩
   ·rw[List.length_append,List.length_map,List.length_range];omega
   ·exact rgn_put (hq5.app u5) hRR _
   ·rw[List.take_add_one,he'] at hf;rw[hh];rcases List.mem_append.mp hf with hf|hf
    ·exact .inl (al f hf)
    ·have:f=e:=by simpa using hf
     rw[this];exact .inr (List.mem_map.mpr ⟨0,List.mem_range.mpr (by omega),rfl⟩)
  ·have hy:hasG gk e:=by
    unfold hasG
    cases z:(valN gk (kE e)).isSome with
    |true=>rfl
    |false=>exact absurd (by rw[z];rfl) c
   refine⟨zs,gk,qs,gl,_,rfl,lv4,hg4,hk4,lg,hR4,hq4,fd4,.skip rn4 he' ((fd4.gone e).mp hy),fun f hf=>?_⟩;rw[List.take_add_one,he'] at hf;rcases List.mem_append.mp hf with hf|hf
   ·exact al f hf
   ·have:f=e:=by simpa using hf
    rw[this];exact hy
 ·rintro σ H4 ⟨zs,gk,qs,gl,o,rfl,lv4,hg4,hk4,lg,hR4,hq4,fd4,rn4,al⟩;rw[List.take_of_length_le (Nat.le_of_eq hs.1.symm)] at al;have gp:gl.Perm ss:=zk1 fd4.nd Fe.nd fun x=>⟨fd4.sub x,fun hx=>(fd4.gone x).mp (al x hx)⟩;have pms:=fd4.pm.trans gp;have three:∀q,q∈qs->3<=q.length:=fun q hq=>Fe.three (fd4.rg q hq).2 fun e he=>pms.mem_iff.mp (zfs hq he);have lq3:=zg4 three;rw[pms.length_eq] at lq3;simp! [];refine zd2 ?_;simp! [zcx];refine⟨⟨_,.of hR4⟩,fun D hD=>?_⟩;refine zcs (xs:=zs) (fun i us H'=>Same H4 H'/\H' D=some (.lst us)/\us.length=i/\∃cs,LR (fun H1 p r=>H p=none/\RgN D H1 p r) H' us cs/\∀(j:Nat) c q,cs[j]?=some c->qs[j]?=some q->zdx c q) ⟨za1 hD _,upd_same,rfl,[],.nil,fun j c q z=>(by cases z)⟩ (fun i us H' iv=>.of (iv.1 _ _ hR4)) ?_ ?_
  ·rintro i us H5 v hi hv ⟨g5,hD5,lu,cs,hcs,can⟩;obtain⟨p,q,rfl,hq',_,ws,hw,hws⟩:=hq4.2 i v hv;have hqm:=List.mem_of_getElem? hq';have r3:=three q hqm;have r10:=zft hqm;rw[pms.length_eq] at r10;simp! [];refine⟨p,ws,q,rfl,g5 _ _ hw,hws.same g5,by omega,by omega,fun E1 es c H6 hE g6 hE6 he6 ic=>?_⟩
   have hD6:=g6 _ _ hD5;have nE:E1≠D:=fun z=>by rw[z,hD5] at hE;cases hE
   refine cw_put hi hD6 (small1000 (by have:=hq4.1;omega)) ⟨zat (g5.trans g6) hD,upd_same,by rw[List.length_append,lu];rfl,cs++[c],?_,fun j c' q' h1 h2=>?_⟩
   ·exact((hcs.imp (R':=fun H1 p r=>H p=none/\RgN D H1 p r) fun p r t=>⟨t.1,t.2.1,t.2.2.same g6⟩).snoc (R:=fun H1 p r=>H p=none/\RgN D H1 p r) ⟨(lv4.same.trans g5).free hE,nE,es,hE6,he6⟩).imp fun p r t=>⟨t.1,t.2.1,t.2.2.put t.2.1 hD6⟩
   ·have lc:cs.length=i:=by rw[←hcs.1,lu]
    by_cases e:j<cs.length
    ·rw[List.getElem?_append_left e] at h1;exact can j c' q' h1 h2
    ·rw[List.getElem?_append_right (by omega)] at h1
     have ej:j=i:=by
      have:=(List.getElem?_eq_some_iff.mp h1).1;simp only[List.length_cons,List.length_nil] at this;omega
     subst ej;rw[lc,Nat.sub_self] at h1
     cases h1;rw[hq'] at h2
     cases h2;exact ic
  ·rintro us H5 ⟨g5,hD5,lu,cs,hcs,can⟩;have lcs:cs.length=qs.length:=by rw[←hcs.1,lu,hq4.1]
   have at_:∀c,c∈cs->∃q,q∈qs/\zdx c q:=fun c hc=>by
    obtain⟨j,hj⟩:=List.mem_iff_getElem?.mp hc;have hj':j<qs.length:=by rw[←lcs];exact(List.getElem?_eq_some_iff.mp hj).1
    exact⟨qs[j],List.getElem_mem _,can j c _ hj (List.getElem?_eq_getElem hj')⟩
   have cpm:=(zj2 lcs can).trans pms;have c3:∀c,c∈cs->3<=c.length:=fun c hc=>by
    obtain⟨q,hq,ic⟩:=at_ c hc;rw[ic.len];exact three q hq
   have nd:cs.Nodup:=zmw (fun c hc=>Nat.le_of_succ_le (c3 c hc)) (cpm.nodup_iff.mpr Fe.nd);have g05:=lv4.same.trans g5;refine⟨D,us,cs,fun p=>H p=none/\H5 p≠none,rfl,hD5,by have:=hcs.1;omega,hcs.imp (fun p r t=>⟨⟨t.1,fun z=>by obtain⟨u,h1,_⟩:=t.2.2;rw[z] at h1;cases h1⟩,t.2.2⟩),fun c hc=>by have:=zft hc;rw[cpm.length_eq] at this;omega,nd,lt.same g05,fun F zs6 os g H6 hF st6 lt6 hF6 ho pm gw od=>?_⟩
   refine k F zs6 os g H6 (g05.free hF) (zb0.trans (zb0.of g05) st6) lt6 hF6 (ho.imp fun p r t=>⟨t.1.1,fun z=>t.1.2 (by rw[z];exact hF),t.2⟩) ⟨fun r hr=>gw r (pm.mem_iff.mp hr),od,fun q hq=>?_,fun q hq x hx=>?_,?_,qs,gl,cs,by rw[hs.1] at rn4;exact rn4,fun q hq=>(fd4.rg q hq).1,lcs,can,pm⟩
   ·have hq:=pm.mem_iff.mp hq;obtain⟨r,hr,ic⟩:=at_ q hq;exact⟨ic.nodup (fd4.rg r hr).1,c3 q hq⟩
   ·have hq:=pm.mem_iff.mp hq;obtain⟨r,hr,ic⟩:=at_ q hq;exact ic.least hx
   ·exact(pm.flatMap_right sds).trans cpm
def C3H(H:Hp)(p:Addr)(c:Int×Int×Int):Prop:=H p=some (.tup [.int c.1,.int c.2.1,.int c.2.2])/\0<=c.1/\c.1<=3/\0<=c.2.1/\c.2.1<=2/\0<=c.2.2/\c.2.2<=3
theorem c3_ts:∀(H H':Hp)(p:Addr)(c:Int×Int×Int),zad H H'->C3H H p c->C3H H' p c:=fun _ _ _ _ g h=>⟨g _ _ h.1,h.2⟩
def zph(K:PySem.W.Frag):Sp:=fun vs H Q _=>∃(a:Addr)(ns:List Int)(w h:Int),vs=[.ref a,.int w,.int h]/\SqL K H a (ns.map V.int)/\1<=w/\w<=4/\1<=h/\h<=3/\∀D zs cs H',H D=none->Same H H'->H' D=some (.lst zs)->zs.length<=48->LR C3H H' zs cs->Q (.ref D) H'
theorem zj7(T:Txt K mg ad fd):FnOk P w K mg base CX0 2 (ad 16) (fd 16) ["_law_script","_law_wide","_law_high"] (zph K):=by
 refine T.law_cells.fn.ok ze2 (fun vs H Q E h=>?_) (fun cdv A outer s H vs Q E hr h=>?_)
 ·obtain⟨a,ns,w,h,rfl,_⟩:=h;rfl
 obtain⟨a,ns,wd,hg,rfl,hS,w1,w4,h1,h3,k⟩:=h;have zC:=@pss3;have zd:=@zbu;have zt:=@zdr;have zw:=@zcl;have zq:=@zd8;have zR:=@zf2;have zg:=@pa1;have zb:=@zdv;have za:=@zbt;have qpv:=@pv;have zm:=@zbw;have zf:=@zaf;have zn:=@zen;have zu:=@zd1;have zj:=@zbv;have zh:=@pa2;have zv:=@zdb;have zA:=@zhk;have zk:=@zcv;have zr:=@pa3;have zo:=@zc0;have ze:=@zb3;generalize @L2.PE=QE,@L2.PT=QT,@L2.PW=QW,@L2.PA=QA,@L2.PS=QS,@L2.PSs=QSs,@L2.PG=QG,@L2.PGs=QGs,@L2.PI=QI,@L2.PO=QO,@L2.PIf=QIf at zC zd zt zw zq zR zg zb za qpv zm zf zn zu zj zh zv zA zk zr zo ze⊢;refine⟨_,
  (zC
   (zd (i:=3) ze2.nd rfl (Or.inl rfl) (zt zw))
   (zq PassesOwn.never rfl (zR rfl T.b_range (zg (zb zas (zb zdf za (qpv 1)) (qpv 2)) zac)) (zm (i:=4) ze2.nd rfl (Or.inl rfl)) (zf (zn (zu op_gt (zb zcm (zj (zbm T) (hr.mono (by decide)) rfl T.law_cell.mg T.law_cell.fn.kp T.law_cell.bn .nil pass0 (zh (qpv 0) za2 (zb zb7 za (qpv 4)) zac)) za) za (nomark _)) (zf (zv (zA PySem.F.plainAttrs_list PySem.F.slot_list_append PySem.F.type_list_append zbo (qpv 3) (zg (zk (zr (zb zhs (zb zej (qpv 4) za) (qpv 1)) zac (zb zdn (zb zej (qpv 4) za) (qpv 1)) zac (zb zcm (qpv 4) za) zac)) zai)))) zo)))
   (ze (qpv 3)))
  ,?_⟩
 clear zC zd zt zw zq zR zg zb za qpv zm zf zn zu zj zh zv zA zk zr zo ze QE QT QW QA QS QSs QG QGs QI QO QIf
 dsimp! [L2.start]
 simp! [];intro D hD;have gD:=za1 hD (HO.lst []);refine zbk ?_;simp! [zp0];have e8:(2:Nat)^8=256:=rfl;have ub:4*wd*hg<=48:=by
  have:4*wd*hg<=16*3:=Int.mul_le_mul (by omega) h3 (by omega) (by omega)
  omega
 have lb:0<=4*wd*hg:=Int.mul_nonneg (by omega) (by omega)
 refine⟨.inl ⟨by decide,by decide⟩,cbig (m:=8) (n:=8) (by omega) (by omega),by omega,by omega,ze6 (fun i σ H'=>Same H H'/\∃(zs:List V)(cs:List (Int×Int×Int))(o:Option V),σ=[some (V.ref a),some (V.int wd),some (V.int hg),some (V.ref D),o]/\H' D=some (.lst zs)/\zs.length<=i/\LR C3H H' zs cs) ⟨gD,[],[],none,rfl,upd_same,Nat.le_refl _,.nil⟩ ?_ ?_⟩
 ·intro _ _;rintro i σ H2 hi ⟨g2,zs,cs,o,rfl,hD2,hn,hz⟩;have hi48:(i:Int)<4*wd*hg:=by omega
  simp! [Int.zero_add];refine⟨a,ns,_,rfl,g2.seq hS,by omega,by omega,fun v=>⟨_,rfl,by decide,ite2 (fun _=>?_) (fun _=>?_)⟩⟩
  ·have wn:wd≠0:=by omega
   refine⟨zd5 hD2,⟨by decide,by decide⟩,wn,⟨by decide,by decide⟩,cdivb wn (n:=8) (by omega),by decide,fun p hp=>?_⟩
   rw[Int.fmod_eq_emod_of_nonneg _ (by omega),Int.fdiv_eq_ediv_of_nonneg _ (by omega)]
   have j0:0<=(i:Int)/4:=by omega
   have j1:(i:Int)/4<wd*hg:=by
    have:4*wd*hg=4*(wd*hg):=by rw[Int.mul_assoc]
    omega
   have q0:0<=(i:Int)%4/\(i:Int)%4<=3:=by omega
   generalize (i:Int)/4=j at*;generalize (i:Int)%4=qq at*;have m0:=Int.emod_nonneg j wn;have m1:=Int.emod_lt_of_pos j (show 0<wd by omega)
   have d0:0<=j/wd:=Int.ediv_nonneg j0 (by omega)
   have d1:j/wd<hg:=Int.ediv_lt_of_lt_mul (by omega) (by rw[Int.mul_comm];exact j1)
   generalize j%wd=cx at*;generalize j/wd=cy at*;have g3:=za1 hp (HO.tup [V.int cx,V.int cy,V.int qq]);have h3':upd H2 p (HO.tup [V.int cx,V.int cy,V.int qq]) p=some (HO.tup [V.int cx,V.int cy,V.int qq]):=upd_same;generalize upd H2 p (HO.tup [V.int cx,V.int cy,V.int qq])=H3 at*;have hD3:=g3 _ _ hD2;exact⟨zs,hD3,small1000 (by omega),zat (g2.trans g3) hD,by rw[List.length_append,List.length_singleton];omega,_,((hz.ts c3_ts (za9 g3)).snoc (a:=(cx,cy,qq)) ⟨h3',by show 0<=cx;omega,by show cx<=3;omega,by show 0<=cy;omega,by show cy<=2;omega,by show 0<=qq;omega,by show qq<=3;omega⟩).ts c3_ts (zcg hD3)⟩
  ·exact⟨g2,zs,hD2,by omega,cs,hz⟩
 ·rintro σ H2 ⟨g2,zs,cs,o,rfl,hD2,hn,hz⟩;simp! [];exact k D zs cs H2 hD g2 hD2 (by omega) hz
def sp_ends3:Sp:=fun vs H Q _=>∃(p:Addr)(c:Int×Int×Int),vs=[.ref p]/\C3H H p c/\∀D e0 e1 e2 a0 a1 a2 k0 k1 k2 H',H D=none->Same H H'->H' D=some (.lst [.ref e0,.ref e1,.ref e2])->P2H H' e0 a0->P2H H' e1 a1->P2H H' e2 a2->Bx a0->Bx a1->Bx a2->triK c=[(a0,k0),(a1,k1),(a2,k2)]->stp a0 k0=a1->stp a1 k1=a2->stp a2 k2=a0->Q (.ref D) H'
theorem zk2(T:Txt K mg ad fd):FnOk P w K mg base CX0 1 (ad 17) (fd 17) ["_law_cell_here"] sp_ends3:=by
 refine T.law_ends.fn.ok zdm (fun vs H Q E h=>?_) (fun cdv A outer s H vs Q E hr h=>?_)
 ·obtain⟨p,c,rfl,_⟩:=h;rfl
 obtain⟨p,⟨cx,cy,qq⟩,rfl,⟨hp,x0,x1,y0,y1,q0,q1⟩,k⟩:=h;dsimp only at hp x0 x1 y0 y1 q0 q1;have zD:=@pss4;have zd:=@zbu;have zb:=@zdv;have za:=@zbt;have zc:=@ze3;have qpv:=@pv;have zt:=@zdr;have yA:=@pa5;have zk:=@zcv;have zh:=@pa2;have ze:=@zb3;have zr:=@pa3;generalize @L2.PE=QE,@L2.PT=QT,@L2.PW=QW,@L2.PA=QA,@L2.PS=QS,@L2.PSs=QSs,@L2.PG=QG,@L2.PGs=QGs,@L2.PI=QI,@L2.PO=QO,@L2.PIf=QIf at zD zd zb za zc qpv zt yA zk zh ze zr⊢;refine⟨_,
  (zD
   (zd (i:=1) zdm.nd rfl (Or.inl rfl) (zb zdf za (zc za6 (qpv 0) za (fun _ _=>rfl))))
   (zd (i:=2) zdm.nd rfl (Or.inl rfl) (zb zdf za (zc za6 (qpv 0) za (fun _ _=>rfl))))
   (zd (i:=3) zdm.nd rfl (Or.inl rfl) (zt (yA (zk (zh (qpv 1) za2 (qpv 2) za2)) zai (zk (zh (zb zb7 (qpv 1) za) zac (qpv 2) za2)) zai (zk (zh (zb zb7 (qpv 1) za) zac (zb zb7 (qpv 2) za) zac)) zai (zk (zh (qpv 1) za2 (zb zb7 (qpv 2) za) zac)) zai (zk (zh (qpv 1) za2 (qpv 2) za2)) zai)))
   (ze (zt (zr (zc zak (qpv 3) (zc za6 (qpv 0) za (fun _ _=>rfl)) (fun _ _=>rfl)) za8 (zc zak (qpv 3) (zb zb7 (zc za6 (qpv 0) za (fun _ _=>rfl)) za) (fun _ _=>rfl)) za8 (zk (zh (zb zb7 (qpv 1) za) zac (zb zb7 (qpv 2) za) zac)) zai))))
  ,?_⟩
 clear zD zd zb za zc qpv zt yA zk zh ze zr QE QT QW QA QS QSs QG QGs QI QO QIf
 dsimp! [L2.start]
 simp! [hp];refine⟨.inl ⟨by decide,by decide⟩,.inl ⟨by decide,by decide⟩,?_⟩
 intro p1 n1;have g1:=za1 n1 (HO.tup [V.int (2*cx),V.int (2*cy)]);have h1:upd H p1 (HO.tup [V.int (2*cx),V.int (2*cy)]) p1=some (HO.tup [V.int (2*cx),V.int (2*cy)]):=upd_same;generalize upd H p1 (HO.tup [V.int (2*cx),V.int (2*cy)])=K1 at*;intro p2 n2;have g2:=za1 n2 (HO.tup [V.int (2*cx+2),V.int (2*cy)]);have h2:upd K1 p2 (HO.tup [V.int (2*cx+2),V.int (2*cy)]) p2=some (HO.tup [V.int (2*cx+2),V.int (2*cy)]):=upd_same;generalize upd K1 p2 (HO.tup [V.int (2*cx+2),V.int (2*cy)])=K2 at*;intro p3 n3;have g3:=za1 n3 (HO.tup [V.int (2*cx+2),V.int (2*cy+2)]);have h3:upd K2 p3 (HO.tup [V.int (2*cx+2),V.int (2*cy+2)]) p3=some (HO.tup [V.int (2*cx+2),V.int (2*cy+2)]):=upd_same;generalize upd K2 p3 (HO.tup [V.int (2*cx+2),V.int (2*cy+2)])=K3 at*;intro p4 n4;have g4:=za1 n4 (HO.tup [V.int (2*cx),V.int (2*cy+2)]);have h4:upd K3 p4 (HO.tup [V.int (2*cx),V.int (2*cy+2)]) p4=some (HO.tup [V.int (2*cx),V.int (2*cy+2)]):=upd_same;generalize upd K3 p4 (HO.tup [V.int (2*cx),V.int (2*cy+2)])=K4 at*;intro p5 n5;have g5:=za1 n5 (HO.tup [V.int (2*cx),V.int (2*cy)]);have h5:upd K4 p5 (HO.tup [V.int (2*cx),V.int (2*cy)]) p5=some (HO.tup [V.int (2*cx),V.int (2*cy)]):=upd_same;generalize upd K4 p5 (HO.tup [V.int (2*cx),V.int (2*cy)])=K5 at*;refine⟨by decide,fun L nL=>?_⟩
 have g6:=za1 nL (HO.lst [V.ref p1,V.ref p2,V.ref p3,V.ref p4,V.ref p5]);have h6:upd K5 L (HO.lst [V.ref p1,V.ref p2,V.ref p3,V.ref p4,V.ref p5]) L=some (HO.lst [V.ref p1,V.ref p2,V.ref p3,V.ref p4,V.ref p5]):=upd_same;generalize upd K5 L (HO.lst [V.ref p1,V.ref p2,V.ref p3,V.ref p4,V.ref p5])=K6 at*;have g46:=g5.trans g6;have g36:=g4.trans g46;have g26:=g3.trans g36;have g16:=g2.trans g26;have g06:=g1.trans g16;have hp6:=g06 _ _ hp;obtain⟨A0,A1,a0,a1,k0,k1,k2,e0,e1,hA0,hA1,b0,b1,tk,s0,s1,s2⟩:∃(A0 A1:Addr)(a0 a1:Int×Int)(k0 k1 k2:Fin 8),atI [V.ref p1,V.ref p2,V.ref p3,V.ref p4,V.ref p5] qq=some (.ref A0)/\atI [V.ref p1,V.ref p2,V.ref p3,V.ref p4,V.ref p5] (qq+1)=some (.ref A1)/\P2H K6 A0 a0/\P2H K6 A1 a1/\Bx a0/\Bx a1/\triK (cx,cy,qq)=[(a0,k0),(a1,k1),((2*cx+1,2*cy+1),k2)]/\stp a0 k0=a1/\stp a1 k1=(2*cx+1,2*cy+1)/\stp (2*cx+1,2*cy+1) k2=a0:=by
  have t1:P2H K6 p1 (2*cx,2*cy):=g16 _ _ h1;have t2:P2H K6 p2 (2*cx+2,2*cy):=g26 _ _ h2;have t3:P2H K6 p3 (2*cx+2,2*cy+2):=g36 _ _ h3;have t4:P2H K6 p4 (2*cx,2*cy+2):=g46 _ _ h4;have t5:P2H K6 p5 (2*cx,2*cy):=g6 _ _ h5;have se:∀{x y x' y':Int},x=x'->y=y'->((x,y):Int×Int)=(x',y'):=fun h1 h2=>by rw[h1,h2]
  have bx:∀{x y:Int},0<=x->x<=8->0<=y->y<=6->Bx (x,y):=fun a b c d=>⟨a,b,c,d⟩;rcases(by omega:qq=0∨qq=1∨qq=2∨qq=3) with e|e|e|e<;>subst e
  ·exact⟨p1,p2,_,_,0,3,5,at0,at1,t1,t2,bx (by omega) (by omega) (by omega) (by omega),bx (by omega) (by omega) (by omega) (by omega),rfl,se (by show 2*cx+(2)=2*cx+2;omega) (by show 2*cy+(0)=2*cy;omega),se (by show 2*cx+2+(-1)=2*cx+1;omega) (by show 2*cy+(1)=2*cy+1;omega),se (by show 2*cx+1+(-1)=2*cx;omega) (by show 2*cy+1+(-1)=2*cy;omega)⟩
  ·exact⟨p2,p3,_,_,2,5,7,at1,at2,t2,t3,bx (by omega) (by omega) (by omega) (by omega),bx (by omega) (by omega) (by omega) (by omega),rfl,se (by show 2*cx+2+(0)=2*cx+2;omega) (by show 2*cy+(2)=2*cy+2;omega),se (by show 2*cx+2+(-1)=2*cx+1;omega) (by show 2*cy+2+(-1)=2*cy+1;omega),se (by show 2*cx+1+(1)=2*cx+2;omega) (by show 2*cy+1+(-1)=2*cy;omega)⟩
  ·exact⟨p3,p4,_,_,4,7,1,at2,at3,t3,t4,bx (by omega) (by omega) (by omega) (by omega),bx (by omega) (by omega) (by omega) (by omega),rfl,se (by show 2*cx+2+(-2)=2*cx;omega) (by show 2*cy+2+(0)=2*cy+2;omega),se (by show 2*cx+(1)=2*cx+1;omega) (by show 2*cy+2+(-1)=2*cy+1;omega),se (by show 2*cx+1+(1)=2*cx+2;omega) (by show 2*cy+1+(1)=2*cy+2;omega)⟩
  ·exact⟨p4,p5,_,_,6,1,3,at3,at4,t4,t5,bx (by omega) (by omega) (by omega) (by omega),bx (by omega) (by omega) (by omega) (by omega),rfl,se (by show 2*cx+(0)=2*cx;omega) (by show 2*cy+2+(-2)=2*cy;omega),se (by show 2*cx+(1)=2*cx+1;omega) (by show 2*cy+(1)=2*cy+1;omega),se (by show 2*cx+1+(-1)=2*cx;omega) (by show 2*cy+1+(1)=2*cy+2;omega)⟩
 refine⟨_,hp6,_,at2,_,_,rfl,rfl,_,e0,_,hp6,_,at2,_,rfl,_,e1,fun c nc=>?_⟩;have g7:=za1 nc (HO.tup [V.int (2*cx+1),V.int (2*cy+1)]);have h7:upd K6 c (HO.tup [V.int (2*cx+1),V.int (2*cy+1)]) c=some (HO.tup [V.int (2*cx+1),V.int (2*cy+1)]):=upd_same;generalize upd K6 c (HO.tup [V.int (2*cx+1),V.int (2*cy+1)])=K7 at*;intro D hD;have g8:=za1 hD (HO.lst [V.ref A0,V.ref A1,V.ref c]);have g08:=g06.trans (g7.trans g8);exact k D A0 A1 c a0 a1 (2*cx+1,2*cy+1) k0 k1 k2 _ ((g06.trans g7).free hD) g08 upd_same (zec _ _ _ _ (za9 (g7.trans g8)) hA0) (zec _ _ _ _ (za9 (g7.trans g8)) hA1) (g8 _ _ h7) b0 b1 ⟨by show 0<=2*cx+1;omega,by show 2*cx+1<=8;omega,by show 0<=2*cy+1;omega,by show 2*cy+1<=6;omega⟩ tk s0 s1 s2
def kP(a:Int×Int):List Key:=[.inl a.1,.inl a.2]
theorem zh1{a b:Int×Int}(h:kP a=kP b):a=b:=by
 obtain⟨x,y⟩:=a;obtain⟨x',y'⟩:=b;unfold kP at h
 cases h;rfl
def EdH(H:Hp)(p:Addr)(e:E2):Prop:=(∃c d,H p=some (.tup [.ref c,.ref d])/\P2H H c e.1/\P2H H d e.2)/\Bx e.1/\Bx e.2/\e.1≠e.2
theorem zn7:∀(H H':Hp)(p:Addr)(e:E2),zad H H'->EdH H p e->EdH H' p e:=fun _ _ _ _ g⟨⟨c,d,h1,h2,h3⟩,b⟩=>⟨⟨c,d,g _ _ h1,g _ _ h2,g _ _ h3⟩,b⟩
theorem EdH.nk{H:Hp}{p:Addr}{e:E2}(h:EdH H p e):NK H p [kP e.1,kP e.2]:=by
 obtain⟨⟨c,d,h1,h2,h3⟩,_⟩:=h;exact NK.two h1 h2 h3
def EdK(H:Hp)(kvs:List N3):Prop:=∀p,p∈kvs->∃e,p.1=[kP e.1,kP e.2]/\EdH H p.2.1 e
theorem EdK.kn{H:Hp}{kvs:List N3}(h:EdK H kvs):KN H kvs:=fun p hp=>by
 obtain⟨e,e1,e2⟩:=h p hp;rw[e1];exact e2.nk
theorem EdK.ts{H H':Hp}{kvs:List N3}(h:EdK H kvs)(g:zad H H'):EdK H' kvs:=fun p hp=>by
 obtain⟨e,e1,e2⟩:=h p hp;exact⟨e,e1,zn7 _ _ _ _ g e2⟩
theorem EdK.put{H:Hp}{kvs:List N3}{b:Addr}{e:E2}{v:V}(h:EdK H kvs)(hb:EdH H b e):EdK H (putN kvs [kP e.1,kP e.2] b v):=by
 unfold putN
 split
 ·intro p hp;obtain⟨q,hq,z⟩:=List.mem_map.mp hp;obtain⟨f,f1,f2⟩:=h q hq;rw[←z]
  split
  ·exact⟨f,f1,f2⟩
  ·exact⟨f,f1,f2⟩
 ·intro p hp;rcases List.mem_append.mp hp with hp|hp
  ·exact h p hp
  ·rw[List.mem_singleton.mp hp];exact⟨e,rfl,hb⟩
def kk(e:E2):K2:=[kP e.1,kP e.2]
theorem kk_inj{e f:E2}(h:kk e=kk f):e=f:=by
 unfold kk at h
 injection h with h1 h2
 injection h2 with h2 _
 exact Prod.ext (zh1 h1) (zh1 h2)
def hasE(kvs:List N3)(e:E2):Prop:=(valN kvs (kk e)).isSome=true
theorem hasE_put{kvs:List N3}{e f:E2}{b:Addr}{v:V}:hasE (putN kvs (kk e) b v) f↔hasE kvs f∨f=e:=by
 unfold hasE;rw[zc4,zc4,zg3]
 split
 ·rename_i c
  refine⟨.inl,fun z=>z.elim id fun z=>?_⟩;rw[z,←zc4];exact c
 ·rw[List.mem_append,List.mem_singleton];exact or_congr Iff.rfl ⟨kk_inj,fun z=>by rw[z]⟩
def ofK:K2->E2
 |[[.inl x,.inl y],[.inl z,.inl t]]=>((x,y),(z,t))
 |_=>((0,0),(0,0))
def esK(kvs:List N3):List E2:=kvs.map fun p=>ofK p.1
theorem EdK.at{H:Hp}{kvs:List N3}(h:EdK H kvs){p:N3}(hp:p∈kvs):p.1=kk (ofK p.1):=by
 obtain⟨e,e1,_⟩:=h p hp;rw[e1];rfl
theorem EdK.mem{H:Hp}{kvs:List N3}(h:EdK H kvs){e:E2}:e∈esK kvs↔hasE kvs e:=by
 unfold hasE;rw[zc4];unfold esK;rw[List.mem_map,List.mem_map];exact⟨fun⟨p,hp,z⟩=>⟨p,hp,by rw[h.at hp,z]⟩,fun⟨p,hp,z⟩=>⟨p,hp,by rw[z];rfl⟩⟩
theorem EdK.nodup{H:Hp}{kvs:List N3}(h:EdK H kvs)(nd:(kvs.map (·.1)).Nodup):(esK kvs).Nodup:=by
 unfold esK;rw[List.nodup_iff_pairwise_ne,List.pairwise_map] at nd⊢;exact nd.imp_of_mem fun{a b} ha hb n z=>n (by rw[h.at ha,h.at hb,z])
def zhx(kvs:List N3)(n:Nat):List E2:=((esK kvs).take n).filter fun e=> !(valN kvs (kk (e.2,e.1))).isSome
theorem stp_ne(a:Int×Int)(k:Fin 8):a≠stp a k:=fun z=>by
 unfold stp at z;have h1:=congrArg Prod.fst z;have h2:=congrArg Prod.snd z;dsimp only at h1 h2;exact dv_ne k (Prod.ext (by show(dv k).1=0;omega) (by show(dv k).2=0;omega))
theorem sd_snoc{cs:List C3}{c:C3}{e:E2}:Sd (cs++[c]) e↔Sd cs e∨∃x,x∈triK c/\e=(x.1,stp x.1 x.2):=by
 unfold Sd
 constructor
 ·rintro⟨d,hd,a,k,h1,h2⟩;rcases List.mem_append.mp hd with z|z
  ·exact .inl ⟨d,z,a,k,h1,h2⟩
  ·rw[List.mem_singleton.mp z] at h1;exact .inr ⟨(a,k),h1,h2⟩
 ·rintro(⟨d,hd,a,k,h1,h2⟩|⟨⟨a,k⟩,h1,h2⟩)
  ·exact⟨d,List.mem_append_left _ hd,a,k,h1,h2⟩
  ·exact⟨c,List.mem_append_right _ (List.mem_singleton.mpr rfl),a,k,h1,h2⟩
def sp_edges:Sp:=fun vs H Q _=>∃(l:Addr)(zs:List V)(cs:List (Int×Int×Int)),vs=[.ref l]/\H l=some (.lst zs)/\zs.length<=48/\LR C3H H zs cs/\∀D ys es H',H D=none->Same H H'->H' D=some (.lst ys)->ys.length<=144->LR EdH H' ys es->es.Nodup->Edg cs es->Q (.ref D) H'
theorem zjp(T:Txt K mg ad fd):FnOk P w K mg base CX0 2 (ad 18) (fd 18) ["_law_cells_here"] sp_edges:=by
 refine T.law_edges.fn.ok zch (fun vs H Q E h=>?_) (fun cdv A outer s H vs Q E hr h=>?_)
 ·obtain⟨l,zs,cs,rfl,_⟩:=h;rfl
 obtain⟨l,zs,cs,rfl,hl,hn,hz,k⟩:=h;have zC:=@pss3;have zd:=@zbu;have yc:=@zkc;have zq:=@zd8;have zp:=@zc1;have qpv:=@pv;have zm:=@zbw;have zB:=@pss2;have zj:=@zbv;have zg:=@pa1;have zR:=@zf2;have za:=@zbt;have zf:=@zaf;have yb:=@zki;have zk:=@zcv;have zh:=@pa2;have zc:=@ze3;have zb:=@zdv;have zJ:=@znn;have ze:=@zb3;have zI:=@zg8;unfold L2.CompBody at zI;have yC:=@pi_dictN;have yD:=@pif_one;have zM:=@zi6;have yd:=@zgf;generalize @L2.PE=QE,@L2.PT=QT,@L2.PW=QW,@L2.PA=QA,@L2.PS=QS,@L2.PSs=QSs,@L2.PG=QG,@L2.PGs=QGs,@L2.PI=QI,@L2.PO=QO,@L2.PIf=QIf,@L2.PC=QC,@L2.PK=QK at zC zd yc zq zp qpv zm zB zj zg zR za zf yb zk zh zc zb zJ ze zI yC yD zM yd⊢;refine⟨_,
  (zC
   (zd (i:=1) zch.nd rfl (Or.inr rfl) (yc (P:=P) (w:=w) rfl rfl))
   (zq PassesOwn.never rfl (zp (qpv 0)) (zm (i:=2) zch.nd rfl (Or.inl rfl)) (zB
   (zd (i:=3) zch.nd rfl (Or.inl rfl) (zj (zk2 T) (hr.mono (by decide)) rfl T.law_ends.mg T.law_ends.fn.kp T.law_ends.bn .nil pass0 (zg (qpv 2) za2)))
   (zq PassesOwn.never rfl (zR rfl T.b_range (zg za za3)) (zm (i:=4) zch.nd rfl (Or.inl rfl)) (zf (yb (P:=P) (w:=w) rfl rfl (hu64 hr) (qpv 1) (zk (zh (zc zak (qpv 3) (qpv 4) (fun _ _=>rfl)) za8 (zc zak (qpv 3) (zb zcm (zb zb7 (qpv 4) za) za) (fun _ _=>rfl)) za8)) zJ rfl)))))
   (ze (zI (dsc:=za0 zb1) (N:=["_law_cells_here","_law_sides_here","_law_cell_here","_law_ends_here","_law_k"]) (own:=["_law_side"]) (ix:=[1]) rfl rfl rfl ⟨rfl,by decide+kernel,by decide+kernel,by decide+kernel,by decide+kernel⟩ (yC (P:=P) (w:=w) rfl rfl (qpv 1)) (fun cl C fp s2 H2 xe=>⟨(zm (i:=0) (show List.Nodup (["_law_side","_law_sides_here"]:List Str) from by decide+kernel) rfl (Or.inl rfl)),(yD (zM (yd (P:=P) (w:=w) rfl rfl (hu64 hr) (zk (zh (zc za6 (qpv 0) za (fun _ _=>rfl)) za8 (zc za6 (qpv 0) za (fun _ _=>rfl)) za8)) (qpv 1)))),(qpv 0)⟩))))
  ,?_⟩
 clear zC zd yc zq zp qpv zm zB zj zg zR za zf yb zk zh zc zb zJ ze zI yC yD zM yd QE QT QW QA QS QSs QG QGs QI QO QIf QC QK
 dsimp! [L2.start]
 simp! [tNNew];intro S hS;have gS:=za1 hS (nD P w S []);refine zbk ?_;simp! [zcx];refine⟨⟨_,.of (gS _ _ hl)⟩,?_⟩;refine zaz (K:=K) (a:=l) (xs:=zs) (fun i σ H'=>Same H H'/\∃(kvs:List N3)(o1 o2 o3:Option V),σ=[some (V.ref l),some (V.ref S),o1,o2,o3]/\H' S=some (nD P w S kvs)/\kvs.length<=3*i/\EdK H' kvs/\(kvs.map (·.1)).Nodup/\∀e,hasE kvs e↔Sd (cs.take i) e) ⟨gS,[],none,none,none,rfl,upd_same,Nat.le_refl _,(fun p hp=>by cases hp),List.nodup_nil,fun e=>⟨fun z=>(by cases z),fun⟨c,hc,_⟩=>(by rw[List.take_zero] at hc;cases hc)⟩⟩ (fun i σ H' _ iv=>.of (iv.1 _ _ hl)) ?_ ?_
 ·intro _ _;rintro i v σ H2 hi ⟨g2,kvs,o1,o2,o3,rfl,hS2,hk,ek,nd,has⟩;obtain⟨p,c,rfl,hc',hc⟩:=hz.2 i v hi;have hi':=(List.getElem?_eq_some_iff.mp hi).1;simp! [];refine⟨p,c,rfl,c3_ts _ _ _ _ (za9 g2) hc,fun L e0 e1 e2 a0 a1 a2 k0 k1 k2 H3 hL g3 hL3 p0 p1 p2 b0 b1 b2 tk s0 s1 s2=>?_⟩;have g03:=g2.trans g3;refine zbk ?_;simp! [zp0];have nLS:L≠S:=(zb5 hS2 hL).symm;refine⟨by decide,by decide,ze6 (fun j σ H'=>Same H H'/\zad H3 H'/\H' L=some (.lst [.ref e0,.ref e1,.ref e2])/\∃(kvs:List N3)(o:Option V),σ=[some (V.ref l),some (V.ref S),some (V.ref p),some (V.ref L),o]/\H' S=some (nD P w S kvs)/\kvs.length<=3*i+j/\EdK H' kvs/\(kvs.map (·.1)).Nodup/\∀e,hasE kvs e↔Sd (cs.take i) e∨∃x,x∈(triK c).take j/\e=(x.1,stp x.1 x.2)) ⟨g03,fun _ _ h=>h,hL3,kvs,o3,rfl,g3 _ _ hS2,hk,ek.ts (za9 g3),nd,fun e=>⟨fun z=>.inl ((has e).mp z),fun z=>z.elim (has e).mpr fun⟨x,hx,_⟩=>(by rw[List.take_zero] at hx;cases hx)⟩⟩ ?_ ?_⟩
  ·intro _ _;rintro j σ H4 hj ⟨g4,t4,hL4,kvs,o,rfl,hS4,hk4,ek4,nd4,has4⟩;obtain⟨A0,A1,f0,f1,kf,e0',e1',q0,q1,c0,c1,sf,tf⟩:∃(A0 A1:Addr)(f0 f1:Int×Int)(kf:Fin 8),atI [V.ref e0,V.ref e1,V.ref e2] (j:Int)=some (.ref A0)/\atI [V.ref e0,V.ref e1,V.ref e2] (((j:Int)+1)%3)=some (.ref A1)/\P2H H3 A0 f0/\P2H H3 A1 f1/\Bx f0/\Bx f1/\stp f0 kf=f1/\(triK c)[j]?=some (f0,kf):=by
    have hj3:j<3:=hj;rcases(by omega:j=0∨j=1∨j=2) with e|e|e<;>subst e
    ·exact⟨e0,e1,_,_,k0,at0,at1,p0,p1,b0,b1,s0,by rw[tk];rfl⟩
    ·exact⟨e1,e2,_,_,k1,at1,at2,p1,p2,b1,b2,s1,by rw[tk];rfl⟩
    ·exact⟨e2,e0,_,_,k2,at2,at0,p2,p0,b2,b0,s2,by rw[tk];rfl⟩
   simp! [sNPut,Int.zero_add,hL4,e0',e1'];refine⟨by decide,fun t ht=>?_⟩
   have g5:=za1 ht (HO.tup [V.ref A0,V.ref A1]);have h5:upd H4 t (HO.tup [V.ref A0,V.ref A1]) t=some (HO.tup [V.ref A0,V.ref A1]):=upd_same;generalize upd H4 t (HO.tup [V.ref A0,V.ref A1])=H5 at*;have hS5:=g5 _ _ hS4;have t35:=zhi t4 (za9 g5);have ed:EdH H5 t (f0,f1):=⟨⟨A0,A1,h5,t35 _ _ q0,t35 _ _ q1⟩,c0,c1,by show f0≠f1;rw[←sf];exact stp_ne _ _⟩
   have ek5:=ek4.ts (za9 g5);refine⟨kvs,hS5,ek5.kn,[kP f0,kP f1],ed.nk,small1000 (by omega),zat (g4.trans g5) hS,zhi t35 (zfc hS5),?_,_,rfl,Nat.le_trans (zhr _ _ _ _) (by omega),(ek5.put ed).ts (zfc hS5),zgn nd4,fun e=>?_⟩
   ·rw[za5 nLS];exact g5 _ _ hL4
   ·show hasE (putN kvs (kk (f0,f1)) t _) e↔_
    rw[hasE_put,has4,List.take_add_one,tf,←sf]
    constructor
    ·rintro((z|⟨x,hx,z⟩)|z)
     ·exact .inl z
     ·exact .inr ⟨x,List.mem_append_left _ hx,z⟩
     ·exact .inr ⟨(f0,kf),List.mem_append_right _ (List.mem_singleton.mpr rfl),z⟩
    ·rintro(z|⟨x,hx,z⟩)
     ·exact .inl (.inl z)
     ·rcases List.mem_append.mp hx with hx|hx
      ·exact .inl (.inr ⟨x,hx,z⟩)
      ·rw[List.mem_singleton.mp hx] at z;exact .inr z
  ·rintro σ H4 ⟨g4,t4,hL4,kvs,o,rfl,hS4,hk4,ek4,nd4,has4⟩;refine⟨g4,⟨_,_,_,rfl⟩,kvs,hS4,by have:(Int.toNat 3)=3:=rfl;omega,ek4,nd4,fun e=>?_⟩
   rw[has4,List.take_add_one,hc'];show _↔Sd (cs.take i++[c]) e;rw[sd_snoc,List.take_of_length_le (l:=triK c) (by rw[tk];exact Nat.le_refl _)]
 ·rintro σ H2 ⟨g2,kvs,o1,o2,o3,rfl,hS2,hk,ek,nd,has⟩;simp! [];refine zd2 ?_;simp! [iDictN];refine⟨kvs,hS2,fun o D hD=>?_⟩;have gF:Same H (upd H2 S (HO.frz o (nD P w S kvs))):=zat g2 hS;have hSF:upd H2 S (HO.frz o (nD P w S kvs)) S=some (HO.frz o (nD P w S kvs)):=upd_same;have ekF:=ek.ts (zfc (o:=HO.frz o (nD P w S kvs)) hS2);generalize upd H2 S (HO.frz o (nD P w S kvs))=H3 at*;have lk:(kvs.map fun p=>p.2.1).length=kvs.length:=List.length_map _;rw[List.take_of_length_le (Nat.le_of_eq hz.1.symm)] at has;refine zm8 (fun i ys H'=>Same H3 H'/\H' D=some (.lst ys)/\ys.length<=i/\LR EdH H' ys (zhx kvs i)) ⟨za1 hD _,upd_same,Nat.le_refl _,.nil⟩ (fun i ys H' z=>z.1 _ _ hSF) ?_ ?_
  ·rintro i ys H4 b hb ⟨g4,hD4,hy,he⟩;have hi:=(List.getElem?_eq_some_iff.mp hb).1;rw[List.getElem?_map] at hb;obtain⟨q,hq,eb⟩:=Option.map_eq_some_iff.mp hb;obtain⟨e,e1,e2⟩:=ekF q (List.mem_of_getElem? hq);have eq:(esK kvs)[i]?=some e:=by
    unfold esK;rw[List.getElem?_map,hq,Option.map_some,e1];rfl
   rw[eb] at e2;have e4:=zn7 _ _ _ _ (za9 g4) e2;obtain⟨⟨c,d,h1,h2,h3⟩,b1,b2,ne⟩:=id e4;simp! [zi0,h1];intro t ht;have g5:=za1 ht (HO.tup [V.ref d,V.ref c]);have h5:upd H4 t (HO.tup [V.ref d,V.ref c]) t=some (HO.tup [V.ref d,V.ref c]):=upd_same;generalize upd H4 t (HO.tup [V.ref d,V.ref c])=H5 at*;have g35:=g4.trans g5;have ek5:=ekF.ts (za9 g35);have e5:=zn7 _ _ _ _ (za9 g5) e4;have hD5:=g5 _ _ hD4;refine⟨kvs,.inr ⟨o,g35 _ _ hSF⟩,ek5.kn,[kP e.2,kP e.1],NK.two h5 (g5 _ _ h3) (g5 _ _ h2),ite2 (fun cc=>?_) (fun cc=>?_)⟩
   ·refine cw_put hi hD5 (small1000 (by rw[lk] at hi;omega)) ⟨zat g35 hD,upd_same,by rw[List.length_append,List.length_singleton];omega,?_⟩
    have en:zhx kvs (i+1)=zhx kvs i++[e]:=by
     unfold zhx;rw[List.take_add_one,eq,List.filter_append]
     congr 1
     exact List.filter_cons_of_pos cc
    rw[en];exact((he.ts zn7 (za9 g5)).snoc e5).ts zn7 (zcg hD5)
   ·refine cw_skip hi (ys:=ys) ⟨g35,hD5,by omega,?_⟩
    have en:zhx kvs (i+1)=zhx kvs i:=by
     unfold zhx;rw[List.take_add_one,eq,List.filter_append];rw[show(some e).toList=[e] from rfl,List.filter_cons_of_neg (a:=e) (l:=[]) cc,List.filter_nil,List.append_nil]
    rw[en];exact he.ts zn7 (za9 g5)
  ·rintro ys H4 ⟨g4,hD4,hy,he⟩;rw[lk] at hy;have ae:zhx kvs (kvs.map fun p=>p.2.1).length=(esK kvs).filter fun e=> !(valN kvs (kk (e.2,e.1))).isSome:=by
    unfold zhx;rw[List.take_of_length_le (by unfold esK;rw[List.length_map,List.length_map];exact Nat.le_refl _)]
   rw[ae] at he;refine k D ys _ H4 (gF.free hD) (gF.trans g4) hD4 (by omega) he ((ekF.nodup nd).filter _) fun e=>?_
   rw[List.mem_filter,ekF.mem,has];refine and_congr Iff.rfl ?_;rw[←has (e.2,e.1)];unfold hasE
   cases(valN kvs (kk (e.2,e.1))).isSome<;>simp
theorem zeb(ss:List (E2))(e:E2)(p:Int×Int):lvP (ss++[e]) p=lvP ss p++if e.1=p then[e.2] else[]:=by
 unfold lvP;rw[List.filter_append,List.map_append]
 congr 1
 by_cases c:e.1=p
 ·rw[if_pos c,List.filter_cons,if_pos (decide_eq_true c)];rfl
 ·rw[if_neg c,List.filter_cons,if_neg (fun z=>c (of_decide_eq_true z))];rfl
theorem lvP_len(ss:List (E2))(p:Int×Int):(lvP ss p).length<=ss.length:=by
 unfold lvP;rw[List.length_map];exact List.length_filter_le _ _
structure LvP(H0 H:Hp)(d:Addr)(kvs:List (List Key×V))(ss:List (E2)):Prop where
 same:Same H0 H
 new:H0 d=none
 at_:H d=some (.dT kvs)
 len:kvs.length<=ss.length
 ent:∀p v,valV kvs (kP p)=some v->∃a zs,v=.ref a/\H0 a=none/\H a=some (.lst zs)/\LR P2H H zs (lvP ss p)
 non:∀p,valV kvs (kP p)=none->lvP ss p=[]
 dis:∀p p' v,valV kvs (kP p)=some v->valV kvs (kP p')=some v->p=p'
theorem LvP.mono{H0 H H':Hp}{d:Addr}{kvs:List (List Key×V)}{ss:List (E2)}(h:LvP H0 H d kvs ss)(g:Same H H'):LvP H0 H' d kvs ss:=
 ⟨h.same.trans g,h.new,g _ _ h.at_,h.len,fun k v e=>by
  obtain⟨a,ys,e1,e2,e3,e4⟩:=h.ent k v e;exact⟨a,ys,e1,e2,g _ _ e3,e4.ts zec (za9 g)⟩,h.non,h.dis⟩
theorem LvP.app{H0 H:Hp}{d a t b:Addr}{kvs:List (List Key×V)}{ss:List (E2)}{p q:Int×Int}{Qc:VK}(h:LvP H0 H d kvs ss)(hm:ss.length<500)(ha:P2H H a p)(hb:P2H H b q)(ht:H t=none)
  (k:∀(l:Addr)(H1:Hp)(zs:List V) kvs',H1 l=some (.lst zs)->zs.length<sizeLine->LvP H0 (upd H1 l (.lst (zs++[.ref b]))) d kvs' (ss++[(p,q)])->Qc (.ref l) H1):rSD d (.ref a) (.ref t) (upd H t (.lst [])) Qc:=by
 have g:=za1 ht (HO.lst []);have hg:=h.mono g;refine⟨kvs,kP p,a,hg.at_,rfl,g _ _ ha,small1000 (by have:=h.len;omega),fun v hv=>?_,fun hv=>?_⟩
 ·obtain⟨l,ys,rfl,e2,e3,e4⟩:=hg.ent _ _ hv;have ly:ys.length<=ss.length:=by rw[e4.1];exact lvP_len _ _
  refine k l _ ys kvs e3 (small1000 (by omega)) ⟨zat hg.same e2,h.new,?_,by have:=h.len;rw[List.length_append];omega,fun p' v' hv'=>?_,fun p' hv'=>?_,h.dis⟩
  ·rw[za5 (fun z=>by rw[←z,hg.at_] at e3;cases e3)]
   exact hg.at_
  ·obtain⟨l',ys',rfl,f2,f3,f4⟩:=hg.ent _ _ hv'
   by_cases el:l'=l
   ·subst el;rw[e3] at f3
    cases f3;have pp:=h.dis _ _ _ hv' hv;subst pp;refine⟨l',_,rfl,f2,upd_same,?_⟩;rw[zeb,if_pos rfl];exact(e4.snoc (zec _ _ _ _ (za9 g) hb)).ts zec (zcg e3)
   ·refine⟨l',ys',rfl,f2,by rw[za5 el];exact f3,?_⟩
    rw[zeb,if_neg (fun z=>el (by
     have z':p=p':=z;rw[←z'] at hv';rw[hv] at hv'
     cases hv';rfl)),List.append_nil]
    exact f4.ts zec (zcg e3)
  ·rw[zeb,h.non _ hv',if_neg (fun z=>by
    have z':p=p':=z;rw[z',hv'] at hv
    cases hv)]
   rfl
 ·have td:t≠d:=fun z=>by rw[z,h.at_] at ht;cases ht
  have h0t:=h.same.free ht;have up:∀b' o,b'≠d->H b'=some o->upd (upd (upd H t (.lst [])) d (.dT (putK kvs (kP p) (.ref t)))) t (.lst [.ref b]) b'=some o:=fun b' o nb hb'=>by
   have nt:b'≠t:=fun z=>by rw[z,ht] at hb';cases hb'
   rw[za5 nt,za5 nb,za5 nt];exact hb'
  have ts:zad H (upd (upd (upd H t (.lst [])) d (.dT (putK kvs (kP p) (.ref t)))) t (.lst [.ref b])):=fun b' xs hb'=>up b' _ (fun z=>by rw[z,h.at_] at hb';cases hb') hb'
  have nt:∀p',valV kvs (kP p')≠some (.ref t):=fun p' z=>by
   obtain⟨l',ys',e,f2,f3,f4⟩:=h.ent _ _ z
   cases e;rw[ht] at f3
   cases f3
  refine k t _ [] (putK kvs (kP p) (.ref t)) (by rw[za5 td];exact upd_same) (small1000 (by simp)) ⟨fun b' o hb'=>up b' o (fun z=>by rw[z,h.new] at hb';cases hb') (h.same _ _ hb'),h.new,by rw[za5 td.symm];exact upd_same,Nat.le_trans (zbp _ _ _) (by have:=h.len;rw[List.length_append];exact Nat.succ_le_succ this),fun p' v' hv'=>?_,fun p' hv'=>?_,fun p' p2 v' h1 h2=>?_⟩
  ·rw[zco] at hv'
   by_cases ek:kP p'=kP p
   ·rw[if_pos ek] at hv'
    cases hv';have e':=zh1 ek;subst e';refine⟨t,[.ref b],rfl,h0t,upd_same,?_⟩;rw[zeb,if_pos rfl,h.non _ hv];exact LR.one (R:=P2H) (zec _ _ _ _ ts hb)
   ·rw[if_neg ek] at hv';obtain⟨l',ys',rfl,f2,f3,f4⟩:=h.ent _ _ hv';refine⟨l',ys',rfl,f2,up _ _ (fun z=>by rw[z,h.at_] at f3;cases f3) f3,?_⟩
    rw[zeb,if_neg (fun z=>ek (by have z':p=p':=z;rw[z'])),List.append_nil]
    exact f4.ts zec ts
  ·rw[zco] at hv'
   by_cases ek:kP p'=kP p
   ·rw[if_pos ek] at hv'
    cases hv'
   ·rw[if_neg ek] at hv';rw[zeb,h.non _ hv',if_neg (fun z=>ek (by have z':p=p':=z;rw[z']))]
    rfl
  ·rw[zco] at h1 h2
   by_cases e1:kP p'=kP p
   ·by_cases e2:kP p2=kP p
    ·rw[zh1 e1,zh1 e2]
    ·rw[if_pos e1] at h1;rw[if_neg e2] at h2
     cases h1;exact absurd h2 (nt _)
   ·by_cases e2:kP p2=kP p
    ·rw[if_neg e1] at h1;rw[if_pos e2] at h2
     cases h2;exact absurd h1 (nt _)
    ·rw[if_neg e1] at h1;rw[if_neg e2] at h2;exact h.dis _ _ _ h1 h2
def d2(a:Int×Int):PyData:=.tuple [.int a.1,.int a.2]
theorem rd_2{K:PySem.W.Frag}{H:Hp}{p:Addr}{a:Int×Int}(h:P2H H p a):RdD K H (d2 a) (.ref p):=by
 unfold d2;rw[RdD];refine⟨p,_,rfl,.of h,?_⟩;rw[RdDs];refine⟨_,_,rfl,by rw[RdD],?_⟩
 rw[RdDs];refine⟨_,_,rfl,by rw[RdD],?_⟩
 rw[RdDs]
theorem zew(a:Int×Int):SeqAt.shaped (d2 a)=true:=by
 simp[d2,SeqAt.shaped,PyData.canLay0,PyData.canLayAll0,PyData.depth,PyData.depthAll]
theorem zjj(a b:Int×Int):PyData.eqv (d2 a) (d2 b)=decide (a=b):=by
 rw[Bool.eq_iff_iff];obtain⟨x,y⟩:=a;obtain⟨x',y'⟩:=b
 simp[d2,PyData.eqv,PyData.eqvAll]
theorem znu(a:Int×Int):(d2 a).canLay0=true/\(d2 a).depth<=3:=by
 simp[d2,PyData.canLay0,PyData.canLayAll0,PyData.depth,PyData.depthAll]
theorem d2s_lay(F:List (Int×Int)):PyData.canLayAll0 (F.map d2)=true/\PyData.depthAll (F.map d2)<=3:=by
 induction F with
 |nil=>exact⟨rfl,by simp[PyData.depthAll]⟩
 |cons r F ih=>
  have h:=znu r;rw[List.map_cons]
  constructor
  ·rw[PyData.canLayAll0,h.1,ih.1];rfl
  ·rw[PyData.depthAll];have:=h.2;have:=ih.2;omega
theorem rd_p2{K:PySem.W.Frag}{H:Hp}:∀{us:List V}{cs:List (Int×Int)},LR P2H H us cs->RdDs K H (cs.map d2) us
 |[],[],_=>by rw[List.map_nil,RdDs]
 |[],_::_,h=>by cases h.1
 |_::_,[],h=>by cases h.1
 |u::us,c::cs,h=>by
  obtain⟨a,as',e,⟨p,rfl,hp⟩,ht⟩:=h.cons_inv
  cases e;rw[List.map_cons,RdDs];exact⟨_,_,rfl,rd_2 hp,rd_p2 ht⟩
theorem LvP.keep{H0 H:Hp}{d D:Addr}{kvs:List (List Key×V)}{fs:List E2}{zs us:List V}(h:LvP H0 H d kvs fs)(hD:H D=some (.lst zs))(h0:H0 D=none)(nD:∀p,valV kvs (kP p)≠some (.ref D)):LvP H0 (upd H D (.lst us)) d kvs fs:=by
 refine⟨zat h.same h0,h.new,?_,h.len,fun p v e=>?_,h.non,h.dis⟩
 ·rw[za5 (fun z=>by rw[←z,h.at_] at hD;cases hD)]
  exact h.at_
 ·obtain⟨a,ys,e1,e2,e3,e4⟩:=h.ent p v e;refine⟨a,ys,e1,e2,?_,e4.ts zec (zcg hD)⟩;rw[za5 (fun z=>nD p (by rw[e,e1,z]))]
  exact e3
def zkr:Sp:=fun vs H Q _=>∃(H0:Hp)(d p q:Addr)(kvs:List (List Key×V))(es:List E2)(a b:Int×Int),vs=[.ref d,.ref p,.ref q]/\LvP H0 H d kvs es/\es.length<=500/\P2H H p a/\P2H H q b/\∀H',Same H H'->Q (.bl (str es a b)) H'
theorem ze4(T:Txt K mg ad fd):FnOk P w K mg base CX0 1 (ad 19) (fd 19) ["_law_starts","_law_begin","_law_end"] zkr:=by
 refine T.law_straight.fn.ok zdz (fun vs H Q E h=>?_) (fun cdv A outer s H vs Q E hr h=>?_)
 ·obtain⟨H0,d,p,q,kvs,es,a,b,rfl,_⟩:=h;rfl
 obtain⟨H0,d,p,q,kvs,es,a,b,rfl,st,hm,hp,hq,k⟩:=h;have zB:=@pss2;have zd:=@zbu;have yi:=@zlf;have qpv:=@pv;have zt:=@zdr;have zw:=@zcl;have ze:=@zb3;have yj:=@pe_and;have zG:=@zfh;have zy:=@zd7;have zg:=@pa1;have za:=@zbt;have yk:=@pe_one;have zc:=@ze3;have zk:=@zcv;have zh:=@pa2;have zb:=@zdv;generalize @L2.PE=QE,@L2.PT=QT,@L2.PW=QW,@L2.PA=QA,@L2.PS=QS,@L2.PSs=QSs,@L2.PG=QG,@L2.PGs=QGs,@L2.PI=QI,@L2.PO=QO,@L2.PIf=QIf at zB zd yi qpv zt zw ze yj zG zy zg za yk zc zk zh zb⊢;refine⟨_,
  (zB
   (zd (i:=3) zdz.nd rfl (Or.inl rfl) (yi (zda hr) (qpv 0) (qpv 2) (zt zw) ⟨rfl,rfl,rfl,rfl⟩))
   (ze (yj (zG op_eq (zy zdg rfl T.b_len zee (zg (qpv 3) za2)) za (nomark _)) (yk (zG (zj3 (hu64 hr)) (zc zak (qpv 3) za (fun _ _=>rfl)) (zk (zh (zb zde (zb zdf za (zc za6 (qpv 2) za (fun _ _=>rfl))) (zc za6 (qpv 1) za (fun _ _=>rfl))) zac (zb zde (zb zdf za (zc za6 (qpv 2) za (fun _ _=>rfl))) (zc za6 (qpv 1) za (fun _ _=>rfl))) zac)) (nomark _))))))
  ,?_⟩
 clear zB zd yi qpv zt zw ze yj zG zy zg za yk zc zk zh zb QE QT QW QA QS QSs QG QGs QI QO QIf
 dsimp! [L2.start]
 have hp':H p=some (.tup [.int a.1,.int a.2]):=hp;have hq':H q=some (.tup [.int b.1,.int b.2]):=hq;simp! [zo9];refine⟨zny st.at_,fun t ht=>?_⟩;have g:=za1 ht (HO.lst []);have ht1:upd H t (HO.lst []) t=some (HO.lst []):=upd_same;generalize upd H t (HO.lst [])=H1 at*;have st1:=st.mono g;have hp1:H1 p=some (.tup [.int a.1,.int a.2]):=g _ _ hp;have hq1:H1 q=some (.tup [.int b.1,.int b.2]):=g _ _ hq;refine⟨valV kvs (kP b),.t (k:=kP b) st1.at_ hq1,?_⟩
 cases e:valV kvs (kP b) with
 |none=>
  have e0:=st1.non _ e;have sf:str es a b=false:=decide_eq_false (by rw[e0];exact fun z=>by cases z)
  rw[sf] at k;refine⟨t,rfl,[],.inl ht1,?_⟩;rw[decide_eq_false (by decide)]
  exact iteF (k H1 g)
 |some v=>
  obtain⟨l,ys,rfl,_,e3,e4⟩:=st1.ent _ _ e;refine⟨l,rfl,ys,.inl e3,ite2 (fun c=>?_) (fun c=>?_)⟩
  ·have c:=of_decide_eq_true c;have c1:ys.length=1:=by omega
   have c2:(lvP es b).length=1:=by rw[←e4.1];exact c1
   obtain⟨cu,ecu⟩:=List.length_eq_one_iff.mp c2;rw[ecu] at e4;obtain⟨pu,cu',e5,e6,hu⟩:=e4.at (j:=0) (by omega)
   cases e6;refine⟨l,rfl,_,e3,_,zc5 (j:=0) e5,?_⟩;simp! [hp1,hq1];refine⟨.inl ⟨by decide,by decide⟩,.inl ⟨by decide,by decide⟩,fun r hr'=>?_⟩
   have g2:=za1 hr' (HO.tup [V.int (2*b.1-a.1),V.int (2*b.2-a.2)]);have h2:P2H (upd H1 r (HO.tup [V.int (2*b.1-a.1),V.int (2*b.2-a.2)])) r (onP a b):=upd_same;generalize upd H1 r (HO.tup [V.int (2*b.1-a.1),V.int (2*b.2-a.2)])=H2 at*;refine⟨_,_,rd_2 (zec _ _ _ _ (za9 g2) hu),rd_2 h2,zew _,zew _,?_⟩;rw[zjj];have sf:str es a b=decide (cu=onP a b):=by
    unfold str;rw[ecu];refine decide_eq_decide.mpr ⟨fun z=>(List.cons.inj z).1,fun z=>by rw[z]⟩
   rw[sf] at k;exact k H2 (g.trans g2)
  ·have sf:str es a b=false:=decide_eq_false fun z=>c (decide_eq_true (by
    have:=e4.1;rw[z] at this;show((ys.length:Nat):Int)=1;rw[this];rfl))
   rw[sf] at k;exact k H1 g
def isB(es:List E2)(e:E2):Bool:= !(decide (e.1∈lvP es (onP e.2 e.1))&&str es (onP e.2 e.1) e.1)
def FcR(es fs ws:List E2):Prop:=fs.length=ws.length/\∀(j:Nat) e w,fs[j]?=some e->ws[j]?=some w->w.1=e.1/\Goes es e.1 e.2 w.2
theorem FcR.snoc{es fs ws:List E2}{e w:E2}(h:FcR es fs ws)(h1:w.1=e.1)(h2:Goes es e.1 e.2 w.2):FcR es (fs++[e]) (ws++[w]):=by
 refine⟨by rw[List.length_append,List.length_append,h.1];rfl,fun j f v hf hv=>?_⟩
 by_cases c:j<fs.length
 ·rw[List.getElem?_append_left c] at hf;rw[List.getElem?_append_left (by rw[←h.1];exact c)] at hv
  exact h.2 j f v hf hv
 ·have ej:j=fs.length:=by
   have:=(List.getElem?_eq_some_iff.mp hf).1;rw[List.length_append,List.length_singleton] at this;omega
  rw[ej,List.getElem?_append_right (Nat.le_refl _),Nat.sub_self] at hf;rw[ej,h.1,List.getElem?_append_right (Nat.le_refl _),Nat.sub_self] at hv
  cases hf
  cases hv;exact⟨h1,h2⟩
theorem zou{es:List E2}{a:Int×Int}{k:Fin 8}:isB es (a,stp a k)=true↔Bgn es a k:=by
 unfold isB Bgn;dsimp only;rw[onP_back,←zkf]
 by_cases c:a∈lvP es (stp a (k+4))<;>cases str es (stp a (k+4)) a<;>simp[c]
theorem wys_of{cs:List C3}{es ws:List E2}(E:Edg cs es)(nd:es.Nodup)(F:FcR es (es.filter (isB es)) ws):Wys es ws:=by
 have key:∀(j:Nat) w,ws[j]?=some w->∃k m,(es.filter (isB es))[j]?=some (w.1,stp w.1 k)/\Wy es w.1 w.2 k m/\Bgn es w.1 k:=fun j w hw=>by
  have hj:j<(es.filter (isB es)).length:=by rw[F.1];exact(List.getElem?_eq_some_iff.mp hw).1
  have he:=List.getElem?_eq_getElem hj;generalize (es.filter (isB es))[j]=e at he;obtain⟨h1,h2⟩:=F.2 j e w he hw;obtain⟨m1,m2⟩:=List.mem_filter.mp (List.mem_of_getElem? he);obtain⟨k,hk⟩:=E.ray m1;obtain⟨m,wy⟩:=h2.wy hk m1;have ee:e=(w.1,stp w.1 k):=Prod.ext h1.symm (by rw[h1];exact hk)
  rw[ee] at m2 he;rw[←h1] at wy;exact⟨k,m,he,wy,zou.mp m2⟩
 refine⟨?_,fun w hw=>?_,fun a k h1 h2=>?_⟩
 ·rw[List.nodup_iff_pairwise_ne,List.pairwise_iff_getElem];intro i j hi hj hij z;obtain⟨k,m,e1,w1,_⟩:=key i _ (List.getElem?_eq_getElem hi);obtain⟨k',m',e2,w2,_⟩:=key j _ (List.getElem?_eq_getElem hj);rw[z] at e1 w1;have:=w1.dir w2;subst this;have n1:=(List.getElem?_eq_some_iff.mp e1);have n2:=(List.getElem?_eq_some_iff.mp e2);have:=(List.getElem_inj (nd.filter (isB es))).mp (n1.2.trans n2.2.symm);omega
 ·obtain⟨j,hj⟩:=List.mem_iff_getElem?.mp hw;obtain⟨k,m,_,w1,b⟩:=key j w hj;exact⟨k,m,w1,b⟩
 ·obtain⟨j,hj⟩:=List.mem_iff_getElem?.mp (List.mem_filter.mpr ⟨h1,zou.mpr h2⟩);have hj':j<ws.length:=by rw[←F.1];exact(List.getElem?_eq_some_iff.mp hj).1
  obtain⟨e1,e2⟩:=F.2 j _ _ hj (List.getElem?_eq_getElem hj');obtain⟨m,wy⟩:=e2.wy rfl h1;refine⟨_,m,?_,wy⟩;have:(a,(ws[j]).2)=ws[j]:=Prod.ext e1.symm rfl;rw[this];exact List.getElem_mem _
def WyH(H:Hp)(p:Addr)(e:E2):Prop:=(∃c d,H p=some (.tup [.ref c,.ref d])/\P2H H c e.1/\P2H H d e.2)/\Bx e.1/\Bx e.2
theorem zkg:∀(H H':Hp)(p:Addr)(e:E2),zad H H'->WyH H p e->WyH H' p e:=fun _ _ _ _ g⟨⟨c,d,h1,h2,h3⟩,b⟩=>⟨⟨c,d,g _ _ h1,g _ _ h2,g _ _ h3⟩,b⟩
def sp_long:Sp:=fun vs H Q _=>∃(l:Addr)(ys:List V)(es:List E2),vs=[.ref l]/\H l=some (.lst ys)/\ys.length<=144/\LR EdH H ys es/\es.Nodup/\(∃cs,Edg cs es)/\∀D zs ws H',H D=none->Same H H'->H' D=some (.lst zs)->zs.length<=144->LR WyH H' zs ws->Wys es ws->Q (.ref D) H'
def mu(dx dy:Int)(H:Hp)(σ:St):Nat:=match(σ:List (Option V))[7]? with
 |some (some (V.ref p))=>(match H p with
  |some (.tup [.int x,.int y])=>(if 0<dx then 8-x else if dx<0 then x else if 0<dy then 6-y else y).toNat
  |_=>0)
 |_=>0
theorem mu_of{dx dy:Int}{H:Hp}{v0 v1 v2 v3 v4 v5 v6:Option V}{p:Addr}{a:Int×Int}(h:P2H H p a):mu dx dy H [v0,v1,v2,v3,v4,v5,v6,some (.ref p)]=(if 0<dx then 8-a.1 else if dx<0 then a.1 else if 0<dy then 6-a.2 else a.2).toNat:=by
 unfold P2H at h;show(match H p with
  |some (.tup [.int x,.int y])=>(if 0<dx then 8-x else if dx<0 then x else if 0<dy then 6-y else y).toNat
  |_=>0)=_
 rw[h]
theorem zpi{dx dy:Int}{a b:Int×Int}(ha:Bx a)(hb:Bx b)(e1:b.1-a.1=dx)(e2:b.2-a.2=dy)(n:¬(dx=0/\dy=0)):(if 0<dx then 8-b.1 else if dx<0 then b.1 else if 0<dy then 6-b.2 else b.2).toNat<(if 0<dx then 8-a.1 else if dx<0 then a.1 else if 0<dy then 6-a.2 else a.2).toNat:=by
 obtain⟨a1,a2,a3,a4⟩:=ha;obtain⟨b1,b2,b3,b4⟩:=hb
 by_cases c1:0<dx
 ·rw[if_pos c1,if_pos c1];omega
 ·rw[if_neg c1,if_neg c1]
  by_cases c2:dx<0
  ·rw[if_pos c2,if_pos c2];omega
  ·rw[if_neg c2,if_neg c2]
   by_cases c3:0<dy
   ·rw[if_pos c3,if_pos c3];omega
   ·rw[if_neg c3,if_neg c3];omega
theorem znt(a:Int×Int):∀ls:List (Int×Int),((ls.map d2).any fun x=>x.eqv (d2 a))=decide (a∈ls)
 |[]=>rfl
 |x::ls=>by
  rw[List.map_cons,List.any_cons,znt a ls,zjj]
  by_cases c:x=a
  ·rw[decide_eq_true c,Bool.true_or,decide_eq_true (by rw[c];exact List.mem_cons_self ..)]
  ·rw[decide_eq_false c,Bool.false_or];exact decide_eq_decide.mpr ⟨List.mem_cons_of_mem _,fun z=>(List.mem_cons.mp z).resolve_left (fun q=>c q.symm)⟩
theorem isB_1{es:List E2}{e:E2}(h:(!((lvP es (onP e.2 e.1)).map d2).any fun x=>x.eqv (d2 e.1))=true):isB es e=true:=by
 rw[znt] at h;unfold isB
 cases z:decide (e.1∈lvP es (onP e.2 e.1)) with
 |true=>rw[z] at h;cases h
 |false=>rfl
theorem isB_2{es:List E2}{e:E2}(h:(!str es (onP e.2 e.1) e.1)=true):isB es e=true:=by
 unfold isB
 cases z:str es (onP e.2 e.1) e.1 with
 |true=>rw[z] at h;cases h
 |false=>rw[Bool.and_false];rfl
theorem isB_3{es:List E2}{e:E2}(h1:¬(!((lvP es (onP e.2 e.1)).map d2).any fun x=>x.eqv (d2 e.1))=true)(h2:¬(!str es (onP e.2 e.1) e.1)=true):¬isB es e=true:=by
 rw[znt] at h1;unfold isB
 cases z:decide (e.1∈lvP es (onP e.2 e.1)) with
 |false=>rw[z] at h1;exact absurd rfl h1
 |true=>
  cases z':str es (onP e.2 e.1) e.1 with
  |false=>rw[z'] at h2;exact absurd rfl h2
  |true=>decide
theorem zjz(T:Txt K mg ad fd):FnOk P w K mg base CX0 2 (ad 20) (fd 20) ["_law_edges_here"] sp_long:=by
 refine T.law_long.fn.ok zar (fun vs H Q E h=>?_) (fun cdv A outer s H vs Q E hr h=>?_)
 ·obtain⟨l,ys,es,rfl,_⟩:=h;rfl
 obtain⟨l,ys,es,rfl,hl,hn,he,nd,⟨cs0,Eg⟩,k⟩:=h;have lse:=he.1;have hbx:∀e,e∈es->Bx e.1/\Bx e.2:=fun e hm=>by
  obtain⟨j,hj⟩:=List.mem_iff_getElem?.mp hm;obtain⟨p,f,_,e2,e3⟩:=he.at (j:=j) (by rw[lse];exact(List.getElem?_eq_some_iff.mp hj).1)
  rw[hj] at e2
  cases e2;exact⟨e3.2.1,e3.2.2.1⟩
 obtain⟨tl,htl,hk⟩:∃tl,PSs (cxOf CX0 P w K mg base ["_law_edges_here","_law_starts","_law_first","_law_last","_law_ways","_law_back","_law_begin","_law_end"] "_law_long" (za0 zb6) (ad 20) cdv A outer s H E).nox ((za4 zb6).drop 2) tl/\∀(d:Addr)(kvs:List (List Key×V))(H1:Hp)(o1 o2:Option V),LvP H H1 d kvs es->
   tl {nx:=fun _ H'=>Q .non H',rt:=Q} [some (.ref l),some (.ref d),o1,o2,none,none,none,none] H1:=by
  have zC:=@pss3;have zd:=@zbu;have zt:=@zdr;have zw:=@zcl;have zq:=@zd8;have zp:=@zc1;have qpv:=@pv;have zK:=@zfb;have zE:=@ze8;have zm:=@zbw;have zL:=@zfd;have zB:=@pss2;have zk:=@zcv;have zh:=@pa2;have zb:=@zdv;have za:=@zbt;have zc:=@ze3;have zn:=@zen;have zS:=@PW.pt;have zP:=@pw_or;have zu:=@zd1;have yi:=@zlf;have zT:=@zm3;have zY:=@zot;have zH:=@zgl;have zj:=@zbv;have zr:=@pa3;have zD:=@pss4;have ya:=@zha;have zf:=@zaf;have yh:=@ps_par;have zv:=@zdb;have zA:=@zhk;have zg:=@pa1;have zo:=@zc0;have ze:=@zb3;generalize @L2.PE=QE,@L2.PT=QT,@L2.PW=QW,@L2.PA=QA,@L2.PS=QS,@L2.PSs=QSs,@L2.PG=QG,@L2.PGs=QGs,@L2.PI=QI,@L2.PO=QO,@L2.PIf=QIf at zC zd zt zw zq zp qpv zK zE zm zL zB zk zh zb za zc zn zS zP zu yi zT zY zH zj zr zD ya zf yh zv zA zg zo ze⊢;refine⟨_,
  (zC
   (zd (i:=4) zar.nd rfl (Or.inl rfl) (zt zw))
   (zq PassesOwn.never rfl (zp (qpv 0)) (zK (n:=2) rfl (zE (zm (i:=2) zar.nd rfl (Or.inl rfl)) (zE (zm (i:=3) zar.nd rfl (Or.inl rfl)) zL))) (zB
   (zd (i:=5) zar.nd rfl (Or.inl rfl) (zk (zh (zb zde (zb zdf za (zc za6 (qpv 2) za (fun _ _=>rfl))) (zc za6 (qpv 3) za (fun _ _=>rfl))) zac (zb zde (zb zdf za (zc za6 (qpv 2) za (fun _ _=>rfl))) (zc za6 (qpv 3) za (fun _ _=>rfl))) zac)))
   (zn (zS (zP (zu (zp8 (K':=K) rfl (hu64 hr)) (qpv 2) (yi (zda hr) (qpv 1) (qpv 5) (zt zw) ⟨rfl,rfl,rfl,rfl⟩) rfl) (zT (zY (zH (zj (ze4 T) (hr.mono (by decide)) rfl T.law_straight.mg T.law_straight.fn.kp T.law_straight.bn .nil pass0 (zr (qpv 1) za2 (qpv 5) za2 (qpv 2) za2))))))) (zD
   (zd (i:=6) zar.nd rfl (Or.inl rfl) (qpv 2))
   (zd (i:=7) zar.nd rfl (Or.inl rfl) (qpv 3))
   (ya PassesOwn.never (zH (zj (ze4 T) (hr.mono (by decide)) rfl T.law_straight.mg T.law_straight.fn.kp T.law_straight.bn .nil pass0 (zr (qpv 1) za2 (qpv 6) za2 (qpv 7) za2))) (zf (yh (i:=6) (j:=7) rfl zar.nd rfl rfl (by decide) rfl rfl (zh (qpv 7) za2 (zk (zh (zb zde (zb zdf za (zc za6 (qpv 7) za (fun _ _=>rfl))) (zc za6 (qpv 6) za (fun _ _=>rfl))) zac (zb zde (zb zdf za (zc za6 (qpv 7) za (fun _ _=>rfl))) (zc za6 (qpv 6) za (fun _ _=>rfl))) zac)) zai) rfl)))
   (zv (zA PySem.F.plainAttrs_list PySem.F.slot_list_append PySem.F.type_list_append zbo (qpv 4) (zg (zk (zh (qpv 2) za2 (qpv 7) za2)) zai)))) zo)))
   (ze (qpv 4)))
   ,fun d kvs H1 o1 o2 st=>?_⟩
  clear zC zd zt zw zq zp qpv zK zE zm zL zB zk zh zb za zc zn zS zP zu yi zT zY zH zj zr zD ya zf yh zv zA zg zo ze QE QT QW QA QS QSs QG QGs QI QO QIf;simp! [];intro W hW;have nW:∀k,valV kvs (kP k)≠some (.ref W):=fun k z=>by
   obtain⟨a,zs,e1,_,e3,_⟩:=st.ent k _ z
   cases e1;rw[hW] at e3
   cases e3
  have hW0:=st.same.free hW;have gW:=za1 hW (HO.lst []);refine zbk ?_;simp! [zcx];refine⟨⟨_,.of (gW _ _ (st.same _ _ hl))⟩,?_⟩;refine zaz (K:=K) (a:=l) (xs:=ys) (fun i σ H'=>LvP H H' d kvs es/\∃(zs:List V)(ws:List E2)(o1 o2 o3 o4 o5:Option V),σ=[some (.ref l),some (.ref d),o1,o2,some (.ref W),o3,o4,o5]/\H' W=some (.lst zs)/\zs.length<=i/\LR WyH H' zs ws/\FcR es ((es.take i).filter (isB es)) ws) ⟨st.mono gW,[],[],o1,o2,none,none,none,rfl,upd_same,Nat.le_refl _,.nil,rfl,fun j e w h=>(by rw[List.take_zero] at h;cases h)⟩ (fun i σ H' _ iv=>.of (iv.1.same _ _ hl)) ?_ ?_
  ·intro _ _;rintro i v σ H2 hi ⟨st2,zs,ws,o1,o2,o3,o4,o5,rfl,hW2,hz,hws,fc⟩;obtain⟨p,e,rfl,he',⟨c,c2,h1,h2,h3⟩,b1,b2,ne⟩:=he.2 i v hi;have hi':=(List.getElem?_eq_some_iff.mp hi).1;have h1':=st2.same _ _ h1;have h2':H2 c=some (.tup [.int e.1.1,.int e.1.2]):=st2.same _ _ h2;have h3':H2 c2=some (.tup [.int e.2.1,.int e.2.2]):=st2.same _ _ h3;simp! [h1',h2',h3'];refine⟨.inl ⟨by decide,by decide⟩,.inl ⟨by decide,by decide⟩,fun t ht=>?_⟩
   have g3:=za1 ht (HO.tup [V.int (2*e.1.1-e.2.1),V.int (2*e.1.2-e.2.2)]);have ht3:P2H (upd H2 t (HO.tup [V.int (2*e.1.1-e.2.1),V.int (2*e.1.2-e.2.2)])) t (onP e.2 e.1):=upd_same;generalize upd H2 t (HO.tup [V.int (2*e.1.1-e.2.1),V.int (2*e.1.2-e.2.2)])=H3 at*;have st3:=st2.mono g3;have f3:P2H H3 c e.1:=g3 _ _ h2';have l3:P2H H3 c2 e.2:=g3 _ _ h3';simp! [zo9,zjs];refine⟨zny st3.at_,fun u hu=>?_⟩;have g4:=za1 hu (HO.lst []);have hu4:upd H3 u (HO.lst []) u=some (HO.lst []):=upd_same;generalize upd H3 u (HO.lst [])=H4 at*;have st4:=st3.mono g4;refine⟨valV kvs (kP (onP e.2 e.1)),.t (k:=kP (onP e.2 e.1)) st4.at_ (g4 _ _ ht3),?_⟩;obtain⟨L,us,hLv,hL4,hus⟩:∃L us,(valV kvs (kP (onP e.2 e.1))).getD (V.ref u)=.ref L/\H4 L=some (.lst us)/\LR P2H H4 us (lvP es (onP e.2 e.1)):=by
    cases ev:valV kvs (kP (onP e.2 e.1)) with
    |none=>exact⟨u,[],rfl,hu4,by rw[st4.non _ ev];exact .nil⟩
    |some v=>
     obtain⟨L,us,rfl,_,q3,q4⟩:=st4.ent _ _ ev;exact⟨L,us,rfl,q3,q4⟩
   have hcs:=rd_p2 (K:=K) hus;have hem:=List.mem_of_getElem? he';have tk:es.take (i+1)=es.take i++[e]:=by rw[List.take_add_one,he'];rfl
   have hWW4:∀{H7:Hp},Same H4 H7->H7 W=some (.lst zs):=fun g=>g _ _ (g4 _ _ (g3 _ _ hW2));refine⟨d2 e.1,rd_2 (zec _ _ _ _ (za9 g4) f3),(lvP es (onP e.2 e.1)).map d2,?_,(znu e.1).1,(d2s_lay _).1,Nat.le_trans (znu e.1).2 (by decide),ite2 (fun x1=>?_) (fun x1=>?_)⟩
   ·rw[hLv,RdD];exact⟨L,us,rfl,.of hL4,hcs⟩
   ·refine zlk (fun σ H'=>Same H4 H'/\∃(pb pe:Addr)(b e':Int×Int),σ=[some (V.ref l),some (V.ref d),some (V.ref c),some (V.ref c2),some (V.ref W),some (V.ref t),some (V.ref pb),some (V.ref pe)]/\P2H H' pb b/\P2H H' pe e'/\Bx e'/\e'.1-b.1=e.2.1-e.1.1/\e'.2-b.2=e.2.2-e.1.2/\∀x,Goes es b e' x->Goes es e.1 e.2 x) (fun σ H'=>mu (e.2.1-e.1.1) (e.2.2-e.1.2) H' σ) ⟨.refl _,c,c2,e.1,e.2,rfl,(zec _ _ _ _ (za9 g4) f3),(zec _ _ _ _ (za9 g4) l3),b2,rfl,rfl,fun _ q=>q⟩ ?_;rintro σ H6 ⟨g6,pb,pe,b,e',rfl,hpb,hpe,bx,hdx,hdy,hgo⟩;have st6:=st4.mono g6;simp! [];refine⟨H,d,pb,pe,kvs,es,b,e',rfl,st6,by omega,hpb,hpe,fun H7 g7=>⟨_,rfl,ite2 (fun cc=>?_) (fun cc=>?_)⟩⟩
    ·have hpb7:H7 pb=some (.tup [.int b.1,.int b.2]):=g7 _ _ hpb;have hpe7:H7 pe=some (.tup [.int e'.1,.int e'.2]):=g7 _ _ hpe;have bn:=(hbx _ (zjv cc)).2;refine⟨fun σ' H'=>(Same H4 H'/\∃(pb pe:Addr)(b e':Int×Int),σ'=[some (V.ref l),some (V.ref d),some (V.ref c),some (V.ref c2),some (V.ref W),some (V.ref t),some (V.ref pb),some (V.ref pe)]/\P2H H' pb b/\P2H H' pe e'/\Bx e'/\e'.1-b.1=e.2.1-e.1.1/\e'.2-b.2=e.2.2-e.1.2/\∀x,Goes es b e' x->Goes es e.1 e.2 x)/\mu (e.2.1-e.1.1) (e.2.2-e.1.2) H' σ'<mu (e.2.1-e.1.1) (e.2.2-e.1.2) H6 [some (V.ref l),some (V.ref d),some (V.ref c),some (V.ref c2),some (V.ref W),some (V.ref t),some (V.ref pb),some (V.ref pe)],fun σ' H'⟨⟨a1,pb,pe,b,e',a2,a3,a4,a5⟩,p2⟩=>⟨_,p2,rfl,a1,pb,pe,a2,b,a3,e',a4,a5⟩,?_⟩;simp! [hpb7,hpe7];refine⟨.inl ⟨by decide,by decide⟩,.inl ⟨by decide,by decide⟩,fun p hp=>?_⟩
     have n0:¬(e.2.1-e.1.1=0/\e.2.2-e.1.2=0):=fun z=>ne (Prod.ext (by omega) (by omega))
     have g8:=za1 hp (HO.tup [V.int (2*e'.1-b.1),V.int (2*e'.2-b.2)]);have hn8:P2H (upd H7 p (HO.tup [V.int (2*e'.1-b.1),V.int (2*e'.2-b.2)])) p (onP b e'):=upd_same;have hpe8:P2H (upd H7 p (HO.tup [V.int (2*e'.1-b.1),V.int (2*e'.2-b.2)])) pe e':=g8 _ _ hpe7;refine⟨(g6.trans g7).trans g8,⟨e',hpe8,onP b e',hn8,bn,?_,?_,fun x q=>hgo x (.step cc q)⟩,?_⟩
     ·show 2*e'.1-b.1-e'.1=_
      omega
     ·show 2*e'.2-b.2-e'.2=_
      omega
     ·rw[mu_of hn8,mu_of hpe];exact zpi bx bn (by show 2*e'.1-b.1-e'.1=_;omega) (by show 2*e'.2-b.2-e'.2=_;omega) n0
    ·have g67:=g6.trans g7;have hW7:=hWW4 g67;have c7:P2H H7 c e.1:=g67 _ _ (zec _ _ _ _ (za9 g4) f3);have pe7:P2H H7 pe e':=g7 _ _ hpe;have st7:=st6.mono g7;have ws7:=hws.ts zkg (za9 ((g3.trans g4).trans g67));refine⟨zd5 hW7,fun p hp=>?_⟩;have g8:=za1 hp (HO.tup [V.ref c,V.ref pe]);have hW8:=g8 _ _ hW7;have st8:=st7.mono g8;have hp8:upd H7 p (HO.tup [V.ref c,V.ref pe]) p=some (HO.tup [V.ref c,V.ref pe]):=upd_same;have c8:P2H (upd H7 p (HO.tup [V.ref c,V.ref pe])) c e.1:=g8 _ _ c7;have pe8:P2H (upd H7 p (HO.tup [V.ref c,V.ref pe])) pe e':=g8 _ _ pe7;have ws8:=ws7.ts zkg (za9 g8);generalize upd H7 p (HO.tup [V.ref c,V.ref pe])=H8 at*;have gw:zad H8 (upd H8 W (HO.lst (zs++[V.ref p]))):=fun b xs q=>by
      rw[za5 (fun z=>by rw[z,hW8] at q;cases q)]
      exact q
     refine⟨zs,hW8,Nat.lt_of_le_of_lt (Nat.le_trans hz (Nat.le_trans (Nat.le_of_lt hi') hn)) (by decide),st8.keep hW8 hW0 nW,?_,_,(ws8.ts zkg gw).snoc (a:=(e.1,e')) ⟨⟨c,pe,gw _ _ hp8,gw _ _ c8,gw _ _ pe8⟩,b1,bx⟩,?_⟩
     ·rw[List.length_append];exact Nat.succ_le_succ hz
     ·rw[tk,List.filter_append,show[e].filter (isB es)=[e] from List.filter_cons_of_pos (isB_1 x1)];exact fc.snoc rfl (hgo _ (.stop (Bool.eq_false_iff.mpr cc)))
   ·refine⟨H,d,t,c,kvs,es,onP e.2 e.1,e.1,rfl,st4,by omega,g4 _ _ ht3,g4 _ _ f3,fun H5 g5=>⟨_,rfl,ite2 (fun x2=>?_) (fun x2=>?_)⟩⟩
    ·have st5:=st4.mono g5;have f5:P2H H5 c e.1:=g5 _ _ (g4 _ _ f3);have l5:P2H H5 c2 e.2:=g5 _ _ (g4 _ _ l3);have hWW5:∀{H7:Hp},Same H5 H7->H7 W=some (.lst zs):=fun g=>g _ _ (g5 _ _ (g4 _ _ (g3 _ _ hW2)));refine zlk (fun σ H'=>Same H5 H'/\∃(pb pe:Addr)(b e':Int×Int),σ=[some (V.ref l),some (V.ref d),some (V.ref c),some (V.ref c2),some (V.ref W),some (V.ref t),some (V.ref pb),some (V.ref pe)]/\P2H H' pb b/\P2H H' pe e'/\Bx e'/\e'.1-b.1=e.2.1-e.1.1/\e'.2-b.2=e.2.2-e.1.2/\∀x,Goes es b e' x->Goes es e.1 e.2 x) (fun σ H'=>mu (e.2.1-e.1.1) (e.2.2-e.1.2) H' σ) ⟨.refl _,c,c2,e.1,e.2,rfl,f5,l5,b2,rfl,rfl,fun _ q=>q⟩ ?_;rintro σ H6 ⟨g6,pb,pe,b,e',rfl,hpb,hpe,bx,hdx,hdy,hgo⟩;have st6:=st5.mono g6;simp! [];refine⟨H,d,pb,pe,kvs,es,b,e',rfl,st6,by omega,hpb,hpe,fun H7 g7=>⟨_,rfl,ite2 (fun cc=>?_) (fun cc=>?_)⟩⟩
     ·have hpb7:H7 pb=some (.tup [.int b.1,.int b.2]):=g7 _ _ hpb;have hpe7:H7 pe=some (.tup [.int e'.1,.int e'.2]):=g7 _ _ hpe;have bn:=(hbx _ (zjv cc)).2;refine⟨fun σ' H'=>(Same H5 H'/\∃(pb pe:Addr)(b e':Int×Int),σ'=[some (V.ref l),some (V.ref d),some (V.ref c),some (V.ref c2),some (V.ref W),some (V.ref t),some (V.ref pb),some (V.ref pe)]/\P2H H' pb b/\P2H H' pe e'/\Bx e'/\e'.1-b.1=e.2.1-e.1.1/\e'.2-b.2=e.2.2-e.1.2/\∀x,Goes es b e' x->Goes es e.1 e.2 x)/\mu (e.2.1-e.1.1) (e.2.2-e.1.2) H' σ'<mu (e.2.1-e.1.1) (e.2.2-e.1.2) H6 [some (V.ref l),some (V.ref d),some (V.ref c),some (V.ref c2),some (V.ref W),some (V.ref t),some (V.ref pb),some (V.ref pe)],fun σ' H'⟨⟨a1,pb,pe,b,e',a2,a3,a4,a5⟩,p2⟩=>⟨_,p2,rfl,a1,pb,pe,a2,b,a3,e',a4,a5⟩,?_⟩;simp! [hpb7,hpe7];refine⟨.inl ⟨by decide,by decide⟩,.inl ⟨by decide,by decide⟩,fun p hp=>?_⟩
      have n0:¬(e.2.1-e.1.1=0/\e.2.2-e.1.2=0):=fun z=>ne (Prod.ext (by omega) (by omega))
      have g8:=za1 hp (HO.tup [V.int (2*e'.1-b.1),V.int (2*e'.2-b.2)]);have hn8:P2H (upd H7 p (HO.tup [V.int (2*e'.1-b.1),V.int (2*e'.2-b.2)])) p (onP b e'):=upd_same;have hpe8:P2H (upd H7 p (HO.tup [V.int (2*e'.1-b.1),V.int (2*e'.2-b.2)])) pe e':=g8 _ _ hpe7;refine⟨(g6.trans g7).trans g8,⟨e',hpe8,onP b e',hn8,bn,?_,?_,fun x q=>hgo x (.step cc q)⟩,?_⟩
      ·show 2*e'.1-b.1-e'.1=_
       omega
      ·show 2*e'.2-b.2-e'.2=_
       omega
      ·rw[mu_of hn8,mu_of hpe];exact zpi bx bn (by show 2*e'.1-b.1-e'.1=_;omega) (by show 2*e'.2-b.2-e'.2=_;omega) n0
     ·have g67:=g6.trans g7;have hW7:=hWW5 g67;have c7:P2H H7 c e.1:=g67 _ _ f5;have pe7:P2H H7 pe e':=g7 _ _ hpe;have st7:=st6.mono g7;have ws7:=hws.ts zkg (za9 (((g3.trans g4).trans g5).trans g67));refine⟨zd5 hW7,fun p hp=>?_⟩;have g8:=za1 hp (HO.tup [V.ref c,V.ref pe]);have hW8:=g8 _ _ hW7;have st8:=st7.mono g8;have hp8:upd H7 p (HO.tup [V.ref c,V.ref pe]) p=some (HO.tup [V.ref c,V.ref pe]):=upd_same;have c8:P2H (upd H7 p (HO.tup [V.ref c,V.ref pe])) c e.1:=g8 _ _ c7;have pe8:P2H (upd H7 p (HO.tup [V.ref c,V.ref pe])) pe e':=g8 _ _ pe7;have ws8:=ws7.ts zkg (za9 g8);generalize upd H7 p (HO.tup [V.ref c,V.ref pe])=H8 at*;have gw:zad H8 (upd H8 W (HO.lst (zs++[V.ref p]))):=fun b xs q=>by
       rw[za5 (fun z=>by rw[z,hW8] at q;cases q)]
       exact q
      refine⟨zs,hW8,Nat.lt_of_le_of_lt (Nat.le_trans hz (Nat.le_trans (Nat.le_of_lt hi') hn)) (by decide),st8.keep hW8 hW0 nW,?_,_,(ws8.ts zkg gw).snoc (a:=(e.1,e')) ⟨⟨c,pe,gw _ _ hp8,gw _ _ c8,gw _ _ pe8⟩,b1,bx⟩,?_⟩
      ·rw[List.length_append];exact Nat.succ_le_succ hz
      ·rw[tk,List.filter_append,show[e].filter (isB es)=[e] from List.filter_cons_of_pos (isB_2 x2)];exact fc.snoc rfl (hgo _ (.stop (Bool.eq_false_iff.mpr cc)))
    ·refine⟨st4.mono g5,zs,hWW4 g5,by omega,ws,hws.ts zkg (za9 ((g3.trans g4).trans g5)),?_⟩
     rw[tk,List.filter_append,show[e].filter (isB es)=[] from List.filter_cons_of_neg (isB_3 x1 x2),List.append_nil];exact fc
  ·rintro σ H2 ⟨st2,zs,ws,o1,o2,o3,o4,o5,rfl,hW2,hz,hws,fc⟩;simp! [];rw[List.take_of_length_le (Nat.le_of_eq lse.symm)] at fc;exact k W zs ws H2 hW0 st2.same hW2 (by omega) hws (wys_of Eg nd fc)
 have yl:=@zab;have zd:=@zbu;have zO:=@zf4;have zq:=@zd8;have zp:=@zc1;have qpv:=@pv;have zK:=@zfb;have zE:=@ze8;have zm:=@zbw;have zL:=@zfd;have zf:=@zaf;have zv:=@zdb;have zA:=@zhk;have yg:=@pe_dsd;have zt:=@zdr;have zw:=@zcl;have zg:=@pa1;generalize @L2.PE=QE,@L2.PT=QT,@L2.PW=QW,@L2.PA=QA,@L2.PS=QS,@L2.PSs=QSs,@L2.PG=QG,@L2.PGs=QGs,@L2.PI=QI,@L2.PO=QO,@L2.PIf=QIf at yl zd zO zq zp qpv zK zE zm zL zf zv zA yg zt zw zg htl⊢;refine⟨_,
  (yl (zd (i:=1) zar.nd rfl (Or.inl rfl) zO)
   (yl (zq PassesOwn.never rfl (zp (qpv 0)) (zK (n:=2) rfl (zE (zm (i:=2) zar.nd rfl (Or.inl rfl)) (zE (zm (i:=3) zar.nd rfl (Or.inl rfl)) zL))) (zf (zv (zA PySem.F.plainAttrs_list PySem.F.slot_list_append PySem.F.type_list_append zbo (yg (zda hr) (qpv 1) (qpv 2) (zt zw) ⟨rfl,rfl,rfl,rfl⟩) (zg (qpv 3) za2)))))
   htl))
  ,?_⟩
 clear htl yl zd zO zq zp qpv zK zE zm zL zf zv zA yg zt zw zg QE QT QW QA QS QSs QG QGs QI QO QIf;simp! [zje];intro d hd;have g1:=za1 hd (HO.dT []);have st0:LvP H (upd H d (HO.dT [])) d [] (es.take 0):=⟨g1,hd,upd_same,Nat.zero_le _,(fun k v e=>by cases e),fun p z=>rfl,fun p p' v z=>by cases z⟩
 refine zbk ?_;simp! [zcx];refine⟨⟨_,.of (g1 _ _ hl)⟩,?_⟩;refine zaz (K:=K) (a:=l) (xs:=ys) (fun i σ H'=>∃(kvs:List (List Key×V))(o1 o2:Option V),σ=[some (.ref l),some (.ref d),o1,o2,none,none,none,none]/\LvP H H' d kvs (es.take i)) ⟨[],none,none,rfl,st0⟩ (fun i σ H' _ iv=>by
  obtain⟨kvs,o1,o2,_,h⟩:=iv;exact .of (h.same _ _ hl)) ?_ ?_
 ·intro _ _;rintro i v σ H2 hi ⟨kvs,o1,o2,rfl,st⟩;obtain⟨p,e,rfl,he',⟨c,d2',h1,h2,h3⟩,b1,b2,ne⟩:=he.2 i v hi;have hi':=(List.getElem?_eq_some_iff.mp hi).1;have h1':=st.same _ _ h1;have h2':P2H H2 c e.1:=st.same _ _ h2;have h3':P2H H2 d2' e.2:=st.same _ _ h3;simp! [tDSd,h1'];refine⟨zny st.at_,fun t ht=>?_⟩;refine st.app (p:=e.1) (q:=e.2) (by rw[List.length_take];omega) h2' h3' ht fun l1 H4 zs kvs' h4 z4 st4=>?_
  rw[List.take_add_one,he'];exact⟨zd5 h4,l1,rfl,zs,h4,z4,kvs',st4⟩
 ·rintro σ H2 ⟨kvs,o1,o2,rfl,st⟩;rw[List.take_of_length_le (Nat.le_of_eq lse.symm)] at st;exact hk d kvs H2 o1 o2 st
def sp_moved:Sp:=fun vs H Q _=>∃(a l:Addr)(x:Int×Int)(f:Fr),vs=[.ref a,.ref l]/\P2H H a x/\FmH H l f/\Bx x/\∀p H',Same H H'->P2H H' p (mv f x)->Q (.ref p) H'
theorem zfj(T:Txt K mg ad fd):FnOk P w K mg base CX0 1 (ad 22) (fd 22) ["_law_place","_law_frame_here"] sp_moved:=by
 refine T.law_moved.fn.ok zfm (fun vs H Q E h=>?_) (fun cdv A outer s H vs Q E hr h=>?_)
 ·obtain⟨a,l,x,f,rfl,_⟩:=h;rfl
 obtain⟨a,l,x,f,rfl,hx,⟨xs,hl,a0,a1,a2,a3,a4,a5,a6,fb⟩,bx,k⟩:=h;unfold P2H at hx;have zB:=@pss2;have zd:=@zbu;have zb:=@zdv;have zc:=@ze3;have qpv:=@pv;have za:=@zbt;have ze:=@zb3;have zk:=@zcv;have zh:=@pa2;generalize @L2.PE=QE,@L2.PT=QT,@L2.PW=QW,@L2.PA=QA,@L2.PS=QS,@L2.PSs=QSs,@L2.PG=QG,@L2.PGs=QGs,@L2.PI=QI,@L2.PO=QO,@L2.PIf=QIf at zB zd zb zc qpv za ze zk zh⊢;refine⟨_,
  (zB
   (zd (i:=2) zfm.nd rfl (Or.inl rfl) (zb zb7 (zb zb7 (zb zas (zc zak (qpv 1) za (fun _ _=>rfl)) (zc za6 (qpv 0) za (fun _ _=>rfl))) (zb zas (zc zak (qpv 1) za (fun _ _=>rfl)) (zc za6 (qpv 0) za (fun _ _=>rfl)))) (zc zak (qpv 1) za (fun _ _=>rfl))))
   (ze (zk (zh (qpv 2) za2 (zb zb7 (zb zb7 (zb zas (zc zak (qpv 1) za (fun _ _=>rfl)) (zc za6 (qpv 0) za (fun _ _=>rfl))) (zb zas (zc zak (qpv 1) za (fun _ _=>rfl)) (zc za6 (qpv 0) za (fun _ _=>rfl)))) (zc zak (qpv 1) za (fun _ _=>rfl))) zac))))
  ,?_⟩
 clear zB zd zb zc qpv za ze zk zh QE QT QW QA QS QSs QG QGs QI QO QIf
 dsimp! [L2.start]
 simp! [hx,hl,a0,a1,a2,a3,a4,a5];obtain⟨⟨f1,f2⟩,⟨f3,f4⟩,⟨f5,f6⟩,⟨f7,f8⟩,_⟩:=fb;obtain⟨x1,x2,x3,x4⟩:=bx;have e8:(2:Nat)^10=1024:=rfl;exact⟨cbig (m:=10) (n:=10) (by omega) (by omega),cbig (m:=10) (n:=10) (by omega) (by omega),cbig (m:=10) (n:=10) (by omega) (by omega),cbig (m:=10) (n:=10) (by omega) (by omega),fun p hp=>k p _ (za1 hp _) upd_same⟩
def MwH(f:Fr)(H:Hp)(p:Addr)(e:E2):Prop:=(∃c d,H p=some (.tup [.ref c,.ref d])/\P2H H c (mv f e.1)/\P2H H d (mv f e.2))/\Bx e.1/\Bx e.2
theorem zmz{f:Fr}:∀(H H':Hp)(p:Addr)(e:E2),zad H H'->MwH f H p e->MwH f H' p e:=fun _ _ _ _ g⟨⟨c,d,h1,h2,h3⟩,b⟩=>⟨⟨c,d,g _ _ h1,g _ _ h2,g _ _ h3⟩,b⟩
def sp_land:Sp:=fun vs H Q _=>∃(l m:Addr)(zs:List V)(cs:List (Int×Int×Int))(f:Fr),vs=[.ref l,.ref m]/\H l=some (.lst zs)/\zs.length<=48/\LR C3H H zs cs/\FmH H m f/\∀D ys ws es H',H D=none->Same H H'->H' D=some (.lst ys)->ys.length<=144->LR (MwH f) H' ys ws->Edg cs es->Wys es ws->Q (.ref D) H'
theorem zk0(T:Txt K mg ad fd):FnOk P w K mg base CX0 3 (ad 23) (fd 23) ["_law_cells_here","_law_frame_here"] sp_land:=by
 refine T.law_land.fn.ok zge (fun vs H Q E h=>?_) (fun cdv A outer s H vs Q E hr h=>?_)
 ·obtain⟨l,m,zs,cs,f,rfl,_⟩:=h;rfl
 obtain⟨l,m,zs,cs,f,rfl,hl,hn,hz,hf,k⟩:=h;have zB:=@pss2;have zX:=@zkb;unfold L2.CompBody at zX;have zp:=@zc1;have zj:=@zbv;have zg:=@pa1;have qpv:=@pv;have zK:=@zfb;have zE:=@ze8;have zm:=@zbw;have zL:=@zfd;have zF:=@zel;have zk:=@zcv;have zh:=@pa2;have ze:=@zb3;have zy:=@zd7;generalize @L2.PE=QE,@L2.PT=QT,@L2.PW=QW,@L2.PA=QA,@L2.PS=QS,@L2.PSs=QSs,@L2.PG=QG,@L2.PGs=QGs,@L2.PI=QI,@L2.PO=QO,@L2.PIf=QIf at zB zX zp zj zg qpv zK zE zm zL zF zk zh ze zy⊢;refine⟨_,
  (zB
   (zX (i:=2) zge.nd rfl (Or.inl rfl) (dsc:=za0 zbj) (N:=["_law_cells_here","_law_frame_here","_law_ways"]) (own:=["_law_first","_law_last"]) (ix:=[1]) rfl rfl rfl ⟨rfl,by decide+kernel,by decide+kernel,by decide+kernel,by decide+kernel⟩ (zp (zj (zjz T) (hr.mono (by decide)) rfl T.law_long.mg T.law_long.fn.kp T.law_long.bn .nil pass0 (zg (zj (zjp T) (hr.mono (by decide)) rfl T.law_edges.mg T.law_edges.fn.kp T.law_edges.bn .nil pass0 (zg (qpv 0) za2)) zck))) (fun cl C fp s2 H2 xe=>⟨(zK (n:=2) rfl (zE (zm (i:=0) (show List.Nodup (["_law_first","_law_last","_law_frame_here"]:List Str) from by decide+kernel) rfl (Or.inl rfl) (Or.inr rfl)) (zE (zm (i:=1) (show List.Nodup (["_law_first","_law_last","_law_frame_here"]:List Str) from by decide+kernel) rfl (Or.inl rfl) (Or.inr rfl)) zL))),zF,(zk (zh (zj (zfj T) (hr.mono (by decide)) rfl T.law_moved.mg T.law_moved.fn.kp T.law_moved.bn .nil pass0 (zh (qpv 0) za2 (qpv 2) za2)) zck (zj (zfj T) (hr.mono (by decide)) rfl T.law_moved.mg T.law_moved.fn.kp T.law_moved.bn .nil pass0 (zh (qpv 1) za2 (qpv 2) za2)) zck))⟩))
   (ze (zy (zm6 (hu100 hr)) rfl T.b_sorted zg6 (zg (qpv 2) za2))))
  ,?_⟩
 clear zB zX zp zj zg qpv zK zE zm zL zF zk zh ze zy QE QT QW QA QS QSs QG QGs QI QO QIf
 dsimp! [L2.start]
 simp! [];refine zd2 ?_;simp! [zcx];refine⟨l,zs,cs,rfl,hl,hn,hz,fun D1 ys es H1 hD1 g1 h1 n1 he nd Eg=>?_⟩;refine⟨D1,ys,es,rfl,h1,n1,he,nd,⟨cs,Eg⟩,fun D2 zs2 ws H2 hD2 g2 h2 n2 hw W=>?_⟩;have g02:=g1.trans g2;refine⟨D2,rfl,⟨_,.of h2⟩,fun D3 hD3=>?_⟩;refine zcs (xs:=zs2) (zk6 (MwH f) ws H2 D3) (zeq hD3) (fun i qs H' q=>.of (q.1 _ _ h2)) ?_ ?_
 ·rintro i qs H3 v hi hv iv;obtain⟨g3,hD33,lq,hq⟩:=id iv;obtain⟨p,e,rfl,he',⟨c,d,e1,e2,e3⟩,b1,b2⟩:=hw.2 i v hv;have e1':=g3 _ _ e1;simp! [e1'];refine⟨c,m,e.1,f,rfl,g3 _ _ e2,hf.same (g02.trans g3),b1,fun pa H4 g4 ha=>?_⟩;refine⟨d,m,e.2,f,rfl,g4 _ _ (g3 _ _ e3),hf.same ((g02.trans g3).trans g4),b2,fun pb H5 g5 hb=>?_⟩;intro t ht;have g6:=za1 ht (HO.tup [V.ref pa,V.ref pb]);have h6:upd H5 t (HO.tup [V.ref pa,V.ref pb]) t=some (HO.tup [V.ref pa,V.ref pb]):=upd_same;generalize upd H5 t (HO.tup [V.ref pa,V.ref pb])=H6 at*;have a6:P2H H6 pa (mv f e.1):=g6 _ _ (g5 _ _ ha);have b6:P2H H6 pb (mv f e.2):=g6 _ _ hb;exact zf1 zmz hD3 (by omega) iv hi he' ((g4.trans g5).trans g6) ⟨⟨pa,pb,h6,a6,b6⟩,b1,b2⟩
 ·rintro qs H3 ⟨g3,hD33,lq,hq⟩;rw[List.take_of_length_le (Nat.le_of_eq hw.1.symm)] at hq;have g03:=g02.trans g3;refine⟨D3,qs,rfl,hD33,?_,fun D4 qs4 hD4 pm=>?_⟩
  ·intro v hv;obtain⟨j,hj⟩:=List.getElem?_of_mem hv;obtain⟨p,e,rfl,_,⟨c,d,e1,e2,e3⟩,_⟩:=hq.2 j v hj;exact⟨p,c,d,_,_,_,_,rfl,e1,e2,e3⟩
  ·obtain⟨ws',pw,hw'⟩:=LR.perm pm.symm hq;have g4:=za1 hD4 (HO.lst qs4);exact k D4 qs4 ws' es _ (g03.free hD4) (g03.trans g4) upd_same (by rw[pm.length_eq];omega) (hw'.ts zmz (za9 g4)) Eg ⟨pw.nodup_iff.mp W.nd,fun w hw=>W.of w (pw.mem_iff.mpr hw),fun a k h1 h2=>by
    obtain⟨c,m,z1,z2⟩:=W.all a k h1 h2;exact⟨c,m,pw.mem_iff.mp z1,z2⟩⟩
def sp_told:Sp:=fun vs H Q _=>∃(l:Addr)(ys:List V)(ws:List E2)(f:Fr),vs=[.ref l,.int f.w]/\H l=some (.lst ys)/\ys.length<=144/\LR (MwH f) H ys ws/\FrB f/\∀D zs H',H D=none->Same H H'->H' D=some (.lst zs)->LR S2H H' zs (ws.map (tdF f))->Q (.ref D) H'
theorem zl0(T:Txt K mg ad fd):FnOk P w K mg base CX0 3 (ad 24) (fd 24) ["_law_ways","_law_share"] sp_told:=by
 refine T.law_told.fn.ok zke (fun vs H Q E h=>?_) (fun cdv A outer s H vs Q E hr h=>?_)
 ·obtain⟨l,ys,ws,f,rfl,_⟩:=h;rfl
 obtain⟨l,ys,ws,f,rfl,hl,hn,hw,fb,k⟩:=h;have zf:=@zaf;have ze:=@zb3;have zI:=@zg8;unfold L2.CompBody at zI;have zp:=@zc1;have qpv:=@pv;have zK:=@zfb;have zE:=@ze8;have zm:=@zbw;have zL:=@zfd;have zF:=@zel;have zk:=@zcv;have zh:=@pa2;have zj:=@zbv;have zr:=@pa3;have zc:=@ze3;have za:=@zbt;generalize @L2.PE=QE,@L2.PT=QT,@L2.PW=QW,@L2.PA=QA,@L2.PS=QS,@L2.PSs=QSs,@L2.PG=QG,@L2.PGs=QGs,@L2.PI=QI,@L2.PO=QO,@L2.PIf=QIf at zf ze zI zp qpv zK zE zm zL zF zk zh zj zr zc za⊢;refine⟨_,
  (zf (ze (zI (dsc:=za0 zbg) (N:=["_law_ways","_law_share"]) (own:=["_law_a","_law_b"]) (ix:=[1]) rfl rfl rfl ⟨rfl,by decide+kernel,by decide+kernel,by decide+kernel,by decide+kernel⟩ (zp (qpv 0)) (fun cl C fp s2 H2 xe=>⟨(zK (n:=2) rfl (zE (zm (i:=0) (show List.Nodup (["_law_a","_law_b","_law_share"]:List Str) from by decide+kernel) rfl (Or.inl rfl) (Or.inr rfl)) (zE (zm (i:=1) (show List.Nodup (["_law_a","_law_b","_law_share"]:List Str) from by decide+kernel) rfl (Or.inl rfl) (Or.inr rfl)) zL))),zF,(zk (zh (zj (ze1 T) (hr.mono (by decide)) rfl T.law_point.mg T.law_point.fn.kp T.law_point.bn .nil pass0 (zr (zc za6 (qpv 0) za (fun _ _=>rfl)) za8 (zc za6 (qpv 0) za (fun _ _=>rfl)) za8 (qpv 2) za2)) zck (zj (ze1 T) (hr.mono (by decide)) rfl T.law_point.mg T.law_point.fn.kp T.law_point.bn .nil pass0 (zr (zc za6 (qpv 1) za (fun _ _=>rfl)) za8 (zc za6 (qpv 1) za (fun _ _=>rfl)) za8 (qpv 2) za2)) zck))⟩))))
  ,?_⟩
 clear zf ze zI zp qpv zK zE zm zL zF zk zh zj zr zc za QE QT QW QA QS QSs QG QGs QI QO QIf
 dsimp! [L2.start]
 simp! [];refine zd2 ?_;simp! [zcx];refine⟨⟨_,.of hl⟩,fun D hD=>?_⟩;refine zcs (xs:=ys) (zk6 (fun H p w=>S2H H p (tdF f w)) ws H D) (zeq hD) (fun i qs H' q=>.of (q.1 _ _ hl)) ?_ ?_
 ·rintro i qs H3 v hi hv iv;obtain⟨g3,hD33,lq,hq⟩:=id iv;obtain⟨p,e,rfl,he',⟨c,d,e1,e2,e3⟩,b1,b2⟩:=hw.2 i v hv;have e1':=g3 _ _ e1;have e2':H3 c=some (.tup [.int (mv f e.1).1,.int (mv f e.1).2]):=g3 _ _ e2;have e3':H3 d=some (.tup [.int (mv f e.2).1,.int (mv f e.2).2]):=g3 _ _ e3;have w1:=fb.2.2.2.2.2.2.1;simp! [e1',e2'];refine⟨_,_,_,rfl,mv_bd fb b1,by omega,fun pa H4 g4 ha=>?_⟩
  have e4':=g4 _ _ e3';simp! [e4'];refine⟨_,_,_,rfl,mv_bd fb b2,by omega,fun pb H5 g5 hb=>?_⟩
  intro t ht;have g6:=za1 ht (HO.tup [V.ref pa,V.ref pb]);have h6:upd H5 t (HO.tup [V.ref pa,V.ref pb]) t=some (HO.tup [V.ref pa,V.ref pb]):=upd_same;generalize upd H5 t (HO.tup [V.ref pa,V.ref pb])=H6 at*;have fin:S2H H6 t (tdF f e):=⟨pa,pb,h6,(ha.same g5).same g6,hb.same g6⟩;exact zf1 (R:=fun H p w=>S2H H p (tdF f w)) (a:=e) (fun _ _ _ _=>zed _ _ _ _) hD (by omega) iv hi he' ((g4.trans g5).trans g6) fin
 ·rintro qs H3 ⟨g3,hD33,lq,hq⟩;rw[List.take_of_length_le (Nat.le_of_eq hw.1.symm)] at hq;exact k D qs H3 hD g3 hD33 hq.map
def BkH(f:Fr)(ws:List E2)(H:Hp)(d:Addr)(kvs:List (List Key×V)):Prop:=H d=some (.dT kvs)/\∀e,e∈ws->∃b,valV kvs (kQ (PF f e.1))=some (.ref b)/\P2H H b (mv f e.1)
theorem BkH.same{f:Fr}{ws:List E2}{H H':Hp}{d:Addr}{kvs:List (List Key×V)}(h:BkH f ws H d kvs)(g:Same H H'):BkH f ws H' d kvs:=⟨g _ _ h.1,fun e he=>by
 obtain⟨b,e1,e2⟩:=h.2 e he;exact⟨b,e1,g _ _ e2⟩⟩
def mvE(f:Fr)(e:E2):E2:=(mv f e.1,mv f e.2)
theorem zka{f:Fr}(hd:0<fd2 f){e e':E2}(h:mvE f e=mvE f e'):e=e':=by
 unfold mvE at h
 injection h with h1 h2
 exact Prod.ext (zl5 hd h1) (zl5 hd h2)
theorem MwH.nk{f:Fr}{H:Hp}{p:Addr}{e:E2}(h:MwH f H p e):NK H p (kk (mvE f e)):=by
 obtain⟨⟨c,d,h1,h2,h3⟩,_⟩:=h;exact NK.two h1 h2 h3
def RmK(H:Hp)(gk:List N3)(rem:List E2):Prop:=gk.map (·.1)=rem.map kk/\KN H gk
theorem RmK.ts{H H':Hp}{gk:List N3}{rem:List E2}(h:RmK H gk rem)(g:zad H H'):RmK H' gk rem:=⟨h.1,KN.ts h.2 g⟩
theorem isi_ll:isiB "list" "list"=true:=by decide+kernel
theorem sds_at{r:List Q3}{j:Nat}(h:j<r.length):(sds r)[j]?=some (nx r j,nx r (j+1)):=by
 unfold sds;rw[List.getElem?_map,List.getElem?_range h];rfl
theorem sds_take{r:List Q3}{j:Nat}(h:j<r.length):(sds r).take (j+1)=(sds r).take j++[(nx r j,nx r (j+1))]:=by
 rw[List.take_add_one,sds_at h];rfl
theorem zgx{os:List (List Q3)}{r:List Q3}{i j:Nat}(nd:(os.flatMap sds).Nodup)(hr:os[i]?=some r)(hj:j<r.length):¬(nx r j,nx r (j+1))∈(os.take i).flatMap sds++(sds r).take j:=by
 have hi:=(List.getElem?_eq_some_iff.mp hr).1;have er:os[i]=r:=(List.getElem?_eq_some_iff.mp hr).2;have e:os=os.take i++r::os.drop (i+1):=by
  conv=>lhs;rw[←List.take_append_drop i os,List.drop_eq_getElem_cons hi,er]
 have sj:=sds_at hj;have hm:=List.mem_of_getElem? sj;have hj2:j<(sds r).length:=by rw[zga];exact hj
 rw[e,List.flatMap_append,List.flatMap_cons,List.nodup_append,List.nodup_append] at nd;obtain⟨_,⟨n1,_,_⟩,n3⟩:=nd;intro z;rcases List.mem_append.mp z with z|z
 ·exact n3 _ z _ (List.mem_append_left _ hm) rfl
 ·obtain⟨n,hn⟩:=List.mem_iff_getElem?.mp z;have hn':n<j:=by
   have:=(List.getElem?_eq_some_iff.mp hn).1;rw[List.length_take] at this;omega
  rw[List.getElem?_take_of_lt hn'] at hn;have:=(List.getElem?_inj (by omega) n1).mp (hn.trans sj.symm)
  omega
def SidH(P:Program)(w:World)(H:Hp)(S:Addr)(f:Fr)(ws:List E2)(pr:List (Q3×Q3))(H':Hp):Prop:=Same H H'/\∃gk rem,H' S=some (nD P w S gk)/\RmK H' gk rem/\rem.Nodup/\∀x,x∈rem↔∃e,e∈ws/\x=mvE f e/\¬tdF f e∈pr
def SidO(P:Program)(w:World)(H:Hp)(F B W S:Addr)(f:Fr)(ws:List E2)(os:List (List Q3))(i:Nat)(σ:St)(H':Hp):Prop:=SidH P w H S f ws ((os.take i).flatMap sds) H'/\∃o4 o5 o6 o7 o8,σ=[some (V.ref F),some (V.ref B),some (V.ref W),some (V.ref S),o4,o5,o6,o7,o8]
def SidJ(P:Program)(w:World)(H:Hp)(F B W S p:Addr)(f:Fr)(ws:List E2)(pr:List (Q3×Q3))(r:List Q3)(j:Nat)(σ:St)(H':Hp):Prop:=SidH P w H S f ws (pr++(sds r).take j) H'/\∃o4 o6 o7 o8,σ=[some (V.ref F),some (V.ref B),some (V.ref W),some (V.ref S),o4,some (V.ref p),o6,o7,o8]
def SidW(P:Program)(w:World)(H:Hp)(F B W S:Addr)(f:Fr)(ws:List E2)(i:Nat)(σ:St)(H':Hp):Prop:=∃gk o,σ=[some (V.ref F),some (V.ref B),some (V.ref W),some (V.ref S),o,none,none,none,none]/\Same H H'/\H' S=some (nD P w S gk)/\RmK H' gk ((ws.take i).map (mvE f))
def sp_sidL(P:Program)(w:World):Sp:=fun vs H Q _=>∃(F B W:Addr)(fs ys:List V)(os:List (List Q3))(ws:List E2)(f:Fr)(kvs:List (List Key×V)),vs=[.ref F,.ref B,.ref W]/\H F=some (.lst fs)/\LR RgQ H fs os/\BkH f ws H B kvs/\H W=some (.lst ys)/\ys.length<=144/\LR (MwH f) H ys ws/\0<f.w/\0<fd2 f/\Fen (ws.map (tdF f))/\(os.flatMap sds).Perm (ws.map (tdF f))/\(∀q,q∈os->3<=q.length)/\∀H',Same H H'->Q (.bl true) H'
theorem zjq(T:Txt K mg ad fd):FnOk P w K mg base CX0 1 (ad 25) (fd 25) ["_law_found","_law_back","_law_ways"] (sp_sidL P w):=by
 refine T.law_sides.fn.ok zbn (fun vs H Q E h=>?_) (fun cdv A outer s H vs Q E hr h=>?_)
 ·obtain⟨F,B,W,fs,ys,os,ws,f,kvs,rfl,_⟩:=h;rfl
 obtain⟨F,B,W,fs,ys,os,ws,f,kvs,rfl,hF,ho,hB,hW,ny,hw,w0,d0,Fe,pm,l3,k⟩:=h;have zQ:=@pss5;have zd:=@zbu;have yc:=@zkc;have zq:=@zd8;have zp:=@zc1;have qpv:=@pv;have zm:=@zbw;have zf:=@zaf;have yb:=@zki;have zJ:=@znn;have zn:=@zen;have zY:=@zot;have zH:=@zgl;have zy:=@zd7;have zh:=@pa2;have ym:=@pe_bltn;have ze:=@zb3;have zo:=@zc0;have zB:=@pss2;have zR:=@zf2;have zg:=@pa1;have zD:=@pss4;have zc:=@ze3;have zb:=@zdv;have za:=@zbt;have zS:=@PW.pt;have zP:=@pw_or;have zM:=@zi6;have ye:=@zjc;have zT:=@zm3;have yd:=@zgf;have zk:=@zcv;have zN:=@zhd;have zv:=@zdb;have yE:=@pe_npop;have zG:=@zfh;have zO:=@zf4;generalize @L2.PE=QE,@L2.PT=QT,@L2.PW=QW,@L2.PA=QA,@L2.PS=QS,@L2.PSs=QSs,@L2.PG=QG,@L2.PGs=QGs,@L2.PI=QI,@L2.PO=QO,@L2.PIf=QIf,@L2.PC=QC,@L2.PK=QK at zQ zd yc zq zp qpv zm zf yb zJ zn zY zH zy zh ym ze zo zB zR zg zD zc zb za zS zP zM ye zT yd zk zN zv yE zG zO⊢;refine⟨_,
  (zQ
   (zd (i:=3) zbn.nd rfl (Or.inl rfl) (yc (P:=P) (w:=w) rfl rfl))
   (zq PassesOwn.never rfl (zp (qpv 2)) (zm (i:=4) zbn.nd rfl (Or.inl rfl)) (zf (yb (P:=P) (w:=w) rfl rfl (hu64 hr) (qpv 3) (qpv 4) zJ rfl)))
   (zn (zY (zH (zy (isiF zf5) rfl T.b_isinstance zer (zh (qpv 0) za2 (ym (v:=.ty "list") rfl T.b_list zhz rfl) za2)))) (zf (ze zJ)) zo)
   (zq PassesOwn.never rfl (zp (qpv 0)) (zm (i:=5) zbn.nd rfl (Or.inl rfl)) (zB
   (zn (zY (zH (zy (isiF zf5) rfl T.b_isinstance zer (zh (qpv 5) za2 (ym (v:=.ty "list") rfl T.b_list zhz rfl) za2)))) (zf (ze zJ)) zo)
   (zq PassesOwn.never rfl (zR rfl T.b_range (zg (zy zdg rfl T.b_len zee (zg (qpv 5) za2)) zck)) (zm (i:=6) zbn.nd rfl (Or.inl rfl)) (zD
   (zd (i:=7) zbn.nd rfl (Or.inl rfl) (zc zak (qpv 5) (qpv 6) (fun _ _=>rfl)))
   (zd (i:=8) zbn.nd rfl (Or.inl rfl) (zc zak (qpv 5) (zb zhs (zb zb7 (qpv 6) za) (zy zdg rfl T.b_len zee (zg (qpv 5) za2))) (fun _ _=>rfl)))
   (zn (zS (zP (zM (ye (zda hr) (qpv 7) (qpv 1))) (zP (zM (ye (zda hr) (qpv 8) (qpv 1))) (zT (zM (yd (P:=P) (w:=w) rfl rfl (hu64 hr) (zk (zh (zN (zda hr) (qpv 1) (qpv 7) (fun _ _=>rfl)) za8 (zN (zda hr) (qpv 1) (qpv 8) (fun _ _=>rfl)) za8)) (qpv 3))))))) (zf (ze zJ)) zo)
   (zv (yE (P:=P) (w:=w) rfl rfl (hu64 hr) (qpv 3) (zk (zh (zN (zda hr) (qpv 1) (qpv 7) (fun _ _=>rfl)) za8 (zN (zda hr) (qpv 1) (qpv 8) (fun _ _=>rfl)) za8)) ⟨rfl,rfl,rfl,rfl⟩))))))
   (ze (zG (op_eqN (P:=P) (w:=w) rfl rfl (hu64 hr)) (qpv 3) zO (nomark _))))
  ,?_⟩
 clear zQ zd yc zq zp qpv zm zf yb zJ zn zY zH zy zh ym ze zo zB zR zg zD zc zb za zS zP zM ye zT yd zk zN zv yE zG zO QE QT QW QA QS QSs QG QGs QI QO QIf QC QK
 dsimp! [L2.start]
 simp! [tNNew];intro S hS;have gS:=za1 hS (nD P w S []);have hS1:upd H S (nD P w S []) S=some (nD P w S []):=upd_same;generalize upd H S (nD P w S [])=H1 at*;have wnd:ws.Nodup:=by
  have:=Fe.nd;rw[List.nodup_iff_pairwise_ne,List.pairwise_map] at this;rw[List.nodup_iff_pairwise_ne];exact this.imp fun n z=>n (by rw[z])
 have lws:=hw.1;refine zbk ?_;simp! [zcx];refine⟨⟨_,.of (gS _ _ hW)⟩,?_⟩;refine zaz (K:=K) (a:=W) (xs:=ys) (SidW P w H F B W S f ws) ⟨[],none,rfl,gS,hS1,rfl,fun p hp=>(by cases hp)⟩ (fun i σ H' _ iv=>.of (by obtain⟨_,_,_,g,_⟩:=iv;exact g _ _ hW)) ?_ ?_
 ·intro _ _;rintro i v σ H2 hi ⟨gk,o,rfl,g2,hS2,rk1,rk2⟩;obtain⟨p,e,rfl,he',he⟩:=hw.2 i v hi;have hi':=(List.getElem?_eq_some_iff.mp hi).1;have he2:=zmz _ _ _ _ (za9 g2) he;have nk:=he2.nk;have lgk:gk.length<=144:=by
   have:=congrArg List.length rk1;rw[List.length_map,List.length_map,List.length_map,List.length_take] at this;omega
  have nv:¬(valN gk (kk (mvE f e))).isSome=true:=fun z=>by
   rw[zc4,rk1] at z;obtain⟨x,hx,zx⟩:=List.mem_map.mp z;obtain⟨y,hy,rfl⟩:=List.mem_map.mp hx;have:=zka d0 (kk_inj zx);subst this;obtain⟨j,hj⟩:=List.mem_iff_getElem?.mp hy;have hj':j<i:=by
    have:=(List.getElem?_eq_some_iff.mp hj).1;rw[List.length_take] at this;omega
   rw[List.getElem?_take_of_lt hj'] at hj;have:=(List.getElem?_inj (by omega) wnd).mp (hj.trans he'.symm)
   omega
  have ep:∀b v,putN gk (kk (mvE f e)) b v=gk++[(kk (mvE f e),b,v)]:=fun b v=>if_neg nv;simp! [sNPut];refine⟨gk,hS2,rk2,kk (mvE f e),nk,small1000 (by omega),?_⟩
  refine⟨_,_,rfl,zat g2 hS,upd_same,?_,?_⟩
  ·rw[ep,List.map_append,rk1,List.take_add_one,he',List.map_append,List.map_append];rfl
  ·exact KN.ts (KN.put rk2 nk) (zfc hS2)
 ·rintro σ H2 ⟨gk,o,rfl,g2,hS2,rk1,rk2⟩;rw[List.take_of_length_le (Nat.le_of_eq lws.symm)] at rk1;simp! [];refine⟨_,zp2 (g2 _ _ hF),?_⟩;rw[isi_ll];refine iteF ?_;refine zbk ?_;simp! [zcx];refine⟨⟨_,.of (g2 _ _ hF)⟩,?_⟩;have mnd:(ws.map (mvE f)).Nodup:=by
   rw[List.nodup_iff_pairwise_ne,List.pairwise_map];exact(List.nodup_iff_pairwise_ne.mp wnd).imp fun n z=>n (zka d0 z)
  refine zaz (K:=K) (a:=F) (xs:=fs) (SidO P w H F B W S f ws os) ⟨⟨g2,gk,_,hS2,⟨rk1,rk2⟩,mnd,fun x=>?_⟩,_,_,_,_,_,rfl⟩ (fun i σ H' _ iv=>.of (iv.1.1 _ _ hF)) ?_ ?_
  ·rw[List.take_zero,List.mem_map];exact⟨fun⟨e,h1,h2⟩=>⟨e,h1,h2.symm,fun z=>(by cases z)⟩,fun⟨e,h1,h2,_⟩=>⟨e,h1,h2.symm⟩⟩
  ·intro _ _;rintro i v σ H3 hi ⟨sh,o4,o5,o6,o7,o8,rfl⟩;obtain⟨p,r,rfl,hr',us,hp,hu⟩:=ho.2 i v hi;have g3:=sh.1;have r3:=l3 r (List.mem_of_getElem? hr');have r150:=zft (List.mem_of_getElem? hr');rw[pm.length_eq,List.length_map] at r150;have lu:=hu.1;simp! [];refine⟨_,zp2 (g3 _ _ hp),?_⟩;rw[isi_ll];refine iteF ?_;refine zbk ?_;simp! [zp0];refine⟨us,.inl (g3 _ _ hp),by omega,?_,ze6 (SidJ P w H F B W S p f ws ((os.take i).flatMap sds) r) ⟨by rw[List.take_zero,List.append_nil];exact sh,_,_,_,_,rfl⟩ ?_ ?_⟩
   ·omega
   ·intro _ _;rintro j σ H4 hj ⟨sh4,o4,o6,o7,o8,rfl⟩;obtain⟨g4,gk4,rem,hS4,rm4,nd4,mem4⟩:=sh4;have hj':j<r.length:=by omega
    have hp4:=g4 _ _ hp;obtain⟨c1,q1,a1,r1,h1⟩:=hu.at (j:=j) (by omega)
    rw[zkw hj'] at r1
    cases r1;have m2:(j+1)%r.length<r.length:=Nat.mod_lt _ (by omega)
    obtain⟨c2,q2,a2,r2,h2⟩:=hu.at (j:=(j+1)%r.length) (by omega)
    rw[zkw m2,zfi] at r2
    cases r2;have sm:=zfe (r:=r) (by omega) j
    have sf:=zfs (f:=sds) (List.mem_of_getElem? hr') sm;obtain⟨e,hew,es⟩:=List.mem_map.mp (pm.mem_iff.mp sf);have es1:PF f e.1=nx r j:=congrArg Prod.fst es;have es2:PF f e.2=nx r (j+1):=congrArg Prod.snd es;obtain⟨t,ht⟩:=List.exists_mem_of_ne_nil _ (Fe.out (tdF f e) (List.mem_map.mpr ⟨e,hew,rfl⟩));obtain⟨q,hq,_⟩:=zpr w0 d0 ht;have hB4:=hB.same g4;obtain⟨b1,v1,p1⟩:=hB4.2 e hew;obtain⟨b2,v2,p2⟩:=hB4.2 (e.2,q) hq;dsimp only at v2 p2;rw[es1] at v1;rw[es2] at v2;have h14:=g4 _ _ h1.1;have h24:=g4 _ _ h2.1;have fm:(((j:Int)+1).fmod (us.length:Int))=(((j+1)%r.length:Nat):Int):=by
     rw[Int.fmod_eq_emod_of_nonneg _ (by omega),lu]
     exact(Int.natCast_emod (j+1) r.length).symm
    simp! [Int.zero_add,hp4];refine⟨_,zc5 a1,by omega,_,by rw[fm];exact zc5 a2,?_⟩
    simp! [zjw,zi0,zmv];refine⟨_,.t (k:=kQ (nx r j)) hB4.1 h14,?_⟩;rw[v1];refine iteF ⟨_,.t (k:=kQ (nx r (j+1))) hB4.1 h24,?_⟩;rw[v2];refine iteF ⟨.ref b1,by rw[←v1];exact .t (k:=kQ (nx r j)) hB4.1 h14,.ref b2,by rw[←v2];exact .t (k:=kQ (nx r (j+1))) hB4.1 h24,fun t1 ht1=>?_⟩
    have g5:=za1 ht1 (HO.tup [V.ref b1,V.ref b2]);have h5:upd H4 t1 (HO.tup [V.ref b1,V.ref b2]) t1=some (HO.tup [V.ref b1,V.ref b2]):=upd_same;generalize upd H4 t1 (HO.tup [V.ref b1,V.ref b2])=H5 at*;have nk5:NK H5 t1 (kk (mvE f e)):=NK.two h5 (g5 _ _ p1) (g5 _ _ p2);have rm5:=rm4.ts (za9 g5);have hS5:=g5 _ _ hS4;have fr:=zgx (pm.nodup_iff.mpr Fe.nd) hr' hj';rw[←es] at fr;have hx:mvE f e∈rem:=(mem4 _).mpr ⟨e,hew,rfl,fr⟩;have hv:(valN gk4 (kk (mvE f e))).isSome=true:=by
     rw[zc4,rm4.1];exact List.mem_map.mpr ⟨_,hx,rfl⟩
    refine⟨gk4,.inl hS5,rm5.2,_,nk5,?_⟩;rw[hv];refine iteF ?_;simp! [tNPop,zmv];have hB5:=hB4.same g5;refine⟨gk4,hS5,rm5.2,.ref b1,by rw[←v1];exact .t (k:=kQ (nx r j)) hB5.1 (g5 _ _ h14),.ref b2,by rw[←v2];exact .t (k:=kQ (nx r (j+1))) hB5.1 (g5 _ _ h24),fun t2 ht2=>?_⟩
    have g6:=za1 ht2 (HO.tup [V.ref b1,V.ref b2]);have h6:upd H5 t2 (HO.tup [V.ref b1,V.ref b2]) t2=some (HO.tup [V.ref b1,V.ref b2]):=upd_same;generalize upd H5 t2 (HO.tup [V.ref b1,V.ref b2])=H6 at*;have g56:=g5.trans g6;have nk6:NK H6 t2 (kk (mvE f e)):=NK.two h6 (g56 _ _ p1) (g56 _ _ p2);have rm6:=rm5.ts (za9 g6);have hS6:=g6 _ _ hS5;obtain⟨l',r',er⟩:=List.append_of_mem hx;subst er;have em:=rm6.1;rw[List.map_append,List.map_cons] at em;obtain⟨l,g2',eg,el,e2⟩:=List.map_eq_append_iff.mp em;obtain⟨⟨ky,c,v⟩,rr,eg2,ek,err⟩:=List.map_eq_cons_iff.mp e2;dsimp only at ek;subst eg2;subst ek;subst eg;refine⟨l,rr,_,c,v,hS6,rm6.2,nk6,⟨zat (g4.trans g56) hS,l++rr,l'++r',upd_same,⟨by rw[List.map_append,el,err,List.map_append],KN.ts (fun p hp=>rm6.2 p ?_) (zfc hS6)⟩,?_,fun x=>?_⟩,_,_,_,_,rfl⟩
    ·rcases List.mem_append.mp hp with z|z
     ·exact List.mem_append_left _ z
     ·exact List.mem_append_right _ (List.mem_cons_of_mem _ z)
    ·exact nd4.sublist (List.Sublist.append_left (List.sublist_cons_self _ _) _)
    ·have m4:=mem4 x;rw[sds_take hj',←es,←List.append_assoc];have nx0:∀y,y∈l'++r'↔y∈l'++mvE f e::r'/\y≠mvE f e:=fun y=>by
      rw[List.nodup_append,List.nodup_cons] at nd4;obtain⟨n1,⟨n2,n3⟩,n4⟩:=nd4
      constructor
      ·intro z;refine⟨(List.mem_append.mp z).elim (List.mem_append_left _) fun z=>List.mem_append_right _ (List.mem_cons_of_mem _ z),fun q=>?_⟩;subst q;rcases List.mem_append.mp z with z|z
       ·exact n4 _ z _ (List.mem_cons_self ..) rfl
       ·exact n2 z
      ·rintro⟨z,q⟩;rcases List.mem_append.mp z with z|z
       ·exact List.mem_append_left _ z
       ·exact List.mem_append_right _ ((List.mem_cons.mp z).resolve_left q)
     rw[nx0,m4]
     constructor
     ·rintro⟨⟨e',h1',h2',h3'⟩,h4'⟩;refine⟨e',h1',h2',fun z=>?_⟩;rcases List.mem_append.mp z with z|z
      ·exact h3' z
      ·have:=zoa w0 d0 (List.mem_singleton.mp z);rw[h2',this] at h4';exact h4' rfl
     ·rintro⟨e',h1',h2',h3'⟩;refine⟨⟨e',h1',h2',fun z=>h3' (List.mem_append_left _ z)⟩,fun z=>?_⟩;rw[h2'] at z;have:=zka d0 z;subst this;exact h3' (List.mem_append_right _ (List.mem_singleton.mpr rfl))
   ·rintro σ H4 ⟨sh4,o4,o6,o7,o8,rfl⟩;have e:((os.take i).flatMap sds++(sds r).take ((us.length:Int)).toNat)=(os.take (i+1)).flatMap sds:=by
     rw[List.take_add_one,hr',List.flatMap_append,List.take_of_length_le (l:=sds r) (by rw[zga];omega)]
     simp
    rw[e] at sh4;exact⟨sh4,_,_,_,_,_,rfl⟩
  ·rintro σ H3 ⟨⟨g3,gk3,rem,hS3,rm3,nd3,mem3⟩,o4,o5,o6,o7,o8,rfl⟩;have e0:gk3=[]:=by
    have er:rem=[]:=by
     cases rem with
     |nil=>rfl
     |cons x rem=>
      obtain⟨e,h1,_,h3⟩:=(mem3 x).mp (List.mem_cons_self ..);rw[List.take_of_length_le (Nat.le_of_eq ho.1.symm)] at h3;exact absurd (pm.mem_iff.mpr (List.mem_map.mpr ⟨e,h1,rfl⟩)) h3
    have:=rm3.1;rw[er] at this;exact List.map_eq_nil_iff.mp this
   subst e0;simp! [rEqN,zje];intro t ht;exact⟨zdy (u:=.lst []) (fun z=>by rw[z,ht] at hS3;cases hS3) hS3,k _ (g3.trans (za1 ht _))⟩
theorem bt_set:bootBuiltins "set"=some (.type "set"):=by decide+kernel
def bxs:List (Int×Int):=(List.range 63).map fun i=>(((i%9:Nat):Int),((i/9:Nat):Int))
theorem mem_bxs{a:Int×Int}(h:Bx a):a∈bxs:=by
 obtain⟨h1,h2,h3,h4⟩:=h;refine List.mem_map.mpr ⟨a.1.toNat+9*a.2.toNat,List.mem_range.mpr (by omega),Prod.ext ?_ ?_⟩
 ·show(((a.1.toNat+9*a.2.toNat)%9:Nat):Int)=a.1
  omega
 ·show(((a.1.toNat+9*a.2.toNat)/9:Nat):Int)=a.2
  omega
theorem len_bxs:bxs.length=63:=by unfold bxs;rw[List.length_map,List.length_range]
theorem few_of{α:Type}[DecidableEq α](F:Int×Int->α){qs:List α}(nd:qs.Nodup)(h:∀q,q∈qs->∃a,Bx a/\q=F a):qs.length<64:=by
 have:=zf0 qs (bxs.map F) nd fun q hq=>by
  obtain⟨a,ba,e⟩:=h q hq;exact List.mem_map.mpr ⟨a,mem_bxs ba,e.symm⟩
 rw[List.length_map,len_bxs] at this;omega
def FwH(H:Hp)(p:Addr)(e:E2):Prop:=∃c d,H p=some (.tup [.ref c,.ref d])/\P2H H c e.1/\P2H H d e.2
theorem fw_ts:∀(H H':Hp)(p:Addr)(e:E2),zad H H'->FwH H p e->FwH H' p e:=fun _ _ _ _ g⟨c,d,h1,h2,h3⟩=>⟨c,d,g _ _ h1,g _ _ h2,g _ _ h3⟩
def d22(e:E2):PyData:=.tuple [d2 e.1,d2 e.2]
theorem rd_22{K:PySem.W.Frag}{H:Hp}{p:Addr}{e:E2}(h:FwH H p e):RdD K H (d22 e) (.ref p):=by
 obtain⟨c,d,h1,h2,h3⟩:=h;unfold d22;rw[RdD];refine⟨p,_,rfl,.of h1,?_⟩;rw[RdDs];refine⟨_,_,rfl,rd_2 h2,?_⟩;rw[RdDs];refine⟨_,_,rfl,rd_2 h3,?_⟩;rw[RdDs]
theorem rd_22s{K:PySem.W.Frag}{H:Hp}:∀{us:List V}{cs:List E2},LR FwH H us cs->RdDs K H (cs.map d22) us
 |[],[],_=>by rw[List.map_nil,RdDs]
 |[],_::_,h=>by cases h.1
 |_::_,[],h=>by cases h.1
 |u::us,c::cs,h=>by
  obtain⟨a,as',e,⟨p,rfl,hp⟩,ht⟩:=h.cons_inv
  cases e;rw[List.map_cons,RdDs];exact⟨_,_,rfl,rd_22 hp,rd_22s ht⟩
theorem rd_22l{K:PySem.W.Frag}{H:Hp}{l:Addr}{zs:List V}{F:List E2}(h:H l=some (.lst zs))(hz:LR FwH H zs F):RdD K H (.list (F.map d22)) (.ref l):=by
 rw[RdD];exact⟨l,zs,rfl,.of h,rd_22s hz⟩
theorem d22_lay(e:E2):(d22 e).canLay0=true/\(d22 e).depth<=4:=by
 simp[d22,d2,PyData.canLay0,PyData.canLayAll0,PyData.depth,PyData.depthAll]
theorem d22s_lay(F:List E2):PyData.canLayAll0 (F.map d22)=true/\PyData.depthAll (F.map d22)<=4:=by
 induction F with
 |nil=>exact⟨rfl,by simp[PyData.depthAll]⟩
 |cons r F ih=>
  have h:=d22_lay r;rw[List.map_cons]
  constructor
  ·rw[PyData.canLayAll0,h.1,ih.1];rfl
  ·rw[PyData.depthAll];have:=h.2;have:=ih.2;omega
theorem zgg(F:List E2):SeqAt.shaped (.list (F.map d22))=true:=by
 obtain⟨h1,h2⟩:=d22s_lay F;unfold SeqAt.shaped;rw[PyData.canLay0,h1,Bool.true_and,PyData.depth];exact decide_eq_true (by omega)
theorem zj9:∀F:List E2,PyData.eqvAll (F.map d22) (F.map d22)=true
 |[]=>by simp[PyData.eqvAll]
 |r::F=>by
  rw[List.map_cons,PyData.eqvAll,zj9 F,d22,PyData.eqv,PyData.eqvAll,PyData.eqvAll,PyData.eqvAll,zjj,zjj,decide_eq_true rfl,decide_eq_true rfl];rfl
theorem d22s_eqv(F:List E2):PyData.eqv (.list (F.map d22)) (.list (F.map d22))=true:=by rw[PyData.eqv,zj9]
theorem un_map{α β:Type}{g:α->β}{p:α->Prop}:∀{r:List β},(∀x,x∈r->∃a,p a/\x=g a)->∃as:List α,r=as.map g/\∀a,a∈as->p a
 |[],_=>⟨[],rfl,fun a h=>by cases h⟩
 |x::r,h=>by
  obtain⟨a,h1,h2⟩:=h x (List.mem_cons_self ..);obtain⟨as,e,h3⟩:=un_map (r:=r) fun y hy=>h y (List.mem_cons_of_mem _ hy);refine⟨a::as,by rw[e,h2];rfl,fun b hb=>?_⟩
  rcases List.mem_cons.mp hb with z|z
  ·rw[z];exact h1
  ·exact h3 b z
def BgR(f:Fr)(r:List Q3)(e:E2):Prop:=∃a b,nx r 0=PF f a/\nx r 1=PF f b/\e=(mv f a,mv f b)
theorem bgr_lt{f:Fr}(w0:0<f.w){ss:List (Q3×Q3)}{g:Int}{os:List (List Q3)}(F:Fen ss)(td:Told ss g os){i j:Nat}{r r':List Q3}{e e':E2}(hr:os[i]?=some r)(hr':os[j]?=some r')(ij:i<j)(h:BgR f r e)(h':BgR f r' e'):lt22 e e'=true:=by
 have hm:=List.mem_of_getElem? hr;have hm':=List.mem_of_getElem? hr';have l3:=(td.rg r hm).2;have l3':=(td.rg r' hm').2;obtain⟨a,b,h1,h2,rfl⟩:=h;obtain⟨a',b',h1',h2',rfl⟩:=h';have hi:=(List.getElem?_eq_some_iff.mp hr);have hj:=(List.getElem?_eq_some_iff.mp hr');have od:=List.pairwise_iff_getElem.mp td.ord i j hi.1 hj.1 ij;rw[hi.2,hj.2] at od;have nn:¬(nx r 0=nx r' 0/\nx r 1=nx r' 1):=fun⟨z1,z2⟩=>by
  have nd:=td.pm.nodup_iff.mpr F.nd;have fs:=zgx (j:=0) nd hr' (by omega)
  apply fs
  refine List.mem_append_left _ (List.mem_flatMap.mpr ⟨r,?_,?_⟩)
  ·rw[List.mem_iff_getElem?];exact⟨i,by rw[List.getElem?_take_of_lt ij];exact hr⟩
  ·rw[←z1,←z2];exact zfe (by omega) 0
 have p0:=td.pq r hm _ (zeg (by omega) 0)
 have p1:=td.pq r hm _ (zeg (by omega) 1)
 have q0:=td.pq r' hm' _ (zeg (by omega) 0)
 have q1:=td.pq r' hm' _ (zeg (by omega) 1)
 match r,l3,r',l3',od,h1,h2,h1',h2',nn,p0,p1,q0,q1 with
 |x::y::r,_,x'::y'::r',_,od,h1,h2,h1',h2',nn,p0,p1,q0,q1=>
  have e0:nx (x::y::r) 0=x:=rfl;have e1:nx (x::y::r) 1=y:=zdw (r:=x::y::r) (i:=1) (by simp)
  have e0':nx (x'::y'::r') 0=x':=rfl;have e1':nx (x'::y'::r') 1=y':=zdw (r:=x'::y'::r') (i:=1) (by simp)
  rw[e0] at h1 nn p0;rw[e1] at h2 nn p1;rw[e0'] at h1' nn q0;rw[e1'] at h2' nn q1;rw[List.map_cons,List.map_cons,List.map_cons,List.map_cons,zdp] at od;have up:∀{u v:Q3}{c d:Int×Int},PQ 700 u/\u.w<=g->PQ 700 v/\v.w<=g->u=PF f c->v=PF f d->lt2 (kyQ g u) (kyQ g v)=true->lt2 (mv f c) (mv f d)=true:=fun hu hv eu ev z=>by
   have:=lt2_bq hu.1 hv.1 hu.2 hv.2 z;rw[eu,ev] at this;exact(bq_pt w0).mp this
  unfold lt22 lexB;dsimp only
  by_cases c:x=x'
  ·subst c;rw[if_pos rfl,zdp] at od;have eaa:mv f a=mv f a':=pt_inj w0 (h1.symm.trans h1');rw[if_pos eaa];have ny:y≠y':=fun z=>nn ⟨rfl,z⟩;rw[if_neg (fun z=>ny (zeu p1.1 q1.1 p1.2 q1.2 z))] at od;exact up p1 q1 h2 h2' od
  ·rw[if_neg (fun z=>c (zeu p0.1 q0.1 p0.2 q0.2 z))] at od;rw[if_neg (fun z=>c (by rw[h1,h1'];show ptP f.w (mv f a)=ptP f.w (mv f a');rw[z]))]
   exact up p0 q0 h1 h1' od
def OrdI(H:Hp)(F B D:Addr)(f:Fr)(os:List (List Q3))(i:Nat)(σ:St)(H':Hp):Prop:=∃(zs:List V)(bs:List E2)(o3 o4:Option V),σ=[some (V.ref F),some (V.ref B),some (V.ref D),o3,o4]/\Same H H'/\H' D=some (.lst zs)/\LR FwH H' zs bs/\bs.length=i/\∀(j:Nat) r e,os[j]?=some r->bs[j]?=some e->BgR f r e
def sp_order:Sp:=fun vs H Q _=>∃(F B:Addr)(fs:List V)(os:List (List Q3))(ws:List E2)(f:Fr)(kvs:List (List Key×V))(g:Int),vs=[.ref F,.ref B]/\H F=some (.lst fs)/\LR RgQ H fs os/\BkH f ws H B kvs/\0<f.w/\0<fd2 f/\(∀e,e∈ws->Bx e.1)/\ws.length<=144/\Fen (ws.map (tdF f))/\Told (ws.map (tdF f)) g os/\∀H',Same H H'->Q (.bl true) H'
theorem zin(T:Txt K mg ad fd):FnOk P w K mg base CX0 1 (ad 26) (fd 26) ["_law_found","_law_back"] sp_order:=by
 refine T.law_order.fn.ok zd3 (fun vs H Q E h=>?_) (fun cdv A outer s H vs Q E hr h=>?_)
 ·obtain⟨F,B,fs,os,ws,f,kvs,g,rfl,_⟩:=h;rfl
 obtain⟨F,B,fs,os,ws,f,kvs,g,rfl,hF,ho,hB,w0,d0,bx,lw,Fe,td,k⟩:=h;have zC:=@pss3;have zd:=@zbu;have zt:=@zdr;have zw:=@zcl;have zq:=@zd8;have zp:=@zc1;have qpv:=@pv;have zm:=@zbw;have zX:=@zkb;unfold L2.CompBody at zX;have zF:=@zel;have zN:=@zhd;have zn:=@zen;have zS:=@PW.pt;have zP:=@pw_or;have zu:=@zd1;have zc:=@ze3;have za:=@zbt;have zy:=@zd7;have zg:=@pa1;have zT:=@zm3;have yf:=@zj5;have zf:=@zaf;have ze:=@zb3;have zJ:=@znn;have zo:=@zc0;have zv:=@zdb;have zA:=@zhk;have zk:=@zcv;have zh:=@pa2;have zG:=@zfh;generalize @L2.PE=QE,@L2.PT=QT,@L2.PW=QW,@L2.PA=QA,@L2.PS=QS,@L2.PSs=QSs,@L2.PG=QG,@L2.PGs=QGs,@L2.PI=QI,@L2.PO=QO,@L2.PIf=QIf at zC zd zt zw zq zp qpv zm zX zF zN zn zS zP zu zc za zy zg zT yf zf ze zJ zo zv zA zk zh zG⊢;refine⟨_,
  (zC
   (zd (i:=2) zd3.nd rfl (Or.inl rfl) (zt zw))
   (zq PassesOwn.never rfl (zp (qpv 0)) (zm (i:=3) zd3.nd rfl (Or.inl rfl)) (zC
   (zX (i:=4) zd3.nd rfl (Or.inl rfl) (dsc:=za0 zb2) (N:=["_law_found","_law_back","_law_begins","_law_ring","_law_places"]) (own:=["_law_one"]) (ix:=[1]) rfl rfl rfl ⟨rfl,by decide+kernel,by decide+kernel,by decide+kernel,by decide+kernel⟩ (zp (qpv 3)) (fun cl C fp s2 H2 xe=>⟨(zm (i:=0) (show List.Nodup (["_law_one","_law_back"]:List Str) from by decide+kernel) rfl (Or.inl rfl)),zF,(zN (zda hr) (qpv 1) (qpv 0) (fun _ _=>rfl))⟩))
   (zn (zS (zP (zu (zol (hu64 hr)) (zc zak (qpv 4) za (fun _ _=>rfl)) (zy (zpj rfl (hu100 hr)) rfl T.b_min bt_min (zg (qpv 4) za2)) (nomark _)) (zT (zu zkj (zy zo2 rfl T.b_len zee (zg (yf (zp3 (hu64 hr) rfl) rfl T.b_set bt_set (zg (qpv 4) za2)) zck)) (zy zdg rfl T.b_len zee (zg (qpv 4) za2)) (nomark _))))) (zf (ze zJ)) zo)
   (zv (zA PySem.F.plainAttrs_list PySem.F.slot_list_append PySem.F.type_list_append zbo (qpv 2) (zg (zk (zh (zc zak (qpv 4) za (fun _ _=>rfl)) za8 (zc zak (qpv 4) za (fun _ _=>rfl)) za8)) zai)))))
   (ze (zG (zj3 (hu64 hr)) (qpv 2) (zy (zir (hu100 hr)) rfl T.b_sorted zg6 (zg (qpv 2) za2)) (nomark _))))
  ,?_⟩
 clear zC zd zt zw zq zp qpv zm zX zF zN zn zS zP zu zc za zy zg zT yf zf ze zJ zo zv zA zk zh zG QE QT QW QA QS QSs QG QGs QI QO QIf
 dsimp! [L2.start]
 simp! [];intro D hD;have gD:=za1 hD (HO.lst []);have hD1:upd H D (HO.lst []) D=some (HO.lst []):=upd_same;generalize upd H D (HO.lst [])=H1 at*;have l3:=zg4 fun q hq=>(td.rg q hq).2;rw[td.pm.length_eq,List.length_map] at l3;have los:=ho.1;refine zbk ?_;simp! [zcx];refine⟨⟨_,.of (gD _ _ hF)⟩,?_⟩;refine zaz (K:=K) (a:=F) (xs:=fs) (OrdI H F B D f os) ⟨[],[],none,none,rfl,gD,hD1,.nil,rfl,fun j r e _ z=>(by cases z)⟩ (fun i σ H' _ iv=>.of (by obtain⟨_,_,_,_,_,g,_⟩:=iv;exact g _ _ hF)) ?_ ?_
 ·intro _ _;rintro i v σ H2 hi ⟨zs,bs,o3,o4,rfl,g2,hD2,hz,lb,bg⟩;obtain⟨p,r,rfl,hr',us,hp,hu⟩:=ho.2 i v hi;have hi':=(List.getElem?_eq_some_iff.mp hi).1;have hrm:=List.mem_of_getElem? hr';obtain⟨rnd,r3⟩:=td.rg r hrm;have lu:=hu.1;obtain⟨as,eas,has⟩:=un_map (g:=PF f) (p:=fun a=>∃e,e∈ws/\a=e.1) (r:=r) fun x hx=>by
   obtain⟨j,hj,rfl⟩:=List.mem_iff_getElem.mp hx;have:=zfs (f:=sds) hrm (zfe (r:=r) (by omega) j)
   obtain⟨e,he,z⟩:=List.mem_map.mp (td.pm.mem_iff.mp this);exact⟨e.1,⟨e,he,rfl⟩,by rw[←zdw hj];exact(congrArg Prod.fst z).symm⟩
  have la:as.length=r.length:=by rw[eas,List.length_map]
  have and_:as.Nodup:=by
   rw[eas,List.nodup_iff_pairwise_ne,List.pairwise_map] at rnd;rw[List.nodup_iff_pairwise_ne];exact rnd.imp fun n z=>n (by rw[z])
  have l64:as.length<64:=few_of id and_ fun q hq=>by
   obtain⟨e,he,rfl⟩:=has q hq;exact⟨_,bx e he,rfl⟩
  have hp2:=g2 _ _ hp;have hB2:=hB.same g2;simp! [];refine zd2 ?_;simp! [zcx];refine⟨⟨_,.of hp2⟩,fun C hC=>?_⟩;refine zcs (xs:=us) (zk6 (fun H p a=>P2H H p (mv f a)) as H2 C) (zeq hC) (fun n qs H' z=>.of (z.1 _ _ hp2)) ?_ ?_
  ·rintro n qs H3 v hn hv iv;obtain⟨g3,hC3,lq,hq⟩:=id iv;obtain⟨b,q,rfl,hq',hb⟩:=hu.2 n v hv;have ha:=List.getElem?_eq_getElem (l:=as) (i:=n) (by omega)
   have eq:q=PF f (as[n]'(by omega)):=by
    rw[eas,List.getElem?_map,ha] at hq';exact(Option.some.inj hq').symm
   obtain⟨e,he,ee⟩:=has _ (List.getElem_mem (by omega:n<as.length))
   obtain⟨b1,v1,p1⟩:=hB2.2 e he;rw[←ee,←eq] at v1;simp! [zmv];refine⟨_,by rw[←v1];exact .t (k:=kQ q) (g3 _ _ hB2.1) (g3 _ _ (g2 _ _ hb.1)),?_⟩
   exact zf1 (R:=fun H p a=>P2H H p (mv f a)) (a:=as[n]'(by omega)) (fun _ _ _ _=>zec _ _ _ _) hC (by omega) iv hn ha (.refl _) (by rw[ee];exact g3 _ _ p1)
  ·rintro qs H3 ⟨g3,hC3,lq,hq⟩;rw[List.take_of_length_le (by omega)] at hq
   have hq:=hq.map (f:=mv f) (R:=P2H);have lqa:qs.length=as.length:=by rw[hq.1,List.length_map]
   obtain⟨c0,m0,a0,e0,h0⟩:=hq.at (j:=0) (by omega)
   obtain⟨c1,m1,a1,e1,h1⟩:=hq.at (j:=1) (by omega)
   obtain⟨x0,ea0⟩:∃x,as[0]?=some x:=⟨_,List.getElem?_eq_getElem (by omega)⟩
   obtain⟨x1,ea1⟩:∃x,as[1]?=some x:=⟨_,List.getElem?_eq_getElem (by omega)⟩
   rw[List.getElem?_map,ea0] at e0;rw[List.getElem?_map,ea1] at e1
   cases e0
   cases e1;have n0:nx r 0=PF f x0:=by
    have z:r[0]?=some (PF f x0):=by rw[eas,List.getElem?_map,ea0];rfl
    rw[zkw (by omega)] at z
    exact Option.some.inj z
   have n1:nx r 1=PF f x1:=by
    have z:r[1]?=some (PF f x1):=by rw[eas,List.getElem?_map,ea1];rfl
    rw[zkw (by omega)] at z
    exact Option.some.inj z
   refine⟨C,rfl,qs,hC3,_,zc5 (j:=0) a0,?_⟩;simp! [rMinP,rNeD];refine⟨_,lsI_lr hC3 hq,by rw[List.length_map];omega,fun b j mm hj hb hmin=>?_⟩
   have em:mv f x0=mm:=by
    by_cases c:mv f x0=mm
    ·exact c
    ·exfalso
     rcases sto2.tot _ _ c with z|z
     ·rw[hmin _ (List.mem_map.mpr ⟨_,List.mem_of_getElem? ea0,rfl⟩)] at z
      cases z
     ·rw[List.getElem?_map] at hj;obtain⟨a,ha,rfl⟩:=Option.map_eq_some_iff.mp hj;have:=td.least r hrm (PF f a) (by rw[eas];exact List.mem_map.mpr ⟨a,List.mem_of_getElem? ha,rfl⟩)
      rw[n0,show bq (PF f a) (PF f x0)=true from(bq_pt w0).mpr z] at this
      cases this
   refine⟨_,rd_2 h0,_,rd_2 (a:=mm) hb,zew _,zew _,?_⟩;rw[zjj,decide_eq_true em];refine iteF ?_;simp! [rSetW,rLenS];have mnd:(as.map (mv f)).Nodup:=by
    rw[List.nodup_iff_pairwise_ne,List.pairwise_map];exact(List.nodup_iff_pairwise_ne.mp and_).imp fun n z=>n (zl5 d0 z)
   refine⟨qs,hC3,by omega,fun j=>kP ((as.map (mv f)).getD j (0,0)),fun j v hv=>?_,fun i j hi hj e=>?_,fun l hl=>?_⟩
   ·obtain⟨b,m,rfl,hm,hb⟩:=hq.2 j v hv;refine⟨b,rfl,?_⟩;show H3 b=some (HO.tup (List.map kV (kP ((as.map (mv f)).getD j (0,0)))));rw[List.getD_eq_getElem?_getD,hm];exact hb
   ·have e:=zh1 e;rw[List.getD_eq_getElem?_getD,List.getD_eq_getElem?_getD,List.getElem?_eq_getElem (by rw[List.length_map];omega),List.getElem?_eq_getElem (by rw[List.length_map];omega)] at e
    exact(List.getElem_inj mnd).mp e
   have g4:=za1 hl (setO l qs.length);generalize upd H3 l (setO l qs.length)=H4 at*;have hC4:=g4 _ _ hC3;have hD4:=g4 _ _ (g3 _ _ hD2);refine⟨_,rfl,Nat.le_of_lt (small1000 (by omega)),qs,.inl hC4,?_⟩
   rw[decide_eq_false (by omega)]
   refine iteF ⟨zd5 hD4,qs,hC4,_,zc5 (j:=0) a0,qs,hC4,_,zc5 (j:=1) a1,fun t ht=>?_⟩;have g5:=za1 ht (HO.tup [V.ref c0,V.ref c1]);have h5:upd H4 t (HO.tup [V.ref c0,V.ref c1]) t=some (HO.tup [V.ref c0,V.ref c1]):=upd_same;generalize upd H4 t (HO.tup [V.ref c0,V.ref c1])=H5 at*;have hD5:=g5 _ _ hD4;have g35:=g4.trans g5;have lzb:=hz.1;have fw:FwH H5 t (mv f x0,mv f x1):=⟨c0,c1,h5,g35 _ _ h0,g35 _ _ h1⟩;refine⟨zs,hD5,small1000 (by omega),zs++[V.ref t],bs++[(mv f x0,mv f x1)],_,_,rfl,zat ((g2.trans g3).trans g35) hD,upd_same,((hz.ts fw_ts (za9 (g3.trans g35))).snoc fw).ts fw_ts (zcg hD5),by rw[List.length_append,lb];rfl,fun j r' e h1' h2'=>?_⟩
   by_cases c:j<bs.length
   ·rw[List.getElem?_append_left c] at h2';exact bg j r' e h1' h2'
   ·have ej:j=i:=by
     have:=(List.getElem?_eq_some_iff.mp h2').1;rw[List.length_append,List.length_singleton] at this;omega
    subst ej;rw[List.getElem?_append_right (by omega),show j-bs.length=0 by omega] at h2'
    cases h2';rw[hr'] at h1'
    cases h1';exact⟨x0,x1,n0,n1,rfl⟩
 ·rintro σ H2 ⟨zs,bs,o3,o4,rfl,g2,hD2,hz,lb,bg⟩;have lzb:=hz.1;simp! [zlm,rEqD];have pw:bs.Pairwise fun a b=>lt22 a b=true:=by
   rw[List.pairwise_iff_getElem];intro i j hi hj ij;exact bgr_lt w0 Fe td (List.getElem?_eq_getElem (by omega)) (List.getElem?_eq_getElem (by omega)) ij (bg i _ _ (List.getElem?_eq_getElem (by omega)) (List.getElem?_eq_getElem hi)) (bg j _ _ (List.getElem?_eq_getElem (by omega)) (List.getElem?_eq_getElem hj))
  have bnd:bs.Nodup:=by
   rw[List.nodup_iff_pairwise_ne];exact pw.imp fun z q=>by rw[q,sto22.irr] at z;cases z
  refine⟨zs,hD2,by omega,fun i=>bs.getD i ((0,0),(0,0)),fun i hi=>?_,fun C p hC or ep=>?_⟩
  ·obtain⟨q,e,e1,e2,c,d,h1,h2,h3⟩:=hz.at hi;show F2D H2 (zs.getD i .non) (bs.getD i ((0,0),(0,0)));rw[List.getD_eq_getElem?_getD,e1,List.getD_eq_getElem?_getD,e2];exact⟨q,c,d,rfl,h1,h2,h3⟩
  ·rw[lzb] at or ep;obtain⟨pm,pw2⟩:=zib sto22 id ((0,0),(0,0)) (by rw[List.map_id];exact bnd) or ep
   have hz2:=lr_ord ((0,0),(0,0)) hz or;have eq:=zfw (r:=fun a b=>lt22 a b=true) (fun a b h1 h2=>by
    have:=sto22.tr _ _ _ h1 h2;rw[sto22.irr] at this
    cases this) pw2 pw pm
   rw[eq] at hz2;have g3:=za1 hC (HO.lst (p.toList.map fun i=>zs.getD i .non));have hC3:upd H2 C (HO.lst (p.toList.map fun i=>zs.getD i .non)) C=some (HO.lst (p.toList.map fun i=>zs.getD i .non)):=upd_same;generalize upd H2 C (HO.lst (p.toList.map fun i=>zs.getD i .non))=H3 at*;refine⟨_,rd_22l (g3 _ _ hD2) (hz.ts fw_ts (za9 g3)),_,rd_22l hC3 (hz2.ts fw_ts (za9 g3)),zgg _,zgg _,?_⟩;rw[d22s_eqv];exact k _ (g2.trans g3)
def zhy(K:PySem.W.Frag)(ts:List Addr):Sp:=fun vs H Q _=>∃(a:Addr)(ns:List Int),vs=[.ref a]/\SqL K H a (ns.map V.int)/\ns.length<=63/\(∀b,b∈ts->zbq H b lposP qlP)/\∀H',Q (.bl true) H'
theorem zm9{H:Hp}{b:Addr}{pos:Pos}{q:Str}(h:H b=some (.tbl #[])):zbq H b pos q:=⟨#[],h,by trivial,.inl rfl⟩
theorem lt_put{H:Hp}{P F:Addr}{pos:Pos}{q:Str}{ys:List V}{o:HO}(h:zbq H P pos q)(hF:H F=some (.lst ys)):zbq (upd H F o) P pos q:=by
 obtain⟨ps,h1,h2,h3⟩:=h;refine⟨ps,by rw[za5 (zkk h1 hF fun z=>nomatch z)];exact h1,h2,h3.imp id fun⟨c,e,hc⟩=>⟨c,e,by rw[za5 (zkk hc hF fun z=>nomatch z)];exact hc⟩⟩
def dR(r:List Q3):PyData:=.list (r.map dQ)
theorem rd_rs{K:PySem.W.Frag}{H:Hp}:∀{zs:List V}{F:List (List Q3)},LR RgQ H zs F->RdDs K H (F.map dR) zs
 |[],[],_=>by rw[List.map_nil,RdDs]
 |[],_::_,h=>by cases h.1
 |_::_,[],h=>by cases h.1
 |v::zs,r::F,h=>by
  obtain⟨a,as',e,⟨p,rfl,us,h1,h2⟩,h3⟩:=h.cons_inv
  cases e;rw[List.map_cons,RdDs];exact⟨_,zs,rfl,rd_ql h1 h2,rd_rs h3⟩
theorem zmi{K:PySem.W.Frag}{H:Hp}{l:Addr}{zs:List V}{F:List (List Q3)}(h:H l=some (.lst zs))(hz:LR RgQ H zs F):RdD K H (.list (F.map dR)) (.ref l):=by
 rw[RdD];exact⟨l,zs,rfl,.of h,rd_rs hz⟩
theorem dR_lay(r:List Q3):(dR r).canLay0=true/\(dR r).depth<=4:=by
 obtain⟨h1,h2⟩:=dQs_lay r;unfold dR;rw[PyData.canLay0,PyData.depth];exact⟨h1,by omega⟩
theorem dRs_lay(F:List (List Q3)):PyData.canLayAll0 (F.map dR)=true/\PyData.depthAll (F.map dR)<=4:=by
 induction F with
 |nil=>exact⟨rfl,by simp[PyData.depthAll]⟩
 |cons r F ih=>
  have h:=dR_lay r;rw[List.map_cons]
  constructor
  ·rw[PyData.canLayAll0,h.1,ih.1];rfl
  ·rw[PyData.depthAll];have:=h.2;have:=ih.2;omega
theorem zcr(F:List (List Q3)):SeqAt.shaped (.list (F.map dR))=true:=by
 obtain⟨h1,h2⟩:=dRs_lay F;unfold SeqAt.shaped;rw[PyData.canLay0,h1,Bool.true_and,PyData.depth];exact decide_eq_true (by omega)
theorem zm2:∀F:List (List Q3),PyData.eqvAll (F.map dR) (F.map dR)=true
 |[]=>by simp[PyData.eqvAll]
 |r::F=>by
  rw[List.map_cons,PyData.eqvAll,zm2 F];unfold dR;rw[dQs_eqv,decide_eq_true rfl];rfl
theorem zkm(F:List (List Q3)):PyData.eqv (.list (F.map dR)) (.list (F.map dR))=true:=by rw[PyData.eqv,zm2]
theorem rgs_st{tb:Addr}{pos:Pos}{q:Str}{H H':Hp}{ys:List V}{rs:List (List Q3)}(h:LR RgQ H ys rs)(st:zb0 tb H H')(lt:zbq H tb pos q):LR RgQ H' ys rs:=h.imp fun p r⟨us,h1,h2⟩=>⟨us,st.lst lt h1,h2.ts zc2 fun b xs z=>st.tup lt z⟩
def t0:List Q3:=[⟨0,0,1⟩,⟨2,1,1⟩,⟨1,3,1⟩]
def tl:List (Q3×Q3):=[(⟨0,0,1⟩,⟨2,1,1⟩),(⟨1,3,1⟩,⟨0,0,1⟩),(⟨2,1,1⟩,⟨1,3,1⟩)]
theorem fen_t:Fen tl:=by
 refine⟨by decide,by decide,by decide,by decide,fun e e' he he'=>?_⟩
 unfold tl at he he';simp only[List.mem_cons,List.not_mem_nil,or_false] at he he';rcases he with rfl|rfl|rfl<;>rcases he' with rfl|rfl|rfl<;>decide
theorem pt1(x y:Int)(hx:x.natAbs<2^60)(hy:y.natAbs<2^60):PQ 700 ⟨x,y,1⟩:=Pt.mono (m:=60) ⟨(by decide:(0:Int)<1),by show Nat.gcd _ _=1;exact Nat.gcd_one_right _,hx,hy,(by decide:(1:Int).natAbs<2^60)⟩ (by decide)
theorem told_t:Told tl 1 [t0]:=by
 refine⟨fun r hr p hp=>?_,List.pairwise_singleton _ _,fun q hq=>?_,fun q hq=>?_,?_,?_⟩
 ·rw[List.mem_singleton.mp hr] at hp;unfold t0 at hp;simp only[List.mem_cons,List.not_mem_nil,or_false] at hp;rcases hp with rfl|rfl|rfl
  ·exact⟨pt1 0 0 (by decide) (by decide),Int.le_refl _⟩
  ·exact⟨pt1 2 1 (by decide) (by decide),Int.le_refl _⟩
  ·exact⟨pt1 1 3 (by decide) (by decide),Int.le_refl _⟩
 ·rw[List.mem_singleton.mp hq]
  decide
 ·rw[List.mem_singleton.mp hq]
  decide
 ·show List.Perm [(⟨0,0,1⟩,⟨2,1,1⟩),(⟨2,1,1⟩,⟨1,3,1⟩),(⟨1,3,1⟩,⟨0,0,1⟩)] tl
  exact .cons _ (.swap _ _ _)
 ·have n2:∀j,0<j->j<=2->itr tl (⟨0,0,1⟩,⟨2,1,1⟩) j≠(⟨0,0,1⟩,⟨2,1,1⟩):=fun j h1 h2=>by
   rcases(by omega:j=1∨j=2) with rfl|rfl<;>decide
  refine⟨_,_,[t0],.skip (e:=(⟨2,1,1⟩,⟨1,3,1⟩)) (.skip (e:=(⟨1,3,1⟩,⟨0,0,1⟩)) (.go (e:=(⟨0,0,1⟩,⟨2,1,1⟩)) (t:=2) .nil rfl (by decide) (by decide) n2) rfl (by decide)) rfl (by decide),?_,by decide,fun j c q h1 h2=>?_,.refl _⟩
  ·decide
  ·cases j with
   |zero=>
    cases h1;have e:q=t0:=(Option.some.inj h2).symm.trans (by decide)
    rw[e];exact⟨0,by decide,rfl,by decide⟩
   |succ j=>cases h1
theorem mw_bx{f:Fr}{H:Hp}{ys:List V}{ws:List E2}(h:LR (MwH f) H ys ws){e:E2}(he:e∈ws):Bx e.1/\Bx e.2:=by
 obtain⟨j,hj⟩:=List.mem_iff_getElem?.mp he;obtain⟨p,x,_,e2,e3⟩:=h.at (j:=j) (by rw[h.1];exact(List.getElem?_eq_some_iff.mp hj).1)
 rw[hj] at e2
 cases e2;exact e3.2
def BakI(H3:Hp)(a0 C M W E0:Addr)(f:Fr)(ws:List E2)(i:Nat)(σ:St)(H':Hp):Prop:=∃(kvs:List (List Key×V))(o1 o2:Option V),σ=[some (V.ref a0),some (V.ref C),some (V.ref M),some (V.ref W),some (V.ref E0),o1,o2,none,none,none,none,none,none]/\Same H3 H'/\kvs.length<=i/\BkH f (ws.take i) H' E0 kvs
def InA(F:Addr)(fs:List V)(b:Addr):Prop:=b=F∨∃j:Nat,fs[j]?=some (V.ref b)
def Off(F:Addr)(fs:List V)(J H':Hp):Prop:=∀b o,¬InA F fs b->J b=some o->H' b=some o
theorem Off.tup{F:Addr}{fs:List V}{J H':Hp}(h:Off F fs J H')(inl:∀b,InA F fs b->∃zs,J b=some (.lst zs)):zad J H':=fun b xs q=>h b _ (fun z=>by
 obtain⟨zs,e⟩:=inl b z;rw[q] at e
 cases e) q
theorem Off.lam{F tb:Addr}{fs:List V}{J H':Hp}{pos:Pos}{q:Str}(h:Off F fs J H')(inl:∀b,InA F fs b->∃zs,J b=some (.lst zs))(t:zbq J tb pos q):zbq H' tb pos q:=by
 obtain⟨ps,h1,h2,h3⟩:=t;refine⟨ps,h _ _ (fun z=>?_) h1,h2,h3.imp id fun⟨c,e,hc⟩=>⟨c,e,h _ _ (fun z=>?_) hc⟩⟩
 ·obtain⟨zs,e⟩:=inl _ z;rw[h1] at e
  cases e
 ·obtain⟨zs,e⟩:=inl _ z;rw[hc] at e
  cases e
def AppI(J:Hp)(F:Addr)(fs:List V)(s0:List (Option V))(i:Nat)(σ:St)(H':Hp):Prop:=∃o,σ=s0++[o]/\Off F fs J H'/\H' F=some (.lst fs)/\∀b,InA F fs b->∃zs,H' b=some (.lst zs)/\zs.length<=150+i
theorem ok_law(T:Txt K mg ad fd)(hK:K.In base)(hB:base.BuiltinsAt mg (ad 29)):FnOk P w K mg base CX0 8 (ad 27) (fd 27) ["_law_script"] (zhy K [(ad 29)]):=by
 refine T.law.fn.ok zdj (fun vs H Q E h=>?_) (fun cdv A outer s H vs Q E hr h=>?_)
 ·obtain⟨a,ns,rfl,_⟩:=h;rfl
 obtain⟨a0,ns,rfl,hS,hlen,lts,k⟩:=h;have lt:=lts _ (List.mem_singleton.mpr rfl);clear lts;have yF:=@pss16;have zd:=@zbu;have zj:=@zbv;have zr:=@pa3;have qpv:=@pv;have zb:=@zdv;have za:=@zbt;have zh:=@pa2;have zg:=@pa1;have zO:=@zf4;have zq:=@zd8;have zp:=@zc1;have zK:=@zfb;have zE:=@ze8;have zm:=@zbw;have zL:=@zfd;have zf:=@zaf;have zZ:=@zk8;have zc:=@ze3;have yf:=@zj5;have zn:=@zen;have zS:=@PW.pt;have zP:=@pw_or;have zu:=@zd1;have zY:=@zot;have zH:=@zgl;have zT:=@zm3;have ze:=@zb3;have zJ:=@znn;have zo:=@zc0;have zX:=@zkb;unfold L2.CompBody at zX;have zF:=@zel;have zt:=@zdr;have zk:=@zcv;have zv:=@zdb;have yG:=@pe_bm0;have zA:=@zhk;have zw:=@zcl;have yj:=@pe_and;have zG:=@zfh;have yk:=@pe_one;generalize @L2.PE=QE,@L2.PT=QT,@L2.PW=QW,@L2.PA=QA,@L2.PS=QS,@L2.PSs=QSs,@L2.PG=QG,@L2.PGs=QGs,@L2.PI=QI,@L2.PO=QO,@L2.PIf=QIf at yF zd zj zr qpv zb za zh zg zO zq zp zK zE zm zL zf zZ zc yf zn zS zP zu zY zH zT ze zJ zo zX zF zt zk zv yG zA zw yj zG yk⊢;refine⟨_,
  (yF
   (zd (i:=1) zdj.nd rfl (Or.inl rfl) (zj (zj7 T) (hr.mono (by decide)) rfl T.law_cells.mg T.law_cells.fn.kp T.law_cells.bn .nil pass0 (zr (qpv 0) za2 (zb zb7 za (zb zcm (zj (zbm T) (hr.mono (by decide)) rfl T.law_cell.mg T.law_cell.fn.kp T.law_cell.bn .nil pass0 (zh (qpv 0) za2 za za3)) za)) zac (zb zb7 za (zb zcm (zj (zbm T) (hr.mono (by decide)) rfl T.law_cell.mg T.law_cell.fn.kp T.law_cell.bn .nil pass0 (zh (qpv 0) za2 za za3)) za)) zac)))
   (zd (i:=2) zdj.nd rfl (Or.inl rfl) (zj (zjo T) (hr.mono (by decide)) rfl T.law_frame.mg T.law_frame.fn.kp T.law_frame.bn .nil pass0 (zg (qpv 0) za2)))
   (zd (i:=3) zdj.nd rfl (Or.inl rfl) (zj (zk0 T) (hr.mono (by decide)) rfl T.law_land.mg T.law_land.fn.kp T.law_land.bn .nil pass0 (zh (qpv 1) za2 (qpv 2) za2)))
   (zd (i:=4) zdj.nd rfl (Or.inl rfl) zO)
   (zq PassesOwn.never rfl (zp (qpv 3)) (zK (n:=2) rfl (zE (zm (i:=5) zdj.nd rfl (Or.inl rfl)) (zE (zm (i:=6) zdj.nd rfl (Or.inl rfl)) zL))) (zf (zZ (zda hr) (qpv 4) (zj (ze1 T) (hr.mono (by decide)) rfl T.law_point.mg T.law_point.fn.kp T.law_point.bn .nil pass0 (zr (zc za6 (qpv 5) za (fun _ _=>rfl)) za8 (zc za6 (qpv 5) za (fun _ _=>rfl)) za8 (zc zak (qpv 2) za (fun _ _=>rfl)) za8)) (qpv 5) rfl)))
   (zd (i:=7) zdj.nd rfl (Or.inl rfl) (zj (zl0 T) (hr.mono (by decide)) rfl T.law_told.mg T.law_told.fn.kp T.law_told.bn .nil pass0 (zh (qpv 3) za2 (zc zak (qpv 2) za (fun _ _=>rfl)) za8)))
   (zd (i:=8) zdj.nd rfl (Or.inl rfl) (yf zh2 rfl T.b_list zhz (zg (qpv 7) za2)))
   (zd (i:=9) zdj.nd rfl (Or.inl rfl) (zj (zep T hK hB) (hr.mono (by decide)) rfl T.rings_of.mg T.rings_of.fn.kp T.rings_of.bn .nil pass0 (zg (qpv 8) za2)))
   (zn (zS (zP (zu (zol (hu64 hr)) (qpv 8) (qpv 7) (nomark _)) (zP (zY (zH (zj (zjq T) (hr.mono (by decide)) rfl T.law_sides.mg T.law_sides.fn.kp T.law_sides.bn .nil pass0 (zr (qpv 9) za2 (qpv 4) za2 (qpv 3) za2)))) (zT (zY (zH (zj (zin T) (hr.mono (by decide)) rfl T.law_order.mg T.law_order.fn.kp T.law_order.bn .nil pass0 (zh (qpv 9) za2 (qpv 4) za2)))))))) (zf (ze zJ)) zo)
   (zX (i:=10) zdj.nd rfl (Or.inl rfl) (dsc:=za0 zfg) (N:=["_law_script","_law_cells_here","_law_frame_here","_law_ways","_law_back","_law_first","_law_last","_law_land_here","_law_handed","_law_found","_law_kept","_law_other","_law_ring"]) (own:=["_law_ring"]) (ix:=[]) rfl rfl rfl ⟨rfl,by decide+kernel,by decide+kernel,by decide+kernel,by decide+kernel⟩ (zp (qpv 9)) (fun cl C fp s2 H2 xe=>⟨(zm (i:=0) (show List.Nodup (["_law_ring"]:List Str) from by decide+kernel) rfl (Or.inl rfl)),zF,(yf zh2 rfl T.b_list zhz (zg (qpv 0) za2))⟩))
   (zd (i:=11) zdj.nd rfl (Or.inl rfl) (zj (zep T hK hB) (hr.mono (by decide)) rfl T.rings_of.mg T.rings_of.fn.kp T.rings_of.bn .nil pass0 (zg (zt (zr (zk (zh (zk (zr za za3 za za3 za za3)) zai (zk (zr za za3 za za3 za za3)) zai)) zai (zk (zh (zk (zr za za3 za za3 za za3)) zai (zk (zr za za3 za za3 za za3)) zai)) zai (zk (zh (zk (zr za za3 za za3 za za3)) zai (zk (zr za za3 za za3 za za3)) zai)) zai)) zjt)))
   (zv (yG PySem.F.plainAttrs_list PySem.F.slot_list_clear PySem.F.type_list_clear mt_clear (qpv 8)))
   (zn (zu (zol (hu64 hr)) (qpv 9) (qpv 10) (nomark _)) (zf (ze zJ)) zo)
   (zq PassesOwn.never rfl (zp (qpv 9)) (zm (i:=12) zdj.nd rfl (Or.inl rfl)) (zf (zv (zA PySem.F.plainAttrs_list PySem.F.slot_list_append PySem.F.type_list_append zbo (qpv 12) (zg (zk (zr za za3 za za3 za za3)) zai)))))
   (zv (zA PySem.F.plainAttrs_list PySem.F.slot_list_append PySem.F.type_list_append zbo (qpv 9) (zg (zt zw) zjt)))
   (ze (yj (zG (zj3 (hu64 hr)) (zj (zep T hK hB) (hr.mono (by decide)) rfl T.rings_of.mg T.rings_of.fn.kp T.rings_of.bn .nil pass0 (zg (qpv 7) za2)) (qpv 10) (nomark _)) (yk (zG (zj3 (hu64 hr)) (qpv 11) (zt (zg (zt (zr (zk (zr za za3 za za3 za za3)) zai (zk (zr za za3 za za3 za za3)) zai (zk (zr za za3 za za3 za za3)) zai)) zjt)) (nomark _))))))
  ,?_⟩
 clear yF zd zj zr qpv zb za zh zg zO zq zp zK zE zm zL zf zZ zc yf zn zS zP zu zY zH zT ze zJ zo zX zF zt zk zv yG zA zw yj zG yk QE QT QW QA QS QSs QG QGs QI QO QIf
 dsimp! [L2.start]
 simp! [];refine⟨a0,ns,0,rfl,hS,by decide,by decide,fun v0=>⟨v0,rfl,by decide,a0,ns,1,rfl,hS,by decide,by decide,fun v1=>⟨v1,rfl,by decide,?_⟩⟩⟩
 refine⟨a0,ns,_,_,rfl,hS,by omega,by omega,by omega,by omega,fun C zs cs H1 hC g1 hC1 nz hz=>?_⟩
 refine⟨a0,ns,rfl,g1.seq hS,fun M f H2 hM g2 hf=>?_⟩;refine⟨C,M,zs,cs,f,rfl,g2 _ _ hC1,nz,hz.ts c3_ts (za9 g2),hf,fun W ys ws es H3 hW g3 hW3 ny hw Eg Wg=>?_⟩;have g03:=(g1.trans g2).trans g3;have hf3:=hf.same g3;have lt3:=lt.same g03;obtain⟨xf,hxf,_,_,_,_,_,_,f6,fb⟩:=hf3;have hw0:0<f.w:=by have:=fb.2.2.2.2.2.2.1;omega
 have hd:0<fd2 f:=by have:=fb.2.2.2.2.2.2.2.2;unfold fd2;omega
 have Fe:=fen_of hw0 hd Eg Wg;have lws:=hw.1;simp! [zje];intro E0' hE;have gE:=za1 hE (HO.dT []);refine zbk ?_;simp! [zcx];refine⟨⟨_,.of (gE _ _ hW3)⟩,?_⟩;refine zaz (K:=K) (a:=W) (xs:=ys) (BakI H3 a0 C M W E0' f ws) ⟨[],none,none,rfl,gE,Nat.le_refl _,upd_same,fun e he=>(by rw[List.take_zero] at he;cases he)⟩ (fun i σ H' _ iv=>.of (by obtain⟨_,_,_,_,g,_⟩:=iv;exact g _ _ hW3)) ?_ ?_
 ·intro _ _;rintro i v σ H4 hi ⟨kvs,o1,o2,rfl,g4,nk,bk⟩;obtain⟨p,e,rfl,he',⟨c,d,h1,h2,h3⟩,b1,b2⟩:=hw.2 i v hi;have hi':=(List.getElem?_eq_some_iff.mp hi).1;have h1':=g4 _ _ h1;have h2':H4 c=some (.tup [.int (mv f e.1).1,.int (mv f e.1).2]):=g4 _ _ h2;have hx4:=g4 _ _ hxf;simp! [sDPut,h1',h2',hx4,f6];refine⟨_,_,_,rfl,mv_bd fb b1,hw0,fun pa H5 g5 ha=>?_⟩;have hE5:=g5 _ _ bk.1;have ha:QH H5 pa (PF f e.1):=ha;refine⟨_,.t (k:=kQ (PF f e.1)) hE5 ha.1 (small1000 (by omega)),putK kvs (kQ (PF f e.1)) (V.ref c),_,_,rfl,zat (g4.trans g5) hE,Nat.le_trans (zbp _ _ _) (by omega),upd_same,fun x hx=>?_⟩
  rw[List.take_add_one,he'] at hx;rw[zco];have tsP:zad H5 (upd H5 E0' (HO.dT (putK kvs (kQ (PF f e.1)) (V.ref c)))):=fun b xs q=>by
   rw[za5 (fun z=>by rw[z,hE5] at q;cases q)]
   exact q
  by_cases cx:kQ (PF f x.1)=kQ (PF f e.1)
  ·rw[if_pos cx];have:x.1=e.1:=zgb hw0 hd (zei cx);refine⟨c,rfl,?_⟩;rw[this];exact tsP _ _ (g5 _ _ h2')
  ·rw[if_neg cx];rcases List.mem_append.mp hx with z|z
   ·obtain⟨b,q1,q2⟩:=bk.2 x z;exact⟨b,q1,tsP _ _ (g5 _ _ q2)⟩
   ·have:x=e:=by simpa using z
    rw[this] at cx;exact absurd rfl cx
 ·rintro σ H4 ⟨kvs,o1,o2,rfl,g4,nk,bk⟩;rw[List.take_of_length_le (Nat.le_of_eq lws.symm)] at bk;have lt4:=lt3.same g4;simp! [];refine⟨xf,g4 _ _ hxf,_,f6,W,ys,ws,f,rfl,g4 _ _ hW3,ny,hw.ts zmz (za9 g4),fb,fun L ls H7 hL g7 hL7 hls=>?_⟩;refine⟨L,rfl,ls,.inl hL7,fun N hN=>?_⟩;have nLN:L≠N:=zb5 hL7 hN;have g8:=za1 hN (HO.lst ls);have hN8:upd H7 N (HO.lst ls) N=some (HO.lst ls):=upd_same;generalize upd H7 N (HO.lst ls)=H8 at*;have lt8:=(lt4.same g7).same g8;have hs8:=hls.ts zed (za9 g8);have nl:ls.length<=144:=by rw[hls.1,List.length_map,←hw.1];exact ny
  have hL8:=g8 _ _ hL7;have bk8:=bk.same (g7.trans g8);refine⟨N,ls,_,rfl,hN8,by omega,hs8,Fe,lt8,fun F fs os g H9 hF st9 lt9 hF9 ho td=>?_⟩
  have ts9:zad H8 H9:=fun b xs q=>st9.tup lt8 q;have hL9:=st9.lst lt8 hL8;have hN9:=st9.lst lt8 hN8;have hs9:=hs8.ts zed ts9;refine⟨_,_,rd_sl hN9 hs9,rd_sl hL9 hs9,zh7 _,zh7 _,_,rfl,?_⟩;rw[dSs_eqv];refine iteF ?_;have ho9:LR RgQ H9 fs os:=ho.imp (R':=RgQ) fun p r t=>t.2.2;have hE9:H9 E0'=some (.dT kvs):=st9 _ _ (lt8.ne bk8.1 fun _ z=>nomatch z) bk8.1;have bk9:BkH f ws H9 E0' kvs:=⟨hE9,fun e he=>by
   obtain⟨b,q1,q2⟩:=bk8.2 e he;exact⟨b,q1,ts9 _ _ q2⟩⟩
  have g38:=g4.trans (g7.trans g8);have hW9:=st9.lst lt8 (g38 _ _ hW3);have hw9:=(hw.ts zmz (za9 g38)).ts zmz ts9;refine⟨F,E0',W,fs,ys,os,ws,f,kvs,rfl,hF9,ho9,bk9,hW9,ny,hw9,hw0,hd,Fe,td.pm,fun q hq=>(td.rg q hq).2,fun H10 g10=>⟨_,rfl,?_⟩⟩;refine iteF ?_;refine⟨F,E0',fs,os,ws,f,kvs,g,rfl,g10 _ _ hF9,zhp ho9 g10,bk9.same g10,hw0,hd,fun e he=>(mw_bx hw he).1,by omega,Fe,td,fun H11 g11=>⟨_,rfl,?_⟩⟩
  refine iteF ?_;have g911:=g10.trans g11;have hF11:=g911 _ _ hF9;have lfs:=ho.1;have l3:=zg4 fun q hq=>(td.rg q hq).2;rw[td.pm.length_eq,List.length_map] at l3;have nA8:∀b o,H8 b=some o->¬InA F fs b:=fun b o e z=>by
   rcases z with z|⟨j,hj⟩
   ·rw[z,hF] at e;cases e
   ·obtain⟨p,r,e1,_,e3,_⟩:=ho.2 j _ hj
    cases e1;rw[e3] at e
    cases e
  have inA:∀b,InA F fs b->∃zs,H9 b=some (.lst zs)/\zs.length<=150:=fun b z=>by
   rcases z with z|⟨j,hj⟩
   ·exact⟨fs,by rw[z];exact hF9,by omega⟩
   ·obtain⟨p,r,e1,e2,_,_,us,h1,h2⟩:=ho.2 j _ hj
    cases e1;refine⟨us,h1,?_⟩;rw[h2.1];have:=zft (List.mem_of_getElem? e2);rw[td.pm.length_eq,List.length_map] at this;omega
  have nA:∀{H':Hp}{b:Addr},Same H9 H'->H' b=none->¬InA F fs b:=fun gg e z=>by
   obtain⟨zs,h1,_⟩:=inA _ z;rw[gg _ _ h1] at e
   cases e
  refine zd2 ?_;simp! [zcx];refine⟨⟨_,.of hF11⟩,fun KP hKP=>?_⟩;have nKP:=nA g911 hKP;refine zcs (xs:=fs) (fun i us H'=>Same H11 H'/\H' KP=some (.lst us)/\us.length=i/\LR (fun H1 q r=>¬InA F fs q/\q≠KP/\q≠N/\RgQ H1 q r) H' us (os.take i)) ⟨za1 hKP _,upd_same,rfl,by rw[List.take_zero];exact .nil⟩ (fun i us H' iv=>.of (iv.1 _ _ hF11)) ?_ ?_
  ·rintro i us H12 v hi hv ⟨g12,hK12,lu,hu⟩;obtain⟨p,r,rfl,hr',hp⟩:=ho9.2 i v hv;obtain⟨xs,hx,hxr⟩:=hp.same (g911.trans g12);simp! [];refine⟨xs,.inl hx,fun q hq=>?_⟩;have nq:=nA (g911.trans g12) hq;have nK:q≠KP:=fun z=>by rw[z,hK12] at hq;cases hq
   have nN:q≠N:=fun z=>by rw[z,g12 _ _ (g911 _ _ hN9)] at hq;cases hq
   have g13:=za1 hq (HO.lst xs);have hq13:upd H12 q (HO.lst xs) q=some (HO.lst xs):=upd_same;generalize upd H12 q (HO.lst xs)=H13 at*;have hK13:=g13 _ _ hK12;refine cw_put hi hK13 (small1000 (by omega)) ⟨zat (g12.trans g13) hKP,upd_same,by rw[List.length_append,lu];rfl,?_⟩
   rw[List.take_add_one,hr'];exact((hu.imp (R':=fun H1 q r=>¬InA F fs q/\q≠KP/\q≠N/\RgQ H1 q r) fun q r t=>⟨t.1,t.2.1,t.2.2.1,t.2.2.2.same g13⟩).snoc (R:=fun H1 q r=>¬InA F fs q/\q≠KP/\q≠N/\RgQ H1 q r) (a:=r) ⟨nq,nK,nN,xs,hq13,hxr.same g13⟩).imp fun q r t=>⟨t.1,t.2.1,t.2.2.1,t.2.2.2.put t.2.1 hK13⟩
  rintro kz H12 ⟨g12,hK12,lk,hk⟩;rw[List.take_of_length_le (by omega)] at hk
  have g912:=g911.trans g12;have lt12:=lt9.same g912;intro u0 z0;have s0:=za1 z0 (HO.tup [V.int 0,V.int 0,V.int 1]);have q0:upd H12 u0 (HO.tup [V.int 0,V.int 0,V.int 1]) u0=some (HO.tup [V.int 0,V.int 0,V.int 1]):=upd_same;generalize upd H12 u0 (HO.tup [V.int 0,V.int 0,V.int 1])=I0 at*;intro u1 z1;have s1:=za1 z1 (HO.tup [V.int 2,V.int 1,V.int 1]);have q1:upd I0 u1 (HO.tup [V.int 2,V.int 1,V.int 1]) u1=some (HO.tup [V.int 2,V.int 1,V.int 1]):=upd_same;generalize upd I0 u1 (HO.tup [V.int 2,V.int 1,V.int 1])=I1 at*;intro u2 z2;have s2:=za1 z2 (HO.tup [V.ref u0,V.ref u1]);have q2:upd I1 u2 (HO.tup [V.ref u0,V.ref u1]) u2=some (HO.tup [V.ref u0,V.ref u1]):=upd_same;generalize upd I1 u2 (HO.tup [V.ref u0,V.ref u1])=I2 at*;intro u3 z3;have s3:=za1 z3 (HO.tup [V.int 1,V.int 3,V.int 1]);have q3:upd I2 u3 (HO.tup [V.int 1,V.int 3,V.int 1]) u3=some (HO.tup [V.int 1,V.int 3,V.int 1]):=upd_same;generalize upd I2 u3 (HO.tup [V.int 1,V.int 3,V.int 1])=I3 at*;intro u4 z4;have s4:=za1 z4 (HO.tup [V.int 0,V.int 0,V.int 1]);have q4:upd I3 u4 (HO.tup [V.int 0,V.int 0,V.int 1]) u4=some (HO.tup [V.int 0,V.int 0,V.int 1]):=upd_same;generalize upd I3 u4 (HO.tup [V.int 0,V.int 0,V.int 1])=I4 at*;intro u5 z5;have s5:=za1 z5 (HO.tup [V.ref u3,V.ref u4]);have q5:upd I4 u5 (HO.tup [V.ref u3,V.ref u4]) u5=some (HO.tup [V.ref u3,V.ref u4]):=upd_same;generalize upd I4 u5 (HO.tup [V.ref u3,V.ref u4])=I5 at*;intro u6 z6;have s6:=za1 z6 (HO.tup [V.int 2,V.int 1,V.int 1]);have q6:upd I5 u6 (HO.tup [V.int 2,V.int 1,V.int 1]) u6=some (HO.tup [V.int 2,V.int 1,V.int 1]):=upd_same;generalize upd I5 u6 (HO.tup [V.int 2,V.int 1,V.int 1])=I6 at*;intro u7 z7;have s7:=za1 z7 (HO.tup [V.int 1,V.int 3,V.int 1]);have q7:upd I6 u7 (HO.tup [V.int 1,V.int 3,V.int 1]) u7=some (HO.tup [V.int 1,V.int 3,V.int 1]):=upd_same;generalize upd I6 u7 (HO.tup [V.int 1,V.int 3,V.int 1])=I7 at*;intro u8 z8;have s8:=za1 z8 (HO.tup [V.ref u6,V.ref u7]);have q8:upd I7 u8 (HO.tup [V.ref u6,V.ref u7]) u8=some (HO.tup [V.ref u6,V.ref u7]):=upd_same;generalize upd I7 u8 (HO.tup [V.ref u6,V.ref u7])=I8 at*;intro u9 z9;have s9:=za1 z9 (HO.lst [V.ref u2,V.ref u5,V.ref u8]);have q9:upd I8 u9 (HO.lst [V.ref u2,V.ref u5,V.ref u8]) u9=some (HO.lst [V.ref u2,V.ref u5,V.ref u8]):=upd_same;generalize upd I8 u9 (HO.lst [V.ref u2,V.ref u5,V.ref u8])=I9 at*;have g1219:Same H12 I9:=(((((((((s0.trans s1).trans s2).trans s3).trans s4).trans s5).trans s6).trans s7).trans s8).trans s9);have lt19:=lt12.same g1219;have hs19:LR S2H I9 [V.ref u2,V.ref u5,V.ref u8] tl:=.cons ⟨u2,rfl,u0,u1,(s9 _ _ (s8 _ _ (s7 _ _ (s6 _ _ (s5 _ _ (s4 _ _ (s3 _ _ q2))))))),⟨(s9 _ _ (s8 _ _ (s7 _ _ (s6 _ _ (s5 _ _ (s4 _ _ (s3 _ _ (s2 _ _ (s1 _ _ q0))))))))),pt1 0 0 (by decide) (by decide)⟩,⟨(s9 _ _ (s8 _ _ (s7 _ _ (s6 _ _ (s5 _ _ (s4 _ _ (s3 _ _ (s2 _ _ q1)))))))),pt1 2 1 (by decide) (by decide)⟩⟩ (.cons ⟨u5,rfl,u3,u4,(s9 _ _ (s8 _ _ (s7 _ _ (s6 _ _ q5)))),⟨(s9 _ _ (s8 _ _ (s7 _ _ (s6 _ _ (s5 _ _ (s4 _ _ q3)))))),pt1 1 3 (by decide) (by decide)⟩,⟨(s9 _ _ (s8 _ _ (s7 _ _ (s6 _ _ (s5 _ _ q4))))),pt1 0 0 (by decide) (by decide)⟩⟩ (.cons ⟨u8,rfl,u6,u7,(s9 _ _ q8),⟨(s9 _ _ (s8 _ _ (s7 _ _ q6))),pt1 2 1 (by decide) (by decide)⟩,⟨(s9 _ _ (s8 _ _ q7)),pt1 1 3 (by decide) (by decide)⟩⟩ .nil))
  refine⟨u9,_,tl,rfl,q9,(by decide:3<=150),hs19,fen_t,lt19,fun O zs2 os2 g2' H20 hO st20 lt20 hO20 ho2 td2=>?_⟩
  have e2:os2=[t0]:=td2.det told_t;subst e2;have g919:=g912.trans g1219;have ts20:zad I9 H20:=fun b xs q=>st20.tup lt19 q;have hN20:=st20.lst lt19 (g919 _ _ hN9);have hL20:=st20.lst lt19 (g919 _ _ hL9);have hF20:=st20.lst lt19 (g919 _ _ hF9);have hK20:=st20.lst lt19 (g1219 _ _ hK12);have hs20:=(hs9.ts zed (za9 g919)).ts zed ts20;clear q0 q1 q2 q3 q4 q5 q6 q7 q8 q9 s0 s1 s2 s3 s4 s5 s6 s7 s8 s9 z0 z1 z2 z3 z4 z5 z6 z7 z8 z9;have nNA:=nA8 _ _ hN8;have nFN:F≠N:=fun z=>nNA (.inl z.symm);have nKN:KP≠N:=fun z=>by rw[z,g911 _ _ hN9] at hKP;cases hKP
  have nON:O≠N:=fun z=>by rw[z,g919 _ _ hN9] at hO;cases hO
  have nOA:=nA g919 hO;have rg20:∀{p:Addr}{r:List Q3},RgQ I9 p r->RgQ H20 p r:=fun⟨us,x1,x2⟩=>⟨us,st20.lst lt19 x1,x2.ts zc2 ts20⟩;have tsJ:zad H20 (upd H20 N (HO.lst [])):=zcg hN20;have ltJ:zbq (upd H20 N (HO.lst [])) ((ad 29)) lposP qlP:=lt_put lt20 hN20;have hFJ:upd H20 N (HO.lst []) F=some (.lst fs):=by rw[za5 nFN];exact hF20
  have hLJ:upd H20 N (HO.lst []) L=some (.lst ls):=by rw[za5 nLN];exact hL20
  have hKJ:upd H20 N (HO.lst []) KP=some (.lst kz):=by rw[za5 nKN];exact hK20
  have hOJ:upd H20 N (HO.lst []) O=some (.lst zs2):=by rw[za5 nON];exact hO20
  have hsJ:=hs20.ts zed tsJ;have hoJ:LR RgQ (upd H20 N (HO.lst [])) fs os:=ho.imp fun p r t=>(rg20 (t.2.2.same g919)).put (fun z=>by rw[z,hN8] at t;cases t.1) hN20
  have hkJ:LR (fun H1 q r=>¬InA F fs q/\RgQ H1 q r) (upd H20 N (HO.lst [])) kz os:=hk.imp fun q r t=>⟨t.1,(rg20 (t.2.2.2.same g1219)).put t.2.2.1 hN20⟩;have ho2J:LR (fun H1 q r=>¬InA F fs q/\RgQ H1 q r) (upd H20 N (HO.lst [])) zs2 [t0]:=ho2.imp fun q r t=>⟨nA g919 t.1,t.2.2.put (fun z=>by rw[z,g919 _ _ hN9] at t;cases t.1) hN20⟩
  have inJ:∀b,InA F fs b->∃zs,upd H20 N (HO.lst []) b=some (.lst zs)/\zs.length<=150:=fun b z=>by
   obtain⟨zs,x1,x2⟩:=inA b z;refine⟨zs,?_,x2⟩;rw[za5 (fun q=>nNA (by rw[←q];exact z))]
   exact st20.lst lt19 (g919 _ _ x1)
  refine⟨zd5 hN20,⟨_,hN20⟩,?_⟩;generalize upd H20 N (HO.lst [])=J at*;simp! [rNeD];refine⟨_,zmi hFJ hoJ,_,zmi hKJ (hkJ.imp (R':=RgQ) fun q r t=>t.2),zcr _,zcr _,?_⟩;rw[zkm];refine iteF ?_;refine zbk ?_;simp! [zcx];refine⟨⟨_,.of hFJ⟩,?_⟩;refine zaz (K:=K) (a:=F) (xs:=fs) (AppI J F fs [some (V.ref a0),some (V.ref C),some (V.ref M),some (V.ref W),some (V.ref E0'),o1,o2,some (V.ref L),some (V.ref N),some (V.ref F),some (V.ref KP),some (V.ref O)]) ⟨_,rfl,fun b o _ z=>z,hFJ,inJ⟩ (fun i σ H' _ iv=>.of (by obtain⟨_,_,_,z,_⟩:=iv;exact z)) ?_ ?_
  ·intro _ _;rintro i v σ J1 hi ⟨o,rfl,of1,hF1,in1⟩;obtain⟨p,r,rfl,hr',hp8,npF,_⟩:=ho.2 i v hi;have hi':=(List.getElem?_eq_some_iff.mp hi).1;have pA:InA F fs p:=.inr ⟨i,hi⟩;obtain⟨xs,hx,lx⟩:=in1 p pA;simp! [List.cons_append,List.nil_append];refine⟨zd5 hx,fun t ht=>?_⟩;have gt:=za1 ht (HO.tup [V.int 0,V.int 0,V.int 1]);generalize upd J1 t (HO.tup [V.int 0,V.int 0,V.int 1])=J2 at*;refine⟨xs,gt _ _ hx,small1000 (by omega),_,rfl,fun b o nb e=>?_,?_,fun b hb=>?_⟩
   ·rw[za5 (fun z=>nb (by rw[z];exact pA))]
    exact gt _ _ (of1 b o nb e)
   ·rw[za5 npF.symm];exact gt _ _ hF1
   ·by_cases c:b=p
    ·subst c;exact⟨_,upd_same,by rw[List.length_append,List.length_singleton];omega⟩
    ·obtain⟨zs',x1,x2⟩:=in1 b hb;exact⟨zs',by rw[za5 c];exact gt _ _ x1,by omega⟩
  ·rintro σ J1 ⟨o,rfl,of1,hF1,in1⟩;simp! [List.cons_append,List.nil_append];refine⟨zd5 hF1,fun e0 he0=>?_⟩;have ge:=za1 he0 (HO.lst []);have hF2:=ge _ _ hF1;generalize upd J1 e0 (HO.lst [])=J2 at*;refine⟨fs,hF2,small1000 (by omega),?_⟩
   have of3:Off F fs J (upd J2 F (HO.lst (fs++[V.ref e0]))):=fun b o nb e=>by
    rw[za5 (fun z=>nb (.inl z))];exact ge _ _ (of1 b o nb e)
   generalize upd J2 F (HO.lst (fs++[V.ref e0]))=J3 at*;have inl:∀b,InA F fs b->∃zs,J b=some (.lst zs):=fun b z=>by
    obtain⟨zs',x1,_⟩:=inJ b z;exact⟨zs',x1⟩
   have ts3:=of3.tup inl;have lt3':=of3.lam inl ltJ;have hL3:=of3 _ _ (nA8 _ _ hL8) hLJ;have hK3:=of3 _ _ nKP hKJ;have hO3:=of3 _ _ nOA hOJ;have hs3:=hsJ.ts zed ts3;have hk3:LR RgQ J3 kz os:=hkJ.imp fun q r⟨n,us,x1,x2⟩=>⟨us,of3 _ _ n x1,x2.ts zc2 ts3⟩;have ho3:LR RgQ J3 zs2 [t0]:=ho2J.imp fun q r⟨n,us,x1,x2⟩=>⟨us,of3 _ _ n x1,x2.ts zc2 ts3⟩;refine⟨L,ls,_,rfl,hL3,by omega,hs3,Fe,lt3',fun F2 fs2 os3 g3' H21 hF2' st21 lt21 hF21 ho4 td3=>?_⟩
   have e3:os3=os:=td3.det td;subst e3;have hK21:=st21.lst lt3' hK3;have hO21:=st21.lst lt3' hO3;have hk21:=rgs_st hk3 st21 lt3';have ho21:=rgs_st ho3 st21 lt3';simp! [rEqD];refine⟨_,zmi hF21 (ho4.imp (R':=RgQ) fun p r t=>t.2.2),_,zmi hK21 hk21,zcr _,zcr _,?_⟩;rw[zkm];refine iteT ?_;intro r0 z0;have s0:=za1 z0 (HO.tup [V.int 0,V.int 0,V.int 1]);have q0:upd H21 r0 (HO.tup [V.int 0,V.int 0,V.int 1]) r0=some (HO.tup [V.int 0,V.int 0,V.int 1]):=upd_same;generalize upd H21 r0 (HO.tup [V.int 0,V.int 0,V.int 1])=J5 at*;intro r1 z1;have s1:=za1 z1 (HO.tup [V.int 2,V.int 1,V.int 1]);have q1:upd J5 r1 (HO.tup [V.int 2,V.int 1,V.int 1]) r1=some (HO.tup [V.int 2,V.int 1,V.int 1]):=upd_same;generalize upd J5 r1 (HO.tup [V.int 2,V.int 1,V.int 1])=J6 at*;intro r2 z2;have s2:=za1 z2 (HO.tup [V.int 1,V.int 3,V.int 1]);have q2:upd J6 r2 (HO.tup [V.int 1,V.int 3,V.int 1]) r2=some (HO.tup [V.int 1,V.int 3,V.int 1]):=upd_same;generalize upd J6 r2 (HO.tup [V.int 1,V.int 3,V.int 1])=J7 at*;intro r3 z3;have s3:=za1 z3 (HO.lst [V.ref r0,V.ref r1,V.ref r2]);have q3:upd J7 r3 (HO.lst [V.ref r0,V.ref r1,V.ref r2]) r3=some (HO.lst [V.ref r0,V.ref r1,V.ref r2]):=upd_same;generalize upd J7 r3 (HO.lst [V.ref r0,V.ref r1,V.ref r2])=J8 at*;intro r4 z4;have s4:=za1 z4 (HO.lst [V.ref r3]);have q4:upd J8 r4 (HO.lst [V.ref r3]) r4=some (HO.lst [V.ref r3]):=upd_same;generalize upd J8 r4 (HO.lst [V.ref r3])=J9 at*;have gJ:Same H21 J9:=(((s0.trans s1).trans s2).trans s3).trans s4;have hl3:LR QH J9 [V.ref r0,V.ref r1,V.ref r2] t0:=.cons ⟨r0,rfl,s4 _ _ (s3 _ _ (s2 _ _ (s1 _ _ q0))),pt1 0 0 (by decide) (by decide)⟩ (.cons ⟨r1,rfl,s4 _ _ (s3 _ _ (s2 _ _ q1)),pt1 2 1 (by decide) (by decide)⟩ (.cons ⟨r2,rfl,s4 _ _ (s3 _ _ q2),pt1 1 3 (by decide) (by decide)⟩ .nil))
   have hl4:LR RgQ J9 [V.ref r3] [t0]:=.cons ⟨r3,rfl,_,s4 _ _ q3,hl3⟩ .nil;refine⟨_,zmi (gJ _ _ hO21) (zhp ho21 gJ),_,zmi q4 hl4,zcr _,zcr _,?_⟩;rw[zkm];exact k _
end
theorem all_mk{l:PySem.W.OpenLaw}{w:World}{K:PySem.W.Frag}{h:Heap}{mg:Str->Option Value}{fa f0 f1 f2 f3 f4 f5 f6 cT0 pT0 f7 f8 f9 f10 f11 f12 f13 f14 f15 f16 f17 f18 f19 f20 f21 f22 f23 f24 f25 f26 f27:Addr}(X:K.In h)(G:h.Ns mainGlobals mg)(hfa:mg "law"=some (.ref fa))
  {od0 an0:Option Addr}{sl0:Array (Option Value)}{oc0 kV0 dc0 pm0 cd0 ct0:Value}
  {od1 an1:Option Addr}{sl1:Array (Option Value)}{oc1 kV1 dc1 pm1 cd1 ct1:Value}
  {od2 an2:Option Addr}{sl2:Array (Option Value)}{oc2 kV2 dc2 pm2 cd2 ct2:Value}
  {od3 an3:Option Addr}{sl3:Array (Option Value)}{oc3 kV3 dc3 pm3 cd3 ct3:Value}
  {od4 an4:Option Addr}{sl4:Array (Option Value)}{oc4 kV4 dc4 pm4 cd4 ct4:Value}
  {od5 an5:Option Addr}{sl5:Array (Option Value)}{oc5 kV5 dc5 pm5 cd5 ct5:Value}
  {od6 an6:Option Addr}{sl6:Array (Option Value)}{oc6 kV6 dc6 pm6 ct6:Value}
  {tdT0:Option Addr}{tvT0:Array Value}{tsT0:Array (Option Value)}{tcT0:Value}
  {od7 an7:Option Addr}{sl7:Array (Option Value)}{oc7 kV7 dc7 pm7 cd7 ct7:Value}
  {od8 an8:Option Addr}{sl8:Array (Option Value)}{oc8 kV8 dc8 pm8 cd8 ct8:Value}
  {od9 an9:Option Addr}{sl9:Array (Option Value)}{oc9 kV9 dc9 pm9 cd9 ct9:Value}
  {od10 an10:Option Addr}{sl10:Array (Option Value)}{oc10 kV10 dc10 pm10 cd10 ct10:Value}
  {od11 an11:Option Addr}{sl11:Array (Option Value)}{oc11 kV11 dc11 pm11 cd11 ct11:Value}
  {od12 an12:Option Addr}{sl12:Array (Option Value)}{oc12 kV12 dc12 pm12 cd12 ct12:Value}
  {od13 an13:Option Addr}{sl13:Array (Option Value)}{oc13 kV13 dc13 pm13 cd13 ct13:Value}
  {od14 an14:Option Addr}{sl14:Array (Option Value)}{oc14 kV14 dc14 pm14 cd14 ct14:Value}
  {od15 an15:Option Addr}{sl15:Array (Option Value)}{oc15 kV15 dc15 pm15 cd15 ct15:Value}
  {od16 an16:Option Addr}{sl16:Array (Option Value)}{oc16 kV16 dc16 pm16 cd16 ct16:Value}
  {od17 an17:Option Addr}{sl17:Array (Option Value)}{oc17 kV17 dc17 pm17 cd17 ct17:Value}
  {od18 an18:Option Addr}{sl18:Array (Option Value)}{oc18 kV18 dc18 pm18 cd18 ct18:Value}
  {od19 an19:Option Addr}{sl19:Array (Option Value)}{oc19 kV19 dc19 pm19 cd19 ct19:Value}
  {od20 an20:Option Addr}{sl20:Array (Option Value)}{oc20 kV20 dc20 pm20 cd20 ct20:Value}
  {od21 an21:Option Addr}{sl21:Array (Option Value)}{oc21 kV21 dc21 pm21 cd21 ct21:Value}
  {od22 an22:Option Addr}{sl22:Array (Option Value)}{oc22 kV22 dc22 pm22 cd22 ct22:Value}
  {od23 an23:Option Addr}{sl23:Array (Option Value)}{oc23 kV23 dc23 pm23 cd23 ct23:Value}
  {od24 an24:Option Addr}{sl24:Array (Option Value)}{oc24 kV24 dc24 pm24 cd24 ct24:Value}
  {od25 an25:Option Addr}{sl25:Array (Option Value)}{oc25 kV25 dc25 pm25 cd25 ct25:Value}
  {od26 an26:Option Addr}{sl26:Array (Option Value)}{oc26 kV26 dc26 pm26 cd26 ct26:Value}
  {od27 an27:Option Addr}{sl27:Array (Option Value)}{oc27 kV27 dc27 pm27 cd27 ct27:Value}
  (a0:PySem.W.nsIn K mainGlobals "before"=some (some (.ref f0)))(l0:K.lookup f0=some ⟨oc0,od0,.func (PySem.W.fnOf "before" "before" (za7 zbz) (za4 zbz) (za0 zbz) .none kV0 dc0 pm0 an0 cd0 ct0),sl0⟩)(c0:PySem.W.codeIn K cd0 "before"=true)(k0:PySem.W.keepIn K (.ref f0)=true)
  (a1:PySem.W.nsIn K mainGlobals "sign_of"=some (some (.ref f1)))(l1:K.lookup f1=some ⟨oc1,od1,.func (PySem.W.fnOf "sign_of" "sign_of" (za7 zc8) (za4 zc8) (za0 zc8) .none kV1 dc1 pm1 an1 cd1 ct1),sl1⟩)(c1:PySem.W.codeIn K cd1 "sign_of"=true)(k1:PySem.W.keepIn K (.ref f1)=true)
  (a2:PySem.W.nsIn K mainGlobals "line_of"=some (some (.ref f2)))(l2:K.lookup f2=some ⟨oc2,od2,.func (PySem.W.fnOf "line_of" "line_of" (za7 zc6) (za4 zc6) (za0 zc6) .none kV2 dc2 pm2 an2 cd2 ct2),sl2⟩)(c2:PySem.W.codeIn K cd2 "line_of"=true)(k2:PySem.W.keepIn K (.ref f2)=true)
  (a3:PySem.W.nsIn K mainGlobals "side_of"=some (some (.ref f3)))(l3:K.lookup f3=some ⟨oc3,od3,.func (PySem.W.fnOf "side_of" "side_of" (za7 zcb) (za4 zcb) (za0 zcb) .none kV3 dc3 pm3 an3 cd3 ct3),sl3⟩)(c3:PySem.W.codeIn K cd3 "side_of"=true)(k3:PySem.W.keepIn K (.ref f3)=true)
  (a4:PySem.W.nsIn K mainGlobals "turn"=some (some (.ref f4)))(l4:K.lookup f4=some ⟨oc4,od4,.func (PySem.W.fnOf "turn" "turn" (za7 zey) (za4 zey) (za0 zey) .none kV4 dc4 pm4 an4 cd4 ct4),sl4⟩)(c4:PySem.W.codeIn K cd4 "turn"=true)(k4:PySem.W.keepIn K (.ref f4)=true)
  (a5:PySem.W.nsIn K mainGlobals "order_keys"=some (some (.ref f5)))(l5:K.lookup f5=some ⟨oc5,od5,.func (PySem.W.fnOf "order_keys" "order_keys" (za7 zaq) (za4 zaq) (za0 zaq) .none kV5 dc5 pm5 an5 cd5 ct5),sl5⟩)(c5:PySem.W.codeIn K cd5 "order_keys"=true)(k5:PySem.W.keepIn K (.ref f5)=true)
  (a6:PySem.W.nsIn K mainGlobals "by_points"=some (some (.ref f6)))(l6:K.lookup f6=some ⟨oc6,od6,.func (PySem.W.fnOf "by_points" "by_points" (za7 zag) (za4 zag) (za0 zag) .none kV6 dc6 pm6 an6 (.ref cT0) ct6),sl6⟩)(c6:PySem.W.codeIn K (.ref cT0) "by_points"=true)(k6:PySem.W.keepIn K (.ref f6)=true)
  (lT0:K.lookup cT0=some ⟨tcT0,tdT0,.fields tvT0,tsT0⟩)(vT0:tvT0[11]?=some (.ref pT0))(hT0:PySem.W.codeHdIn K cT0 pT0=true)(tT0:PySem.W.tabIn K "by_points"=some (cT0,pT0))(nT0:K.lookup pT0=none)
  (a7:PySem.W.nsIn K mainGlobals "rings_of"=some (some (.ref f7)))(l7:K.lookup f7=some ⟨oc7,od7,.func (PySem.W.fnOf "rings_of" "rings_of" (za7 zbh) (za4 zbh) (za0 zbh) .none kV7 dc7 pm7 an7 cd7 ct7),sl7⟩)(c7:PySem.W.codeIn K cd7 "rings_of"=true)(k7:PySem.W.keepIn K (.ref f7)=true)
  (a8:PySem.W.nsIn K mainGlobals "leaving_of"=some (some (.ref f8)))(l8:K.lookup f8=some ⟨oc8,od8,.func (PySem.W.fnOf "leaving_of" "leaving_of" (za7 zay) (za4 zay) (za0 zay) .none kV8 dc8 pm8 an8 cd8 ct8),sl8⟩)(c8:PySem.W.codeIn K cd8 "leaving_of"=true)(k8:PySem.W.keepIn K (.ref f8)=true)
  (a9:PySem.W.nsIn K mainGlobals "way_round"=some (some (.ref f9)))(l9:K.lookup f9=some ⟨oc9,od9,.func (PySem.W.fnOf "way_round" "way_round" (za7 zbc) (za4 zbc) (za0 zbc) .none kV9 dc9 pm9 an9 cd9 ct9),sl9⟩)(c9:PySem.W.codeIn K cd9 "way_round"=true)(k9:PySem.W.keepIn K (.ref f9)=true)
  (a10:PySem.W.nsIn K mainGlobals "first_right"=some (some (.ref f10)))(l10:K.lookup f10=some ⟨oc10,od10,.func (PySem.W.fnOf "first_right" "first_right" (za7 zan) (za4 zan) (za0 zan) .none kV10 dc10 pm10 an10 cd10 ct10),sl10⟩)(c10:PySem.W.codeIn K cd10 "first_right"=true)(k10:PySem.W.keepIn K (.ref f10)=true)
  (a11:PySem.W.nsIn K mainGlobals "is_met_sooner"=some (some (.ref f11)))(l11:K.lookup f11=some ⟨oc11,od11,.func (PySem.W.fnOf "is_met_sooner" "is_met_sooner" (za7 zah) (za4 zah) (za0 zah) .none kV11 dc11 pm11 an11 cd11 ct11),sl11⟩)(c11:PySem.W.codeIn K cd11 "is_met_sooner"=true)(k11:PySem.W.keepIn K (.ref f11)=true)
  (a12:PySem.W.nsIn K mainGlobals "from_least"=some (some (.ref f12)))(l12:K.lookup f12=some ⟨oc12,od12,.func (PySem.W.fnOf "from_least" "from_least" (za7 zaw) (za4 zaw) (za0 zaw) .none kV12 dc12 pm12 an12 cd12 ct12),sl12⟩)(c12:PySem.W.codeIn K cd12 "from_least"=true)(k12:PySem.W.keepIn K (.ref f12)=true)
  (a13:PySem.W.nsIn K mainGlobals "_law_cell"=some (some (.ref f13)))(l13:K.lookup f13=some ⟨oc13,od13,.func (PySem.W.fnOf "_law_cell" "_law_cell" (za7 zbr) (za4 zbr) (za0 zbr) .none kV13 dc13 pm13 an13 cd13 ct13),sl13⟩)(c13:PySem.W.codeIn K cd13 "_law_cell"=true)(k13:PySem.W.keepIn K (.ref f13)=true)
  (a14:PySem.W.nsIn K mainGlobals "_law_divisor"=some (some (.ref f14)))(l14:K.lookup f14=some ⟨oc14,od14,.func (PySem.W.fnOf "_law_divisor" "_law_divisor" (za7 zao) (za4 zao) (za0 zao) .none kV14 dc14 pm14 an14 cd14 ct14),sl14⟩)(c14:PySem.W.codeIn K cd14 "_law_divisor"=true)(k14:PySem.W.keepIn K (.ref f14)=true)
  (a15:PySem.W.nsIn K mainGlobals "_law_point"=some (some (.ref f15)))(l15:K.lookup f15=some ⟨oc15,od15,.func (PySem.W.fnOf "_law_point" "_law_point" (za7 zbe) (za4 zbe) (za0 zbe) .none kV15 dc15 pm15 an15 cd15 ct15),sl15⟩)(c15:PySem.W.codeIn K cd15 "_law_point"=true)(k15:PySem.W.keepIn K (.ref f15)=true)
  (a16:PySem.W.nsIn K mainGlobals "_law_cells"=some (some (.ref f16)))(l16:K.lookup f16=some ⟨oc16,od16,.func (PySem.W.fnOf "_law_cells" "_law_cells" (za7 zb9) (za4 zb9) (za0 zb9) .none kV16 dc16 pm16 an16 cd16 ct16),sl16⟩)(c16:PySem.W.codeIn K cd16 "_law_cells"=true)(k16:PySem.W.keepIn K (.ref f16)=true)
  (a17:PySem.W.nsIn K mainGlobals "_law_ends"=some (some (.ref f17)))(l17:K.lookup f17=some ⟨oc17,od17,.func (PySem.W.fnOf "_law_ends" "_law_ends" (za7 zbs) (za4 zbs) (za0 zbs) .none kV17 dc17 pm17 an17 cd17 ct17),sl17⟩)(c17:PySem.W.codeIn K cd17 "_law_ends"=true)(k17:PySem.W.keepIn K (.ref f17)=true)
  (a18:PySem.W.nsIn K mainGlobals "_law_edges"=some (some (.ref f18)))(l18:K.lookup f18=some ⟨oc18,od18,.func (PySem.W.fnOf "_law_edges" "_law_edges" (za7 zb1) (za4 zb1) (za0 zb1) .none kV18 dc18 pm18 an18 cd18 ct18),sl18⟩)(c18:PySem.W.codeIn K cd18 "_law_edges"=true)(k18:PySem.W.keepIn K (.ref f18)=true)
  (a19:PySem.W.nsIn K mainGlobals "_law_straight"=some (some (.ref f19)))(l19:K.lookup f19=some ⟨oc19,od19,.func (PySem.W.fnOf "_law_straight" "_law_straight" (za7 zaj) (za4 zaj) (za0 zaj) .none kV19 dc19 pm19 an19 cd19 ct19),sl19⟩)(c19:PySem.W.codeIn K cd19 "_law_straight"=true)(k19:PySem.W.keepIn K (.ref f19)=true)
  (a20:PySem.W.nsIn K mainGlobals "_law_long"=some (some (.ref f20)))(l20:K.lookup f20=some ⟨oc20,od20,.func (PySem.W.fnOf "_law_long" "_law_long" (za7 zb6) (za4 zb6) (za0 zb6) .none kV20 dc20 pm20 an20 cd20 ct20),sl20⟩)(c20:PySem.W.codeIn K cd20 "_law_long"=true)(k20:PySem.W.keepIn K (.ref f20)=true)
  (a21:PySem.W.nsIn K mainGlobals "_law_frame"=some (some (.ref f21)))(l21:K.lookup f21=some ⟨oc21,od21,.func (PySem.W.fnOf "_law_frame" "_law_frame" (za7 zba) (za4 zba) (za0 zba) .none kV21 dc21 pm21 an21 cd21 ct21),sl21⟩)(c21:PySem.W.codeIn K cd21 "_law_frame"=true)(k21:PySem.W.keepIn K (.ref f21)=true)
  (a22:PySem.W.nsIn K mainGlobals "_law_moved"=some (some (.ref f22)))(l22:K.lookup f22=some ⟨oc22,od22,.func (PySem.W.fnOf "_law_moved" "_law_moved" (za7 zbf) (za4 zbf) (za0 zbf) .none kV22 dc22 pm22 an22 cd22 ct22),sl22⟩)(c22:PySem.W.codeIn K cd22 "_law_moved"=true)(k22:PySem.W.keepIn K (.ref f22)=true)
  (a23:PySem.W.nsIn K mainGlobals "_law_land"=some (some (.ref f23)))(l23:K.lookup f23=some ⟨oc23,od23,.func (PySem.W.fnOf "_law_land" "_law_land" (za7 zbj) (za4 zbj) (za0 zbj) .none kV23 dc23 pm23 an23 cd23 ct23),sl23⟩)(c23:PySem.W.codeIn K cd23 "_law_land"=true)(k23:PySem.W.keepIn K (.ref f23)=true)
  (a24:PySem.W.nsIn K mainGlobals "_law_told"=some (some (.ref f24)))(l24:K.lookup f24=some ⟨oc24,od24,.func (PySem.W.fnOf "_law_told" "_law_told" (za7 zbg) (za4 zbg) (za0 zbg) .none kV24 dc24 pm24 an24 cd24 ct24),sl24⟩)(c24:PySem.W.codeIn K cd24 "_law_told"=true)(k24:PySem.W.keepIn K (.ref f24)=true)
  (a25:PySem.W.nsIn K mainGlobals "_law_sides"=some (some (.ref f25)))(l25:K.lookup f25=some ⟨oc25,od25,.func (PySem.W.fnOf "_law_sides" "_law_sides" (za7 zbb) (za4 zbb) (za0 zbb) .none kV25 dc25 pm25 an25 cd25 ct25),sl25⟩)(c25:PySem.W.codeIn K cd25 "_law_sides"=true)(k25:PySem.W.keepIn K (.ref f25)=true)
  (a26:PySem.W.nsIn K mainGlobals "_law_order"=some (some (.ref f26)))(l26:K.lookup f26=some ⟨oc26,od26,.func (PySem.W.fnOf "_law_order" "_law_order" (za7 zb2) (za4 zb2) (za0 zb2) .none kV26 dc26 pm26 an26 cd26 ct26),sl26⟩)(c26:PySem.W.codeIn K cd26 "_law_order"=true)(k26:PySem.W.keepIn K (.ref f26)=true)
  (a27:PySem.W.nsIn K mainGlobals "law"=some (some (.ref f27)))(l27:K.lookup f27=some ⟨oc27,od27,.func (PySem.W.fnOf "law" "law" (za7 zfg) (za4 zfg) (za0 zfg) .none kV27 dc27 pm27 an27 cd27 ct27),sl27⟩)(c27:PySem.W.codeIn K cd27 "law"=true)(k27:PySem.W.keepIn K (.ref f27)=true)
  (z0:PySem.W.nsIn K mainGlobals "abs"=some none)
  (z1:PySem.W.nsIn K mainGlobals "isinstance"=some none)
  (z2:PySem.W.nsIn K mainGlobals "len"=some none)
  (z3:PySem.W.nsIn K mainGlobals "list"=some none)
  (z4:PySem.W.nsIn K mainGlobals "max"=some none)
  (z5:PySem.W.nsIn K mainGlobals "min"=some none)
  (z6:PySem.W.nsIn K mainGlobals "range"=some none)
  (z7:PySem.W.nsIn K mainGlobals "set"=some none)
  (z8:PySem.W.nsIn K mainGlobals "sorted"=some none)
  :∃(fd:FuncData)(ts:List Addr),(∀b,b∈ts->K.lookup b=none/\∃y c,y∈([Str.ofString "by_points"]:List Str)/\PySem.W.tabIn K y=some (c,b))/\(∀(s:Shared)(v:Value),BindsTo s fd ⟨[v],[]⟩ [("_law_script",v)])/\∀base:Heap,K.In base->base.Ns mainGlobals mg->(∀b,b∈ts->base.BuiltinsAt mg b)->FnOk l.prog w K mg base CX0 8 fa fd ["_law_script"] (zhy K ts):=by
 have e:=hfa.symm.trans (PySem.W.mg_of X G a27)
 cases e;have F0:=zb4 (st:=zbz) l0 c0 k0;have b0:=F0.binds (ps:=["P","Q"]) fun _ _ _ _ _ _ us hl=>match us,hl with|[_,_],_=>rfl
 have F1:=zb4 (st:=zc8) l1 c1 k1;have b1:=F1.binds (ps:=["number"]) fun _ _ _ _ _ _ us hl=>match us,hl with|[_],_=>rfl
 have F2:=zb4 (st:=zc6) l2 c2 k2;have b2:=F2.binds (ps:=["P","Q"]) fun _ _ _ _ _ _ us hl=>match us,hl with|[_,_],_=>rfl
 have F3:=zb4 (st:=zcb) l3 c3 k3;have b3:=F3.binds (ps:=["line","P"]) fun _ _ _ _ _ _ us hl=>match us,hl with|[_,_],_=>rfl
 have F4:=zb4 (st:=zey) l4 c4 k4;have b4:=F4.binds (ps:=["P","Q","R"]) fun _ _ _ _ _ _ us hl=>match us,hl with|[_,_,_],_=>rfl
 have F5:=zb4 (st:=zaq) l5 c5 k5;have b5:=F5.binds (ps:=["points"]) fun _ _ _ _ _ _ us hl=>match us,hl with|[_],_=>rfl
 have F6:=zb4 (st:=zag) l6 c6 k6;have FC6:FunC K "by_points" "by_points" zag f6 _ cT0 pT0:=⟨⟨_,_,_,_,_,_,_,_,rfl,l6,c6⟩,hT0⟩;have b6:=F6.binds (ps:=["things"]) fun _ _ _ _ _ _ us hl=>match us,hl with|[_],_=>rfl
 have F7:=zb4 (st:=zbh) l7 c7 k7;have b7:=F7.binds (ps:=["land"]) fun _ _ _ _ _ _ us hl=>match us,hl with|[_],_=>rfl
 have F8:=zb4 (st:=zay) l8 c8 k8;have b8:=F8.binds (ps:=["land"]) fun _ _ _ _ _ _ us hl=>match us,hl with|[_],_=>rfl
 have F9:=zb4 (st:=zbc) l9 c9 k9;have b9:=F9.binds (ps:=["start","leaving","gone"]) fun _ _ _ _ _ _ us hl=>match us,hl with|[_,_,_],_=>rfl
 have F10:=zb4 (st:=zan) l10 c10 k10;have b10:=F10.binds (ps:=["P","Q","tips"]) fun _ _ _ _ _ _ us hl=>match us,hl with|[_,_,_],_=>rfl
 have F11:=zb4 (st:=zah) l11 c11 k11;have b11:=F11.binds (ps:=["P","Q","one","other"]) fun _ _ _ _ _ _ us hl=>match us,hl with|[_,_,_,_],_=>rfl
 have F12:=zb4 (st:=zaw) l12 c12 k12;have b12:=F12.binds (ps:=["ring"]) fun _ _ _ _ _ _ us hl=>match us,hl with|[_],_=>rfl
 have F13:=zb4 (st:=zbr) l13 c13 k13;have b13:=F13.binds (ps:=["_law_script","_law_k"]) fun _ _ _ _ _ _ us hl=>match us,hl with|[_,_],_=>rfl
 have F14:=zb4 (st:=zao) l14 c14 k14;have b14:=F14.binds (ps:=["_law_one","_law_other"]) fun _ _ _ _ _ _ us hl=>match us,hl with|[_,_],_=>rfl
 have F15:=zb4 (st:=zbe) l15 c15 k15;have b15:=F15.binds (ps:=["_law_east","_law_north","_law_share"]) fun _ _ _ _ _ _ us hl=>match us,hl with|[_,_,_],_=>rfl
 have F16:=zb4 (st:=zb9) l16 c16 k16;have b16:=F16.binds (ps:=["_law_script","_law_wide","_law_high"]) fun _ _ _ _ _ _ us hl=>match us,hl with|[_,_,_],_=>rfl
 have F17:=zb4 (st:=zbs) l17 c17 k17;have b17:=F17.binds (ps:=["_law_cell_here"]) fun _ _ _ _ _ _ us hl=>match us,hl with|[_],_=>rfl
 have F18:=zb4 (st:=zb1) l18 c18 k18;have b18:=F18.binds (ps:=["_law_cells_here"]) fun _ _ _ _ _ _ us hl=>match us,hl with|[_],_=>rfl
 have F19:=zb4 (st:=zaj) l19 c19 k19;have b19:=F19.binds (ps:=["_law_starts","_law_begin","_law_end"]) fun _ _ _ _ _ _ us hl=>match us,hl with|[_,_,_],_=>rfl
 have F20:=zb4 (st:=zb6) l20 c20 k20;have b20:=F20.binds (ps:=["_law_edges_here"]) fun _ _ _ _ _ _ us hl=>match us,hl with|[_],_=>rfl
 have F21:=zb4 (st:=zba) l21 c21 k21;have b21:=F21.binds (ps:=["_law_script"]) fun _ _ _ _ _ _ us hl=>match us,hl with|[_],_=>rfl
 have F22:=zb4 (st:=zbf) l22 c22 k22;have b22:=F22.binds (ps:=["_law_place","_law_frame_here"]) fun _ _ _ _ _ _ us hl=>match us,hl with|[_,_],_=>rfl
 have F23:=zb4 (st:=zbj) l23 c23 k23;have b23:=F23.binds (ps:=["_law_cells_here","_law_frame_here"]) fun _ _ _ _ _ _ us hl=>match us,hl with|[_,_],_=>rfl
 have F24:=zb4 (st:=zbg) l24 c24 k24;have b24:=F24.binds (ps:=["_law_ways","_law_share"]) fun _ _ _ _ _ _ us hl=>match us,hl with|[_,_],_=>rfl
 have F25:=zb4 (st:=zbb) l25 c25 k25;have b25:=F25.binds (ps:=["_law_found","_law_back","_law_ways"]) fun _ _ _ _ _ _ us hl=>match us,hl with|[_,_,_],_=>rfl
 have F26:=zb4 (st:=zb2) l26 c26 k26;have b26:=F26.binds (ps:=["_law_found","_law_back"]) fun _ _ _ _ _ _ us hl=>match us,hl with|[_,_],_=>rfl
 have F27:=zb4 (st:=zfg) l27 c27 k27;have b27:=F27.binds (ps:=["_law_script"]) fun _ _ _ _ _ _ us hl=>match us,hl with|[_],_=>rfl
 have T:Txt K mg (fun n=>[f0,f1,f2,f3,f4,f5,f6,f7,f8,f9,f10,f11,f12,f13,f14,f15,f16,f17,f18,f19,f20,f21,f22,f23,f24,f25,f26,fa,cT0,pT0].getD n 0) (fun n=>[PySem.W.fnOf "before" "before" (za7 zbz) (za4 zbz) (za0 zbz) .none kV0 dc0 pm0 an0 cd0 ct0,PySem.W.fnOf "sign_of" "sign_of" (za7 zc8) (za4 zc8) (za0 zc8) .none kV1 dc1 pm1 an1 cd1 ct1,PySem.W.fnOf "line_of" "line_of" (za7 zc6) (za4 zc6) (za0 zc6) .none kV2 dc2 pm2 an2 cd2 ct2,PySem.W.fnOf "side_of" "side_of" (za7 zcb) (za4 zcb) (za0 zcb) .none kV3 dc3 pm3 an3 cd3 ct3,PySem.W.fnOf "turn" "turn" (za7 zey) (za4 zey) (za0 zey) .none kV4 dc4 pm4 an4 cd4 ct4,PySem.W.fnOf "order_keys" "order_keys" (za7 zaq) (za4 zaq) (za0 zaq) .none kV5 dc5 pm5 an5 cd5 ct5,PySem.W.fnOf "by_points" "by_points" (za7 zag) (za4 zag) (za0 zag) .none kV6 dc6 pm6 an6 (.ref cT0) ct6,PySem.W.fnOf "rings_of" "rings_of" (za7 zbh) (za4 zbh) (za0 zbh) .none kV7 dc7 pm7 an7 cd7 ct7,PySem.W.fnOf "leaving_of" "leaving_of" (za7 zay) (za4 zay) (za0 zay) .none kV8 dc8 pm8 an8 cd8 ct8,PySem.W.fnOf "way_round" "way_round" (za7 zbc) (za4 zbc) (za0 zbc) .none kV9 dc9 pm9 an9 cd9 ct9,PySem.W.fnOf "first_right" "first_right" (za7 zan) (za4 zan) (za0 zan) .none kV10 dc10 pm10 an10 cd10 ct10,PySem.W.fnOf "is_met_sooner" "is_met_sooner" (za7 zah) (za4 zah) (za0 zah) .none kV11 dc11 pm11 an11 cd11 ct11,PySem.W.fnOf "from_least" "from_least" (za7 zaw) (za4 zaw) (za0 zaw) .none kV12 dc12 pm12 an12 cd12 ct12,PySem.W.fnOf "_law_cell" "_law_cell" (za7 zbr) (za4 zbr) (za0 zbr) .none kV13 dc13 pm13 an13 cd13 ct13,PySem.W.fnOf "_law_divisor" "_law_divisor" (za7 zao) (za4 zao) (za0 zao) .none kV14 dc14 pm14 an14 cd14 ct14,PySem.W.fnOf "_law_point" "_law_point" (za7 zbe) (za4 zbe) (za0 zbe) .none kV15 dc15 pm15 an15 cd15 ct15,PySem.W.fnOf "_law_cells" "_law_cells" (za7 zb9) (za4 zb9) (za0 zb9) .none kV16 dc16 pm16 an16 cd16 ct16,PySem.W.fnOf "_law_ends" "_law_ends" (za7 zbs) (za4 zbs) (za0 zbs) .none kV17 dc17 pm17 an17 cd17 ct17,PySem.W.fnOf "_law_edges" "_law_edges" (za7 zb1) (za4 zb1) (za0 zb1) .none kV18 dc18 pm18 an18 cd18 ct18,PySem.W.fnOf "_law_straight" "_law_straight" (za7 zaj) (za4 zaj) (za0 zaj) .none kV19 dc19 pm19 an19 cd19 ct19,PySem.W.fnOf "_law_long" "_law_long" (za7 zb6) (za4 zb6) (za0 zb6) .none kV20 dc20 pm20 an20 cd20 ct20,PySem.W.fnOf "_law_frame" "_law_frame" (za7 zba) (za4 zba) (za0 zba) .none kV21 dc21 pm21 an21 cd21 ct21,PySem.W.fnOf "_law_moved" "_law_moved" (za7 zbf) (za4 zbf) (za0 zbf) .none kV22 dc22 pm22 an22 cd22 ct22,PySem.W.fnOf "_law_land" "_law_land" (za7 zbj) (za4 zbj) (za0 zbj) .none kV23 dc23 pm23 an23 cd23 ct23,PySem.W.fnOf "_law_told" "_law_told" (za7 zbg) (za4 zbg) (za0 zbg) .none kV24 dc24 pm24 an24 cd24 ct24,PySem.W.fnOf "_law_sides" "_law_sides" (za7 zbb) (za4 zbb) (za0 zbb) .none kV25 dc25 pm25 an25 cd25 ct25,PySem.W.fnOf "_law_order" "_law_order" (za7 zb2) (za4 zb2) (za0 zb2) .none kV26 dc26 pm26 an26 cd26 ct26,PySem.W.fnOf "law" "law" (za7 zfg) (za4 zfg) (za0 zfg) .none kV27 dc27 pm27 an27 cd27 ct27].getD n (PySem.W.fnOf "before" "before" (za7 zbz) (za4 zbz) (za0 zbz) .none kV0 dc0 pm0 an0 cd0 ct0)):=
  ⟨⟨F0,b0,PySem.W.mg_of X G a0⟩,⟨F1,b1,PySem.W.mg_of X G a1⟩,⟨F2,b2,PySem.W.mg_of X G a2⟩,⟨F3,b3,PySem.W.mg_of X G a3⟩,⟨F4,b4,PySem.W.mg_of X G a4⟩,⟨F5,b5,PySem.W.mg_of X G a5⟩,⟨F6,b6,PySem.W.mg_of X G a6⟩,FC6,⟨F7,b7,PySem.W.mg_of X G a7⟩,⟨F8,b8,PySem.W.mg_of X G a8⟩,⟨F9,b9,PySem.W.mg_of X G a9⟩,⟨F10,b10,PySem.W.mg_of X G a10⟩,⟨F11,b11,PySem.W.mg_of X G a11⟩,⟨F12,b12,PySem.W.mg_of X G a12⟩,⟨F13,b13,PySem.W.mg_of X G a13⟩,⟨F14,b14,PySem.W.mg_of X G a14⟩,⟨F15,b15,PySem.W.mg_of X G a15⟩,⟨F16,b16,PySem.W.mg_of X G a16⟩,⟨F17,b17,PySem.W.mg_of X G a17⟩,⟨F18,b18,PySem.W.mg_of X G a18⟩,⟨F19,b19,PySem.W.mg_of X G a19⟩,⟨F20,b20,PySem.W.mg_of X G a20⟩,⟨F21,b21,PySem.W.mg_of X G a21⟩,⟨F22,b22,PySem.W.mg_of X G a22⟩,⟨F23,b23,PySem.W.mg_of X G a23⟩,⟨F24,b24,PySem.W.mg_of X G a24⟩,⟨F25,b25,PySem.W.mg_of X G a25⟩,⟨F26,b26,PySem.W.mg_of X G a26⟩,⟨F27,b27,PySem.W.mg_of X G a27⟩,PySem.W.mg_none_of X G z0,PySem.W.mg_none_of X G z1,PySem.W.mg_none_of X G z2,PySem.W.mg_none_of X G z3,PySem.W.mg_none_of X G z4,PySem.W.mg_none_of X G z5,PySem.W.mg_none_of X G z6,PySem.W.mg_none_of X G z7,PySem.W.mg_none_of X G z8⟩
 exact⟨PySem.W.fnOf "law" "law" (za7 zfg) (za4 zfg) (za0 zfg) .none kV27 dc27 pm27 an27 cd27 ct27,[pT0],fun b hb=>by rw[List.mem_singleton.mp hb];exact⟨nT0,_,cT0,List.mem_singleton.mpr rfl,tT0⟩,fun s v=>.of_eq rfl,fun base hK _ hB=>ok_law T hK (hB _ (List.mem_singleton.mpr rfl))⟩
theorem walk{l:PySem.W.OpenLaw}{q:Program}{loose:List Str}{XP:(Str->Option Value)->Heap->Prop}{YP:World->Heap->Prop}{d:DefRec}{K:Params->PySem.W.Frag}(hn:l.most=some 63)(hdf:d.params.defaults=[])
  (hY:∀(w:World)(h:Heap),YP w h->(K w.params).In h)(hD:∀y,y∈([Str.ofString "by_points"]:List Str)->∃e,(PyProof.Rows.recsOf q).find? (fun e=>e.name==y)=some e)
  (F:∀(w:World)(mg:Str->Option Value)(fa:Addr)(h:Heap),(K w.params).In h->h.Ns mainGlobals mg->mg d.name=some (.ref fa)->
   ∃(fd:FuncData)(ts:List Addr),(∀b,b∈ts->(K w.params).lookup b=none/\∃y c,y∈([Str.ofString "by_points"]:List Str)/\PySem.W.tabIn (K w.params) y=some (c,b))/\(∀(s:Shared)(u:Value),BindsTo s fd ⟨[u],[]⟩ [("_law_script",u)])/\∀base:Heap,(K w.params).In base->base.Ns mainGlobals mg->(∀b,b∈ts->base.BuiltinsAt mg b)->FnOk l.prog w (K w.params) mg base CX0 8 fa fd ["_law_script"] (zhy (K w.params) ts)):
  PySem.W.WalkO q loose XP YP l.row.toRowW d [] (fun f vs=>PySem.call f vs):=
 L2.walk_ofT (n:=63) (k:=8) (x:="_law_script") (CX:=fun _=>CX0) (sp:=fun w ts=>zhy (K w.params) ts) (ds:=[Str.ofString "by_points"]) hn (by decide) hdf ⟨rfl,by decide,by decide⟩ hY hD F (fun _ _ a ns ts hl hO hS=>⟨a,ns,rfl,hS,hl,fun b hb=>zm9 (hO.tabs b hb),fun _=>rfl⟩) fun _ _ _ _ _ z=>z
end Mine
namespace PySem.W.Fast
def tw6562604416399635732:Nat:=0
def tw8226821614519717372:Nat:=0
def tw8156468349793333626:Nat:=0
def tw6981878218115313197:Nat:=0
def tw3059738693118679490:Nat:=0
def tw15962292739747824827:Nat:=0
def tw345350194203643347:Nat:=0
def tw7870850954783691749:Nat:=0
def tw7230848010975528237:Nat:=0
def tw8380378818529706947:Nat:=0
def tw940531067848190215:Nat:=0
def tw4156417186584029557:Nat:=0
def tw13805346776865706493:Nat:=0
def tw13969036859956093032:Nat:=0
def tw2739766184637465762:Nat:=0
def tw8293785307363887835:Nat:=0
def tw14477789077132237601:Nat:=0
def tw18234871612219312761:Nat:=0
def tw7428894623849595197:Nat:=0
def tw15505195930424997084:Nat:=0
def tw16185666744486642294:Nat:=0
def tw1422182923622229323:Nat:=0
def tw8633262384671177528:Nat:=0
def tw18140548953798343597:Nat:=0
def tw13510220874727991179:Nat:=0
def tw1815901195500425431:Nat:=0
def tw11839436705167870102:Nat:=0
def tw4501198680574550272:Nat:=0
def tw8060247629361400967:Nat:=0
def tw12685931428342558174:Nat:=0
def tw11966187789578806830:Nat:=0
def tw17604221873216840125:Nat:=0
def tw2318244256799407558:Nat:=0
def tw4771784452945457706:Nat:=0
def tw565628052879710115:Nat:=0
def tw5353870661059208267:Nat:=0
def tw15000774569623189412:Nat:=0
def tw1050042472540172918:Nat:=0
def tw17797553496579778503:Nat:=0
def tw13609709039704761334:Nat:=0
def tw18296810354014374170:Nat:=0
def tw14858531606778042316:Nat:=0
def tw8036505108986511102:Nat:=0
def tw2274013191628887670:Nat:=0
def tw13098642301446434506:Nat:=0
def tw15194741606391420584:Nat:=0
def tw13663037665624641531:Nat:=0
def tw12357492102795567904:Nat:=0
def tw18075286619182142401:Nat:=0
def tw13807956747262916521:Nat:=0
def tw12703993700078900894:Nat:=0
def tw1560277708041400123:Nat:=0
def tw17199029875505313044:Nat:=0
def tw10933308765162591252:Nat:=0
def tw13099624092370764857:Nat:=0
def tw7166903855329454687:Nat:=0
def tw17781019965878521225:Nat:=0
def tw9940475234171820810:Nat:=0
def tw975561094028079634:Nat:=0
def tw16686634534222224621:Nat:=0
def tw11678885516429575673:Nat:=0
def tw14575452776507714308:Nat:=0
def tw5446716831367939246:Nat:=0
def tw16191263002764662895:Nat:=0
def tw12578506491983647358:Nat:=0
def tw8595748185341629350:Nat:=0
def tw6246785272766763229:Nat:=0
def tw15658769681308922535:Nat:=0
def tw14193581656246942297:Nat:=0
def tw16292070254227830936:Nat:=0
def tw15711644172168059684:Nat:=0
def tw7766861359399214706:Nat:=0
def tw6209859334554453609:Nat:=0
def tw11072394659661947823:Nat:=0
def tw1965221856810050824:Nat:=0
def tw9594641185939778371:Nat:=0
def tw9216942310329950801:Nat:=0
def tw3481606998792868755:Nat:=0
def tw4829463395102418784:Nat:=0
def tw8882280388398969850:Nat:=0
def tw2689665395549955464:Nat:=0
def tw7739123331417129920:Nat:=0
def tw3304162660343056072:Nat:=0
def tw10239995987339405043:Nat:=0
def tw5030769359269513989:Nat:=0
def tw9910706045908289593:Nat:=0
def tw8705465076833102189:Nat:=0
def tw1069397321700650467:Nat:=0
def tw14853442011339223912:Nat:=0
def tw289155608346085863:Nat:=0
def tw15704925197977857170:Nat:=0
def tw5583143731218066400:Nat:=0
def tw511506935057524819:Nat:=0
def tw11328849129855013590:Nat:=0
def tw2344360376698824296:Nat:=0
def tw17858105813313053254:Nat:=0
def tw12039088069478581720:Nat:=0
def tw10582759072446610732:Nat:=0
def tw11518219543288514992:Nat:=0
def tw15547228883268411054:Nat:=0
def tw2407028563773004549:Nat:=0
def tw489040323977249307:Nat:=0
def tw2389615696373715000:Nat:=0
def tw8288899955672212155:Nat:=0
def tw13273954890955287541:Nat:=0
def tw7765329310088737717:Nat:=0
def tw14462105297523827550:Nat:=0
def tw18244750575878978056:Nat:=0
def tw13315804912282870667:Nat:=0
def tw7150772930243492982:Nat:=0
def tw13673235002176551816:Nat:=0
def tw8776615051863392726:Nat:=0
def tw3380439292778345717:Nat:=0
def tw9218686798344704167:Nat:=0
def tw6681771736759195555:Nat:=0
def tw17870947668246037463:Nat:=0
def tw11798700835950470462:Nat:=0
end PySem.W.Fast
open PySem PySem.W PyProof.Rows
set_option maxRecDepth 100000 in
set_option maxHeartbeats 0 in
theorem PySem.Challenge.cw_acre_k41_fences_in_rings_holds : PySem.Challenge.rw_acre_k41_fences_in_rings.Holds := by
 w_on;o_law;k_head;(case hw=>w_witness2)
 k_fill
 refine Mine.walk (l:=PySem.Challenge.rw_acre_k41_fences_in_rings) rfl rfl (fun w h Y=>PySem.W.km_in_of Y) (fun y hy=>by rw[List.mem_singleton.mp hy];exact⟨_,rfl⟩) ?F
 case F=>
  intro w mg fa h KX G hmg
  refine' Mine.all_mk KX G hmg ?a0 ?l0 ?c0 ?k0 ?a1 ?l1 ?c1 ?k1 ?a2 ?l2 ?c2 ?k2 ?a3 ?l3 ?c3 ?k3 ?a4 ?l4 ?c4 ?k4 ?a5 ?l5 ?c5 ?k5 ?a6 ?l6 ?c6 ?k6 ?lT0 ?vT0 ?hT0 ?tT0 ?nT0 ?a7 ?l7 ?c7 ?k7 ?a8 ?l8 ?c8 ?k8 ?a9 ?l9 ?c9 ?k9 ?a10 ?l10 ?c10 ?k10 ?a11 ?l11 ?c11 ?k11 ?a12 ?l12 ?c12 ?k12 ?a13 ?l13 ?c13 ?k13 ?a14 ?l14 ?c14 ?k14 ?a15 ?l15 ?c15 ?k15 ?a16 ?l16 ?c16 ?k16 ?a17 ?l17 ?c17 ?k17 ?a18 ?l18 ?c18 ?k18 ?a19 ?l19 ?c19 ?k19 ?a20 ?l20 ?c20 ?k20 ?a21 ?l21 ?c21 ?k21 ?a22 ?l22 ?c22 ?k22 ?a23 ?l23 ?c23 ?k23 ?a24 ?l24 ?c24 ?k24 ?a25 ?l25 ?c25 ?k25 ?a26 ?l26 ?c26 ?k26 ?a27 ?l27 ?c27 ?k27 ?z0 ?z1 ?z2 ?z3 ?z4 ?z5 ?z6 ?z7 ?z8
  (case a0=>k_is)
  (case l0=>k_is)
  (case c0=>k_is)
  (case k0=>k_is)
  (case a1=>k_is)
  (case l1=>k_is)
  (case c1=>k_is)
  (case k1=>k_is)
  (case a2=>k_is)
  (case l2=>k_is)
  (case c2=>k_is)
  (case k2=>k_is)
  (case a3=>k_is)
  (case l3=>k_is)
  (case c3=>k_is)
  (case k3=>k_is)
  (case a4=>k_is)
  (case l4=>k_is)
  (case c4=>k_is)
  (case k4=>k_is)
  (case a5=>k_is)
  (case l5=>k_is)
  (case c5=>k_is)
  (case k5=>k_is)
  (case a6=>k_is)
  (case l6=>k_is)
  (case c6=>k_is)
  (case k6=>k_is)
  (case lT0=>k_is)
  (case vT0=>rfl)
  (case hT0=>kernel_rfl)
  (case tT0=>kernel_rfl)
  (case nT0=>kernel_rfl)
  (case a7=>k_is)
  (case l7=>k_is)
  (case c7=>k_is)
  (case k7=>k_is)
  (case a8=>k_is)
  (case l8=>k_is)
  (case c8=>k_is)
  (case k8=>k_is)
  (case a9=>k_is)
  (case l9=>k_is)
  (case c9=>k_is)
  (case k9=>k_is)
  (case a10=>k_is)
  (case l10=>k_is)
  (case c10=>k_is)
  (case k10=>k_is)
  (case a11=>k_is)
  (case l11=>k_is)
  (case c11=>k_is)
  (case k11=>k_is)
  (case a12=>k_is)
  (case l12=>k_is)
  (case c12=>k_is)
  (case k12=>k_is)
  (case a13=>k_is)
  (case l13=>k_is)
  (case c13=>k_is)
  (case k13=>k_is)
  (case a14=>k_is)
  (case l14=>k_is)
  (case c14=>k_is)
  (case k14=>k_is)
  (case a15=>k_is)
  (case l15=>k_is)
  (case c15=>k_is)
  (case k15=>k_is)
  (case a16=>k_is)
  (case l16=>k_is)
  (case c16=>k_is)
  (case k16=>k_is)
  (case a17=>k_is)
  (case l17=>k_is)
  (case c17=>k_is)
  (case k17=>k_is)
  (case a18=>k_is)
  (case l18=>k_is)
  (case c18=>k_is)
  (case k18=>k_is)
  (case a19=>k_is)
  (case l19=>k_is)
  (case c19=>k_is)
  (case k19=>k_is)
  (case a20=>k_is)
  (case l20=>k_is)
  (case c20=>k_is)
  (case k20=>k_is)
  (case a21=>k_is)
  (case l21=>k_is)
  (case c21=>k_is)
  (case k21=>k_is)
  (case a22=>k_is)
  (case l22=>k_is)
  (case c22=>k_is)
  (case k22=>k_is)
  (case a23=>k_is)
  (case l23=>k_is)
  (case c23=>k_is)
  (case k23=>k_is)
  (case a24=>k_is)
  (case l24=>k_is)
  (case c24=>k_is)
  (case k24=>k_is)
  (case a25=>k_is)
  (case l25=>k_is)
  (case c25=>k_is)
  (case k25=>k_is)
  (case a26=>k_is)
  (case l26=>k_is)
  (case c26=>k_is)
  (case k26=>k_is)
  (case a27=>k_is)
  (case l27=>k_is)
  (case c27=>k_is)
  (case k27=>k_is)
  (case z0=>k_is)
  (case z1=>k_is)
  (case z2=>k_is)
  (case z3=>k_is)
  (case z4=>k_is)
  (case z5=>k_is)
  (case z6=>k_is)
  (case z7=>k_is)
  (case z8=>k_is)
