import PyProof.Rows.All
import Wide.All
import OpenK.AllK
import Wide.FinOn
import Lean
import PyProof.EqAt
import PyProof.EqKinds
import PyProof.TupleCall
import PySem.Challenge.RW_driftmeet_k19_what_is_past
set_option Elab.async false
set_option linter.all false
set_option maxRecDepth 100000
namespace L2
open PySem PySem.Spec PyProof.Rows
noncomputable abbrev Key:=Sum Int Str
noncomputable def je:Key->Value->Bool
 |.inl k,v=>Value.isInt k v
 |.inr x,v=>Value.isStrOf x v
noncomputable def Ft(w:World):Key->Int
 |.inl k=>hashInt k
 |.inr x=>hashStr w x
theorem aD:∀{k:Key}{v:Value},je k v=true->(∃i t,k=Sum.inl i/\v=Value.int i t)\/(∃x t,k=Sum.inr x/\v=Value.str x t)
 |.inl i,v,h=>by
  obtain⟨t,e⟩:=Value.isInt_shape (k:=i) (v:=v) h
  exact .inl ⟨i,t,rfl,e⟩
 |.inr x,v,h=>by
  obtain⟨t,e⟩:=Value.isStrOf_shape (x:=x) (v:=v) h
  exact .inr ⟨x,t,rfl,e⟩
theorem nA(i:Int)(t:Tok):je (.inl i) (.int i t)=true:=by simp[je,Value.isInt]
theorem mG(x:Str)(t:Tok):je (.inr x) (.str x t)=true:=by simp[je,Value.isStrOf]
theorem v5(a b:Int):decide ((Sum.inl a:Key)=Sum.inl b)=(a == b):=by
 by_cases e:a=b
 ·subst e;simp
 ·have h:¬ (Sum.inl a:Key)=Sum.inl b:=fun q=>e (Sum.inl.inj q)
  rw[decide_eq_false h]
  exact (beq_eq_false_iff_ne.mpr e).symm
theorem v7(a b:Str):decide ((Sum.inr a:Key)=Sum.inr b)=decide (a=b):=by
 by_cases e:a=b
 ·subst e;simp
 ·have h:¬ (Sum.inr a:Key)=Sum.inr b:=fun q=>e (Sum.inr.inj q)
  rw[decide_eq_false h,decide_eq_false e]
theorem uA(a:Int)(b:Str):decide ((Sum.inl a:Key)=Sum.inr b)=false:=decide_eq_false (fun q=>nomatch q)
theorem ye(a:Str)(b:Int):decide ((Sum.inr a:Key)=Sum.inl b)=false:=decide_eq_false (fun q=>nomatch q)
noncomputable def aB(prog:Program)(w:World):PySem.KeyKind prog w Key where
 is:=je
 hash:=Ft w
 inj:=fun v a b ha hb=>by
  rcases aD ha with ⟨i,t,rfl,rfl⟩|⟨x,t,rfl,rfl⟩
  ·rcases aD hb with ⟨j,u,rfl,e⟩|⟨y,u,rfl,e⟩
   ·injection e with e1 _;rw[e1]
   ·exact nomatch e
  ·rcases aD hb with ⟨j,u,rfl,e⟩|⟨y,u,rfl,e⟩
   ·exact nomatch e
   ·injection e with e1 _;rw[e1]
 byValue:=fun k v h=>by
  rcases aD h with ⟨i,t,rfl,rfl⟩|⟨x,t,rfl,rfl⟩<;>rfl
 pyHash:=fun hv h=>by
  rcases aD hv with ⟨i,t,rfl,rfl⟩|⟨x,t,rfl,rfl⟩
  ·exact wpAny_pyHash_int h
  ·exact wpAny_pyHash_str h
 eqBool:=fun hu hv h=>by
  rcases aD hu with ⟨i,t,rfl,rfl⟩|⟨x,t,rfl,rfl⟩
  ·rcases aD hv with ⟨j,u,rfl,rfl⟩|⟨y,u,rfl,rfl⟩
   ·rw[v5]at h;exact wpAny_eqBool_int h
   ·rw[uA]at h;exact SeqAt.EqAt.int_str i t y u _ _ _ _ h
  ·rcases aD hv with ⟨j,u,rfl,rfl⟩|⟨y,u,rfl,rfl⟩
   ·rw[ye]at h;exact SeqAt.EqAt.str_int x t j u _ _ _ _ h
   ·rw[v7]at h;exact wpAny_eqBool_str h
 «strs»:=fun k x t v h=>by
  rcases aD h with ⟨i,u,rfl,e⟩|⟨y,u,rfl,e⟩
  ·exact nomatch e
  ·injection e with e1 _
   subst e1
   cases v<;>rfl
theorem j1(prog:Program)(w:World)(i:Int)(t:Tok):(aB prog w).is (.inl i) (.int i t)=true:=nA i t
theorem ko(prog:Program)(w:World)(x:Str)(t:Tok):(aB prog w).is (.inr x) (.str x t)=true:=mG x t
end L2
namespace L2
open PySem PySem.Spec PyProof.Rows
inductive V where
 |non|bl (b:Bool)|int (i:Int)|str (x:Str)|byt (b:Array UInt8)|flt (b:UInt64)|ref (a:Addr)|ty (n:String)
 deriving DecidableEq
noncomputable def RelV:V->Value->Prop
 |.non,u=>u=Value.none
 |.bl b,u=>u=Value.bool b
 |.int i,u=>∃t,u=Value.int i t
 |.str x,u=>∃t,u=Value.str x t
 |.byt b,u=>∃t,u=Value.bytes b t
 |.flt b,u=>∃t,u=Value.float b t
 |.ref a,u=>u=Value.ref a
 |.ty n,u=>u=Value.type n
noncomputable abbrev Vals:List V->List Value->Prop:=Paired RelV
theorem Vals.length{xs:List V}{us:List Value}(r:Vals xs us):xs.length=us.length:=Paired.length r
theorem Vals.get:∀{xs:List V}{us:List Value}{i:Nat}{x:V},Vals xs us->xs[i]?=some x->∃u,us[i]?=some u/\RelV x u
 |_,_,_,_,.nil,e=>by simp at e
 |_,_,0,_,.cons r _,e=>by simp at e;subst e;exact⟨_,rfl,r⟩
 |_,_,i+1,x,.cons _ t,e=>by
  obtain⟨u,h1,h2⟩:=Vals.get (i:=i) (x:=x) t (by simpa using e)
  exact⟨u,by simpa using h1,h2⟩
theorem Vals.set{x:V}{u:Value}(r:RelV x u):∀{xs:List V}{us:List Value} (i:Nat),Vals xs us->Vals (xs.set i x) (us.set i u)
 |_,_,_,.nil=>.nil
 |_,_,0,.cons _ t=>.cons r t
 |_,_,i+1,.cons q t=>.cons q (Vals.set r i t)
theorem Vals.append:∀{xs ys:List V}{us ws:List Value},Vals xs us->Vals ys ws->Vals (xs++ys) (us++ws)
 |_,_,_,_,.nil,s=>s
 |_,_,_,_,.cons r t,s=>.cons r (Vals.append t s)
theorem Vals.take:∀{xs:List V}{us:List Value} (n:Nat),Vals xs us->Vals (xs.take n) (us.take n)
 |_,_,0,_=>.nil
 |_,_,_+1,.nil=>.nil
 |_,_,n+1,.cons r t=>.cons r (Vals.take n t)
theorem Vals.drop:∀{xs:List V}{us:List Value} (n:Nat),Vals xs us->Vals (xs.drop n) (us.drop n)
 |_,_,0,r=>r
 |_,_,_+1,.nil=>.nil
 |_,_,n+1,.cons _ t=>Vals.drop n t
noncomputable def RelO:Option V->Option Value->Prop
 |some v,some u=>RelV v u
 |none,none=>True
 |_,_=>False
noncomputable def KV{κ:Type}:List (κ×V)->List (κ×Value)->Prop:=Paired fun (p:κ×V) (q:κ×Value)=>p.1=q.1/\RelV p.2 q.2
noncomputable def kV:Key->V
 |.inl i=>.int i
 |.inr x=>.str x
inductive HO where
 |lst (xs:List V)
 |tup (xs:List V)
 |dK (kvs:List (Key×V))|dT (kvs:List (List Key×V))
 |set (S:Int->Bool) (n:Nat)
 |ins (C dx:Addr) (fs:List (Str×V))
 |own (x:Addr)
 |xd (fs:List (Str×V))
 |met (f x:Addr)
 |rng (lo hi:Int)
 |frz (o:Obj) (u:HO)
 |tbl (ps:Array Value)
 |ext (φ:Heap->Prop)
noncomputable abbrev Hp:=Addr->Option HO
noncomputable def upd(H:Hp)(a:Addr)(o:HO):Hp:=fun b=>if b=a then some o else H b
theorem ai{H:Hp}{a:Addr}{o:HO}:upd H a o a=some o:=by unfold upd;rw[if_pos rfl]
theorem ah{H:Hp}{a b:Addr}{o:HO}(h:b≠a):upd H a o b=H b:=by unfold upd;rw[if_neg h]
theorem cC{H:Hp}{a b:Addr}{o u:HO}(h:H a=some o)(h':H b=some u)(d:o≠u):a≠b:=by
 intro e;subst e;rw[h]at h';exact d (Option.some.inj h')
theorem aN{H:Hp}{a b:Addr}{o:HO}(h:H a=some o)(h':H b=none):a≠b:=by
 intro e;subst e;rw[h]at h';cases h'
section
variable (P:Program) (w:World)
noncomputable def ObjOk(H:Hp)(h:Heap)(a:Addr):HO->Prop
 |.lst xs=>xs.length<=sizeLine/\∃(its:List Value) (n:Nat),Vals xs its/\h.get? a=some {cls:=.type "list",data:=.seq its.toArray n}
 |.tup xs=>xs.length<=sizeLine/\∃its:List Value,Vals xs its/\IsTup h a its.toArray
 |.dK kvs=>kvs.length<=sizeLine/\(a == sysModules)=false/\∃vs,KV kvs vs/\h.DictOf (aB P w) a vs
 |.dT kvs=>kvs.length<=sizeLine/\(a == sysModules)=false/\∃xs:List (List Key×Addr×Value),
   Paired (fun (p:List Key×V) (q:List Key×Addr×Value)=>p.1=q.1/\H q.2.1=some (.tup (p.1.map kV))/\RelV p.2 q.2.2) kvs xs/\
   ∃o es ep,h.get? a=some o/\o.ExactDict/\o.data=.dict es ep/\es.toList=xs.map (entryOfKey (tupleKind (aB P w)))/\(xs.map (·.1)).Nodup
 |.set S n=>h.SetOf (intKind P w) a S n
 |.ins C dx fs=>H dx=some (.own a)/\fs.length<=1000/\dx≠a/\h.get? a=some (PySem.W.instObj C dx)/\
   ∃mA,h.Ns1 dx mA/\(∀f,RelO (fs.lookup f) (mA f))/\PySem.Within mA (fs.map (·.1))
 |.own _=>∃o,h.get? a=some o
 |.xd fs=>∃mA,h.Ns1 a mA/\∀f,RelO (fs.lookup f) (mA f)
 |.rng lo hi=>∃t u v,h.get? a=some {cls:=.type "range",data:=.fields #[.int lo t,.int hi u,.int 1 v]}
 |.frz o u=>h.get? a=some o/\ObjOk H h a u
 |.tbl ps=>h.get? a=some {cls:=.none,data:=.fields ps}
 |.met f x=>h.get? a=some (PySem.W.methodObj (.ref f) (.ref x))
 |.ext φ=>φ h/\(∃o,h.get? a=some o)/\∀h1 h2:Heap,φ h1->(∀o,h1.get? a=some o->h2.get? a=some o)->φ h2
noncomputable def HOk(H:Hp)(h:Heap):Prop:=∀a o,H a=some o->ObjOk P w H h a o
end
section
variable {P:Program}{w:World}{H H':Hp}{h h':Heap}{a:Addr}{o:HO}
theorem ObjOk.lt(x:ObjOk P w H h a o):a < h.objs.size:=by
 cases o with
 |lst xs=>obtain⟨_,_,_,_,e⟩:=x;exact Heap.lt_size e
 |tup xs=>obtain⟨_,_,_,p⟩:=x;exact p.lt
 |dK kvs=>obtain⟨_,_,_,_,o,_,_,e,_⟩:=x;exact Heap.lt_size e
 |dT kvs=>obtain⟨_,_,_,_,o,_,_,e,_⟩:=x;exact Heap.lt_size e
 |set S n=>obtain⟨o,_,_,_,e,_⟩:=x;exact Heap.lt_size e
 |ins C dx fs=>obtain⟨_,_,_,e,_⟩:=x;exact Heap.lt_size e
 |own y=>obtain⟨_,e⟩:=x;exact Heap.lt_size e
 |xd fs=>obtain⟨_,⟨_,_,_,e,_⟩,_⟩:=x;exact Heap.lt_size e
 |rng lo hi=>obtain⟨_,_,_,e⟩:=x;exact Heap.lt_size e
 |frz ob u=>obtain⟨e,_⟩:=x;exact Heap.lt_size e
 |tbl ps=>exact Heap.lt_size (show h.get? a=some _ from x)
 |met f y=>exact Heap.lt_size (show h.get? a=some _ from x)
 |ext φ=>obtain⟨_,⟨_,e⟩,_⟩:=x;exact Heap.lt_size e
theorem Paired.mapP{α β:Type}{F G:α->β->Prop}:∀{l₁:List α}{l₂:List β},Paired F l₁ l₂->(∀a b,F a b->G a b)->Paired G l₁ l₂
 |_,_,.nil,_=>.nil
 |_,_,.cons r t,f=>.cons (f _ _ r) (Paired.mapP t f)
theorem ObjOk.stay(x:ObjOk P w H h a o)(k:∀b u,(b=a\/H b=some (.own a))->h.get? b=some u->h'.get? b=some u)
  (ho:∀b,H b=some (.own a)->H' b=some (.own a)) (ht:∀b xs,H b=some (.tup xs)->H' b=some (.tup xs)):ObjOk P w H' h' a o:=by
 induction o with
 |lst xs=>obtain⟨z,its,n,r,e⟩:=x;exact⟨z,its,n,r,k _ _ (.inl rfl) e⟩
 |tup xs=>obtain⟨z,its,r,ob,e,c⟩:=x;exact⟨z,its,r,ob,k _ _ (.inl rfl) e,c⟩
 |dK kvs=>obtain⟨z,y,vs,r,ob,es,ep,e,c⟩:=x;exact⟨z,y,vs,r,ob,es,ep,k _ _ (.inl rfl) e,c⟩
 |dT kvs=>
  obtain⟨z,y,xs,r,ob,es,ep,e,c⟩:=x
  exact⟨z,y,xs,Paired.mapP r fun p q z=>⟨z.1,ht _ _ z.2.1,z.2.2⟩,ob,es,ep,k _ _ (.inl rfl) e,c⟩
 |set S n=>obtain⟨ob,es,ep,t,e,c⟩:=x;exact⟨ob,es,ep,t,k _ _ (.inl rfl) e,c⟩
 |ins C dx fs=>
  obtain⟨d,z,ne,e,mA,⟨od,es,ep,e2,c⟩,r⟩:=x
  exact⟨ho _ d,z,ne,k _ _ (.inl rfl) e,mA,⟨od,es,ep,k _ _ (.inr d) e2,c⟩,r⟩
 |own y=>obtain⟨ob,e⟩:=x;exact⟨ob,k _ _ (.inl rfl) e⟩
 |xd fs=>obtain⟨mA,⟨od,es,ep,e,c⟩,r⟩:=x;exact⟨mA,⟨od,es,ep,k _ _ (.inl rfl) e,c⟩,r⟩
 |rng lo hi=>obtain⟨t,u,v,e⟩:=x;exact⟨t,u,v,k _ _ (.inl rfl) e⟩
 |frz ob u ih=>obtain⟨e,q⟩:=x;exact⟨k _ _ (.inl rfl) e,ih q⟩
 |tbl ps=>
  have e:h.get? a=some {cls:=.none,data:=.fields ps}:=x
  show h'.get? a=some {cls:=.none,data:=.fields ps}
  exact k a _ (.inl rfl) e
 |met f y=>
  have e:h.get? a=some (PySem.W.methodObj (.ref f) (.ref y)):=x
  show h'.get? a=some (PySem.W.methodObj (.ref f) (.ref y))
  exact k a _ (.inl rfl) e
 |ext φ=>obtain⟨p,⟨o,e⟩,st⟩:=x;exact⟨st _ _ p fun o q=>k _ _ (.inl rfl) q,⟨o,k _ _ (.inl rfl) e⟩,st⟩
theorem HOk.lt(x:HOk P w H h)(e:H a=some o):a < h.objs.size:=(x a o e).lt
theorem HOk.fresh(x:HOk P w H h)(e:h.objs.size<=a):H a=none:=by
 cases q:H a with
 |none=>rfl
 |some u=>exact absurd (Nat.lt_of_lt_of_le (x.lt q) e) (Nat.lt_irrefl _)
theorem HOk.kept(x:HOk P w H h)(k:∀b u,h.get? b=some u->h'.get? b=some u):HOk P w H h':=fun a o e=>
 (x a o e).stay (fun b u _ q=>k b u q) (fun _ q=>q) fun _ _ q=>q
theorem HOk.laid(x:HOk P w H h)(k:∀b u,h.get? b=some u->h'.get? b=some u)(hp:h.objs.size<=a)(new:ObjOk P w (upd H a o) h' a o):HOk P w (upd H a o) h':=fun b u e=>by
 have hn:=x.fresh hp
 by_cases hb:b=a
 ·subst hb;rw[ai]at e;cases e;exact new
 ·rw[ah hb]at e
  exact (x b u e).stay (fun c v _ q=>k c v q) (fun c q=>by rw[ah (aN q hn)];exact q) fun c xs q=>by rw[ah (aN q hn)];exact q
end
noncomputable def Rd(H:Hp)(a:Addr)(u:HO):Prop:=H a=some u\/∃o,H a=some (.frz o u)
theorem Rd.ok{P:Program}{w:World}{H:Hp}{h:Heap}{a:Addr}{u:HO}(r:Rd H a u)(x:HOk P w H h):ObjOk P w H h a u:=by
 rcases r with r|⟨o,r⟩
 ·exact x a u r
 ·obtain⟨_,q⟩:=x a _ r
  exact q
noncomputable def Mut:Option HO->Prop
 |some (.lst _)=>True
 |some (.dK _)=>True
 |some (.dT _)=>True
 |some (.set _ _)=>True
 |some (.ins _ _ _)=>True
 |some (.ext _)=>True
 |_=>False
section
variable {P:Program}{w:World}{H:Hp}{h h':Heap}{x e:Addr}{o':HO}
theorem HOk.write(ok:HOk P w H h)(mu:Mut (H x))(he:e=x\/H e=some (.own x))(k:∀b u,b≠e->h.get? b=some u->h'.get? b=some u)(heo:∃u,h'.get? e=some u)
  (new:ObjOk P w (upd H x o') h' x o'):HOk P w (upd H x o') h':=fun b u q=>by
 have nown:∀c y,H c=some (.own y)->c≠x:=fun c y r z=>by subst z;rw[r]at mu;exact mu
 have Ae:∀c xs,H c=some (.tup xs)->c≠x:=fun c xs r z=>by subst z;rw[r]at mu;exact mu
 by_cases hb:b=x
 ·subst hb;rw[ai]at q;cases q;exact new
 ·rw[ah hb]at q
  by_cases hbe:b=e
  ·have q':H b=some (.own x):=by
    rcases he with z|z
    ·exact absurd (hbe.trans z) hb
    ·rw[hbe];exact z
   rw[q]at q';cases q'
   obtain⟨v,hv⟩:=heo
   exact⟨v,by rw[hbe];exact hv⟩
  ·refine (ok b u q).stay (fun c v hc r=>k c v ?_ r) (fun c r=>by rw[ah (nown c b r)];exact r) fun c xs r=>by rw[ah (Ae c xs r)];exact r
   rcases hc with rfl|hc
   ·exact hbe
   ·rintro rfl
    rcases he with z|z
    ·exact nown c b hc z
    ·rw[hc]at z;cases z;exact hb rfl
end
structure Un (fs ex:List Addr) (H H':Hp) (h h':Heap):Prop where
 keep:∀b o,h.get? b=some o->H b=none->b∉fs->b∉ex->h'.get? b=some o
 slot:∀b o,h.get? b=some o->H b=none->b∈fs->b∉ex->∃sl,h'.get? b=some {o with slots:=sl}
 free:∀b o,h.get? b=some o->H b=none->b∉ex->H' b=none
 there:∀b o,h.get? b=some o->b∉ex->∃o',h'.get? b=some o'
 tups:∀b xs,H b=some (.tup xs)->H' b=some (.tup xs)
 frzs:∀b o u,H b=some (.frz o u)->H' b=some (.frz o u)
 tbls:∀b ps,H b=some (.tbl ps)->∃more,H' b=some (.tbl (ps++more))
section
variable {fs fs' ex ex':List Addr}{H H1 H2:Hp}{h h1 h2 h':Heap}{a x e:Addr}{o:HO}
theorem Un.any(u:Un fs ex H H1 h h1){b:Addr}{ob:Obj}(q:h.get? b=some ob)(n:H b=none)(hx:b∉ex):∃sl,h1.get? b=some {ob with slots:=sl}:=by
 by_cases hb:b∈fs
 ·exact u.slot b ob q n hb hx
 ·exact⟨ob.slots,u.keep b ob q n hb hx⟩
theorem Un.trans(a:Un fs ex H H1 h h1)(b:Un fs ex H1 H2 h1 h2):Un fs ex H H2 h h2 where
 keep:=fun c ob q n hc hx=>b.keep c ob (a.keep c ob q n hc hx) (a.free c ob q n hx) hc hx
 slot:=fun c ob q n hc hx=>by
  obtain⟨sl,e1⟩:=a.slot c ob q n hc hx
  obtain⟨sl',e2⟩:=b.slot c _ e1 (a.free c ob q n hx) hc hx
  exact⟨sl',e2⟩
 free:=fun c ob q n hx=>by
  obtain⟨o',e1⟩:=a.there c ob q hx
  exact b.free c o' e1 (a.free c ob q n hx) hx
 there:=fun c ob q hx=>by
  obtain⟨o',e1⟩:=a.there c ob q hx
  exact b.there c o' e1 hx
 tups:=fun c xs q=>b.tups c xs (a.tups c xs q)
 frzs:=fun c ob xs q=>b.frzs c ob xs (a.frzs c ob xs q)
 tbls:=fun c ps q=>by
  obtain⟨m1,e1⟩:=a.tbls c ps q
  obtain⟨m2,e2⟩:=b.tbls c _ e1
  exact⟨m1++m2,by rw[e2,Array.append_assoc]⟩
theorem Un.kept(k:∀b u,h.get? b=some u->h'.get? b=some u):Un fs ex H H h h':=
 ⟨fun b ob q _ _ _=>k b ob q,fun b ob q _ _ _=>⟨ob.slots,k b ob q⟩,fun _ _ _ n _=>n,fun b ob q _=>⟨ob,k b ob q⟩,fun _ _ q=>q,fun _ _ _ q=>q,fun _ ps q=>⟨#[],by rw[q];simp⟩⟩
theorem Un.refl:Un fs ex H H h h:=Un.kept fun _ _ q=>q
theorem Un.laid(k:∀b u,h.get? b=some u->h'.get? b=some u)(hp:h.objs.size<=a)(hn:H a=none):Un fs ex H (upd H a o) h h' where
 keep:=fun b u q _ _ _=>k b u q
 slot:=fun b u q _ _ _=>⟨u.slots,k b u q⟩
 free:=fun b u q n _=>by rw[ah (Nat.ne_of_lt (Nat.lt_of_lt_of_le (Heap.lt_size q) hp))];exact n
 there:=fun b u q _=>⟨u,k b u q⟩
 tups:=fun b xs q=>by rw[ah (aN q hn)];exact q
 frzs:=fun b u xs q=>by rw[ah (aN q hn)];exact q
 tbls:=fun b ps q=>⟨#[],by rw[ah (aN q hn),q];simp⟩
theorem Un.write(mu:Mut (H x))(he:e=x\/H e=some (.own x))(k:∀b u,b≠e->h.get? b=some u->h'.get? b=some u)(heo:∃u,h'.get? e=some u):Un fs ex H (upd H x o) h h':=by
 have hx:∀b,H b=none->b≠x:=fun b n z=>by subst z;rw[n]at mu;exact mu
 have hb:∀b,H b=none->b≠e:=fun b n z=>by
  subst z
  rcases he with r|r
  ·exact hx b n r
  ·rw[n]at r;cases r
 have hm:∀b u,H b=some u->¬ Mut (some u)->b≠x:=fun b u q nm z=>by subst z;rw[q]at mu;exact nm mu
 refine⟨fun b u q n _ _=>k b u (hb b n) q,fun b u q n _ _=>⟨u.slots,k b u (hb b n) q⟩,fun b u q n _=>by rw[ah (hx b n)];exact n,fun b u q _=>?_,
  fun b xs q=>by rw[ah (hm b _ q fun z=>z)];exact q,fun b u xs q=>by rw[ah (hm b _ q fun z=>z)];exact q,fun b ps q=>⟨#[],by rw[ah (hm b _ q fun z=>z),q];simp⟩⟩
 by_cases hbe:b=e
 ·subst hbe;exact heo
 ·exact⟨u,k b u hbe q⟩
theorem Un.mono(u:Un fs ex H H1 h h1)(hs:∀b∈fs,b∈fs')(hx:∀b∈ex,b∈ex'):Un fs' ex' H H1 h h1:=
 ⟨fun b ob q n hb he=>u.keep b ob q n (fun z=>hb (hs b z)) fun z=>he (hx b z),fun _ _ q n _ he=>u.any q n fun z=>he (hx _ z),fun b ob q n he=>u.free b ob q n fun z=>he (hx b z),fun b ob q he=>u.there b ob q fun z=>he (hx b z),u.tups,u.frzs,u.tbls⟩
end
noncomputable def trk(h:Heap)(H:Hp):List Addr:=(List.range h.objs.size).filter fun a=>(H a).isSome
noncomputable def jD(h:Heap)(H:Hp):Heap:=PySem.W.hideAll h (trk h H)
theorem nj(h:Heap)(H:Hp):(jD h H).objs.size=h.objs.size:=PySem.W.hideAll_size _ _
theorem pA{h:Heap}{H:Hp}{b:Addr}{o:Obj}(e:h.get? b=some o)(n:H b=none):(jD h H).get? b=some o:=
 PySem.W.hideAll_get _ e fun hm=>by
  have q:(H b).isSome=true:=(List.mem_filter.mp hm).2
  rw[n]at q;simp at q
theorem qh{h:Heap}{H:Hp}{b:Addr}{o:Obj}(e:(jD h H).get? b=some o):h.get? b=some o/\H b=none:=by
 have e':h.get? b=some o:=PySem.W.of_hideAll (trk h H) e
 refine⟨e',?_⟩
 cases q:H b with
 |none=>rfl
 |some x=>
  have hm:b∈trk h H:=List.mem_filter.mpr ⟨List.mem_range.mpr (Heap.lt_size e'),by simp[q]⟩
  have z:(jD h H).get? b=none:=PySem.W.hideAll_none (trk h H) hm
  rw[z]at e;cases e
noncomputable def qW(g h:Heap)(L:Addr):List (Addr×Obj):=(List.range h.objs.size).filterMap fun a=>if a=L\/(g.get? a).isSome=true then none else (h.get? a).map fun o=>(a,o)
noncomputable def av(g h:Heap)(L d:Addr):List (Addr×Obj):=(qW g h L).filter fun p=>decide (p.1≠d)
end L2
namespace L2
open PySem PySem.Spec PyProof.Rows
structure Mod (K:PySem.W.Frag) (mg:Str->Option Value) (base:Heap):Prop where
 kin:K.In base
 glob:base.Ns mainGlobals mg
 blt:∃mb,base.Ns builtinsNs mb/\∀x:Str,x≠"__name__"->mb x=bootBuiltins x
 nolimit:base.NoLimit
structure Cx where
 prog:Program
 w:World
 K:PySem.W.Frag
 mg:Str->Option Value
 base:Heap
 A:Around
 N:List Str
 s₀:Shared
 H₀:Hp
 env:Env
 outer:List Env
 stack:List Env
 ex:List Addr
 fn:Str->Bool
 calm:Bool
 pn:List (Addr×Obj)
 xe:Value->Shared->Prop
noncomputable def frs(l:List Env):List Addr:=l.filterMap (·.frame)
noncomputable abbrev Cx.fs(X:Cx):List Addr:=frs X.outer
noncomputable def Vis(sc:Scope)(x:Str):Prop:=sc.names.lookup x=some .local\/sc.names.lookup x=some .cell\/sc.names.lookup x=some .free
noncomputable def Loc(sc:Scope)(x:Str):Prop:=sc.names.lookup x=some .local\/sc.names.lookup x=some .cell
noncomputable def BS(env:Env)(h:Heap)(m:Str->Option Value)(x:Str)(u:Value):Prop:=
 (env.kindOf x=some .local/\m x=some u)\/((env.kindOf x=some .cell\/env.kindOf x=some .free)/\∃c,env.cells.lookup x=some c/\h.IsCell c (some u))
structure Cx.Ok (X:Cx):Prop where
 mod:Mod X.K X.mg X.base
 kind:X.env.scope.kind=.function
 glob:X.env.globals=mainGlobals
 blt:X.env.builtins=builtinsNs
 above:X.s₀.heap.objs.size<=X.env.locals
 inj:∀x y c,X.env.cells.lookup x=some c->X.env.cells.lookup y=some c->x=y
 has:∀x,(X.env.kindOf x=some .cell\/X.env.kindOf x=some .free)->∃c,X.env.cells.lookup x=some c
 cab:∀x c,X.fn x=true->X.env.cells.lookup x=some c->X.s₀.heap.objs.size<=c
 hd:X.calm=true->X.A.handled=none
 frames:X.A.frames=some X.stack
 stk:X.stack=X.outer\/(X.stack=X.env::X.outer/\X.env.frame=some X.env.locals)
 exf:∀b∈X.ex,b≠X.env.locals/\∀x c,X.env.cells.lookup x=some c->c≠b
 bs:∀b o,X.base.get? b=some o->X.s₀.heap.get? b=some o/\X.H₀ b=none
 bsz:X.base.objs.size<=X.s₀.heap.objs.size
 noex:∀b o,X.base.get? b=some o->b∉X.ex
 exfs:∀b∈X.ex,b∉X.fs
 funs:X.s₀.heap.FunFrames X.base X.outer
 frf:∀b∈X.fs,X.H₀ b=none
structure Inv (X:Cx) (pins:List (Addr×Obj)) (σ:List (Option V)) (H:Hp) (s:Shared):Prop where
 ok:X.Ok
 os:s.os=X.s₀.os
 bare:AllBare s.gens
 base:Un X.fs X.ex X.H₀ H X.s₀.heap s.heap
 loc:∃m,s.heap.Ns X.env.locals m/\∀(i:Nat) (x:Str) (v:V),X.N[i]?=some x->σ[i]?=some (some v)->Vis X.env.scope x->∃u,RelV v u/\BS X.env s.heap m x u
 cell:∀x c,X.env.cells.lookup x=some c->∃v,s.heap.IsCell c v
 free:H X.env.locals=none
 freeC:∀x c,X.env.cells.lookup x=some c->H c=none
 pin:∀p∈X.pn++pins,s.heap.get? p.1=some p.2/\H p.1=none/\p.1≠X.env.locals/\p.1∉X.fs/\∀v,p.2.data≠.cell v
 hok:HOk X.prog X.w H s.heap
 len:σ.length=X.N.length
section
variable {X:Cx}{pins:List (Addr×Obj)}{σ:List (Option V)}{H H':Hp}{s:Shared}{h':Heap}
theorem Cx.Ok.nofr(ok:X.Ok){b:Addr}{o:Obj}(e:X.base.get? b=some o):b∉X.fs:=fun hb=>by
 have:=(ok.funs.mem hb).1
 rw[e]at this;cases this
theorem Inv.bs(I:Inv X pins σ H s):∀b o,X.base.get? b=some o->s.heap.get? b=some o/\H b=none:=fun b o e=>
 ⟨I.base.keep b o (I.ok.bs b o e).1 (I.ok.bs b o e).2 (I.ok.nofr e) (I.ok.noex b o e),I.base.free b o (I.ok.bs b o e).1 (I.ok.bs b o e).2 (I.ok.noex b o e)⟩
theorem Inv.bk(I:Inv X pins σ H s):∀b o,X.base.get? b=some o->s.heap.get? b=some o:=fun b o e=>(I.bs b o e).1
theorem Inv.mod(I:Inv X pins σ H s):Mod X.K X.mg X.base:=I.ok.mod
theorem Inv.kIn(I:Inv X pins σ H s):X.K.In s.heap:=I.ok.mod.kin.keeps I.bk
theorem Inv.nolimit(I:Inv X pins σ H s):s.heap.NoLimit:=I.ok.mod.nolimit.keeps I.bk
theorem Inv.lt(I:Inv X pins σ H s):X.env.locals < s.heap.objs.size:=let ⟨_,hn,_⟩:=I.loc;hn.lt
theorem Inv.sz(I:Inv X pins σ H s):X.s₀.heap.objs.size<=s.heap.objs.size:=Nat.le_trans I.ok.above (Nat.le_of_lt I.lt)
theorem Inv.nofs(I:Inv X pins σ H s){a:Addr}(h:s.heap.objs.size<=a):a∉X.fs:=fun hb=>by
 obtain⟨_,o,ho,_⟩:=I.ok.funs.mem hb
 exact absurd (Nat.lt_of_lt_of_le (Heap.lt_size ho) (Nat.le_trans I.sz h)) (Nat.lt_irrefl _)
theorem Inv.cne(I:Inv X pins σ H s):∀x c,X.env.cells.lookup x=some c->c≠X.env.locals:=fun x c e z=>by
 obtain⟨v,o,ho,hd⟩:=I.cell x c e
 obtain⟨m,⟨o',es,ep,ho',hd',_⟩,_⟩:=I.loc
 rw[z,ho']at ho;cases ho;rw[hd']at hd;cases hd
theorem Inv.funs(I:Inv X pins σ H s):s.heap.FunFrames X.base X.outer:=by
 have all:∀(l:List Env),(∀b∈frs l,b∈X.fs)->X.s₀.heap.FunFrames X.base l->s.heap.FunFrames X.base l:=by
  intro l
  induction l with
  |nil=>intro _ _;trivial
  |cons env r ih=>
   intro hs hl
   obtain⟨hk,⟨L,o,hf,hn,ho,hd⟩,hr⟩:=hl
   have hL:L∈X.fs:=hs L (by unfold frs;rw[List.filterMap_cons,hf];exact List.mem_cons_self)
   obtain⟨sl,e⟩:=I.base.slot L o ho (I.ok.frf L hL) hL fun z=>I.ok.exfs L z hL
   exact⟨hk,⟨L,_,hf,hn,e,hd⟩,ih (fun b hb=>hs b (by unfold frs;rw[List.filterMap_cons,hf];exact List.mem_cons_of_mem _ hb)) hr⟩
 exact all X.outer (fun _ hb=>hb) I.ok.funs
theorem Inv.stack(I:Inv X pins σ H s):s.heap.FunFrames X.base X.stack:=by
 rcases I.ok.stk with e|⟨e,hf⟩
 ·rw[e];exact I.funs
 ·rw[e]
  obtain⟨m,hn,_⟩:=I.loc
  refine .cons (by rw[I.ok.kind];decide) hf hn ?_ I.funs
  exact Heap.get?_none_of_le (Nat.le_trans I.ok.bsz I.ok.above)
theorem Inv.stkSub(I:Inv X pins σ H s):∀b∈frs X.stack,b∈X.env.locals::X.fs:=fun b hb=>by
 rcases I.ok.stk with e|⟨e,hf⟩
 ·rw[e]at hb;exact List.mem_cons_of_mem _ hb
 ·rw[e]at hb
  unfold frs at hb
  rw[List.filterMap_cons,hf]at hb
  exact hb
theorem Inv.stkFree(I:Inv X pins σ H s):∀b∈frs X.stack,H b=none:=fun b hb=>by
 rcases List.mem_cons.mp (I.stkSub b hb) with e|hb
 ·rw[e];exact I.free
 ·obtain⟨_,o,ho,_⟩:=I.ok.funs.mem hb
  exact I.base.free b o ho (I.ok.frf b hb) fun z=>I.ok.exfs b z hb
theorem Inv.step{g':Array GenState}{t':Nat}{d':Drawn}{ch:List Addr}(I:Inv X pins σ H s)
  (hch:∀b∈ch,(b∈X.ex\/X.s₀.heap.objs.size<=b)/\b≠X.env.locals/\(∀x c,X.env.cells.lookup x=some c->c≠b)/\∀p∈X.pn++pins,p.1≠b)
  (keep:∀b o,b≠X.env.locals->b∉X.fs->b∉ch->s.heap.get? b=some o->H b=none->h'.get? b=some o)
  (slot:∀b o,b≠X.env.locals->b∈X.fs->b∉ch->s.heap.get? b=some o->H b=none->∃sl,h'.get? b=some {o with slots:=sl}) (free:∀b o,b∉ch->s.heap.get? b=some o->H b=none->H' b=none)
  (there:∀b o,b∉ch->s.heap.get? b=some o->∃o',h'.get? b=some o')
  (tups:∀b xs,H b=some (.tup xs)->H' b=some (.tup xs)) (frzs:∀b o u,H b=some (.frz o u)->H' b=some (.frz o u)) (tbls:∀b ps,H b=some (.tbl ps)->∃more,H' b=some (.tbl (ps++more)))
  (ns:∀m,s.heap.Ns X.env.locals m->h'.Ns X.env.locals m) (hok:HOk X.prog X.w H' h') (hg:AllBare g') :
  Inv X pins σ H' {s with heap:=h',gens:=g',drawn:=d',toks:=t'}:=by
 have neL:∀b o,X.s₀.heap.get? b=some o->b≠X.env.locals:=fun b o e=>Nat.ne_of_lt (Nat.lt_of_lt_of_le (Heap.lt_size e) I.ok.above)
 have neC:∀b o,X.s₀.heap.get? b=some o->b∉X.ex->b∉ch:=fun b o e hx hb=>by
  rcases (hch b hb).1 with z|z
  ·exact hx z
  ·exact absurd (Nat.lt_of_lt_of_le (Heap.lt_size e) z) (Nat.lt_irrefl _)
 have cellK:∀x c,X.env.cells.lookup x=some c->∀v,s.heap.IsCell c v->h'.IsCell c v:=fun x c e v ⟨o,ho,hd⟩=>by
  have nch:c∉ch:=fun z=>(hch c z).2.2.1 x c e rfl
  by_cases hc:c∈X.fs
  ·obtain⟨sl,q⟩:=slot c o (I.cne x c e) hc nch ho (I.freeC x c e)
   exact⟨_,q,hd⟩
  ·exact⟨o,keep c o (I.cne x c e) hc nch ho (I.freeC x c e),hd⟩
 refine⟨I.ok,I.os,hg,⟨fun b o e n hb hx=>?_,fun b o e n hb hx=>?_,fun b o e n hx=>?_,fun b o e hx=>?_,fun b xs e=>tups b xs (I.base.tups b xs e),fun b o xs e=>frzs b o xs (I.base.frzs b o xs e),fun b ps e=>?_⟩,?_,fun x c e=>?_,?_,fun x c e=>?_,fun p hp=>?_,hok,I.len⟩
 ·exact keep b o (neL b o e) hb (neC b o e hx) (I.base.keep b o e n hb hx) (I.base.free b o e n hx)
 ·obtain⟨sl,e1⟩:=I.base.slot b o e n hb hx
  obtain⟨sl',e2⟩:=slot b _ (neL b o e) hb (neC b o e hx) e1 (I.base.free b o e n hx)
  exact⟨sl',e2⟩
 ·obtain⟨o',e1⟩:=I.base.there b o e hx
  exact free b o' (neC b o e hx) e1 (I.base.free b o e n hx)
 ·obtain⟨o',e1⟩:=I.base.there b o e hx
  exact there b o' (neC b o e hx) e1
 ·obtain⟨m1,e1⟩:=I.base.tbls b ps e
  obtain⟨m2,e2⟩:=tbls b _ e1
  exact⟨m1++m2,by rw[e2,Array.append_assoc]⟩
 ·obtain⟨m,hn,hl⟩:=I.loc
  refine⟨m,ns m hn,fun i x v e1 e2 e3=>?_⟩
  obtain⟨u,r,l⟩:=hl i x v e1 e2 e3
  refine⟨u,r,?_⟩
  rcases l with l|⟨k,c,e,z⟩
  ·exact .inl l
  ·exact .inr ⟨k,c,e,cellK x c e _ z⟩
 ·obtain⟨v,z⟩:=I.cell x c e
  exact⟨v,cellK x c e v z⟩
 ·obtain⟨m,⟨o,_,_,ho,_⟩,_⟩:=I.loc
  exact free _ o (fun z=>(hch _ z).2.1 rfl) ho I.free
 ·obtain⟨v,o,ho,hd⟩:=I.cell x c e
  exact free c o (fun z=>(hch c z).2.2.1 x c e rfl) ho (I.freeC x c e)
 ·obtain⟨e,n,ne,nf,d⟩:=I.pin p hp
  have nch:p.1∉ch:=fun z=>(hch p.1 z).2.2.2 p hp rfl
  exact⟨keep p.1 p.2 ne nf nch e n,free p.1 p.2 nch e n,ne,nf,d⟩
theorem Inv.un{t':Nat}(I:Inv X pins σ H s)(u:Un X.fs [] H H' s.heap h')(hok:HOk X.prog X.w H' h'):Inv X pins σ H' {s with heap:=h',toks:=t'}:=by
 obtain⟨m,⟨o,es,ep,ho,r⟩,_⟩:=id I.loc
 obtain⟨sl,hL⟩:=u.any ho I.free (by simp)
 exact I.step (g':=s.gens) (d':=s.drawn) (ch:=[]) (fun _ z=>nomatch z) (fun b o _ hb _ e n=>u.keep b o e n hb (by simp)) (fun b o _ hb _ e n=>u.slot b o e n hb (by simp)) (fun b o _ e n=>u.free b o e n (by simp)) (fun b o _ e=>u.there b o e (by simp)) u.tups u.frzs u.tbls (fun m' hm=>by
  obtain⟨o',es',ep',ho',r'⟩:=hm
  rw[ho]at ho';cases ho'
  exact⟨_,es',ep',hL,r'⟩) hok I.bare
theorem Inv.call{g':Array GenState}{t':Nat}{d':Drawn}{ch:List Addr}(I:Inv X pins σ H s)(u:Un (frs X.stack) ch H H' s.heap h')(hok:HOk X.prog X.w H' h')(hg:AllBare g')
  (hch:∀b∈ch,(b∈X.ex\/X.s₀.heap.objs.size<=b)/\b≠X.env.locals/\(∀x c,X.env.cells.lookup x=some c->c≠b)/\∀p∈X.pn++pins,p.1≠b) :
  Inv X pins σ H' {s with heap:=h',gens:=g',drawn:=d',toks:=t'}:=by
 obtain⟨m,⟨o,es,ep,ho,r⟩,_⟩:=id I.loc
 obtain⟨sl,hL⟩:=u.any ho I.free fun z=>(hch _ z).2.1 rfl
 exact I.step (ch:=ch) hch (fun b o hL hb hc e n=>u.keep b o e n (fun z=>(List.mem_cons.mp (I.stkSub b z)).elim hL hb) hc) (fun b o _ _ hc e n=>u.any e n hc) (fun b o hc e n=>u.free b o e n hc) (fun b o hc e=>u.there b o e hc) u.tups u.frzs u.tbls (fun m' hm=>by
  obtain⟨o',es',ep',ho',r'⟩:=hm
  rw[ho]at ho';cases ho'
  exact⟨_,es',ep',hL,r'⟩) hok hg
theorem Inv.turned{t':Nat}{it:Addr}(I:Inv X pins σ H s)(k:∀b o,b≠it->s.heap.get? b=some o->h'.get? b=some o)(hn:H it=none)(hL:it≠X.env.locals)
  (h1:it∈X.ex\/X.s₀.heap.objs.size<=it) (h2:∀x c,X.env.cells.lookup x=some c->c≠it) (h3:∀p∈X.pn++pins,p.1≠it):Inv X pins σ H {s with heap:=h',toks:=t'}:=by
 have nit:∀b u,H b=some u->b≠it:=fun b u e z=>by rw[z,hn]at e;cases e
 refine I.step (g':=s.gens) (d':=s.drawn) (ch:=[it]) (fun b hb=>?_) (fun b o _ _ hc e _=>k b o (fun z=>hc (by simp[z])) e) (fun b o _ _ hc e _=>⟨o.slots,k b o (fun z=>hc (by simp[z])) e⟩) (fun _ _ _ _ n=>n)
  (fun b o hc e=>⟨o,k b o (fun z=>hc (by simp[z])) e⟩) (fun _ _ e=>e) (fun _ _ _ e=>e) (fun b ps e=>⟨#[],by rw[e];simp⟩) (fun m hm=>?_) (fun b u e=>?_) I.bare
 ·have e:b=it:=by simpa using hb
  subst e
  exact⟨h1,hL,h2,h3⟩
 ·obtain⟨o,es,ep,ho,r⟩:=hm
  exact⟨o,es,ep,k _ o (Ne.symm hL) ho,r⟩
 ·refine (I.hok b u e).stay (fun c v hc q=>k c v ?_ q) (fun _ q=>q) fun _ _ q=>q
  rcases hc with z|z
  ·rw[z];exact nit b u e
  ·exact nit c _ z
theorem Inv.tok(I:Inv X pins σ H s)(t:Nat):Inv X pins σ H {s with toks:=t}:=I.un (h':=s.heap) (t':=t) Un.refl I.hok
theorem Inv.kept{t':Nat}(I:Inv X pins σ H s)(k:∀b u,s.heap.get? b=some u->h'.get? b=some u):Inv X pins σ H {s with heap:=h',toks:=t'}:=I.un (Un.kept k) (I.hok.kept k)
theorem Inv.laid{a:Addr}{o:HO}{t':Nat}(I:Inv X pins σ H s)(k:∀b u,s.heap.get? b=some u->h'.get? b=some u)(hp:s.heap.objs.size<=a)(new:ObjOk X.prog X.w (upd H a o) h' a o) :
  Inv X pins σ (upd H a o) {s with heap:=h',toks:=t'}:=I.un (Un.laid k hp (I.hok.fresh hp)) (I.hok.laid k hp new)
theorem Inv.write{x e:Addr}{o:HO}{t':Nat}(I:Inv X pins σ H s)(mu:Mut (H x))(he:e=x\/H e=some (.own x))(k:∀b u,b≠e->s.heap.get? b=some u->h'.get? b=some u)(heo:∃u,h'.get? e=some u)
  (new:ObjOk X.prog X.w (upd H x o) h' x o):Inv X pins σ (upd H x o) {s with heap:=h',toks:=t'}:=I.un (Un.write mu he k heo) (I.hok.write mu he k heo new)
theorem Inv.pins_of{pins':List (Addr×Obj)}(I:Inv X pins σ H s)(h:∀p∈pins',s.heap.get? p.1=some p.2/\H p.1=none/\p.1≠X.env.locals/\p.1∉X.fs/\∀v,p.2.data≠.cell v):Inv X pins' σ H s:=
 ⟨I.ok,I.os,I.bare,I.base,I.loc,I.cell,I.free,I.freeC,fun p hp=>(List.mem_append.mp hp).elim (fun z=>I.pin p (List.mem_append_left _ z)) (h p),I.hok,I.len⟩
theorem gD{N:List Str}(hN:N.Nodup){i j:Nat}{x:Str}(a:N[i]?=some x)(b:N[j]?=some x):i=j:=by
 obtain⟨h1,e1⟩:=List.getElem?_eq_some_iff.mp a
 obtain⟨h2,e2⟩:=List.getElem?_eq_some_iff.mp b
 exact (List.getElem_inj hN).mp (e1.trans e2.symm)
theorem mK{M:Model}{A:Around}{E:Value->Shared->Prop}{i:Nat}{x:Str}{v:V}{u:Value}{Q:Unit->Shared->Prop}(I:Inv X pins σ H s)(hN:X.N.Nodup)(hi:X.N[i]?=some x)(hx:Loc X.env.scope x)(r:RelV v u)
  (h:∀s',Inv X pins (σ.set i (some v)) H s'->(∃a,Heap.SameBut a s.heap s'.heap/\(a=X.env.locals\/X.env.cells.lookup x=some a))->Q () s') (hf:X.fn x=true\/X.env.scope.names.lookup x=some .local:=by first|exact .inl rfl|exact .inr rfl|assumption):wpAny M A (storeName X.env x u) Q E s:=by
 obtain⟨m,hn,hl⟩:=id I.loc
 have hcls:(X.env.scope.kind == .class||(X.env.scope.kind == .module&&X.env.locals != X.env.globals))=false:=by rw[I.ok.kind];rfl
 have hiσ:i < σ.length:=by rw[I.len];exact (List.getElem?_eq_some_iff.mp hi).1
 have cne:=I.cne
 have tracked:∀{a:Addr}{h':Heap},(∃o,s.heap.get? a=some o/\H a=none)->Heap.SameBut a s.heap h'->HOk X.prog X.w H h':=fun {a h'} ha hs b ob e=>by
  obtain⟨_,_,hfree⟩:=ha
  refine (I.hok b ob e).stay (fun c w' hc q=>(hs.2 c ?_).trans q) (fun _ q=>q) fun _ _ q=>q
  rintro rfl
  rcases hc with rfl|hc
  ·rw[hfree]at e;cases e
  ·rw[hfree]at hc;cases hc
 rcases hx with hk|hk
 ·refine wpAny_storeName_local hk hn (fun h' hn' hs=>?_) hcls
  obtain⟨oL,_,_,hoL,_⟩:=id hn
  refine h _ ⟨I.ok,I.os,I.bare,⟨fun b o e n hb hx=>?_,fun b o e n hb hx=>?_,I.base.free,fun b o e hx=>?_,I.base.tups,I.base.frzs,I.base.tbls⟩,⟨_,hn',fun j y v' e1 e2 e3=>?_⟩,fun y c e=>?_,I.free,I.freeC,fun p hp=>?_,tracked ⟨oL,hoL,I.free⟩ hs,by simpa using I.len⟩ ⟨_,hs,.inl rfl⟩
  ·exact (hs.2 b (Nat.ne_of_lt (Nat.lt_of_lt_of_le (Heap.lt_size e) I.ok.above))).trans (I.base.keep b o e n hb hx)
  ·obtain⟨sl,e1⟩:=I.base.slot b o e n hb hx
   exact⟨sl,(hs.2 b (Nat.ne_of_lt (Nat.lt_of_lt_of_le (Heap.lt_size e) I.ok.above))).trans e1⟩
  ·obtain⟨o',e1⟩:=I.base.there b o e hx
   exact⟨o',(hs.2 b (Nat.ne_of_lt (Nat.lt_of_lt_of_le (Heap.lt_size e) I.ok.above))).trans e1⟩
  ·by_cases hj:j=i
   ·subst hj
    rw[hi]at e1;cases e1
    rw[List.getElem?_set_self hiσ]at e2
    cases e2
    exact⟨u,r,.inl ⟨hk,by simp⟩⟩
   ·rw[List.getElem?_set_ne (Ne.symm hj)]at e2
    obtain⟨u',r',q⟩:=hl j y v' e1 e2 e3
    refine⟨u',r',?_⟩
    rcases q with ⟨k,e⟩|⟨k,c,e,z⟩
    ·refine .inl ⟨k,?_⟩
     have:y≠x:=fun e=>hj (gD hN e1 (e▸hi))
     simp[this,e]
    ·exact .inr ⟨k,c,e,z.sameBut hs (cne y c e)⟩
  ·obtain⟨w',z⟩:=I.cell y c e
   exact⟨w',z.sameBut hs (cne y c e)⟩
  ·obtain⟨e,n,ne,nf,d⟩:=I.pin p hp
   exact⟨(hs.2 p.1 ne).trans e,n,ne,nf,d⟩
 ·have hfn:X.fn x=true:=by
   rcases hf with z|z
   ·exact z
   ·rw[z]at hk;cases hk
  obtain⟨c,hc⟩:=I.ok.has x (.inl hk)
  obtain⟨w',z⟩:=I.cell x c hc
  refine wpAny_storeName_cell I.ok.kind hk hc z (fun h' hc' hs=>?_)
  obtain⟨oc,hoc,hocd⟩:=id z
  refine h {s with heap:=h'} ⟨I.ok,I.os,I.bare,⟨fun b o e n hb hx=>?_,fun b o e n hb hx=>?_,I.base.free,fun b o e hx=>?_,I.base.tups,I.base.frzs,I.base.tbls⟩,⟨m,hn.sameBut hs (Ne.symm (cne x c hc)),fun j y v' e1 e2 e3=>?_⟩,fun y c' e=>?_,I.free,I.freeC,fun p hp=>?_,tracked ⟨oc,hoc,I.freeC x c hc⟩ hs,by simpa using I.len⟩ ⟨c,hs,.inr hc⟩
  ·exact (hs.2 b (Nat.ne_of_lt (Nat.lt_of_lt_of_le (Heap.lt_size e) (I.ok.cab x c hfn hc)))).trans (I.base.keep b o e n hb hx)
  ·obtain⟨sl,e1⟩:=I.base.slot b o e n hb hx
   exact⟨sl,(hs.2 b (Nat.ne_of_lt (Nat.lt_of_lt_of_le (Heap.lt_size e) (I.ok.cab x c hfn hc)))).trans e1⟩
  ·obtain⟨o',e1⟩:=I.base.there b o e hx
   exact⟨o',(hs.2 b (Nat.ne_of_lt (Nat.lt_of_lt_of_le (Heap.lt_size e) (I.ok.cab x c hfn hc)))).trans e1⟩
  ·by_cases hj:j=i
   ·subst hj
    rw[hi]at e1;cases e1
    rw[List.getElem?_set_self hiσ]at e2
    cases e2
    exact⟨u,r,.inr ⟨.inl hk,c,hc,hc'⟩⟩
   ·rw[List.getElem?_set_ne (Ne.symm hj)]at e2
    obtain⟨u',r',q⟩:=hl j y v' e1 e2 e3
    refine⟨u',r',?_⟩
    rcases q with q|⟨k,c',e,z'⟩
    ·exact .inl q
    ·refine .inr ⟨k,c',e,z'.sameBut hs ?_⟩
     rintro rfl
     exact hj (gD hN e1 (I.ok.inj _ _ _ e hc▸hi))
  ·by_cases hcc:c'=c
   ·subst hcc;exact⟨_,hc'⟩
   ·obtain⟨w2,z2⟩:=I.cell y c' e
    exact⟨w2,z2.sameBut hs hcc⟩
  ·obtain⟨e,n,ne,nf,d⟩:=I.pin p hp
   refine⟨(hs.2 p.1 ?_).trans e,n,ne,nf,d⟩
   intro q
   rw[q,hoc]at e
   have q':oc=p.2:=Option.some.inj e
   exact d w' (by rw[<-q'];exact hocd)
theorem gZ{M:Model}{A:Around}{E:Value->Shared->Prop}{i:Nat}{x:Str}{v:V}{u:Value}{Q:Unit->Shared->Prop}(I:Inv X pins σ H s)(hN:X.N.Nodup)(hi:X.N[i]?=some x)(hx:Loc X.env.scope x)(r:RelV v u)
  (h:∀s',Inv X pins (σ.set i (some v)) H s'->Q () s') (hf:X.fn x=true\/X.env.scope.names.lookup x=some .local:=by first|exact .inl rfl|exact .inr rfl|assumption):wpAny M A (storeName X.env x u) Q E s:=
 mK I hN hi hx r (fun s' I' _=>h s' I') hf
theorem Inv.call'{s':Shared}{ch:List Addr}(I:Inv X pins σ H s)(ho:s'.os=s.os)(u:Un (frs X.stack) ch H H' s.heap s'.heap)(hok:HOk X.prog X.w H' s'.heap)(hg:AllBare s'.gens)
  (hch:∀b∈ch,(b∈X.ex\/X.s₀.heap.objs.size<=b)/\b≠X.env.locals/\(∀x c,X.env.cells.lookup x=some c->c≠b)/\∀p∈X.pn++pins,p.1≠b):Inv X pins σ H' s':=by
 obtain⟨h',g',d',t',o'⟩:=s'
 have e:o'=s.os:=ho
 subst e
 exact I.call (g':=g') (t':=t') (d':=d') u hok hg hch
end
noncomputable abbrev XK:=Value->Option Addr->Hp->Prop
noncomputable abbrev St:=List (Option V)
noncomputable abbrev VK:=V->Hp->Prop
noncomputable abbrev TE:=St->Hp->VK->Prop
noncomputable abbrev TT:=St->Hp->(Bool->Hp->Prop)->Prop
noncomputable abbrev TA:=St->Hp->(List V->Hp->Prop)->Prop
structure Ends where
 nx:St->Hp->Prop
 rt:VK
 bk:St->Hp->Prop:=fun _ _=>False
 ct:St->Hp->Prop:=fun _ _=>False
noncomputable abbrev TS:=Ends->St->Hp->Prop
noncomputable def EP(X:Cx)(pins:List (Addr×Obj))(σ:St)(Q:VK)(u:Value)(s':Shared):Prop:=∃v H',Inv X pins σ H' s'/\RelV v u/\Q v H'
noncomputable def TP(X:Cx)(pins:List (Addr×Obj))(σ:St)(Q:Bool->Hp->Prop)(b:Bool)(s':Shared):Prop:=∃H',Inv X pins σ H' s'/\Q b H'
noncomputable def AP(X:Cx)(pins:List (Addr×Obj))(σ:St)(Q:List V->Hp->Prop)(us:List Value)(s':Shared):Prop:=∃vs H',Inv X pins σ H' s'/\Vals vs us/\Q vs H'
noncomputable def SP(X:Cx)(pins:List (Addr×Obj))(D:Ends)(f:Flow)(s':Shared):Prop:=
 match f with
 |.next=>∃σ' H',Inv X pins σ' H' s'/\D.nx σ' H'
 |.brk=>∃σ' H',Inv X pins σ' H' s'/\D.bk σ' H'
 |.cont=>∃σ' H',Inv X pins σ' H' s'/\D.ct σ' H'
 |.ret u=>∃v σ' H',Inv X pins σ' H' s'/\RelV v u/\D.rt v H'
noncomputable def PE(X:Cx)(e:Expr)(t:TE):Prop:=
 ∀(pins:List (Addr×Obj)) (s:Shared) (σ:St) (H:Hp) (Q:VK),Inv X pins σ H s->t σ H Q->wpAny (model X.prog X.w) X.A (eval e X.env) (EP X pins σ Q) X.xe s
noncomputable def PT(X:Cx)(e:Expr)(t:TT):Prop:=
 ∀(pins:List (Addr×Obj)) (s:Shared) (σ:St) (H:Hp) (Q:Bool->Hp->Prop),Inv X pins σ H s->t σ H Q->wpAny (model X.prog X.w) X.A (isTrue e X.env (eval e X.env)) (TP X pins σ Q) X.xe s
noncomputable def PW(X:Cx)(e:Expr)(t:TT):Prop:=
 ∀(whole:Sem Value) (pins:List (Addr×Obj)) (s:Shared) (σ:St) (H:Hp) (Q:Bool->Hp->Prop),Inv X pins σ H s->t σ H Q->wpAny (model X.prog X.w) X.A (isTrue e X.env whole) (TP X pins σ Q) X.xe s
theorem PW.pt{X:Cx}{e:Expr}{t:TT}(h:PW X e t):PT X e t:=h _
noncomputable def PA(X:Cx)(es:List Expr)(t:TA):Prop:=
 ∀(pos:Pos) (pins:List (Addr×Obj)) (s:Shared) (σ:St) (H:Hp) (Q:List V->Hp->Prop),Inv X pins σ H s->t σ H Q->wpAny (model X.prog X.w) X.A (spliced (backTo pos (starEach es X.env))) (AP X pins σ Q) X.xe s
noncomputable def PS(X:Cx)(st:Stmt)(t:TS):Prop:=
 ∀(pins:List (Addr×Obj)) (s:Shared) (σ:St) (H:Hp) (D:Ends),Inv X pins σ H s->t D σ H->wpAny (model X.prog X.w) X.A (exec st X.env) (SP X pins D) X.xe s
noncomputable def PSs(X:Cx)(st:List Stmt)(t:TS):Prop:=
 ∀(pins:List (Addr×Obj)) (s:Shared) (σ:St) (H:Hp) (D:Ends),Inv X pins σ H s->t D σ H->wpAny (model X.prog X.w) X.A (execs st X.env) (SP X pins D) X.xe s
theorem thn{α:Type}{t:Sem α}{Q Q':α->Shared->Prop}{M:Model}{A:Around}{E:Value->Shared->Prop}{s:Shared}(h:wpAny M A t Q E s)(hQ:∀a s,Q a s->Q' a s):wpAny M A t Q' E s:=wpAny_mono h hQ fun _ _ x=>x
end L2
namespace L2
open PySem PySem.Spec PyProof.Rows
section
variable {X:Cx}
theorem bin{a b:Expr}{ta tb:TE}(ha:PE X a ta)(hb:PE X b tb){pins:List (Addr×Obj)}{s:Shared}{σ:St}{H:Hp}{R:V->V->Hp->Prop}(I:Inv X pins σ H s)(h:ta σ H fun x H1=>tb σ H1 fun y H2=>R x y H2)
  {α:Type}{Q:α->Shared->Prop}{f:Value->Value->Sem α}
  (hf:∀v u s2 x y H2,Inv X pins σ H2 s2->RelV x v->RelV y u->R x y H2->wpAny (model X.prog X.w) X.A (f v u) Q X.xe s2) :
  wpAny (model X.prog X.w) X.A (eval a X.env) (fun v s₁=>wpAny (model X.prog X.w) X.A (eval b X.env) (fun u s₂=>wpAny (model X.prog X.w) X.A (f v u) Q X.xe s₂) X.xe s₁) X.xe s:=by
 refine thn (ha pins s σ H _ I h) fun v s1 ⟨x,H1,I1,r1,q1⟩=>?_
 refine thn (hb pins s1 σ H1 _ I1 q1) fun u s2 ⟨y,H2,I2,r2,q2⟩=>?_
 exact hf v u s2 x y H2 I2 r1 r2 q2
noncomputable def Fa(i:Nat):TE:=fun σ H Q=>∃v,σ[i]?=some (some v)/\Q v H
noncomputable def tC(v:V):TE:=fun _ H Q=>Q v H
theorem uC{i:Nat}{x:Str}{pos:Pos}(hN:X.N[i]?=some x)(hv:Vis X.env.scope x)(hd:(x == ("__debug__" : Str))=false:=by decide)(hcd:(x == ("__classdict__" : Str))=false:=by decide):PE X (.Name x pos) (Fa i):=by
 intro pins s σ H Q I h
 obtain⟨v,e,h⟩:=h
 obtain⟨m,hn,hl⟩:=I.loc
 obtain⟨u,r,l⟩:=hl i x v hN e hv
 have fin:EP X pins σ Q u s:=⟨v,H,I,r,h⟩
 rcases l with ⟨hk,hm⟩|⟨hk,c,hc,hcell⟩
 ·exact wpAny_Name (wpAny_loadName_local I.ok.kind hk hn hm fin) hd
 ·rcases hk with hk|hk
  ·exact wpAny_Name (wpAny_loadName_cell I.ok.kind hk hc hcell fin) hd
  ·exact wpAny_Name (wpAny_loadName_free I.ok.kind hk hc hcell fin hcd) hd
theorem wH{i j pos}:PE X (.Constant (.int i) j pos) (tC (.int i)):=fun _ _ _ H _ I h=>wpAny_Constant_int ⟨.int i,H,I.tok _,⟨_,rfl⟩,h⟩
theorem Ci{b j pos}:PE X (.Constant (.bool b) j pos) (tC (.bl b)):=fun _ _ _ H _ I h=>Constant_bool ⟨.bl b,H,I,rfl,h⟩
theorem vH{j pos}:PE X (.Constant .none j pos) (tC .non):=fun _ _ _ H _ I h=>Constant_none ⟨.non,H,I,rfl,h⟩
theorem wg{x j pos}:PE X (.Constant (.str x) j pos) (tC (.str x)):=fun _ _ _ H _ I h=>Calls.Constant_str ⟨.str x,H,I.tok _,⟨_,rfl⟩,h⟩
noncomputable def Gl(X:Cx)(x:Str):Prop:=X.env.kindOf x=some .globalImplicit
theorem bF{E:Value->Shared->Prop}{pins:List (Addr×Obj)}{s:Shared}{σ:St}{H:Hp}{x:Str}{u:Value}{pos:Pos}{Q:Value->Shared->Prop}(I:Inv X pins σ H s)(hg:Gl X x)(hm:X.mg x=some u)(h:Q u s)
  (hd:(x == ("__debug__" : Str))=false:=by decide):wpAny (model X.prog X.w) X.A (eval (.Name x pos) X.env) Q E s:=
 Calls.Name_function_global I.ok.kind hg (Calls.loadGlobal_global (by rw[I.ok.glob];exact I.mod.glob.keeps I.bk) hm h) hd
theorem cR{E:Value->Shared->Prop}{pins:List (Addr×Obj)}{s:Shared}{σ:St}{H:Hp}{x:Str}{u:Value}{pos:Pos}{Q:Value->Shared->Prop}(I:Inv X pins σ H s)(hg:Gl X x)(hm:X.mg x=none)(hv:bootBuiltins x=some u)(h:Q u s)
  (hn:x≠"__name__":=by decide) (hd:(x == ("__debug__" : Str))=false:=by decide):wpAny (model X.prog X.w) X.A (eval (.Name x pos) X.env) Q E s:=by
 obtain⟨mb,h1,h2⟩:=I.mod.blt
 exact Calls.Name_function_global I.ok.kind hg (Calls.loadGlobal_builtin (by rw[I.ok.glob];exact I.mod.glob.keeps I.bk) hm (by rw[I.ok.blt];exact h1.keeps I.bk) ((h2 x hn).trans hv) h) hd
theorem gf{x:Str}{v:V}{u:Value}{pos:Pos}(hg:Gl X x)(hm:X.mg x=some u)(r:RelV v u)(hd:(x == ("__debug__" : Str))=false:=by decide):PE X (.Name x pos) (tC v):=
 fun _ _ _ H _ I h=>bF I hg hm ⟨v,H,I,r,h⟩ hd
theorem rg{x:Str}{v:V}{u:Value}{pos:Pos}(hg:Gl X x)(hm:X.mg x=none)(hv:bootBuiltins x=some u)(r:RelV v u)(hn:x≠"__name__":=by decide)(hd:(x == ("__debug__" : Str))=false:=by decide):PE X (.Name x pos) (tC v):=
 fun _ _ _ H _ I h=>cR I hg hm hv ⟨v,H,I,r,h⟩ hn hd
variable {a b:Expr}{ta tb:TE}{pos:Pos}
noncomputable def tB(t:TE):TT:=fun σ H Q=>t σ H fun x H1=>∃c,x=.bl c/\Q c H1
theorem u5{e:Expr}{t:TE}(h:PE X e t)(he:∀whole,isTrue e X.env whole=(do let v<-whole;standAt e.pos;holding [v] (truthy v)):=by intro _;rfl):PT X e (tB t):=by
 intro pins s σ H Q I hw
 refine isTrue_plain (thn (h pins s σ H _ I hw) fun v s1 ⟨x,H1,I1,r1,q1⟩=>?_) (he _)
 obtain⟨d,rfl,q⟩:=q1
 cases r1
 exact wpAny_truthy_bool ⟨H1,I1,q⟩
variable {tA tB':TT}{av:List Expr}
noncomputable def Fd(t u:TT):TT:=fun σ H Q=>t σ H fun c H1=>if c=true then u σ H1 Q else Q false H1
noncomputable def tOr(t u:TT):TT:=fun σ H Q=>t σ H fun c H1=>if c=true then Q true H1 else u σ H1 Q
noncomputable def Ej(t:TT):TT:=fun σ H Q=>t σ H fun c H1=>Q (!c) H1
theorem rj(ha:PT X a tA):PW X (.BoolOp .And [a] pos) tA:=by
 intro wh pins s σ H Q I h
 refine isTrue_and (thn (ha pins s σ H Q I h) fun c s1 e=>?_)
 cases c with
 |true=>exact isTrue_and_nil e
 |false=>exact e
theorem um(ha:PT X a tA):PW X (.BoolOp .Or [a] pos) tA:=by
 intro wh pins s σ H Q I h
 refine isTrue_or (thn (ha pins s σ H Q I h) fun c s1 e=>?_)
 cases c with
 |false=>exact isTrue_or_nil e
 |true=>exact e
theorem vm(ha:PT X a tA)(hb:PW X (.BoolOp .And (b::av) pos) tB'):PW X (.BoolOp .And (a::b::av) pos) (Fd tA tB'):=by
 intro wh pins s σ H Q I h
 refine isTrue_and (thn (ha pins s σ H _ I h) fun c s1 ⟨H1,I1,q1⟩=>?_)
 cases c with
 |true=>exact hb wh pins s1 σ H1 Q I1 q1
 |false=>exact⟨H1,I1,q1⟩
theorem zG(ha:PT X a tA)(hb:PW X (.BoolOp .Or (b::av) pos) tB'):PW X (.BoolOp .Or (a::b::av) pos) (tOr tA tB'):=by
 intro wh pins s σ H Q I h
 refine isTrue_or (thn (ha pins s σ H _ I h) fun c s1 ⟨H1,I1,q1⟩=>?_)
 cases c with
 |true=>exact⟨H1,I1,q1⟩
 |false=>exact hb wh pins s1 σ H1 Q I1 q1
theorem vY(ha:PT X a tA):PT X (.UnaryOp .Not a pos) (Ej tA):=by
 intro pins s σ H Q I h
 exact isTrue_not (ha pins s σ H (fun c H1=>Q (!c) H1) I h)
noncomputable def yI(ta tb:TE):TE:=fun σ H Q=>ta σ H fun x H1=>∃c,x=.bl c/\if c=true then tb σ H1 Q else Q (.bl false) H1
noncomputable def F4(ta tb:TE):TE:=fun σ H Q=>ta σ H fun x H1=>∃c,x=.bl c/\if c=true then Q (.bl true) H1 else tb σ H1 Q
noncomputable def Ax(ta:TE):TE:=fun σ H Q=>ta σ H fun x H1=>∃c,x=.bl c/\Q (.bl (!c)) H1
theorem vG{op}{t:TE}(h:PE X a t):PE X (.BoolOp op [a] pos) t:=fun pins s σ H Q I hw=>BoolOp_one (h pins s σ H Q I hw)
theorem t7(ha:PE X a ta)(hb:PE X (.BoolOp .And (b::av) pos) tb):PE X (.BoolOp .And (a::b::av) pos) (yI ta tb):=by
 intro pins s σ H Q I h
 refine BoolOp_and (thn (ha pins s σ H _ I h) fun v s1 ⟨x,H1,I1,r1,q1⟩=>?_)
 obtain⟨c,rfl,q1⟩:=q1
 cases r1
 refine wpAny_truthy_bool ?_
 cases c with
 |true=>exact hb pins s1 σ H1 Q I1 q1
 |false=>exact⟨.bl false,H1,I1,rfl,q1⟩
theorem An(ha:PE X a ta)(hb:PE X (.BoolOp .Or (b::av) pos) tb):PE X (.BoolOp .Or (a::b::av) pos) (F4 ta tb):=by
 intro pins s σ H Q I h
 refine BoolOp_or (thn (ha pins s σ H _ I h) fun v s1 ⟨x,H1,I1,r1,q1⟩=>?_)
 obtain⟨c,rfl,q1⟩:=q1
 cases r1
 refine wpAny_truthy_bool ?_
 cases c with
 |false=>exact hb pins s1 σ H1 Q I1 q1
 |true=>exact⟨.bl true,H1,I1,rfl,q1⟩
theorem wl(ha:PE X a ta):PE X (.UnaryOp .Not a pos) (Ax ta):=by
 intro pins s σ H Q I h
 refine UnaryOp_ (thn (ha pins s σ H _ I h) fun v s1 ⟨x,H1,I1,r1,q1⟩=>?_)
 obtain⟨c,rfl,q1⟩:=q1
 cases r1
 exact not_of (wpAny_truthy_bool ⟨.bl (!c),H1,I1,rfl,q1⟩)
noncomputable def tIf(t:TT)(ta tb:TE):TE:=fun σ H Q=>t σ H fun c H1=>if c=true then ta σ H1 Q else tb σ H1 Q
theorem oX{c:Expr}(hc:PT X c tA)(ha:PE X a ta)(hb:PE X b tb):PE X (.IfExp c a b pos) (tIf tA ta tb):=by
 intro pins s σ H Q I h
 refine wpAny_IfExp (thn (hc pins s σ H _ I h) fun d s1 ⟨H1,I1,q1⟩=>?_)
 cases d with
 |true=>exact ha pins s1 σ H1 Q I1 q1
 |false=>exact hb pins s1 σ H1 Q I1 q1
end
end L2
namespace L2
open PySem PySem.Spec PyProof.Rows
noncomputable def SqL(K:PySem.W.Frag)(H:Hp)(a:Addr)(xs:List V):Prop:=
 Rd H a (.lst xs)\/
  ∃(o:Obj) (its:Array Value) (n:Nat),K.lookup a=some o/\o.cls=.type "list"/\o.dict=none/\o.data=.seq its n/\its.size<=sizeLine/\Vals xs its.toList
noncomputable def SqT(K:PySem.W.Frag)(H:Hp)(a:Addr)(xs:List V):Prop:=
 Rd H a (.tup xs)\/
  ∃(o:Obj) (its:Array Value) (n:Nat),K.lookup a=some o/\o.cls=.type "tuple"/\o.data=.seq its n/\its.size<=sizeLine/\Vals xs its.toList
noncomputable def Fj:Value->Option V
 |.none=>some .non
 |.bool b=>some (.bl b)
 |.int i _=>some (.int i)
 |.str x _=>some (.str x)
 |.bytes b _=>some (.byt b)
 |.float b _=>some (.flt b)
 |.ref a=>some (.ref a)
 |.type n=>some (.ty n)
 |_=>none
theorem RelV.abs{x:V}{u:Value}(r:RelV x u):Fj u=some x:=by
 cases x with
 |non=>cases r;rfl
 |bl _=>cases r;rfl
 |int _=>obtain⟨t,rfl⟩:=r;rfl
 |str _=>obtain⟨t,rfl⟩:=r;rfl
 |byt _=>obtain⟨t,rfl⟩:=r;rfl
 |flt _=>obtain⟨t,rfl⟩:=r;rfl
 |ref _=>cases r;rfl
 |ty _=>cases r;rfl
theorem RelV.inj{x y:V}{u:Value}(r:RelV x u)(q:RelV y u):x=y:=Option.some.inj (r.abs.symm.trans q.abs)
theorem Vals.inj:∀{xs ys:List V}{us:List Value},Vals xs us->Vals ys us->xs=ys
 |_,_,_,.nil,.nil=>rfl
 |_,_,_,.cons r t,.cons r' t'=>by rw[r.inj r',Vals.inj t t']
section
variable {X:Cx}{pins:List (Addr×Obj)}{σ:St}{H:Hp}{s:Shared}{a:Addr}{xs ys:List V}
theorem SqL.of{K:PySem.W.Frag}(h:H a=some (.lst xs)):SqL K H a xs:=.inl (.inl h)
theorem SqT.of{K:PySem.W.Frag}(h:H a=some (.tup xs)):SqT K H a xs:=.inl (.inl h)
theorem Inv.list(I:Inv X pins σ H s)(h:SqL X.K H a xs):∃its:List Value,Vals xs its/\PlainL s.heap a its.toArray/\xs.length<=sizeLine:=by
 rcases h with h|⟨o,its,n,hk,hc,hd,hs,hz,r⟩
 ·obtain⟨z,its,n,r,e⟩:=h.ok I.hok
  exact⟨its,r,⟨_,n,e,rfl,rfl,rfl⟩,z⟩
 ·refine⟨its.toList,r,⟨o,n,I.kIn a o hk,hc,hd,by simpa using hs⟩,?_⟩
  have e:=r.length
  simp only[Array.length_toList]at e
  omega
theorem Inv.tuple(I:Inv X pins σ H s)(h:SqT X.K H a xs):∃its:List Value,Vals xs its/\IsTup s.heap a its.toArray/\xs.length<=sizeLine:=by
 rcases h with h|⟨o,its,n,hk,hc,hs,hz,r⟩
 ·obtain⟨z,its,r,p⟩:=h.ok I.hok
  exact⟨its,r,p,z⟩
 ·refine⟨its.toList,r,⟨o,I.kIn a o hk,hc,n,by simpa using hs⟩,?_⟩
  have e:=r.length
  simp only[Array.length_toList]at e
  omega
theorem Inv.list_inj(I:Inv X pins σ H s)(h:SqL X.K H a xs)(h':SqL X.K H a ys):xs=ys:=by
 obtain⟨its,r,⟨o,n,e,_,_,d⟩,_⟩:=I.list h
 obtain⟨its',r',⟨o',n',e',_,_,d'⟩,_⟩:=I.list h'
 rw[e]at e';cases e'
 rw[d]at d'
 injection d' with d1 _
 have:its=its':=by simpa using congrArg Array.toList d1
 subst this
 exact r.inj r'
theorem Inv.tuple_inj(I:Inv X pins σ H s)(h:SqT X.K H a xs)(h':SqT X.K H a ys):xs=ys:=by
 obtain⟨its,r,⟨o,e,_,n,d⟩,_⟩:=I.tuple h
 obtain⟨its',r',⟨o',e',_,n',d'⟩,_⟩:=I.tuple h'
 rw[e]at e';cases e'
 rw[d]at d'
 injection d' with d1 _
 have:its=its':=by simpa using congrArg Array.toList d1
 subst this
 exact r.inj r'
end
noncomputable abbrev Cx.wish(X:Cx)(E:Value->Shared->Prop):Cx:={X with xe:=E}
noncomputable abbrev Cx.nox(X:Cx):Cx:=X.wish fun _ _=>False
theorem Cx.Ok.wish{X:Cx}(ok:X.Ok)(E:Value->Shared->Prop):(X.wish E).Ok:=
 ⟨ok.mod,ok.kind,ok.glob,ok.blt,ok.above,ok.inj,ok.has,ok.cab,ok.hd,ok.frames,ok.stk,ok.exf,ok.bs,ok.bsz,ok.noex,ok.exfs,ok.funs,ok.frf⟩
theorem Cx.Ok.unwish{X:Cx}{E:Value->Shared->Prop}(ok:(X.wish E).Ok):X.Ok:=
 ⟨ok.mod,ok.kind,ok.glob,ok.blt,ok.above,ok.inj,ok.has,ok.cab,ok.hd,ok.frames,ok.stk,ok.exf,ok.bs,ok.bsz,ok.noex,ok.exfs,ok.funs,ok.frf⟩
section
variable {X:Cx}{pins:List (Addr×Obj)}{σ:St}{H:Hp}{s:Shared}{E:Value->Shared->Prop}
theorem Inv.wish(I:Inv X pins σ H s)(E:Value->Shared->Prop):Inv (X.wish E) pins σ H s:=⟨I.ok.wish E,I.os,I.bare,I.base,I.loc,I.cell,I.free,I.freeC,I.pin,I.hok,I.len⟩
theorem Inv.unwish(I:Inv (X.wish E) pins σ H s):Inv X pins σ H s:=⟨I.ok.unwish,I.os,I.bare,I.base,I.loc,I.cell,I.free,I.freeC,I.pin,I.hok,I.len⟩
theorem SP.unwish{D:Ends}{f:Flow}{s':Shared}(h:SP (X.wish E) pins D f s'):SP X pins D f s':=by
 cases f with
 |next=>obtain⟨σ',H',I,q⟩:=h;exact⟨σ',H',I.unwish,q⟩
 |brk=>obtain⟨σ',H',I,q⟩:=h;exact⟨σ',H',I.unwish,q⟩
 |cont=>obtain⟨σ',H',I,q⟩:=h;exact⟨σ',H',I.unwish,q⟩
 |ret u=>obtain⟨v,σ',H',I,r,q⟩:=h;exact⟨v,σ',H',I.unwish,r,q⟩
theorem PE.nox{e:Expr}{t:TE}(h:PE X.nox e t):PE X e t:=fun pins s σ H Q I hw=>
 wpAny_mono (h pins s σ H Q (I.wish _) hw) (fun _ _ ⟨v,H',I',r,q⟩=>⟨v,H',I'.unwish,r,q⟩) fun _ _ z=>False.elim z
theorem PT.nox{e:Expr}{t:TT}(h:PT X.nox e t):PT X e t:=fun pins s σ H Q I hw=>
 wpAny_mono (h pins s σ H Q (I.wish _) hw) (fun _ _ ⟨H',I',q⟩=>⟨H',I'.unwish,q⟩) fun _ _ z=>False.elim z
theorem PSs.nox{st:List Stmt}{t:TS}(h:PSs X.nox st t):PSs X st t:=fun pins s σ H D I hw=>
 wpAny_mono (h pins s σ H D (I.wish _) hw) (fun _ _ q=>q.unwish) fun _ _ z=>False.elim z
end
section
variable {X:Cx}{st:Stmt}{av:List Stmt}{t u:TS}{e:Expr}{te:TE}{pos:Pos}
noncomputable def tNext:TS:=fun D σ H=>D.nx σ H
noncomputable def Fr(t u:TS):TS:=fun D σ H=>t {D with nx:=u D} σ H
theorem pss_nil:PSs X [] tNext:=fun _ _ σ H _ I h=>wpAny_execs_nil ⟨σ,H,I,h⟩
theorem oM(h1:PS X st t)(h2:PSs X av u):PSs X (st::av) (Fr t u):=by
 intro pins s σ H D I h
 refine wpAny_execs_cons (thn (h1 pins s σ H {D with nx:=u D} I h) fun f s1 q=>?_)
 cases f with
 |next=>
  obtain⟨σ',H',I',q⟩:=q
  exact h2 pins s1 σ' H' D I' q
 |ret v=>exact q
 |brk=>exact q
 |cont=>exact q
theorem Inv.quiet{pins:List (Addr×Obj)}{σ:St}{H:Hp}{s:Shared}(I:Inv X pins σ H s):interactive X.env=false:=by simp[interactive,I.ok.kind]
noncomputable def zR(te:TE):TS:=fun D σ H=>te σ H fun _ H1=>D.nx σ H1
theorem l6(he:PE X e te)(hs:swapsWith e none pos.line X.env=pure false:=by rfl):PS X (.Expr e pos) (zR te):=by
 intro pins s σ H D I h
 exact wpAny_Expr_any (thn (he pins s σ H _ I h) fun v s1 ⟨x,H1,I1,r1,q1⟩=>⟨σ,H1,I1,q1⟩) I.quiet hs
noncomputable def Fc(te:TE):TS:=fun D σ H=>te σ H D.rt
theorem xR(he:PE X e te):PS X (.Return (some e) pos) (Fc te):=by
 intro pins s σ H D I h
 exact wpAny_Return_some (thn (he pins s σ H _ I h) fun v s1 ⟨x,H1,I1,r1,q1⟩=>⟨x,σ,H1,I1,r1,q1⟩)
noncomputable def EO(c:TT)(t u:TS):TS:=fun D σ H=>c σ H fun b H1=>if b=true then t D σ H1 else u D σ H1
theorem Bm{c:Expr}{a b:List Stmt}{tc:TT}(hc:PT X c tc)(ha:PSs X a t)(hb:PSs X b u):PS X (.If c a b pos) (EO tc t u):=by
 intro pins s σ H D I h
 refine wpAny_If (thn (hc pins s σ H _ I h) fun d s1 ⟨H1,I1,q1⟩=>?_)
 cases d with
 |true=>exact ha pins s1 σ H1 D I1 q1
 |false=>exact hb pins s1 σ H1 D I1 q1
end
noncomputable abbrev TG:=V->St->Hp->(St->Hp->Prop)->Prop
noncomputable abbrev TGs:=List V->St->Hp->(St->Hp->Prop)->Prop
noncomputable def PG(X:Cx)(target:Expr)(t:TG):Prop:=
 ∀(pins:List (Addr×Obj)) (s:Shared) (σ:St) (H:Hp) (v:V) (u:Value) (Q:St->Hp->Prop),Inv X pins σ H s->RelV v u->t v σ H Q->
  wpAny (model X.prog X.w) X.A (assign target X.env u) (fun _ s'=>∃σ' H',Inv X pins σ' H' s'/\Q σ' H') X.xe s
noncomputable def PGs(X:Cx)(ts:List Expr)(t:TGs):Prop:=
 ∀(pins:List (Addr×Obj)) (s:Shared) (σ:St) (H:Hp) (vs:List V) (us:List Value) (Q:St->Hp->Prop),Inv X pins σ H s->Vals vs us->t vs σ H Q->
  wpAny (model X.prog X.w) X.A (assignInOrder ((assignEach ts X.env).map (·.2)) us) (fun _ s'=>∃σ' H',Inv X pins σ' H' s'/\Q σ' H') X.xe s
noncomputable abbrev TSet:=V->V->V->Hp->(Hp->Prop)->Prop
noncomputable def u7(X:Cx)(t:TSet):Prop:=
 ∀(pins:List (Addr×Obj)) (s:Shared) (σ:St) (H:Hp) (o i v:V) (ov iv u:Value) (Q:Hp->Prop),Inv X pins σ H s->RelV o ov->RelV i iv->RelV v u->t o i v H Q->
  wpAny (model X.prog X.w) X.A (setItem ov iv u) (fun _ s'=>∃H',Inv X pins σ H' s'/\Q H') X.xe s
section
variable {X:Cx}{pos:Pos}
noncomputable def lW(i:Nat):TG:=fun v σ H Q=>Q (σ.set i (some v)) H
theorem fU{i:Nat}{x:Str}(hN:X.N.Nodup)(hi:X.N[i]?=some x)(hx:Loc X.env.scope x)(hf:X.fn x=true\/X.env.scope.names.lookup x=some .local:=by first|exact .inl rfl|exact .inr rfl|assumption):PG X (.Name x pos) (lW i):=by
 intro pins s σ H v u Q I r h
 exact wpAny_assign_Name (gZ I hN hi hx r (fun s' I'=>⟨_,H,I',h⟩) hf)
noncomputable def gNil:TGs:=fun vs σ H Q=>vs=[]/\Q σ H
noncomputable def zo(t:TG)(u:TGs):TGs:=fun vs σ H Q=>∃v r,vs=v::r/\t v σ H fun σ' H'=>u r σ' H' Q
theorem qe:PGs X [] gNil:=by
 intro pins s σ H vs us Q I r h
 obtain⟨e,h⟩:=h
 subst e
 cases r
 exact assignInOrder_nil ⟨σ,H,I,h⟩
theorem nQ{e:Expr}{es:List Expr}{t:TG}{u:TGs}(h1:PG X e t)(h2:PGs X es u)
  (hs:(assignEach (e::es) X.env).map (·.2)=assign e X.env::(assignEach es X.env).map (·.2):=by rfl):PGs X (e::es) (zo t u):=by
 intro pins s σ H vs us Q I r h
 obtain⟨v,vr,e1,h⟩:=h
 subst e1
 cases r with
 |cons r rr=>
  rw[hs]
  refine assignInOrder_cons (thn (h1 pins s σ H _ _ _ I r h) fun _ s1 ⟨σ1,H1,I1,q1⟩=>?_)
  exact h2 pins s1 σ1 H1 _ _ Q I1 rr q1
noncomputable def El(K:PySem.W.Frag)(n:Nat)(t:TGs):TG:=fun v σ H Q=>∃a xs,v=.ref a/\SqT K H a xs/\xs.length=n/\t xs σ H Q
theorem sW{es:List Expr}{k:Nat}{t:TGs}{n:Nat}(hc:X.calm=true)(h:PGs X es t)
  (hn:(assignEach es X.env).length=n:=by rfl) (hst:(assignEach es X.env).findIdx? (·.1)=none:=by rfl):PG X (.Tuple es k pos) (El X.K n t):=by
 intro pins s σ H v u Q I r hw
 obtain⟨a,xs,e1,hq,hl,hw⟩:=hw
 subst e1
 cases r
 obtain⟨its,rv,ht,hz⟩:=I.tuple hq
 refine assign_Tuple_tuple (I.ok.hd hc) ht (by simp[hn,<-hl,rv.length]) hst fun h' hx=>?_
 have I1:Inv X pins σ H {s with heap:=h'}:=I.kept (t':=s.toks) fun b o e=>hx b o (Nat.ne_of_lt (Heap.lt_size e)) e
 exact h pins _ σ H xs _ Q I1 (by simpa using rv) hw
noncomputable def FA(to ti:TE)(t:TSet):TG:=fun v σ H Q=>to σ H fun o H1=>ti σ H1 fun i H2=>t o i v H2 fun H3=>Q σ H3
theorem tf{o i:Expr}{to ti:TE}{t:TSet}(ho:PE X o to)(hi:PE X i ti)(hs:u7 X t)
  (ha:∀v,assign (.Subscript o i pos) X.env v=(do
   let ov<-holding [v] (eval o X.env)
   let iv<-holding [v,ov] (eval i X.env)
   standAt pos
   holding [v,ov,iv] (setItem ov iv v)
   release [v,ov,iv] []):=by intro _;rfl):PG X (.Subscript o i pos) (FA to ti t):=by
 intro pins s σ H v u Q I r h
 rw[ha]
 refine wpAny_bind (wpAny_holding (thn (ho pins s σ H _ I h) fun ov s1 ⟨x,H1,I1,r1,q1⟩=>?_))
 refine wpAny_bind (wpAny_holding (thn (hi pins s1 σ H1 _ I1 q1) fun iv s2 ⟨y,H2,I2,r2,q2⟩=>?_))
 refine wpAny_bind (wpAny_standAt (wpAny_bind (wpAny_holding (thn (hs pins s2 σ H2 x y v ov iv u _ I2 r1 r2 r q2) fun _ s3 ⟨H3,I3,q3⟩=>?_))))
 exact wpAny_release ⟨σ,H3,I3,q3⟩
noncomputable def xG(te:TE)(g:TG):TS:=fun D σ H=>te σ H fun x H1=>g x σ H1 D.nx
theorem uH{tg e:Expr}{te:TE}{g:TG}(he:PE X e te)(hg:PG X tg g)(hs:swapsWithSole [tg] e pos.line X.env=pure false:=by rfl)(hw:swappedStores [tg] e X.env=pure none:=by rfl)
  (h1:(assignEach [tg] X.env).map (·.2)=[assign tg X.env]:=by rfl):PS X (.Assign [tg] e pos) (xG te g):=by
 intro pins s σ H D I h
 refine wpAny_Assign_stores (thn (he pins s σ H _ I h) fun v s1 ⟨x,H1,I1,r1,q1⟩=>?_) hs hw
 rw[h1]
 exact thn (hg pins s1 σ H1 x v _ I1 r1 q1) fun _ s2 q=>q
theorem wS{i:Nat}{x:Str}{e:Expr}{te:TE}{pos':Pos}(hN:X.N.Nodup)(hi:X.N[i]?=some x)(hx:Loc X.env.scope x)(he:PE X e te)(hs:swapsWith e (some (.Name x pos')) pos.line X.env=pure false:=by rfl)(hf:X.fn x=true\/X.env.scope.names.lookup x=some .local:=by first|exact .inl rfl|exact .inr rfl|assumption) :
  PS X (.Assign [.Name x pos'] e pos) (xG te (lW i)):=by
 intro pins s σ H D I h
 refine wpAny_Assign_Name (thn (he pins s σ H _ I h) fun v s1 ⟨y,H1,I1,r1,q1⟩=>?_) hs
 exact gZ I1 hN hi hx r1 (fun s2 I2=>⟨_,H1,I2,q1⟩) hf
end
section
variable {X:Cx}{pos:Pos}
end
structure It where
 go:Nat->Hp->Prop
 yld:Nat->Hp->V->Hp->Prop
 stop:Nat->Hp->Prop
noncomputable def et(X:Cx)(pins:List (Addr×Obj))(H:Hp)(b:Addr):Prop:=
 H b=none/\b≠X.env.locals/\b∉X.fs/\(b∈X.ex\/X.s₀.heap.objs.size<=b)/\(∀x c,X.env.cells.lookup x=some c->c≠b)/\∀p∈X.pn++pins,p.1≠b
theorem Inv.fpOk{X:Cx}{pins:List (Addr×Obj)}{σ:St}{H H':Hp}{s:Shared}{b:Addr}(I:Inv X pins σ H s)(hb:s.heap.objs.size<=b)(hn:H' b=none):et X pins H' b:=by
 refine⟨hn,Nat.ne_of_gt (Nat.lt_of_lt_of_le I.lt hb),I.nofs hb,.inr (Nat.le_trans I.sz hb),fun x c e z=>?_,fun p hp z=>?_⟩
 ·obtain⟨v,q⟩:=I.cell x c e
  exact absurd (Nat.lt_of_lt_of_le q.lt (by rw[z];exact hb)) (Nat.lt_irrefl _)
 ·exact absurd (Nat.lt_of_lt_of_le (Heap.lt_size (I.pin p hp).1) (by rw[z];exact hb)) (Nat.lt_irrefl _)
structure Turn (P:Program) (w:World) (K:PySem.W.Frag) (tg:Expr) (J:It) (fp:List Addr) (it:Addr) (tn:Nat->Heap->Prop):Prop where
 mem:it∈fp
 obj:∀i h,tn i h->∀b∈fp,∃o,h.get? b=some o/\∀v,o.data≠.cell v
 keep:∀i h h',tn i h->(∀b∈fp,∀o,h.get? b=some o->h'.get? b=some o)->tn i h'
 item:∀(X:Cx),X.prog=P->X.w=w->X.K=K->X.calm=true->∀(i:Nat) (pins:List (Addr×Obj)) (s:Shared) (σ:St) (H:Hp) (E:Value->Shared->Prop),Inv X pins σ H s->(∀b∈fp,et X pins H b)->tn i s.heap->J.go i H->
  wpAny (model P w) X.A (pyNext (.ref it)) (fun r s1=>∃u,r=some u/\
   wpAny (model P w) X.A (letOwnedTupleGo tg (.ref it) u) (fun _ s2=>∃x H',Inv X pins σ H' s2/\RelV x u/\J.yld i H x H'/\tn (i+1) s2.heap/\∀b∈fp,H' b=none) E s1) E s
 done:∀(X:Cx),X.prog=P->X.w=w->X.K=K->X.calm=true->∀(i:Nat) (pins:List (Addr×Obj)) (s:Shared) (σ:St) (H:Hp) (E:Value->Shared->Prop),Inv X pins σ H s->(∀b∈fp,et X pins H b)->tn i s.heap->J.stop i H->
  wpAny (model P w) X.A (pyNext (.ref it)) (fun r s1=>r=none/\Inv X pins σ H s1) E s
 self:∀(A:Around) (i:Nat) (s:Shared) (Q:Value->Shared->Prop) (E:Value->Shared->Prop),tn i s.heap->Q (.ref it) s->wpAny (model P w) A (pyIter (.ref it)) Q E s
noncomputable abbrev TI:=St->Hp->(It->Hp->Prop)->Prop
noncomputable def PIE(X:Cx)(pins:List (Addr×Obj))(σ:St)(tg:Expr)(R:It->Hp->Prop)(itv:Value)(s2:Shared):Prop:=
 ∃(it:Addr) (fp:List Addr) (tn:Nat->Heap->Prop) (J:It) (H':Hp),itv=.ref it/\Inv X pins σ H' s2/\Turn X.prog X.w X.K tg J fp it tn/\tn 0 s2.heap/\(∀b∈fp,et X pins H' b)/\R J H'
noncomputable def PI(X:Cx)(tg iter:Expr)(wi:TI):Prop:=
 ∀(pins:List (Addr×Obj)) (s:Shared) (σ:St) (H:Hp) (R:It->Hp->Prop),Inv X pins σ H s->wi σ H R->
  wpAny (model X.prog X.w) X.A (eval iter X.env) (fun v s1=>wpAny (model X.prog X.w) X.A (pyIter v) (PIE X pins σ tg R) X.xe s1) X.xe s
theorem kl {M : Model} {A : Around} {E : Value -> Shared -> Prop} {s : Shared} {tg : Expr} {it : Addr} {u : Value} {o : Obj} {n : String} {vs : Array Value} {Q : Unit -> Shared -> Prop} (ho : s.heap.get? it = some o) (hc : o.cls = .type n) (hd : o.data = .fields vs)
    (hn : ["enumerate", "zip", "dict_itemiterator", "dict_reverseitemiterator", "odict_iterator", "itertools.zip_longest", "itertools.pairwise"].contains n = false) (hQ : Q () s) : wpAny M A (letOwnedTupleGo tg (.ref it) u) Q E s := by
  unfold letOwnedTupleGo
  cases tg <;> first
    | exact wpAny_pure hQ
    | (cases u <;> first
        | exact wpAny_pure hQ
        | (refine wpAny_bind (wpAny_load ho ?_)
           rw [hc, hd]
           show wpAny M A (if (["enumerate", "zip", "dict_itemiterator", "dict_reverseitemiterator", "odict_iterator", "itertools.zip_longest", "itertools.pairwise"].contains n && vs[0]? == some (rawInt _)) = true then _ else _) Q E s
           rw [if_neg (by intro h; rw [hn, Bool.false_and] at h; cases h)]
           exact wpAny_pure hQ))
noncomputable def Itl(K:PySem.W.Frag)(a:Addr):It:=
 ⟨fun i H=>∃xs x,SqL K H a xs/\xs[i]?=some x,fun i H x H'=>H'=H/\∀xs,SqL K H a xs->xs[i]?=some x,fun i H=>∃xs,SqL K H a xs/\xs.length<=i⟩
noncomputable def Itt(K:PySem.W.Frag)(a:Addr):It:=
 ⟨fun i H=>∃xs x,SqT K H a xs/\xs[i]?=some x,fun i H x H'=>H'=H/\∀xs,SqT K H a xs->xs[i]?=some x,fun i H=>∃xs,SqT K H a xs/\xs.length<=i⟩
noncomputable def Itr(lo:Int)(n:Nat):It:=⟨fun i _=>i < n,fun i H x H'=>H'=H/\x=.int (lo+i),fun i _=>n<=i⟩
theorem nr{P:Program}{w:World}{K:PySem.W.Frag}{tg:Expr}(a it:Addr):Turn P w K tg (Itl K a) [it] it (fun i h=>h.IsListIter it a i) where
 mem:=by simp
 obj:=fun i h st b hb=>by
  have e:b=it:=by simpa using hb
  subst e
  obtain⟨o,e,c,d⟩:=st
  exact⟨o,e,fun v z=>by rw[d]at z;cases z⟩
 keep:=fun i h h' st k=>st.at fun o e=>k it (by simp) o e
 item:=by
  intro X hP hw hK hc i pins s σ H E I hf st hg
  subst hP hw hK
  obtain⟨xs,x,hq,hx⟩:=hg
  obtain⟨its,rv,p,hz⟩:=I.list hq
  obtain⟨u,hu,ru⟩:=rv.get hx
  obtain⟨f0,f1,f2,f3,f4,f5⟩:=hf it (by simp)
  refine wpAny_pyNext_list_item st p.isList (x:=u) (by simpa using hu) fun h' st' sb=>?_
  have I1:Inv X pins σ H {s with heap:=h'}:=I.turned (t':=s.toks) (fun b o hb e=>(sb.2 b hb).trans e) f0 f1 f3 f4 f5
  obtain⟨o,e,c,d⟩:=id st'
  exact⟨u,rfl,kl (s:={s with heap:=h'}) e c d (by decide) ⟨x,H,I1,ru,⟨rfl,fun ys hy=>by rw[I.list_inj hy hq];exact hx⟩,st',fun b hb=>(hf b hb).1⟩⟩
 done:=by
  intro X hP hw hK hc i pins s σ H E I hf st hg
  subst hP hw hK
  obtain⟨xs,hq,hx⟩:=hg
  obtain⟨its,rv,p,hz⟩:=I.list hq
  obtain⟨f0,f1,f2,f3,f4,f5⟩:=hf it (by simp)
  have hl:=rv.length
  exact wpAny_pyNext_list_end (I.ok.hd hc) st p.isList (by simp;omega) fun h' eb=>⟨rfl,I.turned (t':=s.toks) (fun b o hb e=>eb b o hb e) f0 f1 f3 f4 f5⟩
 self:=fun _ _ _ _ _ st h=>wpAny_pyIter_listiter st h
theorem lq{P:Program}{w:World}{K:PySem.W.Frag}{tg:Expr}(a it:Addr):Turn P w K tg (Itt K a) [it] it (fun i h=>h.IsTupleIter it a i) where
 mem:=by simp
 obj:=fun i h st b hb=>by
  have e:b=it:=by simpa using hb
  subst e
  obtain⟨o,e,c,d⟩:=st
  exact⟨o,e,fun v z=>by rw[d]at z;cases z⟩
 keep:=fun i h h' st k=>st.at fun o e=>k it (by simp) o e
 item:=by
  intro X hP hw hK hc i pins s σ H E I hf st hg
  subst hP hw hK
  obtain⟨xs,x,hq,hx⟩:=hg
  obtain⟨its,rv,p,hz⟩:=I.tuple hq
  obtain⟨u,hu,ru⟩:=rv.get hx
  obtain⟨f0,f1,f2,f3,f4,f5⟩:=hf it (by simp)
  refine wpAny_pyNext_tuple_item st (show s.heap.IsTuple a its.toArray from p) (x:=u) (by simpa using hu) fun h' st' sb=>?_
  have I1:Inv X pins σ H {s with heap:=h'}:=I.turned (t':=s.toks) (fun b o hb e=>(sb.2 b hb).trans e) f0 f1 f3 f4 f5
  obtain⟨o,e,c,d⟩:=id st'
  exact⟨u,rfl,kl (s:={s with heap:=h'}) e c d (by decide) ⟨x,H,I1,ru,⟨rfl,fun ys hy=>by rw[I.tuple_inj hy hq];exact hx⟩,st',fun b hb=>(hf b hb).1⟩⟩
 done:=by
  intro X hP hw hK hc i pins s σ H E I hf st hg
  subst hP hw hK
  obtain⟨xs,hq,hx⟩:=hg
  obtain⟨its,rv,p,hz⟩:=I.tuple hq
  obtain⟨f0,f1,f2,f3,f4,f5⟩:=hf it (by simp)
  have hl:=rv.length
  exact wpAny_pyNext_tuple_end (I.ok.hd hc) st (show s.heap.IsTuple a its.toArray from p) (by simp;omega) fun h' eb=>⟨rfl,I.turned (t':=s.toks) (fun b o hb e=>eb b o hb e) f0 f1 f3 f4 f5⟩
 self:=fun _ _ _ _ _ st h=>wpAny_pyIter_tupleiter st h
theorem lp{P:Program}{w:World}{K:PySem.W.Frag}{tg:Expr}(it:Addr)(lo:Int)(n:Nat):Turn P w K tg (Itr lo n) [it] it (fun i h=>IsRangeIter h it (lo+(i:Nat) * 1) ((n:Int) - (i:Nat)) 1) where
 mem:=by simp
 obj:=fun i h st b hb=>by
  have e:b=it:=by simpa using hb
  subst e
  exact⟨_,st,fun v z=>by
   have z':Data.fields _=Data.cell v:=z
   cases z'⟩
 keep:=fun i h h' st k=>k it (by simp) _ st
 item:=by
  intro X hP hw hK hc i pins s σ H E I hf st hg
  subst hP hw hK
  obtain⟨f0,f1,f2,f3,f4,f5⟩:=hf it (by simp)
  have W:=Walks.range (prog:=X.prog) (w:=X.w) (I.ok.hd hc) it lo 1 n
  refine W.item i s _ _ hg st fun v h' tk hv st' kk=>?_
  obtain⟨t,rfl⟩:=hv
  have I1:Inv X pins σ H {s with heap:=h',toks:=tk}:=I.turned (fun b o hb e=>kk b o (by simpa using hb) e) f0 f1 f3 f4 f5
  refine⟨_,rfl,kl (s:={s with heap:=h',toks:=tk}) (n:="range_iterator") st' rfl rfl (by decide) ⟨.int (lo+i),H,I1,⟨t,?_⟩,⟨rfl,rfl⟩,st',fun b hb=>(hf b hb).1⟩⟩
  rw[Int.mul_one]
 done:=by
  intro X hP hw hK hc i pins s σ H E I hf st hg
  subst hP hw hK
  obtain⟨f0,f1,f2,f3,f4,f5⟩:=hf it (by simp)
  exact wpAny_pyNext_range_end (I.ok.hd hc) st (by have:n<=i:=hg;omega) fun h' eb=>⟨rfl,I.turned (t':=s.toks) (fun b o hb e=>eb b o hb e) f0 f1 f3 f4 f5⟩
 self:=fun _ _ _ _ _ st h=>wpAny_pyIter_rangeiter st h
end L2
namespace L2
open PySem PySem.Spec PyProof.Rows
section
variable {X:Cx}{tg:Expr}
theorem oG{pins:List (Addr×Obj)}{σ:St}{H:Hp}{s:Shared}{R:It->Hp->Prop}{E:Value->Shared->Prop}{lo hi:Int}{t u v:Tok}{tk:Nat}(I:Inv X pins σ H s)(h1 : -(2 ^ 62)<=lo)(h2:lo < 2 ^ 62)(h3 : -(2 ^ 62)<=hi)(h4:hi < 2 ^ 62)
  (q:R (Itr lo (hi - lo).toNat) H):wpAny (model X.prog X.w) X.A (pyIter (.ref s.heap.objs.size)) (PIE X pins σ tg R) E {s with heap:=s.heap.push {cls:=.type "range",data:=.fields #[.int lo t,.int hi u,.int 1 v]},toks:=tk}:=by
 refine wpAny_pyIter_range (IsRange.new ..) (small_one h1 h2 h3 h4) ?_
 have I1:Inv X pins σ H {s with heap:=s.heap.push {cls:=.type "range",data:=.fields #[.int lo t,.int hi u,.int 1 v]},toks:=tk}:=I.kept fun b o e=>Heap.get?_push_of_some _ e
 refine⟨(s.heap.push {cls:=.type "range",data:=.fields #[.int lo t,.int hi u,.int 1 v]}).objs.size,[(s.heap.push {cls:=.type "range",data:=.fields #[.int lo t,.int hi u,.int 1 v]}).objs.size],_,_,H,rfl,
  I1.kept (t':=tk) fun b o e=>Heap.get?_push_of_some _ e,lp _ lo (hi - lo).toNat,?_,fun b hb=>?_,q⟩
 ·have e1:lo+((0:Nat):Int) * 1=lo:=by simp
  have e2:(((hi - lo).toNat:Nat):Int) - ((0:Nat):Int)=Builtin.Range.rangeSize lo hi 1:=by rw[rangeSize_one];split<;>omega
  show IsRangeIter _ _ (lo+((0:Nat):Int) * 1) ((((hi - lo).toNat:Nat):Int) - ((0:Nat):Int)) 1
  rw[e1,e2]
  exact Heap.get?_push_size _ rfl
 ·have e:b=(s.heap.push {cls:=.type "range",data:=.fields #[.int lo t,.int hi u,.int 1 v]}).objs.size:=by simpa using hb
  subst e
  exact I1.fpOk (Nat.le_refl _) (I1.hok.fresh (Nat.le_refl _))
noncomputable def za(ta:TA):TI:=fun σ H R=>ta σ H fun vs H1=>∃j:Int,vs=[.int j]/\-(2 ^ 62)<=j/\j < 2 ^ 62/\R (Itr 0 j.toNat) H1
theorem mW{a:Expr}{ta:TA}{p pos:Pos}(hg:Gl X "range")(hm:X.mg "range"=none)(ha:PA X [a] ta)(hs:starEach [a] X.env=[(false,eval a X.env)]:=by rfl):PI X tg (.Call (.Name "range" p) [a] [] pos) (za ta):=by
 intro pins s σ H R I h
 refine Call_ (cR I hg hm boot_range (PyProof.Rows.callWith_type1 (thn (ha pos pins s σ H _ I h) fun us s1 ⟨vs,H1,I1,r1,q1⟩=>?_) hs rfl))
 obtain⟨j,e,q1,q2,q⟩:=q1
 subst e
 cases r1 with
 |cons r rr=>
  cases rr
  obtain⟨t,rfl⟩:=r
  exact call_range_1 (oG I1 (by omega) (by omega) q1 q2 (by simpa using q))
noncomputable def FQ(wi:TI)(g:TG)(tb:TS):TS:=fun D σ H=>wi σ H fun J H1=>∃W:Nat->Nat->St->Hp->Prop,(∃m,W 0 m σ H1)/\∀i m σ H,W i m σ H->
 (J.stop i H/\D.nx σ H)\/(J.go i H/\∃N:St->Hp->Prop,(∀σ' H',N σ' H'->∃m',m' < m/\W (i+1) m' σ' H')/\∀x H',J.yld i H x H'->g x σ H' fun σ2 H2=>tb {D with nx:=N,ct:=N,bk:=D.nx} σ2 H2)
noncomputable def gH(fp:List Addr)(h:Heap):List (Addr×Obj):=fp.filterMap fun b=>(h.get? b).map fun o=>(b,o)
theorem cK{fp:List Addr}{h:Heap}{b:Addr}{o:Obj}(hb:b∈fp)(e:h.get? b=some o):(b,o)∈gH fp h:=List.mem_filterMap.mpr ⟨b,hb,by rw[e];rfl⟩
theorem nB{fp:List Addr}{h:Heap}{p:Addr×Obj}(hp:p∈gH fp h):p.1∈fp/\h.get? p.1=some p.2:=by
 obtain⟨b,hb,e⟩:=List.mem_filterMap.mp hp
 cases q:h.get? b with
 |none=>rw[q]at e;cases e
 |some o=>
  rw[q]at e
  have e':(b,o)=p:=Option.some.inj e
  subst e'
  exact⟨hb,q⟩
theorem Inv.pinned{pins:List (Addr×Obj)}{σ:St}{H:Hp}{s:Shared}{fp:List Addr}(I:Inv X pins σ H s)(hf:∀b∈fp,et X pins H b)(ho:∀b∈fp,∃o,s.heap.get? b=some o/\∀v,o.data≠.cell v):Inv X (pins++gH fp s.heap) σ H s:=
 I.pins_of fun p hp=>(List.mem_append.mp hp).elim (fun z=>I.pin p (List.mem_append_right _ z)) fun z=>by
  obtain⟨hb,e⟩:=nB z
  obtain⟨f0,f1,f2,_⟩:=hf p.1 hb
  obtain⟨o,e',d⟩:=ho p.1 hb
  rw[e]at e';cases e'
  exact⟨e,f0,f1,f2,d⟩
theorem Inv.unpinned{pins pl:List (Addr×Obj)}{σ:St}{H:Hp}{s:Shared}(I:Inv X (pins++pl) σ H s):Inv X pins σ H s:=I.pins_of fun p hp=>I.pin p (List.mem_append_right _ (List.mem_append_left _ hp))
theorem vW{iter:Expr}{body:List Stmt}{wi:TI}{g:TG}{tb:TS}{pos:Pos}(hp:PassesOwn (model X.prog X.w) X.A X.env X.xe)(hc:X.calm=true)(hi:PI X tg iter wi)(hg:PG X tg g)(hb:PSs X body tb)
  (hs:∀x,foldedSetIterable iter X.env x=pure x:=by intro _;rfl):PS X (.For tg iter body [] pos) (FQ wi g tb):=by
 intro pins s σ H D I h
 refine wpAny_For (thn (hi pins s σ H _ I h) fun v s1 h1=>thn h1 fun itv s2 h2=>?_) hs
 obtain⟨it,fp,tn,J,H2,e,I2,T,st2,f2,W,⟨m0,w0⟩,turn⟩:=h2
 subst e
 have stat:∀{H':Hp},(∀b∈fp,H' b=none)->∀b∈fp,et X pins H' b:=fun hn b hb=>⟨hn b hb,(f2 b hb).2⟩
 refine codeAny_forLoop_any (fun n s'=>∃i σ' H',Inv X pins σ' H' s'/\tn i s'.heap/\(∀b∈fp,H' b=none)/\W i n σ' H') ?_ m0 ⟨0,σ,H2,I2,st2,fun b hb=>(f2 b hb).1,w0⟩
 rintro n s3 ⟨i,σ3,H3,I3,st3,fr3,w3⟩
 rcases turn i n σ3 H3 w3 with ⟨stop,qn⟩|⟨go,N,hN,step⟩
 ·refine wpAny_passesOwn hp (thn (T.done X rfl rfl rfl hc i pins s3 σ3 H3 X.xe I3 (stat fr3) st3 stop) fun r s4 ⟨hr,I4⟩=>?_)
  subst hr
  exact wpAny_execs_nil ⟨σ3,H3,I4,qn⟩
 ·refine wpAny_passesOwn hp (thn (T.item X rfl rfl rfl hc i pins s3 σ3 H3 X.xe I3 (stat fr3) st3 go) fun r s4 ⟨u,hr,h4⟩=>?_)
  subst hr
  refine wpAny_passesOwn hp (thn h4 fun _ s5 ⟨x,H5,I5,r5,y5,st5,fr5⟩=>?_)
  have I5':=I5.pinned (stat fr5) (T.obj _ _ st5)
  refine wpAny_passesOwn hp (thn (hg _ s5 σ3 H5 x u _ I5' r5 (step x H5 y5)) fun _ s6 ⟨σ6,H6,I6,q6⟩=>?_)
  refine wpAny_passesOwn hp (thn (hb _ s6 σ6 H6 _ I6 q6) fun f s7 q7=>?_)
  have again:∀{σ7:St}{H7:Hp},Inv X (pins++gH fp s5.heap) σ7 H7 s7->N σ7 H7->∃m,m < n/\∃i σ' H',Inv X pins σ' H' s7/\tn i s7.heap/\(∀b∈fp,H' b=none)/\W i m σ' H':=fun {σ7 H7} I7 n7=>by
   obtain⟨m',hm,w7⟩:=hN σ7 H7 n7
   refine⟨m',hm,i+1,σ7,H7,I7.unpinned,T.keep _ _ _ st5 fun b hb o e=>(I7.pin (b,o) (List.mem_append_right _ (List.mem_append_right _ (cK hb e)))).1,fun b hb=>?_,w7⟩
   obtain⟨o,e,d⟩:=T.obj _ _ st5 b hb
   exact (I7.pin (b,o) (List.mem_append_right _ (List.mem_append_right _ (cK hb e)))).2.1
  cases f with
  |next=>obtain⟨σ7,H7,I7,n7⟩:=q7;exact again I7 n7
  |cont=>obtain⟨σ7,H7,I7,n7⟩:=q7;exact again I7 n7
  |brk=>obtain⟨σ7,H7,I7,q7⟩:=q7;exact⟨σ7,H7,I7.unpinned,q7⟩
  |ret v=>obtain⟨x7,σ7,H7,I7,r7,q7⟩:=q7;exact⟨x7,σ7,H7,I7.unpinned,r7,q7⟩
end
end L2
namespace L2
open PySem PySem.Spec PyProof.Rows
noncomputable abbrev R2:=V->V->Hp->VK->Prop
noncomputable def OpR(X:Cx)(f:Value->Value->Sem Value)(r:R2):Prop:=
 ∀(pins:List (Addr×Obj)) (s:Shared) (σ:St) (H:Hp) (x y:V) (v u:Value) (Q:VK),Inv X pins σ H s->RelV x v->RelV y u->r x y H Q->
  wpAny (model X.prog X.w) X.A (f v u) (EP X pins σ Q) X.xe s
noncomputable def UnR(X:Cx)(f:Value->Sem Value)(r:V->Hp->VK->Prop):Prop:=
 ∀(pins:List (Addr×Obj)) (s:Shared) (σ:St) (H:Hp) (x:V) (v:Value) (Q:VK),Inv X pins σ H s->RelV x v->r x H Q->
  wpAny (model X.prog X.w) X.A (f v) (EP X pins σ Q) X.xe s
noncomputable def CallR(X:Cx)(f:Value)(r:List V->Hp->VK->Prop):Prop:=
 ∀(pins:List (Addr×Obj)) (s:Shared) (σ:St) (H:Hp) (xs:List V) (us:List Value) (Q:VK),Inv X pins σ H s->Vals xs us->r xs H Q->
  wpAny (model X.prog X.w) X.A (call f us) (EP X pins σ Q) X.xe s
noncomputable def tOp(r:R2)(ta tb:TE):TE:=fun σ H Q=>ta σ H fun x H1=>tb σ H1 fun y H2=>r x y H2 Q
noncomputable def tUn(r:V->Hp->VK->Prop)(ta:TE):TE:=fun σ H Q=>ta σ H fun x H1=>r x H1 Q
noncomputable def rI(C:Int->Int->Prop)(g:Int->Int->V):R2:=fun x y H Q=>∃i j,x=.int i/\y=.int j/\C i j/\Q (g i j) H
noncomputable def rI0(g:Int->Int->V):R2:=fun x y H Q=>∃i j,x=.int i/\y=.int j/\Q (g i j) H
noncomputable def rU(g:Int->V):V->Hp->VK->Prop:=fun x H Q=>∃i,x=.int i/\Q (g i) H
section
variable {X:Cx}{a b c:Expr}{ta tb tc:TE}{pos:Pos}
theorem vB(ha:PE X a ta)(hb:PE X b tb){pins:List (Addr×Obj)}{s:Shared}{σ:St}{H:Hp}{R:V->V->Hp->Prop}(I:Inv X pins σ H s)
  (h:ta σ H fun x H1=>tb σ H1 fun y H2=>R x y H2) {Q:Value->Shared->Prop}{f:Value->Value->Sem Value}
  (hf:∀v u s2 x y H2,Inv X pins σ H2 s2->RelV x v->RelV y u->R x y H2->wpAny (model X.prog X.w) X.A (f v u) Q X.xe s2) :
  wpAny (model X.prog X.w) X.A (eval a X.env) (fun v s₁=>wpAny (model X.prog X.w) X.A (eval b X.env) (fun u s₂=>wpAny (model X.prog X.w) X.A (f v u) Q X.xe s₂) X.xe s₁) X.xe s:=by
 refine thn (ha pins s σ H _ I h) fun v s1 ⟨x,H1,I1,r1,q1⟩=>?_
 refine thn (hb pins s1 σ H1 _ I1 q1) fun u s2 ⟨y,H2,I2,r2,q2⟩=>?_
 exact hf v u s2 x y H2 I2 r1 r2 q2
theorem AD{op:Operator}{r:R2}(ho:OpR X (binaryOp op) r)(ha:PE X a ta)(hb:PE X b tb):PE X (.BinOp a op b pos) (tOp r ta tb):=by
 intro pins s σ H Q I h
 exact wpAny_BinOp (vB ha hb I h fun v u s2 x y H2 I2 rx ry q=>ho pins s2 σ H2 x y v u Q I2 rx ry q)
theorem yE{op:UnaryOp}{r:V->Hp->VK->Prop}(ho:UnR X (unaryOp op) r)(ha:PE X a ta):PE X (.UnaryOp op a pos) (tUn r ta):=by
 intro pins s σ H Q I h
 exact UnaryOp_ (thn (ha pins s σ H _ I h) fun v s1 ⟨x,H1,I1,r1,q1⟩=>ho pins s1 σ H1 x v Q I1 r1 q1)
theorem opI{f:Value->Value->Sem Value}{C:Int->Int->Prop}{g:Int->Int->Int}
  (rule:∀(i j:Int) (t u:Tok) (s:Shared) (Q:Value->Shared->Prop) (E:Value->Shared->Prop),C i j->Q (.int (g i j) s.toks) {s with toks:=s.toks+1}->wpAny (model X.prog X.w) X.A (f (.int i t) (.int j u)) Q E s) :
  OpR X f (rI C fun i j=>.int (g i j)):=by
 intro pins s σ H x y v u Q I rx ry h
 obtain⟨i,j,rfl,rfl,hc,q⟩:=h
 obtain⟨t,rfl⟩:=rx
 obtain⟨t',rfl⟩:=ry
 exact rule i j t t' s _ _ hc ⟨.int (g i j),H,I.tok _,⟨_,rfl⟩,q⟩
theorem wA{f:Value->Value->Sem Value}{g:Int->Int->Int}
  (rule:∀(i j:Int) (t u:Tok) (s:Shared) (Q:Value->Shared->Prop) (E:Value->Shared->Prop),Q (.int (g i j) s.toks) {s with toks:=s.toks+1}->wpAny (model X.prog X.w) X.A (f (.int i t) (.int j u)) Q E s) :
  OpR X f (rI0 fun i j=>.int (g i j)):=by
 intro pins s σ H x y v u Q I rx ry h
 obtain⟨i,j,rfl,rfl,q⟩:=h
 obtain⟨t,rfl⟩:=rx
 obtain⟨t',rfl⟩:=ry
 exact rule i j t t' s _ _ ⟨.int (g i j),H,I.tok _,⟨_,rfl⟩,q⟩
theorem p9{f:Value->Value->Sem Value}{g:Int->Int->Bool}
  (rule:∀(i j:Int) (t u:Tok) (s:Shared) (Q:Value->Shared->Prop) (E:Value->Shared->Prop),Q (.bool (g i j)) s->wpAny (model X.prog X.w) X.A (f (.int i t) (.int j u)) Q E s) :
  OpR X f (rI0 fun i j=>.bl (g i j)):=by
 intro pins s σ H x y v u Q I rx ry h
 obtain⟨i,j,rfl,rfl,q⟩:=h
 obtain⟨t,rfl⟩:=rx
 obtain⟨t',rfl⟩:=ry
 exact rule i j t t' s _ _ ⟨.bl (g i j),H,I,rfl,q⟩
noncomputable def pQ(i j:Int):Prop:=0<=j/\j<=1000000/\i.natAbs < 2 ^ 64
noncomputable def CMul(i j:Int):Prop:=(-(2 ^ 64) < i/\i < 2 ^ 64)\/(-(2 ^ 64) < j/\j < 2 ^ 64)
theorem CMul.ok{i j:Int}(h:CMul i j):IntMulOk i j:=by
 rcases h with ⟨h1,h2⟩|⟨h1,h2⟩
 ·exact .of_left (intBits_le_64 h1 h2)
 ·exact .of_right (intBits_le_64 h1 h2)
theorem lB(k:Nat):(0:Int)<=2 ^ k:=by
 rw[two_pow_cast]
 exact Int.natCast_nonneg _
theorem xq:OpR X (binaryOp .Add) (rI0 fun i j=>.int (i+j)):=wA fun _ _ _ _ _ _ _ q=>add_int q
theorem xr:OpR X (binaryOp .Sub) (rI0 fun i j=>.int (i - j)):=wA fun _ _ _ _ _ _ _ q=>sub_int q
theorem vF:OpR X (binaryOp .Mod) (rI (fun _ j=>0 < j) fun i j=>.int (i % j)):=opI fun i j _ _ _ _ _ hc q=>by
 have h1:(0:Int) < j:=hc
 exact mod_int' (by omega) (by rw[Int.fmod_eq_emod_of_nonneg i (by omega)];exact q)
theorem vE:OpR X (binaryOp .Pow) (rI pQ fun i j=>.int (i ^ j.toNat)):=opI fun _ _ _ _ _ _ _ hc q=>pow_int_small hc.1 hc.2.1 hc.2.2 q
theorem t6:OpR X (binaryOp .RShift) (rI (fun _ j=>0<=j) fun i j=>.int (i / 2 ^ j.toNat)):=opI fun i j _ _ _ _ _ hc q=>
 rshift_int hc (by rw[Int.fdiv_eq_ediv_of_nonneg i (lB _)];exact q)
theorem wj:OpR X (binaryOp .BitAnd) (rI0 fun i j=>.int (Builtin.bitAnd i j)):=wA fun _ _ _ _ _ _ _ q=>and_int q
theorem unI{f:Value->Sem Value}{g:Int->Int}
  (rule:∀(i:Int) (t:Tok) (s:Shared) (Q:Value->Shared->Prop) (E:Value->Shared->Prop),Q (.int (g i) s.toks) {s with toks:=s.toks+1}->wpAny (model X.prog X.w) X.A (f (.int i t)) Q E s) :
  UnR X f (rU fun i=>.int (g i)):=by
 intro pins s σ H x v Q I rx h
 obtain⟨i,rfl,q⟩:=h
 obtain⟨t,rfl⟩:=rx
 exact rule i t s _ _ ⟨.int (g i),H,I.tok _,⟨_,rfl⟩,q⟩
theorem xP:UnR X (unaryOp .USub) (rU fun i=>.int (-i)):=unI fun _ _ _ _ _ q=>neg_int q
end
section
variable {X:Cx}{a b c:Expr}{ta tb tc:TE}{pos:Pos}
theorem jI{pins:List (Addr×Obj)}{σ:St}{H:Hp}{s:Shared}{Q:VK}{k k':Bool}(I:Inv X pins σ H s)(q:Q (.bl k) H)(e:k=k'):EP X pins σ Q (.bool k') s:=by
 subst e
 exact⟨.bl k,H,I,rfl,q⟩
theorem Am:OpR X (compareOp .Lt) (rI0 fun i j=>.bl (decide (i < j))):=p9 fun _ _ _ _ _ _ _ q=>lt_int q
theorem yu:OpR X (compareOp .LtE) (rI0 fun i j=>.bl (decide (i<=j))):=p9 fun _ _ _ _ _ _ _ q=>le_int q
theorem zS:OpR X (compareOp .Gt) (rI0 fun i j=>.bl (decide (j < i))):=p9 fun _ _ _ _ _ _ _ q=>gt_int q
theorem A1:OpR X (compareOp .GtE) (rI0 fun i j=>.bl (decide (j<=i))):=p9 fun _ _ _ _ _ _ _ q=>ge_int q
theorem mE:OpR X (compareOp .In) (fun x y H Q=>∃i j,x=.str i/\y=.str j/\Q (.bl (!(Builtin.Str.occurrences j i 0 j.length 1).isEmpty)) H):=by
 intro pins s σ H x y v u Q I rx ry h
 obtain⟨i,j,rfl,rfl,q⟩:=h
 obtain⟨t,rfl⟩:=rx
 obtain⟨t',rfl⟩:=ry
 exact in_str (jI I q rfl)
theorem tR:OpR X (compareOp .Is) (fun x y H Q=>y=.non/\Q (.bl (decide (x=.non))) H):=by
 intro pins s σ H x y v u Q I rx ry h
 obtain⟨rfl,q⟩:=h
 cases ry
 refine is_none_gen (jI I q ?_)
 cases x<;>first
  |(cases rx;rfl)
  |(obtain⟨t,rfl⟩:=rx;rfl)
theorem qR:OpR X (compareOp .IsNot) (fun x y H Q=>y=.non/\Q (.bl (!decide (x=.non))) H):=by
 intro pins s σ H x y v u Q I rx ry h
 obtain⟨rfl,q⟩:=h
 cases ry
 refine isnot_none_gen (jI I q ?_)
 cases x<;>first
  |(cases rx;rfl)
  |(obtain⟨t,rfl⟩:=rx;rfl)
theorem jM:OpR X (compareOp .NotIn) (fun x y H Q=>∃i j,x=.str i/\y=.str j/\Q (.bl (!(!(Builtin.Str.occurrences j i 0 j.length 1).isEmpty))) H):=by
 intro pins s σ H x y v u Q I rx ry h
 obtain⟨i,j,rfl,rfl,q⟩:=h
 obtain⟨t,rfl⟩:=rx
 obtain⟨t',rfl⟩:=ry
 exact notIn_str (jI I q rfl)
theorem OpR.or{f:Value->Value->Sem Value}{r r':R2}(h:OpR X f r)(h':OpR X f r'):OpR X f (fun x y H Q=>r x y H Q\/r' x y H Q):=by
 intro pins s σ H x y v u Q I rx ry q
 rcases q with q|q
 ·exact h pins s σ H x y v u Q I rx ry q
 ·exact h' pins s σ H x y v u Q I rx ry q
theorem qV{op:CmpOp}{r:R2}(ho:OpR X (compareOp op) r)(ha:PE X a ta)(hb:PE X b tb)(hm:behindInMarks op b=false):PE X (.Compare a [op] [b] pos) (tOp r ta tb):=by
 intro pins s σ H Q I h
 exact wpAny_Compare1 (vB ha hb I h fun v u s2 x y H2 I2 rx ry q=>ho pins s2 σ H2 x y v u Q I2 rx ry q) hm
noncomputable def pk(t:TE):TT:=fun σ H Q=>t σ H fun x H'=>∃k,x=.bl k/\Q k H'
theorem qa{op:CmpOp}{r:R2}(ho:OpR X (compareOp op) r)(ha:PE X a ta)(hb:PE X b tb)(hm:behindInMarks op b=false):PT X (.Compare a [op] [b] pos) (pk (tOp r ta tb)):=by
 intro pins s σ H Q I h
 refine wpAny_isTrue_Compare1 (thn (ha pins s σ H _ I h) fun v s1 ⟨x,H1,I1,r1,q1⟩=>thn (hb pins s1 σ H1 _ I1 q1) fun u s2 ⟨y,H2,I2,r2,q2⟩=>
  thn (ho pins s2 σ H2 x y v u _ I2 r1 r2 q2) fun c s3 ⟨z,H3,I3,r3,k,e,q3⟩=>?_) hm
 subst e
 cases r3
 exact wpAny_truthy_bool ⟨H3,I3,q3⟩
noncomputable def oZ(r r':R2)(ta tb tc:TE):TE:=fun σ H Q=>ta σ H fun x H1=>tb σ H1 fun y H2=>r x y H2 fun z H3=>∃k,z=.bl k/\
 (if k=true then tc σ H3 fun w' H4=>r' y w' H4 Q else Q (.bl false) H3)
theorem oP{op op':CmpOp}{r r':R2}(ho:OpR X (compareOp op) r)(ho':OpR X (compareOp op') r')(ha:PE X a ta)(hb:PE X b tb)(hc:PE X c tc)
  (hm:lastMarks [op,op'] [b,c]=false:=by with_unfolding_all rfl):PE X (.Compare a [op,op'] [b,c] pos) (oZ r r' ta tb tc):=by
 intro pins s σ H Q I h
 refine Compare_chain (thn (ha pins s σ H _ I h) fun v s1 ⟨x,H1,I1,r1,q1⟩=>chain_link (thn (hb pins s1 σ H1 _ I1 q1) fun u s2 ⟨y,H2,I2,r2,q2⟩=>
  thn (ho pins s2 σ H2 x y v u _ I2 r1 r2 q2) fun d s3 ⟨z,H3,I3,r3,k,e,q3⟩=>?_)) hm
 subst e
 cases r3
 refine wpAny_truthy_bool ?_
 cases k with
 |false=>exact ite_ff ⟨.bl false,H3,I3,rfl,q3⟩
 |true=>exact ite_tt (chain_last (thn (hc pins s3 σ H3 _ I3 q3) fun w' s4 ⟨z',H4,I4,r4,q4⟩=>ho' pins s4 σ H4 y z' u w' Q I4 r2 r4 q4))
theorem oS{op op':CmpOp}{r r':R2}(ho:OpR X (compareOp op) r)(ho':OpR X (compareOp op') r')(ha:PE X a ta)(hb:PE X b tb)(hc:PE X c tc)
  (hm:lastMarks [op,op'] [b,c]=false:=by with_unfolding_all rfl):PT X (.Compare a [op,op'] [b,c] pos) (pk (oZ r r' ta tb tc)):=by
 intro pins s σ H Q I h
 refine isTrue_chain (thn (ha pins s σ H _ I h) fun v s1 ⟨x,H1,I1,r1,q1⟩=>test_link (thn (hb pins s1 σ H1 _ I1 q1) fun u s2 ⟨y,H2,I2,r2,q2⟩=>
  thn (ho pins s2 σ H2 x y v u _ I2 r1 r2 q2) fun d s3 ⟨z,H3,I3,r3,k,e,q3⟩=>?_)) hm
 subst e
 cases r3
 refine wpAny_truthy_bool ?_
 cases k with
 |false=>
  obtain⟨k',e',q'⟩:=q3
  cases e'
  exact ite_ff ⟨H3,I3,q'⟩
 |true=>
  refine ite_tt (test_last (thn (hc pins s3 σ H3 _ I3 q3) fun w' s4 ⟨z',H4,I4,r4,q4⟩=>thn (ho' pins s4 σ H4 y z' u w' _ I4 r2 r4 q4) fun d' s5 ⟨z2,H5,I5,r5,k2,e2,q5⟩=>?_))
  subst e2
  cases r5
  exact wpAny_truthy_bool ⟨H5,I5,q5⟩
theorem eV:(sizeLine:Nat) < 2 ^ 63:=by rw[sizeLine_eq];decide
theorem kX:OpR X (binaryOp .Add) (fun x y H Q=>∃i j,x=.str i/\y=.str j/\i.length+j.length<=sizeLine/\Q (.str (i++j)) H):=by
 intro pins s σ H x y v u Q I rx ry h
 obtain⟨i,j,rfl,rfl,hz,q⟩:=h
 obtain⟨t,rfl⟩:=rx
 obtain⟨t',rfl⟩:=ry
 exact add_str (fun t' tk=>⟨.str (i++j),H,I.tok _,⟨_,rfl⟩,q⟩) hz
theorem fM{x:V}{us:List Value}(r:Vals [x] us):∃u,us=[u]/\RelV x u:=by
 cases r with
 |cons r1 r2=>cases r2;exact⟨_,rfl,r1⟩
theorem Au{x y:V}{us:List Value}(r:Vals [x,y] us):∃u w',us=[u,w']/\RelV x u/\RelV y w':=by
 cases r with
 |cons r1 r2=>
  cases r2 with
  |cons r3 r4=>cases r4;exact⟨_,_,rfl,r1,r3⟩
theorem nu(hc:X.calm=true):CallR X (.builtin "max") (fun xs H Q=>∃i j,xs=[.int i,.int j]/\Q (.int (if j > i then j else i)) H):=by
 intro pins s σ H xs us Q I r h
 obtain⟨i,j,rfl,q⟩:=h
 obtain⟨u,w',rfl,⟨t,rfl⟩,⟨t',rfl⟩⟩:=Au r
 refine max_two_ints (I.ok.hd hc) fun h' tk k=>⟨_,H,I.kept k,?_,q⟩
 by_cases hj:j > i
 ·rw[if_pos hj,if_pos hj];exact⟨_,rfl⟩
 ·rw[if_neg hj,if_neg hj];exact⟨_,rfl⟩
end
end L2
namespace L2
open PySem PySem.Spec PyProof.Rows
structure ObjM (h:Heap) (x dx C:Addr) (mA:Str->Option Value):Prop where
 obj:h.get? x=some (PySem.W.instObj C dx)
 ns:h.Ns1 dx mA
 ne:dx≠x
theorem nq{h:Heap}{dx:Addr}{mA:Str->Option Value}(n:h.Ns1 dx mA):∃od,h.get? dx=some od/\∀name,PySem.W.lookIn name od=some (mA name):=by
 obtain⟨o,es,ep,ho,hd,hk,_,hm⟩:=n
 refine⟨o,ho,fun name=>?_⟩
 have e:=hm name
 unfold nsFind findBy at e
 rw[<-Array.find?_toList]at e
 unfold PySem.W.lookIn
 rw[hd]
 dsimp only
 split
 ·rename_i y q
  rw[q]at e
  exact congrArg some e
 ·rename_i q
  rw[q]at e
  have a:es.toList.any (·.refKey)=false:=by
   rw[List.any_eq_false]
   intro y hy
   obtain⟨z,t,hkey⟩:=hk y (Array.mem_toList_iff.mp hy)
   simp[DictEntry.refKey,hkey]
  have a':¬ es.toList.any (·.refKey)=true:=by rw[a];exact Bool.false_ne_true
  rw[if_neg a']
  exact congrArg some e
theorem ObjM.look{h:Heap}{x dx C:Addr}{mA:Str->Option Value}(I:ObjM h x dx C mA):∃od,PySem.W.InstAt h x (PySem.W.instObj C dx) C (some od)/\∀name,PySem.W.lookIn name od=some (mA name):=
 let ⟨od,ho,hl⟩:=nq I.ns
 ⟨od,⟨I.obj,rfl,rfl,ho⟩,hl⟩
section
variable {prog:Program}{w:World}{A:Around}{E:Value->Shared->Prop}{s:Shared}{K:PySem.W.Frag}{x dx C f:Addr}{mA:Str->Option Value}{name:Str}{v:Value}
theorem qK{expr:Bool}{Q:Value->Shared->Prop}(X:K.In s.heap)(I:ObjM s.heap x dx C mA)(hg:PySem.W.plainGet K C name=true)(hh:PySem.W.hasDictIn K C=true)
  (ha:PySem.W.findIn K (.ref C) name=some none) (hv:mA name=some v) (hv':PySem.W.handedIn v=true) (h:Q v {s with toks:=s.toks+1}) :
  wpAny (model prog w) A (getAttr (.ref x) name expr) Q E s:=by
 obtain⟨od,J,hl⟩:=I.look
 exact PySem.W.get_value X J (PySem.W.plainGet_of hg).1 (PySem.W.findObj_own hh ha rfl (by rw[hl,hv])) hv' h
theorem oy{pl:Sem Bool}{Q:Value×List Value->Shared->Prop}(X:K.In s.heap)(I:ObjM s.heap x dx C mA)(hg:PySem.W.plainGet K C name=true)
  (hf:PySem.W.findIn K (.ref C) name=some (some (.ref f))) (ht:PySem.W.isFn K (.ref f)=true) (hv:mA name=none) (h:Q (.ref f,[.ref x]) s) :
  wpAny (model prog w) A (getMethod (.ref x) name pl) Q E s:=by
 obtain⟨od,J,hl⟩:=I.look
 exact PySem.W.method_fn X J (PySem.W.plainGet_of hg).1 (PySem.W.plainGet_of hg).2 hf (beq_iff_eq.mp ht) (by show (PySem.W.lookIn name od).map (·.isSome)=some false;rw[hl,hv];rfl) h
theorem ql{ns:List Str}{Q:Unit->Shared->Prop}(X:K.In s.heap)(I:ObjM s.heap x dx C mA)
  (hs:PySem.W.findIn K (.ref C) "__setattr__"=some (some (.builtin "object.__setattr__"))) (hp:PySem.W.plainOver K C=true) (ht:PySem.W.takerIn K C name=some none) (hh:PySem.W.hasDictIn K C=true)
  (hw:PySem.Within mA ns) (hsz:ns.length<=sizeLine)
  (h:∀h',ObjM h' x dx C (fun y=>if y=name then some v else mA y)->Heap.SameBut dx s.heap h'->Q () {s with heap:=h',toks:=s.toks+2}) :
  wpAny (model prog w) A (setAttr (.ref x) name v) Q E s:=by
 obtain⟨od,J,hl⟩:=I.look
 refine PySem.W.set_plain X J hs (PySem.W.osa_open (s:={s with toks:=s.toks+1}) (r:=none) X J hp ht fun b=>?_)
 obtain⟨cd,hc,hd'⟩:=PySem.W.any_some hh
 have hx:s.heap.get? x=some ⟨.ref C,some dx,.plain,#[]⟩:=I.obj
 refine wpAny_bind (wpAny_pure (wpAny_bind (wpAny_bind (wpAny_loadPart hx (wpAny_bind (PySem.W.Looks.here (s:={s with toks:=s.toks+1}) (PySem.W.looks_clsIn X hc) ?_))))))
 rw[hd']
 refine wpAny_pure (a:=some dx) (wpAny_bind (wpAny_pure (wpAny_bind ?_)))
 refine wpAny_nsSet1 (s:={s with toks:=s.toks+1}) I.ns fun h' hn2 hs2=>?_
 obtain⟨oD,esD,epD,hoD,hdD,hcD⟩:=hn2.count (PySem.Within.cons name v hw)
 refine wpAny_bind (wpAny_lookBehind hoD (by rw[hdD];exact pastItsLine_dict (Nat.le_trans hcD (by rw[List.length_cons];omega))) ?_)
 exact wpAny_pure (h _ ⟨(hs2.2 _ (Ne.symm I.ne)).trans I.obj,hn2,I.ne⟩ hs2)
theorem pi{R:Result->Shared->Prop}{vs:List Value}{kw:List (Str×Value)}(X:K.In s.heap)(hm:PySem.W.makesIn K C=true)
  (hi:PySem.W.findIn K (.ref C) "__init__"=some (some (.ref f))) (hf:PySem.W.typeIn K (.ref f)=some (.type "function"))
  (h:codeAny (model prog w) (A.under (.builtin "type.__call__" ⟨.ref C::vs,kw⟩)) (.call (.ref f) ⟨.ref (s.heap.objs.size+1)::vs,kw⟩) (PySem.W.InitBack (s.heap.objs.size+1) R)
   {s with heap:=(s.heap.push PySem.W.emptyDict).push (PySem.W.instObj C s.heap.objs.size)}) :
  codeAny (model prog w) A (.call (.ref C) ⟨vs,kw⟩) R s:=by
 obtain⟨hh,g,d,t,os⟩:=s
 exact PySem.W.make_core (PySem.W.makes_of X hm) (PySem.W.looks_findIn X hi) (fun self=>PySem.W.bind_fn X self hf) (.inl rfl) h
end
noncomputable def cB(f:Str)(v:V):List (Str×V)->List (Str×V)
 |[]=>[(f,v)]
 |(g,x)::r=>if g=f then (g,v)::r else (g,x)::cB f v r
theorem fJ(f g:Str)(v:V):∀fs:List (Str×V),(cB f v fs).lookup g=if g=f then some v else fs.lookup g
 |[]=>by
  show List.lookup g [(f,v)]=_
  by_cases h:g=f
  ·have hb:(g == f)=true:=beq_iff_eq.mpr h
   simp only[List.lookup,hb,if_pos h]
  ·have hb:(g == f)=false:=beq_eq_false_iff_ne.mpr h
   simp only[List.lookup,hb,if_neg h]
 |(k,x)::r=>by
  have ih:=fJ f g v r
  rw[show cB f v ((k,x)::r)=(if k=f then (k,v)::r else (k,x)::cB f v r) from rfl]
  by_cases hk:k=f
  ·rw[if_pos hk]
   by_cases h:g=k
   ·have hb:(g == k)=true:=beq_iff_eq.mpr h
    simp only[List.lookup,hb,if_pos (h.trans hk)]
   ·have hb:(g == k)=false:=beq_eq_false_iff_ne.mpr h
    simp only[List.lookup,hb,if_neg (fun e:g=f=>h (e.trans hk.symm))]
  ·rw[if_neg hk]
   by_cases h:g=k
   ·have hb:(g == k)=true:=beq_iff_eq.mpr h
    simp only[List.lookup,hb,if_neg (fun e:g=f=>hk (h.symm.trans e))]
   ·have hb:(g == k)=false:=beq_eq_false_iff_ne.mpr h
    simp only[List.lookup,hb]
    exact ih
theorem eX(f:Str)(v:V):∀fs:List (Str×V),f∈(cB f v fs).map (·.1)/\∀g,g∈fs.map (·.1)->g∈(cB f v fs).map (·.1)
 |[]=>⟨by simp[cB],fun g h=>by simp at h⟩
 |(k,x)::r=>by
  obtain⟨i1,i2⟩:=eX f v r
  rw[show cB f v ((k,x)::r)=(if k=f then (k,v)::r else (k,x)::cB f v r) from rfl]
  by_cases hk:k=f
  ·rw[if_pos hk]
   subst hk
   exact⟨by simp,fun g h=>by simpa using h⟩
  ·rw[if_neg hk]
   refine⟨?_,fun g h=>?_⟩
   ·rw[List.map_cons]
    exact List.mem_cons_of_mem _ i1
   ·rw[List.map_cons]at h ⊢
    rcases List.mem_cons.mp h with e|e
    ·exact List.mem_cons.mpr (.inl e)
    ·exact List.mem_cons_of_mem _ (i2 g e)
theorem fE(f:Str)(v:V):∀fs:List (Str×V),(cB f v fs).length<=fs.length+1
 |[]=>by simp[cB]
 |(k,x)::r=>by
  have ih:=fE f v r
  rw[show cB f v ((k,x)::r)=(if k=f then (k,v)::r else (k,x)::cB f v r) from rfl]
  by_cases hk:k=f
  ·rw[if_pos hk,List.length_cons,List.length_cons];omega
  ·rw[if_neg hk,List.length_cons,List.length_cons];omega
theorem RelO.some_of{v:V}{o:Option Value}(r:RelO (some v) o):∃u,o=some u/\RelV v u:=by
 cases o with
 |none=>exact (show False from r).elim
 |some u=>exact⟨u,rfl,r⟩
theorem RelO.none_of{o:Option Value}(r:RelO none o):o=none:=by
 cases o with
 |none=>rfl
 |some u=>exact (show False from r).elim
theorem nE{v:V}{u:Value}(r:RelV v u):PySem.W.handedIn u=true:=by
 cases v with
 |non=>cases (show u=Value.none from r);rfl
 |bl b=>cases (show u=Value.bool b from r);rfl
 |int i=>obtain⟨t,e⟩:=(show ∃t,u=Value.int i t from r);cases e;rfl
 |str x=>obtain⟨t,e⟩:=(show ∃t,u=Value.str x t from r);cases e;rfl
 |byt b=>obtain⟨t,e⟩:=(show ∃t,u=Value.bytes b t from r);cases e;rfl
 |flt b=>obtain⟨t,e⟩:=(show ∃t,u=Value.float b t from r);cases e;rfl
 |ref a=>cases (show u=Value.ref a from r);rfl
 |ty n=>cases (show u=Value.type n from r);rfl
section
variable {P:Program}{w:World}{H H':Hp}{h h':Heap}{a C dx:Addr}{fs fs':List (Str×V)}
theorem qk(hok:HOk P w H h)(e:H a=some (.ins C dx fs)):∃mA,ObjM h a dx C mA/\(∀f,RelO (fs.lookup f) (mA f))/\PySem.Within mA (fs.map (·.1))/\fs.length<=1000/\H dx=some (.own a):=by
 obtain⟨d,z,ne,ob,mA,n,r,q⟩:=(show ObjOk P w H h a (.ins C dx fs) from hok a _ e)
 exact⟨mA,⟨ob,n,ne⟩,r,q,z,d⟩
end
structure Cls (K:PySem.W.Frag) (C:Addr):Prop where
 pg:PySem.W.plainGet K C Str.empty=true
 hd:PySem.W.hasDictIn K C=true
 po:PySem.W.plainOver K C=true
 sa:PySem.W.findIn K (.ref C) "__setattr__"=some (some (.builtin "object.__setattr__"))
theorem Cls.get{K:PySem.W.Frag}{C:Addr}(c:Cls K C)(f:Str):PySem.W.plainGet K C f=true:=c.pg
noncomputable def NoAttr(K:PySem.W.Frag)(C:Addr)(f:Str):Prop:=PySem.W.findIn K (.ref C) f=some none
theorem NoAttr.taker{K:PySem.W.Frag}{C:Addr}{f:Str}(n:NoAttr K C f):PySem.W.takerIn K C f=some none:=by
 unfold PySem.W.takerIn
 rw[show PySem.W.findIn K (.ref C) f=some none from n]
 rfl
structure Meth (K:PySem.W.Frag) (C:Addr) (m:Str) (f:Addr):Prop where
 at_:PySem.W.findIn K (.ref C) m=some (some (.ref f))
 fn:PySem.W.isFn K (.ref f)=true
 kp:PySem.W.keepIn K (.ref f)=true
section
variable {X:Cx}{pins:List (Addr×Obj)}{σ:St}{H:Hp}{s:Shared}{a C dx:Addr}{fs:List (Str×V)}{f:Str}{v:V}{A:Around}{E:Value->Shared->Prop}
theorem lh{y:V}{u:Value}{Q:Unit->Shared->Prop}(I:Inv X pins σ H s)(e:H a=some (.ins C dx fs))(c:Cls X.K C)(n:NoAttr X.K C f)(hl:fs.length < 1000)(ry:RelV y u)
  (h:∀s',Inv X pins σ (upd H a (.ins C dx (cB f y fs))) s'->Q () s'):wpAny (model X.prog X.w) A (setAttr (.ref a) f u) Q E s:=by
 obtain⟨mA,O,r,wi,_,ho⟩:=qk I.hok e
 have hz:(fs.map (·.1)).length<=sizeLine:=by rw[List.length_map,sizeLine_eq];omega
 refine ql I.kIn O c.sa c.po n.taker c.hd wi hz fun h' O' sb=>h _ ?_
 have hd:∃o,h'.get? dx=some o:=let ⟨o,_,_,e',_⟩:=O'.ns;⟨o,e'⟩
 refine I.write (x:=a) (e:=dx) (by rw[e];exact True.intro) (.inr ho) (fun b q hb z=>(sb.2 b hb).trans z) hd ?_
 refine⟨by rw[ah O.ne];exact ho,?_,O.ne,O'.obj,_,O'.ns,fun g=>?_,fun g hg=>?_⟩
 ·have:=fE f y fs;omega
 ·show RelO ((cB f y fs).lookup g) (if g=f then some u else mA g)
  rw[fJ]
  by_cases q:g=f
  ·rw[if_pos q,if_pos q];exact ry
  ·rw[if_neg q,if_neg q];exact r g
 ·by_cases q:g=f
  ·rw[q];exact (eX f y fs).1
  ·refine (eX f y fs).2 g (wi g fun z=>hg ?_)
   show (if g=f then some u else mA g)=none
   rw[if_neg q];exact z
theorem Inv.made(I:Inv X pins σ H s):Inv X pins σ (upd (upd H s.heap.objs.size (.own (s.heap.objs.size+1))) (s.heap.objs.size+1) (.ins C s.heap.objs.size []))
  {s with heap:=(s.heap.push PySem.W.emptyDict).push (PySem.W.instObj C s.heap.objs.size)}:=by
 have e1:(s.heap.push PySem.W.emptyDict).get? s.heap.objs.size=some PySem.W.emptyDict:=Heap.get?_push_size s.heap rfl
 have e2:((s.heap.push PySem.W.emptyDict).push (PySem.W.instObj C s.heap.objs.size)).get? (s.heap.objs.size+1)=some (PySem.W.instObj C s.heap.objs.size):=by
  have:=Heap.get?_push_size (s.heap.push PySem.W.emptyDict) (o:=PySem.W.instObj C s.heap.objs.size) rfl
  rwa [Heap.size_push]at this
 have e3:(s.heap.push PySem.W.emptyDict).Ns s.heap.objs.size (fun _=>none):=⟨PySem.W.emptyDict,#[],_,e1,rfl,(fun e he=>absurd he (by simp)),fun _=>rfl⟩
 have I1:=I.laid (a:=s.heap.objs.size) (o:=.own (s.heap.objs.size+1)) (h':=s.heap.push PySem.W.emptyDict) (t':=s.toks) (fun b u q=>Heap.get?_push_of_some _ q) (Nat.le_refl _) ⟨_,e1⟩
 refine I1.laid (a:=s.heap.objs.size+1) (o:=.ins C s.heap.objs.size []) (t':=s.toks) (fun b u q=>Heap.get?_push_of_some _ q) (Nat.le_of_eq (Heap.size_push _ _)) ?_
 have ne:s.heap.objs.size≠s.heap.objs.size+1:=Nat.ne_of_lt (Nat.lt_succ_self _)
 refine⟨by rw[ah ne,ai],Nat.zero_le _,ne,e2,fun _=>none,(Heap.Ns1.of_empty e3).at fun o q=>Heap.get?_push_of_some _ q,fun _=>True.intro,fun y hy=>absurd rfl hy⟩
theorem qG{prog:Program}{w:World}{env:Env}{e:Expr}{f:Str}{pos:Pos}{s:Shared}{Q:Value->Shared->Prop}(hb:attributeBase e f env (eval e env)=eval e env)
  (h:wpAny (model prog w) A (eval e env) (fun o s₁=>wpAny (model prog w) A (getAttr o f true) Q E s₁) E s):wpAny (model prog w) A (eval (.Attribute e f pos) env) Q E s:=
 Attribute_any_ h (by rw[arm_eval_Attribute,hb])
end
noncomputable def F5(K:PySem.W.Frag)(ta tv:TE)(f:Str):TS:=fun D σ H=>tv σ H fun y H1=>ta σ H1 fun x H2=>∃a C dx fs,x=.ref a/\H2 a=some (.ins C dx fs)/\Cls K C/\NoAttr K C f/\fs.length < 1000/\
 D.nx σ (upd H2 a (.ins C dx (cB f y fs)))
section
variable {X:Cx}{o e value:Expr}{f:Str}{pos pos' tpos:Pos}{ta tv:TE}
theorem ul(ha:PE X o ta)(hv:PE X value tv)(hs:swapsWith value (some (.Attribute o f pos')) pos.line X.env=pure false):PS X (.Assign [.Attribute o f pos'] value pos) (F5 X.K ta tv f):=by
 intro pins s σ H D I h
 refine plainObj_wpAny_Assign_Attribute (thn (hv pins s σ H _ I h) fun u s1 ⟨y,H1,I1,ry,q⟩=>thn (ha pins s1 σ H1 _ I1 q) fun ov s2 ⟨x,H2,I2,rx,a,C,dx,fs,ex,ea,c,n,l,q2⟩=>?_) hs
 subst ex
 obtain rfl:ov=Value.ref a:=rx
 exact lh I2 ea c n l ry fun s3 I3=>⟨σ,_,I3,q2⟩
end
section
variable {X:Cx}{pins:List (Addr×Obj)}{σ:St}{H:Hp}{s:Shared}{A:Around}{E:Value->Shared->Prop}{Q:Value->Shared->Prop}{c:Value}{b:Bool}
end
end L2
namespace L2
open PySem PySem.Spec PyProof.Rows
structure Room (k:Nat) (A:Around):Prop where
 hd:A.handled=none
 dp:A.depth+3 * k+5 < recursionLimit
 un:A.units+16 * k+200 < cLine
theorem Room.mono{j k:Nat}{A:Around}(r:Room k A)(h:j<=k):Room j A:=⟨r.hd,by have:=r.dp;omega,by have:=r.un;omega⟩
theorem Room.deeper{k:Nat}{A:Around}(r:Room (k+1) A)(env:Env):Room k (A.deeper env):=
 ⟨r.hd,by have:=r.dp;show A.depth+1+3 * k+5 < _;omega,by have:=r.un;show A.units+3+16 * k+200 < _;omega⟩
theorem lF{A:Around}{C:Addr}{us:List Value}{kw:List (Str×Value)}:(A.under (.builtin "type.__call__" ⟨.ref C::us,kw⟩)).depth=A.depth+1:=by
 first|rfl|simp[Around.under,Code.weight,Code.isCreation,Code.isGuard,Code.isCaller,Code.frames,Code.isFrame,guardIds]
theorem le{A:Around}{C:Addr}{us:List Value}{kw:List (Str×Value)}:(A.under (.builtin "type.__call__" ⟨.ref C::us,kw⟩)).units=A.units+1:=by
 first|rfl|simp[Around.under,Code.cUnits,Code.frames,Code.isFrame]
theorem Room.make{k:Nat}{A:Around}(r:Room (k+1) A)(C:Addr)(us:List Value)(kw:List (Str×Value)):Room k (A.under (.builtin "type.__call__" ⟨.ref C::us,kw⟩)):=
 ⟨r.hd,by have:=r.dp;rw[lF];omega,by have:=r.un;rw[le];omega⟩
theorem Room.depth{k:Nat}{A:Around}(r:Room k A):A.depth < recursionLimit:=by have:=r.dp;omega
theorem Room.units{k:Nat}{A:Around}(r:Room k A):A.units+64 < cLine:=by have:=r.un;omega
noncomputable def tNil:TA:=fun _ H Q=>Q [] H
noncomputable def Ad(ta:TE)(tr:TA):TA:=fun σ H Q=>ta σ H fun x H1=>tr σ H1 fun xs H2=>Q (x::xs) H2
section
variable {X:Cx}{e:Expr}{es:List Expr}{te:TE}{t:TA}{pos:Pos}
theorem pa_nil:PA X [] tNil:=fun _ _ _ _ H Q I h=>Calls.spliced_nil ⟨[],H,I,.nil,h⟩
theorem aK(ha:PE X e te)(hr:PA X es t)(hs:starEach (e::es) X.env=(false,eval e X.env)::starEach es X.env:=by rfl):PA X (e::es) (Ad te t):=by
 intro pos pins s σ H Q I h
 rw[hs]
 show wpAny _ _ (spliced ((false,eval e X.env)::backTo pos (starEach es X.env))) _ _ s
 refine Calls.spliced_cons (thn (ha pins s σ H _ I h) fun u s1 ⟨x,H1,I1,r1,q1⟩=>?_)
 exact thn (hr pos pins s1 σ H1 _ I1 q1) fun us s2 ⟨xs,H2,I2,r2,q2⟩=>⟨x::xs,H2,I2,.cons r1 r2,q2⟩
noncomputable def Fy(t:TA):TE:=fun σ H Q=>t σ H fun xs H1=>xs.length<=sizeLine/\∀p,H1 p=none->Q (.ref p) (upd H1 p (.tup xs))
noncomputable def Ep(t:TA):TE:=fun σ H Q=>t σ H fun xs H1=>xs.length<=sizeLine/\∀p,H1 p=none->Q (.ref p) (upd H1 p (.lst xs))
theorem wE{x1}(h:PA X es t):PE X (.Tuple es x1 pos) (Fy t):=by
 intro pins s σ H Q I hq
 refine wpAny_Tuple_spliced (thn (h pos pins s σ H _ I hq) fun us s1 ⟨xs,H1,I1,r,z,q⟩=>⟨by rw[<-r.length];exact z,?_⟩)
 have hf:H1 s1.heap.objs.size=none:=I1.hok.fresh (Nat.le_refl _)
 refine⟨.ref s1.heap.objs.size,upd H1 s1.heap.objs.size (.tup xs),I1.laid (t':=s1.toks) (fun b u e=>Heap.get?_push_of_some _ e) (Nat.le_refl _) ?_,rfl,q _ hf⟩
 exact⟨z,us,r,⟨_,Heap.get?_push_size _ rfl,rfl,_,rfl⟩⟩
theorem wb(h:PA X es t):PE X (.List es pos) (Ep t):=by
 intro pins s σ H Q I hq
 refine wpAny_List_spliced (thn (h pos pins s σ H _ I hq) fun us s1 ⟨xs,H1,I1,r,z,q⟩=>⟨by rw[<-r.length];exact z,?_⟩)
 have hf:H1 s1.heap.objs.size=none:=I1.hok.fresh (Nat.le_refl _)
 refine⟨.ref s1.heap.objs.size,upd H1 s1.heap.objs.size (.lst xs),I1.laid (t':=s1.toks) (fun b u e=>Heap.get?_push_of_some _ e) (Nat.le_refl _) ?_,rfl,q _ hf⟩
 exact⟨z,us,0,r,Heap.get?_push_size _ rfl⟩
end
noncomputable abbrev Sp:=List V->Hp->VK->XK->Prop
noncomputable abbrev CXT:=List Env->Hp->Shared->XK->Value->Shared->Prop
structure Env0 (P:Program) (w:World) (K:PySem.W.Frag) (mg:Str->Option Value) (base:Heap) (A:Around) (outer:List Env) (s:Shared) (H:Hp):Prop where
 frames:A.frames=some outer
 mod:Mod K mg base
 bs:∀b o,base.get? b=some o->s.heap.get? b=some o/\H b=none
 bsz:base.objs.size<=s.heap.objs.size
 funs:s.heap.FunFrames base outer
 frf:∀b∈frs outer,H b=none
 hok:HOk P w H s.heap
 bare:AllBare s.gens
noncomputable def CE(outer:List Env)(P:Program)(w:World)(H:Hp)(s:Shared)(Q:VK)(u:Value)(s':Shared):Prop:=
 ∃v H',s'.os=s.os/\AllBare s'.gens/\Un (frs outer) [] H H' s.heap s'.heap/\HOk P w H' s'.heap/\RelV v u/\Q v H'
noncomputable def CR(CX:CXT)(outer:List Env)(P:Program)(w:World)(H:Hp)(s:Shared)(Q:VK)(E:XK)(r:Result)(s':Shared):Prop:=
 match r with
 |.ok (.ret u)=>CE outer P w H s Q u s'
 |.ok _=>False
 |.error e=>CX outer H s E e s'
structure FnOk (P:Program) (w:World) (K:PySem.W.Frag) (mg:Str->Option Value) (base:Heap) (CX:CXT) (k:Nat) (f:Addr) (fd:FuncData) (ps:List Str) (sp:Sp):Prop where
 len:∀vs H Q E,sp vs H Q E->vs.length=ps.length
 run:∀(A:Around) (outer:List Env) (s:Shared) (H:Hp) (args:Args) (us:List Value) (vs:List V) (Q:VK) (E:XK),Room k A->Env0 P w K mg base A outer s H->BindsTo s fd args (ps.zip us)->Vals vs us->sp vs H Q E->
  codeAny (model P w) A (.call (.ref f) args) (CR CX outer P w H s Q E) s
theorem FnOk.mono{P:Program}{w:World}{K:PySem.W.Frag}{mg:Str->Option Value}{base:Heap}{CX:CXT}{j k:Nat}{f:Addr}{fd:FuncData}{ps:List Str}{sp:Sp}(F:FnOk P w K mg base CX j f fd ps sp)(h:j<=k) :
  FnOk P w K mg base CX k f fd ps sp:=⟨F.len,fun A outer s H args us vs Q E hr=>F.run A outer s H args us vs Q E (hr.mono h)⟩
theorem Env0.make{P:Program}{w:World}{K:PySem.W.Frag}{mg:Str->Option Value}{base:Heap}{A:Around}{outer:List Env}{s:Shared}{H:Hp}(e:Env0 P w K mg base A outer s H)(C:Addr)(us:List Value)(kw:List (Str×Value)) :
  Env0 P w K mg base (A.under (.builtin "type.__call__" ⟨.ref C::us,kw⟩)) outer s H:=⟨by first|exact e.frames|(simpa [Around.under,Code.envs,Code.isFrame,pushEnvs] using e.frames),e.mod,e.bs,e.bsz,e.funs,e.frf,e.hok,e.bare⟩
section
variable {X:Cx}{pins:List (Addr×Obj)}{σ:St}{H:Hp}{s s':Shared}
theorem Inv.env0(I:Inv X pins σ H s):Env0 X.prog X.w X.K X.mg X.base X.A X.stack s H:=
 ⟨I.ok.frames,I.ok.mod,I.bs,Nat.le_trans I.ok.bsz I.sz,I.stack,I.stkFree,I.hok,I.bare⟩
theorem Inv.after{Q:VK}{u:Value}(I:Inv X pins σ H s)(h:CE X.stack X.prog X.w H s Q u s'):EP X pins σ Q u s':=by
 obtain⟨v,H',os,bare,un,hok,r,q⟩:=h
 obtain⟨hh,g,d,t,os'⟩:=s'
 obtain rfl:os'=s.os:=os
 exact⟨v,H',I.call (h':=hh) (g':=g) (d':=d) (t':=t) (ch:=[]) un hok bare (fun b z=>absurd z (by simp)),r,q⟩
end
noncomputable def Binds(K:PySem.W.Frag)(fd:FuncData)(ps:List Str)(ds:List Value):Prop:=
 ∀(s:Shared) (us:List Value),K.In s.heap->(us++ds).length=ps.length->BindsTo s fd ⟨us,[]⟩ (ps.zip (us++ds))
theorem Binds.all{K:PySem.W.Frag}{fd:FuncData}{ps:List Str}(h:∀us:List Value,us.length=ps.length->bindArgs fd ⟨us,[]⟩=pure (ps.zip us)):Binds K fd ps []:=fun s us _ hl=>by
 rw[List.append_nil]at hl ⊢
 exact .of_eq (h us hl)
noncomputable def ui(CX:CXT)(X:Cx)(E:XK):Prop:=∀(pins:List (Addr×Obj)) (σ:St) (H:Hp) (s:Shared) (e:Value) (s':Shared),Inv X pins σ H s->CX X.stack H s E e s'->X.xe e s'
section
variable {X:Cx}{CX:CXT}{k:Nat}{f C:Addr}{fd:FuncData}{ps:List Str}{sp:Sp}{dvs:List V}{ds:List Value}{E:XK}{x m:Str}{p pos apos:Pos}{e o:Expr}{es:List Expr}{ta:TE}{t:TA}
structure Mk (K:PySem.W.Frag) (C f:Addr):Prop where
 makes:PySem.W.makesIn K C=true
 init:PySem.W.findIn K (.ref C) "__init__"=some (some (.ref f))
 fn:PySem.W.isFn K (.ref f)=true
 kp:PySem.W.keepIn K (.ref C)=true
end
section
variable {X:Cx}{CX:CXT}{k:Nat}{f C:Addr}{fd:FuncData}{ps ks:List Str}{sp:Sp}{E:XK}{x m:Str}{p pos apos kpos:Pos}{e o:Expr}{es:List Expr}{kws:List Keyword}{te ta:TE}{t tk:TA}{nm:Option Str}
variable {g:List Value->List Value->List Value}{gV:List V->List V->List V}
end
structure FnScope (N P:List Str) (sc:Scope):Prop where
 kind:sc.kind=.function
 co:sc.isCoroutine=false
 gen:sc.isGenerator=false
 nd:N.Nodup
 pre:N.take P.length=P
 par:∀x∈P,sc.names.lookup x=some .local\/sc.names.lookup x=some .cell
 nofree:∀y∈sc.names,y.2≠.free
theorem iZ{kindOf:Str->Option NameKind}{x:Str}:∀{binds:List (Str×Value)}{m:Str->Option Value},(∀v,(x,v)∉binds)->bindL kindOf binds m x=m x
 |[],_,_=>rfl
 |(n,v)::r,m,h=>by
  unfold bindL
  rw[iZ fun w hw=>h w (List.mem_cons_of_mem _ hw)]
  split
  ·have:x≠n:=by rintro rfl;exact h v List.mem_cons_self
   simp[this]
  ·rfl
theorem iP{kindOf:Str->Option NameKind}{x:Str}:∀{binds:List (Str×Value)}{m:Str->Option Value},(∀v,(x,v)∉binds)->bindC kindOf binds m x=m x
 |[],_,_=>rfl
 |(n,v)::r,m,h=>by
  unfold bindC
  rw[iP fun w hw=>h w (List.mem_cons_of_mem _ hw)]
  split
  ·rfl
  ·have:x≠n:=by rintro rfl;exact h v List.mem_cons_self
   simp[this]
theorem i7{kindOf:Str->Option NameKind}{x:Str}{v:Value}:∀{P:List Str}{vs:List Value}{i:Nat}{m:Str->Option Value},P.Nodup->P[i]?=some x->vs[i]?=some v->kindOf x=some .local->
  bindL kindOf (P.zip vs) m x=some v
 |[],_,_,_,_,h,_,_=>by simp at h
 |_::_,[],_,_,_,_,h,_=>by simp at h
 |p::P,w::vs,0,m,nd,h1,h2,hk=>by
  simp at h1 h2;subst h1;subst h2
  show bindL kindOf ((p,w)::P.zip vs) m p=_
  unfold bindL
  rw[iZ fun v hv=>(List.nodup_cons.mp nd).1 (List.of_mem_zip hv).1,if_pos hk]
  simp
 |p::P,w::vs,i+1,m,nd,h1,h2,hk=>by
  show bindL kindOf ((p,w)::P.zip vs) m x=_
  unfold bindL
  exact i7 (i:=i) (List.nodup_cons.mp nd).2 (by simpa using h1) (by simpa using h2) hk
theorem iS{kindOf:Str->Option NameKind}{x:Str}{v:Value}:∀{P:List Str}{vs:List Value}{i:Nat}{m:Str->Option Value},P.Nodup->P[i]?=some x->vs[i]?=some v->kindOf x≠some .local->
  bindC kindOf (P.zip vs) m x=some v
 |[],_,_,_,_,h,_,_=>by simp at h
 |_::_,[],_,_,_,_,h,_=>by simp at h
 |p::P,w::vs,0,m,nd,h1,h2,hk=>by
  simp at h1 h2;subst h1;subst h2
  show bindC kindOf ((p,w)::P.zip vs) m p=_
  unfold bindC
  rw[iP fun v hv=>(List.nodup_cons.mp nd).1 (List.of_mem_zip hv).1,if_neg hk]
  simp
 |p::P,w::vs,i+1,m,nd,h1,h2,hk=>by
  show bindC kindOf ((p,w)::P.zip vs) m x=_
  unfold bindC
  exact iS (i:=i) (List.nodup_cons.mp nd).2 (by simpa using h1) (by simpa using h2) hk
noncomputable def start(N:List Str)(vs:List V):St:=vs.map some++List.replicate (N.length - vs.length) none
noncomputable def cy(CX:CXT)(P:Program)(w:World)(K:PySem.W.Frag)(mg:Str->Option Value)(base:Heap)(N:List Str)(qual:Str)(scope:Scope)(f:Addr)(cd:Value)(A:Around)(outer:List Env)(s:Shared)(H:Hp)(E:XK):Cx where
 prog:=P
 w:=w
 K:=K
 mg:=mg
 base:=base
 A:=A.deeper (envOfC qual scope s.heap.objs.size f cd)
 N:=N
 s₀:=s
 H₀:=H
 env:=envOfC qual scope s.heap.objs.size f cd
 outer:=outer
 stack:=envOfC qual scope s.heap.objs.size f cd::outer
 ex:=[]
 calm:=true
 fn:=fun _=>true
 pn:=[]
 xe:=fun e s'=>wpAny (model P w) (A.deeper (envOfC qual scope s.heap.objs.size f cd)) (leaving (envOfC qual scope s.heap.objs.size f cd) e) (fun _ s''=>CX outer H s E e s'') (fun e' s''=>CX outer H s E e' s'') s'
theorem j6{sc:Scope}{n:Nat}{x:Str}(h:sc.names.lookup x=some .cell):∃c,(cellsFrom n sc.names []).lookup x=some c:=by
 have q:=PySem.W.cellsFrom_some sc.names n [] (.inl h)
 exact Option.isSome_iff_exists.mp q
theorem ng{CX:CXT}{P:Program}{w:World}{K:PySem.W.Frag}{mg:Str->Option Value}{base:Heap}{N ps:List Str}{qual:Str}{scope:Scope}{f:Addr}{cd:Value}{A:Around}{outer:List Env}{s s1:Shared}{H:Hp}{E:XK}{us:List Value}{vs:List V}
  (S:FnScope N ps scope) (hd:A.handled=none) (e0:Env0 P w K mg base A outer s H) (hl:vs.length=ps.length) (r:Vals vs us)
  (x:InCallC s s.heap.objs.size (bindL (envOfC qual scope s.heap.objs.size f cd).kindOf (ps.zip us) fun _=>none) (cellsFrom (s.heap.objs.size+1) scope.names []) (bindC (envOfC qual scope s.heap.objs.size f cd).kindOf (ps.zip us) fun _=>none) s1) :
  Inv (cy CX P w K mg base N qual scope f cd A outer s H E) [] (start N vs) H s1:=by
 have hpl:ps.length<=N.length:=by have:=congrArg List.length S.pre;rw[List.length_take]at this;omega
 obtain⟨h1,tk,rfl,hk⟩:=x.done
 have noA:∀b:Addr,b∉(cy CX P w K mg base N qual scope f cd A outer s H E).ex:=fun b z=>absurd (show b∈([]:List Addr) from z) (by simp)
 refine⟨⟨e0.mod,S.kind,rfl,rfl,Nat.le_refl _,fun y z c h1 h2=>?_,fun y hy=>?_,fun y c _ h=>?_,fun _=>hd,Around.frames_deeper e0.frames,.inr ⟨rfl,rfl⟩,fun b z=>absurd z (noA b),e0.bs,e0.bsz,fun b _ _=>noA b,fun b z=>absurd z (noA b),e0.funs,e0.frf⟩,
  rfl,e0.bare,Un.kept hk,⟨_,x.toInCall.ns,fun i y v h1 h2 h3=>?_⟩,fun y c h=>⟨_,x.cell y c h⟩,e0.hok.fresh (Nat.le_refl _),fun y c h=>?_,fun p hp=>absurd (show p∈([]:List (Addr×Obj)) from hp) (by simp),e0.hok.kept hk,?_⟩
 ·exact name_of_addr x.apart (PySem.mem_of_lookup h1) (PySem.mem_of_lookup h2)
 ·have hy:scope.names.lookup y=some .cell\/scope.names.lookup y=some .free:=hy
  rcases hy with hy|hy
  ·exact j6 hy
  ·exact absurd rfl (S.nofree _ (PySem.mem_of_lookup hy))
 ·exact Nat.le_of_lt (x.above y c (PySem.mem_of_lookup h))
 ·have hi:i < vs.length:=by
   unfold start at h2
   by_cases hi:i < vs.length
   ·exact hi
   ·rw[List.getElem?_append_right (by simpa using hi)]at h2
    rw[List.getElem?_replicate]at h2
    split at h2<;>cases h2
  have ha:vs[i]?=some v:=by
   unfold start at h2
   rw[List.getElem?_append_left (by simpa using hi),List.getElem?_map]at h2
   cases e:vs[i]? with
   |none=>rw[e]at h2;cases h2
   |some a=>rw[e]at h2;cases h2;rfl
  obtain⟨u,hu,rv⟩:=r.get ha
  have hp:ps[i]?=some y:=by
   rw[<-S.pre,List.getElem?_take_of_lt (by omega)];exact h1
  have ndP:ps.Nodup:=by rw[<-S.pre];exact S.nd.sublist (List.take_sublist _ _)
  refine⟨u,rv,?_⟩
  rcases S.par y (List.mem_of_getElem? hp) with k|k
  ·exact .inl ⟨k,i7 ndP hp hu k⟩
  ·obtain⟨c,e⟩:=j6 (n:=s.heap.objs.size+1) k
   refine .inr ⟨.inl k,c,e,?_⟩
   have q:=x.cell y c e
   rw[iS ndP hp hu (by show scope.names.lookup y≠_;rw[k];decide)]at q
   exact q
 ·exact e0.hok.fresh (Nat.le_of_lt (x.above y c (PySem.mem_of_lookup h)))
 ·unfold start
  show _=N.length
  rw[List.length_append,List.length_map,List.length_replicate]
  omega
theorem sx{CX:CXT}{P:Program}{w:World}{K:PySem.W.Frag}{mg:Str->Option Value}{base:Heap}{k:Nat}{f:Addr}{name qual:Str}{params:Arguments}{body:List Stmt}{scope:Scope}{dV kV doc pm cdv ct oc:Value}{an od:Option Addr}
  {osl:Array (Option Value)}{N ps:List Str}{sp:Sp} (lk:K.lookup f=some ⟨oc,od,.func (PySem.W.fnOf name qual params body scope dV kV doc pm an cdv ct),osl⟩) (hcd:PySem.W.codeIn K cdv qual=true) (S:FnScope N ps scope)
  (len:∀vs H Q E,sp vs H Q E->vs.length=ps.length)
  (hbody:∀(A:Around) (outer:List Env) (s:Shared) (H:Hp) (vs:List V) (Q:VK) (E:XK),Room k (A.deeper (envOfC qual scope s.heap.objs.size f cdv))->sp vs H Q E->
   ∃t,PSs (cy CX P w K mg base N qual scope f cdv A outer s H E) body t/\t {nx:=fun _ H'=>Q .non H',rt:=Q} (start N vs) H) :
  FnOk P w K mg base CX (k+1) f (PySem.W.fnOf name qual params body scope dV kV doc pm an cdv ct) ps sp:=by
 refine⟨len,fun A outer s H args us vs Q E hr e0 hb r hsp=>?_⟩
 have hl:=len _ _ _ _ hsp
 have KX:K.In s.heap:=e0.mod.kin.keeps fun b o e=>(e0.bs b o e).1
 have lim:s.heap.NoLimit:=e0.mod.nolimit.keeps fun b o e=>(e0.bs b o e).1
 have hkind:∀y∈ps.zip us,scope.names.lookup y.1=some .local\/(scope.names.lookup y.1=some .cell/\((cellsFrom (s.heap.objs.size+1) scope.names []).lookup y.1).isSome=true):=fun ⟨n,v⟩ hy=>by
  rcases S.par n (List.of_mem_zip hy).1 with q|q
  ·exact .inl q
  ·exact .inr ⟨q,PySem.W.cellsFrom_some _ _ _ (.inl q)⟩
 refine codeAny_call_function hr.depth (KX _ _ lk) rfl S.co S.gen rfl (PySem.W.codeRec_of KX hcd) (hb _ _ _ _ ?_)
 refine wpAny_newFunctionEnv_cells S.kind hkind fun env he s1 x=>?_
 subst he
 refine⟨lim.keeps x.toInCall.keep,codeAny_func ?_⟩
 obtain⟨t,ht,hq⟩:=hbody A outer s H vs Q E (hr.deeper _) hsp
 have I:Inv (cy CX P w K mg base N qual scope f cdv A outer s H E) [] (start N vs) H s1:=ng S hr.hd e0 hl r x
 refine wpAny_mono (ht [] s1 (start N vs) H _ I hq) (fun fl s' hs=>?_) fun e s' hs=>hs
 have fin:∀{σ':St}{H':Hp}{v:V}{u:Value},Inv (cy CX P w K mg base N qual scope f cdv A outer s H E) [] σ' H' s'->RelV v u->Q v H'->CE outer P w H s Q u s':=
  fun {σ' H' v u} J rv q=>⟨v,H',J.os,J.bare,J.base,J.hok,rv,q⟩
 cases fl with
 |ret u=>
  obtain⟨v,σ',H',J,rv,q⟩:=hs
  exact fin J rv q
 |next=>
  obtain⟨σ',H',J,q⟩:=hs
  exact fin (v:=V.non) (u:=Value.none) J rfl q
 |brk=>
  obtain⟨_,_,_,q⟩:=hs
  exact False.elim q
 |cont=>
  obtain⟨_,_,_,q⟩:=hs
  exact False.elim q
end L2
namespace L2
open PySem PySem.Spec PyProof.Rows
section
variable {X:Cx}{x:Str}{p pos:Pos}{e:Expr}{es:List Expr}{t:TA}{id T:String}{r:List V->Hp->VK->Prop}
noncomputable def tCB(r:List V->Hp->VK->Prop)(t:TA):TE:=fun σ H Q=>t σ H fun vs H1=>r vs H1 Q
theorem eL(hc:CallR X (.builtin id) r)(hg:Gl X x)(hm:X.mg x=none)(hv:bootBuiltins x=some (.builtin id))(ha:PA X (e::es) t)(hn:x≠"__name__":=by decide)(hdb:(x == ("__debug__" : Str))=false:=by decide)
  (he:starEach (e::es) X.env=(false,eval e X.env)::starEach es X.env:=by rfl) (hpl:(backTo pos (starEach es X.env)).any (·.1)=false:=by rfl):PE X (.Call (.Name x p) (e::es) [] pos) (tCB r t):=by
 intro pins s σ H Q I h
 refine wpAny_Call_Name_kw (cR I hg hm hv ?_ hn hdb)
 exact PyProof.Rows.callWith_builtin1 (thn (ha pos pins s σ H _ I h) fun us s1 ⟨vs,H1,I1,r1,q1⟩=>hc pins s1 σ H1 vs us Q I1 r1 q1) he hpl
theorem mZ(hc:CallR X (.type T) r)(hg:Gl X x)(hm:X.mg x=none)(hv:bootBuiltins x=some (.type T))(ha:PA X (e::es) t)(hn:x≠"__name__":=by decide)(hdb:(x == ("__debug__" : Str))=false:=by decide)
  (he:starEach (e::es) X.env=(false,eval e X.env)::starEach es X.env:=by rfl) (hpl:(backTo pos (starEach es X.env)).any (·.1)=false:=by rfl):PE X (.Call (.Name x p) (e::es) [] pos) (tCB r t):=by
 intro pins s σ H Q I h
 refine wpAny_Call_Name_kw (cR I hg hm hv ?_ hn hdb)
 exact PyProof.Rows.callWith_type1 (thn (ha pos pins s σ H _ I h) fun us s1 ⟨vs,H1,I1,r1,q1⟩=>hc pins s1 σ H1 vs us Q I1 r1 q1) he hpl
end
end L2
namespace L2
open PySem PySem.Spec PyProof.Rows
section
variable {κ:Type} [DecidableEq κ]
noncomputable def c6(kvs:List (κ×V))(k:κ):Option V:=(kvs.find? fun kv=>decide (kv.1=k)).map (·.2)
noncomputable def de(kvs:List (κ×V))(k:κ)(v:V):List (κ×V):=
 if (kvs.any fun kv=>decide (kv.1=k))=true then kvs.map (fun kv=>if kv.1=k then (kv.1,v) else kv) else kvs++[(k,v)]
theorem c9{p:κ×V}{r:List (κ×V)}{k:κ}(e:p.1=k):c6 (p::r) k=some p.2:=by simp[c6,List.find?_cons,e]
theorem cz{p:κ×V}{r:List (κ×V)}{k:κ}(e:¬ p.1=k):c6 (p::r) k=c6 r k:=by simp[c6,List.find?_cons,e]
theorem j9(k:κ):∀kvs:List (κ×V),(kvs.any fun kv=>decide (kv.1=k))=(c6 kvs k).isSome
 |[]=>rfl
 |p::r=>by
  rw[List.any_cons]
  by_cases e:p.1=k
  ·simp only[c9 e,decide_eq_true e,Bool.true_or,Option.isSome_some]
  ·rw[cz e,decide_eq_false e,Bool.false_or];exact j9 k r
theorem fL(kvs:List (κ×V))(k:κ)(v:V):(de kvs k v).length<=kvs.length+1:=by
 unfold de
 split
 ·rw[List.length_map];omega
 ·rw[List.length_append,List.length_cons,List.length_nil];omega
theorem RelO.isSome_eq{o:Option V}{u:Option Value}(r:RelO o u):o.isSome=u.isSome:=by
 cases o with
 |none=>cases u with
  |none=>rfl
  |some _=>exact (show False from r).elim
 |some _=>cases u with
  |none=>exact (show False from r).elim
  |some _=>rfl
theorem RelO.getD{o:Option V}{u:Option Value}{d:V}{d':Value}(r:RelO o u)(rd:RelV d d'):RelV (o.getD d) (u.getD d'):=by
 cases o with
 |none=>cases u with
  |none=>exact rd
  |some _=>exact (show False from r).elim
 |some _=>cases u with
  |none=>exact (show False from r).elim
  |some _=>exact r
theorem KV.val{kvs:List (κ×V)}{vs:List (κ×Value)}(r:KV kvs vs)(k:κ):RelO (c6 kvs k) (valueAt vs k):=by
 unfold KV at r
 induction r with
 |nil=>exact True.intro
 |@cons p q ps qs h t ih=>
  obtain⟨h1,h2⟩:=h
  by_cases e:p.1=k
  ·have e':q.1=k:=h1.symm.trans e
   have b:valueAt (q::qs) k=some q.2:=by simp[valueAt,List.find?_cons,e']
   rw[c9 e,b];exact h2
  ·have e':¬ q.1=k:=fun z=>e (h1.trans z)
   have b:valueAt (q::qs) k=valueAt qs k:=by simp[valueAt,List.find?_cons,e']
   rw[cz e,b];exact ih
theorem KV.any{kvs:List (κ×V)}{vs:List (κ×Value)}(r:KV kvs vs)(k:κ):(kvs.any fun kv=>decide (kv.1=k))=vs.any fun kv=>decide (kv.1=k):=by
 unfold KV at r
 induction r with
 |nil=>rfl
 |cons h t ih=>rw[List.any_cons,List.any_cons,ih,h.1]
theorem KV.repl{kvs:List (κ×V)}{vs:List (κ×Value)}(r:KV kvs vs)(k:κ){y:V}{u:Value}(ry:RelV y u) :
  KV (kvs.map fun kv=>if kv.1=k then (kv.1,y) else kv) (vs.map fun kv=>if kv.1=k then (kv.1,u) else kv):=by
 unfold KV at r ⊢
 induction r with
 |nil=>exact .nil
 |@cons p q ps qs h t ih=>
  rw[List.map_cons,List.map_cons]
  refine .cons ?_ ih
  obtain⟨h1,h2⟩:=h
  by_cases e:p.1=k
  ·rw[if_pos e,if_pos (h1.symm.trans e)];exact⟨h1,ry⟩
  ·rw[if_neg e,if_neg (fun z=>e (h1.trans z))];exact⟨h1,h2⟩
theorem KV.put{kvs:List (κ×V)}{vs:List (κ×Value)}(r:KV kvs vs)(k:κ){y:V}{u:Value}(ry:RelV y u):KV (de kvs k y) (stored vs k u):=by
 unfold de stored
 rw[r.any k]
 by_cases e:(vs.any fun kv=>decide (kv.1=k))=true
 ·rw[if_pos e,if_pos e];exact r.repl k ry
 ·rw[if_neg e,if_neg e];exact Paired.snoc r ⟨rfl,ry⟩
theorem KV.keys{kvs:List (κ×V)}{vs:List (κ×Value)}(r:KV kvs vs):kvs.map (·.1)=vs.map (·.1):=by
 unfold KV at r
 induction r with
 |nil=>rfl
 |cons h t ih=>rw[List.map_cons,List.map_cons,ih,h.1]
theorem KV.length{kvs:List (κ×V)}{vs:List (κ×Value)}(r:KV kvs vs):kvs.length=vs.length:=Paired.length r
end
theorem g5{P:Program}{w:World}{k:Key}{u:Value}(r:RelV (kV k) u):(aB P w).is k u=true:=by
 cases k with
 |inl i=>obtain⟨t,e⟩:=(show ∃t,u=Value.int i t from r);subst e;exact j1 P w i t
 |inr x=>obtain⟨t,e⟩:=(show ∃t,u=Value.str x t from r);subst e;exact ko P w x t
theorem iX{P:Program}{w:World}:∀{ks:List Key}{us:List Value},Vals (ks.map kV) us->ItemsAre (aB P w) ks us
 |[],_,r=>by rw[List.map_nil]at r;cases r;exact .nil
 |k::ks,_,r=>by
  rw[List.map_cons]at r
  cases r with
  |cons h t=>exact .cons (g5 h) (iX t)
noncomputable abbrev KT(H:Hp):List (List Key×V)->List (List Key×Addr×Value)->Prop:=Paired fun p q=>p.1=q.1/\H q.2.1=some (.tup (p.1.map kV))/\RelV p.2 q.2.2
theorem KT.val{H:Hp}{kvs:List (List Key×V)}{xs:List (List Key×Addr×Value)}(r:KT H kvs xs)(k:List Key):RelO (c6 kvs k) ((atKey xs k).map (·.2)):=by
 induction r with
 |nil=>exact True.intro
 |@cons p q ps qs h t ih=>
  obtain⟨h1,_,h2⟩:=h
  by_cases e:p.1=k
  ·have e':q.1=k:=h1.symm.trans e
   have b:atKey (q::qs) k=some q.2:=by simp[atKey,List.find?_cons,e']
   rw[c9 e,b];exact h2
  ·have e':¬ q.1=k:=fun z=>e (h1.trans z)
   have b:atKey (q::qs) k=atKey qs k:=by simp[atKey,List.find?_cons,e']
   rw[cz e,b];exact ih
theorem KT.repl{H:Hp}{kvs:List (List Key×V)}{xs:List (List Key×Addr×Value)}(r:KT H kvs xs)(k:List Key){y:V}{u:Value}(ry:RelV y u) :
  KT H (kvs.map fun kv=>if kv.1=k then (kv.1,y) else kv) (xs.map (putAt k u)):=by
 induction r with
 |nil=>exact .nil
 |@cons p q ps qs h t ih=>
  rw[List.map_cons,List.map_cons]
  refine .cons ?_ ih
  obtain⟨h1,h2,h3⟩:=h
  unfold putAt
  by_cases e:p.1=k
  ·rw[if_pos e,if_pos (h1.symm.trans e)];exact⟨h1,h2,ry⟩
  ·rw[if_neg e,if_neg (fun z=>e (h1.trans z))];exact⟨h1,h2,h3⟩
theorem KT.put{H:Hp}{kvs:List (List Key×V)}{xs:List (List Key×Addr×Value)}(r:KT H kvs xs)(k:List Key){b:Addr}{y:V}{u:Value}(hb:H b=some (.tup (k.map kV)))(ry:RelV y u) :
  KT H (de kvs k y) (storedH xs k b u):=by
 have e:(kvs.any fun kv=>decide (kv.1=k))=(atKey xs k).isSome:=by
  rw[j9,(r.val k).isSome_eq,Option.isSome_map]
 unfold de storedH
 rw[e]
 by_cases q:(atKey xs k).isSome=true
 ·rw[if_pos q,if_pos q];exact r.repl k ry
 ·rw[if_neg q,if_neg q];exact Paired.snoc r ⟨rfl,hb,ry⟩
theorem KT.keeps{H H':Hp}{kvs:List (List Key×V)}{xs:List (List Key×Addr×Value)}(r:KT H kvs xs)(ht:∀b ys,H b=some (.tup ys)->H' b=some (.tup ys)):KT H' kvs xs:=
 Paired.mapP r fun _ _ z=>⟨z.1,ht _ _ z.2.1,z.2.2⟩
section
variable {P:Program}{w:World}{H:Hp}{h:Heap}{a:Addr}
theorem sJ{u:HO}(ok:HOk P w H h)(e:Rd H a u):ObjOk P w H h a u:=e.ok ok
theorem fH{kvs:List (Key×V)}(ok:HOk P w H h)(e:Rd H a (.dK kvs)):kvs.length<=sizeLine/\(a == sysModules)=false/\∃vs,KV kvs vs/\h.DictOf (aB P w) a vs:=
 show ObjOk P w H h a (.dK kvs) from sJ ok e
theorem sD{kvs:List (Key×V)}(ok:HOk P w H h)(e:H a=some (.dK kvs)):kvs.length<=sizeLine/\(a == sysModules)=false/\∃vs,KV kvs vs/\h.DictOf (aB P w) a vs:=fH ok (.inl e)
theorem d7{ks:List Key}(ok:HOk P w H h)(e:H a=some (.tup (ks.map kV))):(tupleKind (aB P w)).is h ks a:=by
 obtain⟨_,its,r,o,h1,h2,n,h3⟩:=(show ObjOk P w H h a (.tup (ks.map kV)) from ok a _ e)
 exact⟨o,its.toArray,n,h1,h2,h3,by simpa using iX r⟩
theorem i8{kvs:List (List Key×V)}(ok:HOk P w H h)(e:Rd H a (.dT kvs)):kvs.length<=sizeLine/\(a == sysModules)=false/\
  ∃xs,KT H kvs xs/\h.DictOfH (tupleKind (aB P w)) a xs:=by
 obtain⟨z,y,xs,r,o,es,ep,h1,h2,h3,h4,h5⟩:=(show ObjOk P w H h a (.dT kvs) from sJ ok e)
 refine⟨z,y,xs,r,o,es,ep,h1,h2,h3,h4,fun x hx=>?_,h5⟩
 have all:∀{l:List (List Key×V)}{m:List (List Key×Addr×Value)},KT H l m->∀x∈m,(tupleKind (aB P w)).is h x.1 x.2.1:=by
  intro l m q
  induction q with
  |nil=>intro x hx;exact nomatch hx
  |@cons p q ps qs hq t ih=>
   intro x hx
   rcases List.mem_cons.mp hx with e|hx
   ·subst e
    exact d7 ok (by rw[<-hq.1];exact hq.2.1)
   ·exact ih x hx
 exact all r x hx
theorem Bz{kvs:List (List Key×V)}(ok:HOk P w H h)(e:H a=some (.dT kvs)):kvs.length<=sizeLine/\(a == sysModules)=false/\
  ∃xs,KT H kvs xs/\h.DictOfH (tupleKind (aB P w)) a xs:=i8 ok (.inl e)
end
noncomputable def DGet(H:Hp)(a:Addr)(y:V)(r:Option V):Prop:=
 (∃kvs k,Rd H a (.dK kvs)/\y=kV k/\r=c6 kvs k)\/∃kvs k b,Rd H a (.dT kvs)/\y=.ref b/\H b=some (.tup (k.map kV))/\r=c6 kvs k
noncomputable def DPut(H:Hp)(a:Addr)(y v:V)(H':Hp):Prop:=
 (∃kvs k,H a=some (.dK kvs)/\y=kV k/\kvs.length < sizeLine/\H'=upd H a (.dK (de kvs k v)))\/
 ∃kvs k b,H a=some (.dT kvs)/\y=.ref b/\H b=some (.tup (k.map kV))/\kvs.length < sizeLine/\H'=upd H a (.dT (de kvs k v))
theorem DGet.k{H:Hp}{a:Addr}{kvs:List (Key×V)}{k:Key}(e:H a=some (.dK kvs)):DGet H a (kV k) (c6 kvs k):=.inl ⟨kvs,k,.inl e,rfl,rfl⟩
theorem DGet.t{H:Hp}{a b:Addr}{kvs:List (List Key×V)}{k:List Key}(e:H a=some (.dT kvs))(eb:H b=some (.tup (k.map kV))):DGet H a (.ref b) (c6 kvs k):=.inr ⟨kvs,k,b,.inl e,rfl,eb,rfl⟩
theorem DPut.k{H:Hp}{a:Addr}{kvs:List (Key×V)}{k:Key}{v:V}(e:H a=some (.dK kvs))(hl:kvs.length < sizeLine):DPut H a (kV k) v (upd H a (.dK (de kvs k v))):=.inl ⟨kvs,k,e,rfl,hl,rfl⟩
theorem DPut.t{H:Hp}{a b:Addr}{kvs:List (List Key×V)}{k:List Key}{v:V}(e:H a=some (.dT kvs))(eb:H b=some (.tup (k.map kV)))(hl:kvs.length < sizeLine) :
  DPut H a (.ref b) v (upd H a (.dT (de kvs k v))):=.inr ⟨kvs,k,b,e,rfl,eb,hl,rfl⟩
section
variable {X:Cx}{pins:List (Addr×Obj)}{σ:St}{H:Hp}{s:Shared}{a:Addr}{y v:V}{u r:Value}{o:Option V}{A:Around}{E:Value->Shared->Prop}
theorem mC{Q:Value->Shared->Prop}(hu:A.units+1 < cLine)(I:Inv X pins σ H s)(g:DGet H a y (some v))(ry:RelV y u)(h:∀w' s',Inv X pins σ H s'->RelV v w'->Q w' s') :
  wpAny (model X.prog X.w) A (getItem (.ref a) u) Q E s:=by
 rcases g with ⟨kvs,k,e,ey,l⟩|⟨kvs,k,b,e,ey,eb,l⟩
 ·subst ey
  obtain⟨z,hd,vs,rel,dd⟩:=fH I.hok e
  obtain⟨w',hw,rw'⟩:=RelO.some_of (v:=v) (o:=valueAt vs k) (by rw[l];exact rel.val k)
  exact wpAny_getItem_of (g5 ry) dd.mapOf hw (h w' _ (I.tok _) rw')
 ·subst ey
  cases (show u=Value.ref b from ry)
  obtain⟨z,hd,xs,rel,dd⟩:=i8 I.hok e
  obtain⟨w',hw,rw'⟩:=RelO.some_of (v:=v) (o:=(atKey xs k).map (·.2)) (by rw[l];exact rel.val k)
  obtain⟨p,hp,hp2⟩:=Option.map_eq_some_iff.mp hw
  refine wpAny_getItem_heap (tupleKind_room_in1 hu) (d7 I.hok eb) dd hp ?_
  rw[hp2]
  exact h w' _ (I.tok _) rw'
theorem Ff{Q:Value->Shared->Prop}(hu:A.units+1 < cLine)(I:Inv X pins σ H s)(g:DGet H a y o)(ry:RelV y u)(h:∀s',Inv X pins σ H s'->Q (.bool o.isSome) s') :
  wpAny (model X.prog X.w) A (compareOp .In u (.ref a)) Q E s:=by
 rcases g with ⟨kvs,k,e,ey,l⟩|⟨kvs,k,b,e,ey,eb,l⟩
 ·subst ey
  obtain⟨z,hd,vs,rel,dd⟩:=fH I.hok e
  refine wpAny_in_of (g5 ry) hd dd.mapOf ?_
  rw[<-(rel.val k).isSome_eq,<-l]
  exact h _ (I.tok _)
 ·subst ey
  cases (show u=Value.ref b from ry)
  obtain⟨z,hd,xs,rel,dd⟩:=i8 I.hok e
  refine wpAny_in_heap (tupleKind_room_in1 hu) (d7 I.hok eb) hd dd ?_
  have q:=(rel.val k).isSome_eq
  rw[Option.isSome_map]at q
  rw[<-q,<-l]
  exact h _ (I.tok _)
theorem qt{Q:Value->Shared->Prop}(hu:A.units+1 < cLine)(I:Inv X pins σ H s)(g:DGet H a y o)(ry:RelV y u)(h:∀s',Inv X pins σ H s'->Q (.bool (!o.isSome)) s') :
  wpAny (model X.prog X.w) A (compareOp .NotIn u (.ref a)) Q E s:=by
 rcases g with ⟨kvs,k,e,ey,l⟩|⟨kvs,k,b,e,ey,eb,l⟩
 ·subst ey
  obtain⟨z,hd,vs,rel,dd⟩:=fH I.hok e
  refine wpAny_notIn_of (g5 ry) hd dd.mapOf ?_
  rw[<-(rel.val k).isSome_eq,<-l]
  exact h _ (I.tok _)
 ·subst ey
  cases (show u=Value.ref b from ry)
  obtain⟨z,hd,xs,rel,dd⟩:=i8 I.hok e
  refine wpAny_notIn_heap (tupleKind_room_in1 hu) (d7 I.hok eb) hd dd ?_
  have q:=(rel.val k).isSome_eq
  rw[Option.isSome_map]at q
  rw[<-q,<-l]
  exact h _ (I.tok _)
theorem jL{h':Heap}{t':Nat}{ob:HO}(I:Inv X pins σ H s)(mu:Mut (H a))(hs:Heap.SameBut a s.heap h')(he:∃q,h'.get? a=some q)(new:ObjOk X.prog X.w (upd H a ob) h' a ob) :
  Inv X pins σ (upd H a ob) {s with heap:=h',toks:=t'}:=
 I.write (x:=a) (e:=a) mu (.inl rfl) (fun b q hb z=>(hs.2 b hb).trans z) he new
theorem uq{P:Program}{w:World}{H':Hp}{h':Heap}{kvs:List (Key×V)}{vs:List (Key×Value)}(z:kvs.length<=sizeLine)(hd:(a == sysModules)=false)(rel:KV kvs vs)(dd:h'.DictOf (aB P w) a vs) :
  ObjOk P w H' h' a (.dK kvs):=⟨z,hd,vs,rel,dd⟩
theorem mM{H':Hp}{Q:Unit->Shared->Prop}(hu:A.units+1 < cLine)(I:Inv X pins σ H s)(g:DPut H a y v H')(ry:RelV y u)(rv:RelV v r)(h:∀s',Inv X pins σ H' s'->Q () s') :
  wpAny (model X.prog X.w) A (setItem (.ref a) u r) Q E s:=by
 rcases g with ⟨kvs,k,e,ey,l,eH⟩|⟨kvs,k,b,e,ey,eb,l,eH⟩
 ·subst ey eH
  obtain⟨z,hd,vs,rel,dd⟩:=sD I.hok e
  have hz:vs.length<=sizeLine:=by rw[<-rel.length];exact z
  have hl:(de kvs k v).length<=sizeLine:=by have:=fL kvs k v;omega
  refine wpAny_setItem_pairs (hsz:=hz) (g5 ry) dd fun h' dd' hs=>h _ ?_
  have he:∃q,h'.get? a=some q:=let ⟨q,_,_,hq,_⟩:=dd';⟨q,hq⟩
  exact jL I (by rw[e];exact True.intro) hs he (uq hl hd (rel.put k rv) dd')
 ·subst ey eH
  cases (show u=Value.ref b from ry)
  obtain⟨z,hd,xs,rel,dd⟩:=Bz I.hok e
  have hz:xs.length<=sizeLine:=by rw[<-Paired.length rel];exact z
  have hl:(de kvs k v).length<=sizeLine:=by have:=fL kvs k v;omega
  refine wpAny_setItem_heap (hsz:=hz) (tupleKind_room_in1 hu) (d7 I.hok eb) dd fun h' dd' hs=>h _ ?_
  obtain⟨q,es,ep,hq,h2,h3,h4,_,h5⟩:=dd'
  refine jL I (by rw[e];exact True.intro) hs ⟨q,hq⟩ ⟨hl,hd,_,(rel.put k eb rv).keeps fun c ys ec=>?_,q,es,ep,hq,h2,h3,h4,h5⟩
  rw[ah (cC ec e (fun z=>nomatch z))]
  exact ec
end
section
variable {X:Cx}{pins:List (Addr×Obj)}{σ:St}{H:Hp}{s:Shared}{a:Addr}{kvs:List (Key×V)}{k:Key}{u:Value}{A:Around}{E:Value->Shared->Prop}
end
section
variable {X:Cx}{o i e value:Expr}{pos pos' tpos:Pos}{td ty tv:TE}
end
section
variable {X:Cx}{pos:Pos}
end
structure M1 (X:Cx) (o:Expr) (m:Str) (apos:Pos) (e:Expr) (cpos:Pos):Prop where
 base:attributeBase o m X.env (eval o X.env)=eval o X.env
 few:((backTo cpos (starEach [e] X.env)).all (fun x=>!x.1)&&(backToKw cpos (keywordEach [] X.env)).all (fun x=>x.1.isSome)
  &&decide (([e]:List Expr).length+([]:List Keyword).length+(if ([]:List Keyword).isEmpty then 0 else 1) < 30))=true
 line:(apos.endLine == cpos.line)=true
 trees:backTo cpos (starEach [e] X.env)=[(false,eval e X.env)]
structure M2 (X:Cx) (o:Expr) (m:Str) (apos:Pos) (e f:Expr) (cpos:Pos):Prop where
 base:attributeBase o m X.env (eval o X.env)=eval o X.env
 few:((backTo cpos (starEach [e,f] X.env)).all (fun x=>!x.1)&&(backToKw cpos (keywordEach [] X.env)).all (fun x=>x.1.isSome)
  &&decide (([e,f]:List Expr).length+([]:List Keyword).length+(if ([]:List Keyword).isEmpty then 0 else 1) < 30))=true
 line:(apos.endLine == cpos.line)=true
 trees:backTo cpos (starEach [e,f] X.env)=[(false,eval e X.env),(false,eval f X.env)]
section
variable {X:Cx}{pins:List (Addr×Obj)}{σ:St}{H:Hp}{s:Shared}{a:Addr}{y d:V}{u r:Value}{o:Option V}{A:Around}{E:Value->Shared->Prop}
theorem xp{Q:Value->Shared->Prop}(hu:A.units+1 < cLine)(I:Inv X pins σ H s)(g:DGet H a y o)(ry:RelV y u)(h:∀w' s',Inv X pins σ H s'->RelV (o.getD .non) w'->Q w' s') :
  wpAny (model X.prog X.w) A (call (.builtin "dict.get") [.ref a,u]) Q E s:=by
 rcases g with ⟨kvs,k,e,ey,l⟩|⟨kvs,k,b,e,ey,eb,l⟩
 ·subst ey
  obtain⟨z,hd,vs,rel,dd⟩:=fH I.hok e
  refine call_meetsIn PySem.F.slot_dict_get dd.typeIs PySem.F.entry_dict_get (PySem.F.args_dict_get_2 _ _) (meets_dict_get (aB X.prog X.w) a (g5 ry) hd) ⟨_,dd.mapOf,h _ _ (I.tok _) ?_⟩
  rw[l]
  exact (rel.val k).getD rfl
 ·subst ey
  cases (show u=Value.ref b from ry)
  obtain⟨z,hd,xs,rel,dd⟩:=i8 I.hok e
  refine call_meetsIn PySem.F.slot_dict_get dd.typeIs PySem.F.entry_dict_get (PySem.F.args_dict_get_2 _ _) (meetsH_dict_get (tupleKind (aB X.prog X.w)) a b hd) ⟨tupleKind_room_in1 hu,k,xs,d7 I.hok eb,dd,h _ _ (I.tok _) ?_⟩
  rw[l]
  exact (rel.val k).getD rfl
theorem uy{Q:Value->Shared->Prop}(hu:A.units+1 < cLine)(I:Inv X pins σ H s)(g:DGet H a y o)(ry:RelV y u)(rd:RelV d r)(h:∀w' s',Inv X pins σ H s'->RelV (o.getD d) w'->Q w' s') :
  wpAny (model X.prog X.w) A (call (.builtin "dict.get") [.ref a,u,r]) Q E s:=by
 rcases g with ⟨kvs,k,e,ey,l⟩|⟨kvs,k,b,e,ey,eb,l⟩
 ·subst ey
  obtain⟨z,hd,vs,rel,dd⟩:=fH I.hok e
  refine call_meetsIn PySem.F.slot_dict_get dd.typeIs PySem.F.entry_dict_get (PySem.F.args_dict_get_3 _ _ _) (meets_dict_get_default (aB X.prog X.w) a (g5 ry) hd r) ⟨_,dd.mapOf,h _ _ (I.tok _) ?_⟩
  rw[l]
  exact (rel.val k).getD rd
 ·subst ey
  cases (show u=Value.ref b from ry)
  obtain⟨z,hd,xs,rel,dd⟩:=i8 I.hok e
  refine call_meetsIn PySem.F.slot_dict_get dd.typeIs PySem.F.entry_dict_get (PySem.F.args_dict_get_3 _ _ _) (meetsH_dict_get_default (tupleKind (aB X.prog X.w)) a b hd r) ⟨tupleKind_room_in1 hu,k,xs,d7 I.hok eb,dd,h _ _ (I.tok _) ?_⟩
  rw[l]
  exact (rel.val k).getD rd
end
section
variable {X:Cx}{o e f:Expr}{apos cpos:Pos}{td ty tx:TE}
end
section
variable {X:Cx}{pins:List (Addr×Obj)}{σ:St}{H:Hp}{s:Shared}{a:Addr}{kvs:List (Key×V)}{A:Around}{E:Value->Shared->Prop}
end
section
variable {X:Cx}{pins:List (Addr×Obj)}{σ:St}{H:Hp}{s:Shared}{a:Addr}{y:V}{u:Value}{A:Around}{E:Value->Shared->Prop}
end
end L2
namespace HT
open PySem PyProof.Rows
section
open PySem.SeqAt
open PySem.AutoSeq1 (wpAny_loadPart')
open PySem.MeetsSeq PySem.MeetsSeq2 PySem.MeetsSeq3
end
section
variable {prog:Program}{w:World}{A:Around}{E:Value->Shared->Prop}{s:Shared}
theorem cat_tup{t b:Addr}{vs ws:List Value}{Q:Value->Shared->Prop}(ht:IsTup s.heap t vs.toArray)(hb:IsTup s.heap b ws.toArray)(hv:vs≠[])
  (h1:ws=[]->Q (.ref t) s) (h2:ws≠[]->Q (.ref s.heap.objs.size) {s with heap:=s.heap.push {cls:=.type "tuple",data:=.seq (vs++ws).toArray}})
  (hsz:vs.length+ws.length<=sizeLine):wpAny (model prog w) A (binaryOp .Add (.ref t) (.ref b)) Q E s:=by
 obtain⟨⟨cls,dd,data,sl⟩,ho,hc,n,hd⟩:=id ht
 obtain⟨⟨cls2,dd2,data2,sl2⟩,ho2,hc2,n2,hd2⟩:=id hb
 simp only at hc hd hc2 hd2
 subst hc hd hc2 hd2
 have e:vs.toArray++ws.toArray=(vs++ws).toArray:=by simp
 by_cases hw:ws=[]
 ·exact concat_meets ⟨_,ho,rfl⟩ ⟨_,ho2,rfl⟩ noFill_tuple_add seq_tuple_add PySem.F.slot_tuple_add PySem.F.entry_tuple_add (PySem.F.args_tuple_add_2 _ _)
   (tuple_addW1 t b vs.toArray ws.toArray n n2 dd dd2 sl sl2 (by simpa using hv) (by simp[hw])) ⟨ho,ho2,h1 hw⟩
 ·refine concat_meets ⟨_,ho,rfl⟩ ⟨_,ho2,rfl⟩ noFill_tuple_add seq_tuple_add PySem.F.slot_tuple_add PySem.F.entry_tuple_add (PySem.F.args_tuple_add_2 _ _)
   (tuple_addW2 t b vs.toArray ws.toArray n n2 dd dd2 sl sl2 (by simpa using hv) (by simpa using hw) (by rw[List.size_toArray,List.size_toArray];exact hsz)) ⟨ho,ho2,?_⟩
  rw[e]
  exact h2 hw
noncomputable def sIx(n d:Nat):Option Int->Nat
 |none=>d
 |some v=>if v < 0 then (v+(n:Int)).toNat else min v.toNat n
theorem wV(n d:Nat)(hd:d<=n)(o:Option Int):sIx n d o<=n:=by
 cases o with
 |none=>exact hd
 |some v=>
  show (if v < 0 then (v+(n:Int)).toNat else min v.toNat n)<=n
  by_cases hv:v < 0
  ·rw[if_pos hv];omega
  ·rw[if_neg hv];exact Nat.min_le_right _ _
theorem mq(v:Int)(n d:Nat):(if v < 0 then max (v+(n:Int)) 0 else min v (n:Int))=((sIx n d (some v):Nat):Int):=by
 show (if v < 0 then max (v+(n:Int)) 0 else min v (n:Int))=(((if v < 0 then (v+(n:Int)).toNat else min v.toNat n):Nat):Int)
 by_cases hv:v < 0
 ·simp only[if_pos hv];omega
 ·simp only[if_neg hv];omega
theorem ly(lo hi:Option Int)(n:Nat):Builtin.Slice.sliceAdjust lo hi 1 (n:Int)=(((sIx n 0 lo:Nat):Int),((sIx n n hi:Nat):Int)):=by
 have h1:¬ ((1:Int) < 0):=by omega
 unfold Builtin.Slice.sliceAdjust
 simp only[h1,if_false]
 refine Prod.ext ?_ ?_
 ·cases lo with
  |none=>rfl
  |some v=>exact mq v n 0
 ·cases hi with
  |none=>rfl
  |some v=>exact mq v n n
theorem kW(i j:Nat):Builtin.Slice.slicePlaces (i:Int) (j:Int) 1=j - i:=by
 unfold Builtin.Slice.slicePlaces
 have h1:(1:Int) > 0:=by omega
 simp only[h1,if_true,Int.ediv_one]
 split<;>omega
theorem gt{v:Value}{o:Option Int}{Q:Option Int->Shared->Prop}(p:IsPart v o)(h:Q o s):wpAny (model prog w) A (Builtin.Slice.slicePartIndex v) Q E s:=by
 cases p with
 |none=>exact slicePart_none h
 |int i t=>exact slicePart_int h
theorem ff{sl:Addr}{vl vu:Value}{lo hi:Option Int}{n:Nat}{Q:Int×Int×Nat->Shared->Prop}(hs:s.heap.IsSliceOf sl vl vu .none)(pl:IsPart vl lo)(pu:IsPart vu hi)
  (h:Q (((sIx n 0 lo:Nat):Int),1,sIx n n hi - sIx n 0 lo) s):wpAny (model prog w) A (Builtin.Slice.sliceApplied (.ref sl) (pure (n:Int))) Q E s:=by
 obtain⟨os,hos,hcs,hds⟩:=id hs
 unfold Builtin.Slice.sliceApplied Builtin.Slice.sliceFields
 refine wpAny_bind (wpAny_bind (wpAny_field hos hds (x:=vl) rfl (wpAny_bind (wpAny_field hos hds (x:=vu) rfl (wpAny_bind (wpAny_field hos hds (x:=.none) rfl (wpAny_pure ?_)))))))
 refine wpAny_bind (slicePart_none ?_)
 show wpAny _ _ (if ((1:Int) == 0)=true then _ else _) _ _ s
 rw[if_neg (by decide)]
 refine wpAny_bind (gt pl (wpAny_bind (gt pu (wpAny_bind (wpAny_pure ?_)))))
 show wpAny _ _ (match Builtin.Slice.sliceAdjust lo hi 1 (n:Int) with|(lo,hi)=>pure (lo,(1:Int),Builtin.Slice.slicePlaces lo hi 1)) _ _ s
 rw[ly lo hi n]
 show wpAny _ _ (pure (((sIx n 0 lo:Nat):Int),(1:Int),Builtin.Slice.slicePlaces ((sIx n 0 lo:Nat):Int) ((sIx n n hi:Nat):Int) 1)) _ _ s
 rw[kW]
 exact wpAny_pure h
theorem pf(xs:Array Value)(i k:Nat):((List.range k).filterMap fun (m:Nat)=>xs[((i:Int)+(m:Int) * 1).toNat]?).toArray=((xs.toList.drop i).take k).toArray:=by
 have e:(fun (m:Nat)=>xs[((i:Int)+(m:Int) * 1).toNat]?)=fun m=>xs[i+m]?:=by
  funext m
  have:((i:Int)+(m:Int) * 1).toNat=i+m:=by omega
  rw[this]
 rw[e]
 have:=pick_run xs i k
 rw[List.filterMap_map]at this
 have e2:((fun x=>xs[x]?)∘fun x=>i+x)=fun m=>xs[i+m]?:=rfl
 rw[e2]at this
 rw[this]
theorem getItem_tuple_cut{t sl:Addr}{items:Array Value}{vl vu:Value}{lo hi:Option Int}{Q:Value->Shared->Prop}(ht:IsTup s.heap t items)(hs:s.heap.IsSliceOf sl vl vu .none)(pl:IsPart vl lo)(pu:IsPart vu hi)
  (hw:¬ (sIx items.size 0 lo=0/\sIx items.size items.size hi=items.size))
  (h:Q (.ref s.heap.objs.size) {s with heap:=s.heap.push {cls:=.type "tuple",data:=.seq ((items.toList.drop (sIx items.size 0 lo)).take (sIx items.size items.size hi - sIx items.size 0 lo)).toArray}})
  (hsz:items.size<=sizeLine):wpAny (model prog w) A (getItem (.ref t) (.ref sl)) Q E s:=by
 have htake:sizeOk (.seq ((items.toList.drop (sIx items.size 0 lo)).take (sIx items.size items.size hi - sIx items.size 0 lo)).toArray):=by
  show ((items.toList.drop (sIx items.size 0 lo)).take (sIx items.size items.size hi - sIx items.size 0 lo)).toArray.size<=sizeLine
  rw[List.size_toArray,List.length_take,List.length_drop,Array.length_toList]
  omega
 have hj:sIx items.size items.size hi<=items.size:=wV _ _ (Nat.le_refl _) hi
 obtain⟨os,hos,hcs,hds⟩:=id hs
 have hTs:s.TypeIs (.ref sl) "slice":=⟨os,hos,hcs⟩
 unfold getItem
 try with_reducible refine wpAny_holding ?_
 first|refine wpAny_bind (wpAny_pure ?_)|skip
 refine wpAny_bind (wpAny_sequenceKey ht.typeIs (by decide) ?_)
 refine wpAny_bind (wpAny_callSpecial?_slot (name:=Str.ofString "__getitem__") ht.typeIs PyProof.Rows.slot_tuple_getitem
  (wpAny_call_entry PyProof.Rows.slot_tuple_getitem ht.typeIs entry_tuple_getitem ?_ (args_tuple_getitem _ _)))
 show wpAny _ _ (Builtin.Tuple.tupleItemsOf (.ref t) >>=_) _ _ s
 refine wpAny_bind (tupleItemsOf_ ht ?_)
 refine wpAny_bind (wpAny_typeOf hTs ?_)
 rw[if_pos (by decide)]
 refine wpAny_bind (ff hs pl pu ?_)
 have hno:¬ ((((sIx items.size 0 lo:Nat):Int) == 0&&(1:Int) == 1&&(sIx items.size items.size hi - sIx items.size 0 lo) == items.size)=true):=by
  intro q
  rw[Bool.and_eq_true,Bool.and_eq_true]at q
  have q1:((sIx items.size 0 lo:Nat):Int)=0:=eq_of_beq q.1.1
  have q2:sIx items.size items.size hi - sIx items.size 0 lo=items.size:=eq_of_beq q.2
  exact hw ⟨by omega,by omega⟩
 show wpAny _ _ (if (((sIx items.size 0 lo:Nat):Int) == 0&&(1:Int) == 1&&(sIx items.size items.size hi - sIx items.size 0 lo) == items.size)=true then _ else _) _ _ s
 rw[if_neg hno,pf]
 first
  |exact wpAny_bind (m:=Builtin.Tuple.tupleExact _) (wpAny_newObj_type (wpAny_pure ⟨_,rfl,wpAny_pure h⟩) htake)
  |exact wpAny_bind (m:=Builtin.Tuple.tupleExact _) (wpAny_newObj_type (wpAny_bind (wpAny_pure (wpAny_pure ⟨_,rfl,wpAny_pure h⟩))) htake)
  |exact wpAny_bind (wpAny_bind (m:=Builtin.Tuple.tupleExact _) (wpAny_newObj_type (wpAny_pure (wpAny_pure ⟨_,rfl,wpAny_pure h⟩)) htake))
  |exact wpAny_bind (wpAny_bind (m:=Builtin.Tuple.tupleExact _) (wpAny_newObj_type (wpAny_pure ⟨_,rfl,wpAny_pure h⟩) htake))
end
end HT
namespace L2
open PySem PySem.Spec PyProof.Rows
noncomputable abbrev TO:=St->Hp->(Option Int->Hp->Prop)->Prop
noncomputable def PO(X:Cx)(e:Option Expr)(t:TO):Prop:=
 ∀(pins:List (Addr×Obj)) (s:Shared) (σ:St) (H:Hp) (Q:Option Int->Hp->Prop),Inv X pins σ H s->t σ H Q->
  wpAny (model X.prog X.w) X.A (evalPart e X.env) (fun u s'=>∃o H',Inv X pins σ H' s'/\IsPart u o/\Q o H') X.xe s
noncomputable def tNoPart:TO:=fun _ H Q=>Q none H
noncomputable def Ag(t:TE):TO:=fun σ H Q=>t σ H fun x H1=>∃i,x=.int i/\Q (some i) H1
section
variable {X:Cx}{e:Expr}{te:TE}{lo hi:Option Expr}{tl th:TO}{pos p2:Pos}
theorem po_none:PO X none tNoPart:=by
 intro pins s σ H Q I h
 rw[evalPart_none]
 exact wpAny_pure ⟨none,H,I,.none,h⟩
theorem rE(h:PE X e te):PO X (some e) (Ag te):=by
 intro pins s σ H Q I hw
 rw[evalPart_some]
 refine thn (h pins s σ H _ I hw) fun u s1 ⟨x,H1,I1,r1,q1⟩=>?_
 obtain⟨i,rfl,q⟩:=q1
 obtain⟨t,rfl⟩:=r1
 exact⟨some i,H1,I1,.int i t,q⟩
noncomputable def SlR(X:Cx)(r:V->Option Int->Option Int->Hp->VK->Prop):Prop:=
 ∀(pins:List (Addr×Obj)) (s:Shared) (σ:St) (H:Hp) (x:V) (v vl vu:Value) (lo hi:Option Int) (sl:Addr) (Q:VK),Inv X pins σ H s->RelV x v->s.heap.IsSliceOf sl vl vu .none->IsPart vl lo->IsPart vu hi->r x lo hi H Q->
  ∃T id,typeLookup (.type T) "__getitem__"=pure (some (.builtin id))/\s.TypeIs v T/\wpAny (model X.prog X.w) X.A (getItem v (.ref sl)) (EP X pins σ Q) X.xe s
theorem SlR.or{r r':V->Option Int->Option Int->Hp->VK->Prop}(h:SlR X r)(h':SlR X r'):SlR X (fun x lo hi H Q=>r x lo hi H Q\/r' x lo hi H Q):=by
 intro pins s σ H x v vl vu lo hi sl Q I rx hs pl pu q
 rcases q with q|q
 ·exact h pins s σ H x v vl vu lo hi sl Q I rx hs pl pu q
 ·exact h' pins s σ H x v vl vu lo hi sl Q I rx hs pl pu q
noncomputable def tSl(r:V->Option Int->Option Int->Hp->VK->Prop)(te:TE)(tl th:TO):TE:=fun σ H Q=>te σ H fun x H1=>tl σ H1 fun l H2=>th σ H2 fun u H3=>r x l u H3 Q
theorem og{r:V->Option Int->Option Int->Hp->VK->Prop}(hr:SlR X r)(he:PE X e te)(hl:PO X lo tl)(hu:PO X hi th):PE X (.Subscript e (.Slice lo hi none p2) pos) (tSl r te tl th):=by
 intro pins s σ H Q I h
 refine Subscript_ (thn (he pins s σ H _ I h) fun v s1 ⟨x,H1,I1,r1,q1⟩=>?_)
 refine wpAny_Slice (thn (hl pins s1 σ H1 _ I1 q1) fun vl s2 ⟨l,H2,I2,pl,q2⟩=>thn (hu pins s2 σ H2 _ I2 q2) fun vu s3 ⟨u,H3,I3,pu,q3⟩=>?_)
 rw[evalPart_none]
 refine wpAny_pure ?_
 have I4:Inv X pins σ H3 {s3 with heap:=s3.heap.push {cls:=.type "slice",data:=.fields #[vl,vu,.none]}}:=I3.kept (t':=s3.toks) fun b ob q=>Heap.get?_push_of_some _ q
 obtain⟨T,id,hT,ht,hg⟩:=hr pins {s3 with heap:=s3.heap.push {cls:=.type "slice",data:=.fields #[vl,vu,.none]}} σ H3 x v vl vu l u s3.heap.objs.size Q I4 r1 (Heap.IsSliceOf.new ..) pl pu q3
 show wpAny (model X.prog X.w) X.A (subscriptTail e (.Slice lo hi none p2) v (.ref s3.heap.objs.size)) (EP X pins σ Q) X.xe {s3 with heap:=s3.heap.push {cls:=.type "slice",data:=.fields #[vl,vu,.none]}}
 exact tail_any (ops:=[.ref s3.heap.objs.size,v]) ht hT hg (by with_unfolding_all rfl)
noncomputable def lx(xs:List V)(lo hi:Option Int):List V:=(xs.drop (HT.sIx xs.length 0 lo)).take (HT.sIx xs.length xs.length hi - HT.sIx xs.length 0 lo)
theorem fG(xs:List V)(lo hi:Option Int):(lx xs lo hi).length<=xs.length:=by
 unfold lx
 rw[List.length_take,List.length_drop]
 omega
noncomputable def E6(K:PySem.W.Frag):V->Option Int->Option Int->Hp->VK->Prop:=fun x lo hi H Q=>∃a xs,x=.ref a/\SqT K H a xs/\
 ¬ (HT.sIx xs.length 0 lo=0/\HT.sIx xs.length xs.length hi=xs.length)/\∀p,H p=none->Q (.ref p) (upd H p (.tup (lx xs lo hi)))
theorem wG:SlR X (E6 X.K):=by
 intro pins s σ H x v vl vu lo hi sl Q I rx hs pl pu h
 obtain⟨a,xs,rfl,hx,hw,q⟩:=h
 cases rx
 obtain⟨its,r,ht,hz⟩:=I.tuple hx
 have hlen:its.toArray.size=xs.length:=by rw[List.size_toArray];exact r.length.symm
 refine⟨"tuple",_,PyProof.Rows.slot_tuple_getitem.lookup,ht.typeIs,?_⟩
 refine HT.getItem_tuple_cut ht hs pl pu (by rw[hlen];exact hw) ?_ (by rw[hlen];exact hz)
 rw[hlen]
 refine⟨.ref s.heap.objs.size,_,I.laid (t':=s.toks) (o:=.tup (lx xs lo hi)) (fun b ob q=>Heap.get?_push_of_some _ q) (Nat.le_refl _) ?_,rfl,q _ (I.hok.fresh (Nat.le_refl _))⟩
 exact⟨Nat.le_trans (fG xs lo hi) hz,_,(r.drop (HT.sIx xs.length 0 lo)).take (HT.sIx xs.length xs.length hi - HT.sIx xs.length 0 lo),IsTup.new _ _⟩
noncomputable def zJ(K:PySem.W.Frag):R2:=fun x y H Q=>∃a b xs ys,x=.ref a/\y=.ref b/\SqT K H a xs/\SqT K H b ys/\xs≠[]/\xs.length+ys.length<=sizeLine/\
 (ys=[]->Q (.ref a) H)/\(ys≠[]->∀p,H p=none->Q (.ref p) (upd H p (.tup (xs++ys))))
theorem Vals.nil_iff{xs:List V}{us:List Value}(r:Vals xs us):us=[]<->xs=[]:=by
 cases r with
 |nil=>simp
 |cons _ _=>simp
theorem rJ:OpR X (binaryOp .Add) (zJ X.K):=by
 intro pins s σ H x y v u Q I rx ry h
 obtain⟨a,b,xs,ys,rfl,rfl,ha,hb,hx,hz,q1,q2⟩:=h
 cases rx
 cases ry
 obtain⟨its,r1,p1,_⟩:=I.tuple ha
 obtain⟨its2,r2,p2,_⟩:=I.tuple hb
 refine HT.cat_tup p1 p2 (fun z=>hx (r1.nil_iff.mp z)) (fun z=>⟨.ref a,H,I,rfl,q1 (r2.nil_iff.mp z)⟩) (fun z=>?_) (by rw[<-r1.length,<-r2.length];exact hz)
 refine⟨.ref s.heap.objs.size,_,I.laid (t':=s.toks) (o:=.tup (xs++ys)) (fun b ob q=>Heap.get?_push_of_some _ q) (Nat.le_refl _) ?_,rfl,q2 (fun w=>z (r2.nil_iff.mpr w)) _ (I.hok.fresh (Nat.le_refl _))⟩
 exact⟨by rw[List.length_append];exact hz,_,r1.append r2,IsTup.new _ _⟩
end
end L2
namespace L2
open PySem PySem.Spec PyProof.Rows
noncomputable def ixN(n:Nat)(i:Int):Option Nat:=if 0<=i then (if i < n then some i.toNat else none) else if -(n:Int)<=i then some (i+n).toNat else none
noncomputable def atI{α:Type}(xs:List α)(i:Int):Option α:=(ixN xs.length i).bind fun j=>xs[j]?
theorem lJ{n:Nat}{i:Int}{j:Nat}(h:ixN n i=some j):seqIndex? i n=some j/\j < n/\-(n:Int)<=i/\i < n:=by
 unfold ixN at h
 by_cases h0:0<=i
 ·rw[if_pos h0]at h
  by_cases h1:i < n
  ·rw[if_pos h1]at h
   have e:i.toNat=j:=Option.some.inj h
   exact⟨by rw[seqIndex_of h0 h1,e],by omega,by omega,h1⟩
  ·rw[if_neg h1]at h;cases h
 ·rw[if_neg h0]at h
  by_cases h1 : -(n:Int)<=i
  ·rw[if_pos h1]at h
   have e:(i+n).toNat=j:=Option.some.inj h
   exact⟨by rw[seqIndex_neg (by omega) h1,e],by omega,h1,by omega⟩
  ·rw[if_neg h1]at h;cases h
theorem jr{α:Type}{xs:List α}{i:Int}{v:α}(h:atI xs i=some v):∃j,seqIndex? i xs.length=some j/\xs[j]?=some v/\j < xs.length/\-(xs.length:Int)<=i/\i < xs.length:=by
 unfold atI at h
 cases e:ixN xs.length i with
 |none=>rw[e]at h;cases h
 |some j=>
  rw[e]at h
  obtain⟨h1,h2,h3,h4⟩:=lJ e
  exact⟨j,h1,h,h2,h3,h4⟩
theorem bu{α:Type}{xs:List α}{j:Nat}{v:α}(h:xs[j]?=some v):atI xs (j:Int)=some v:=by
 have hj:j < xs.length:=(List.getElem?_eq_some_iff.mp h).1
 have e:ixN xs.length (j:Int)=some j:=by
  unfold ixN
  rw[if_pos (by omega),if_pos (by omega)];simp
 unfold atI;rw[e];exact h
noncomputable def jx(b:Expr):Prop:=∀o i,subscripted b false o i=operate [o,i] (getItem o i)
noncomputable def IxR(X:Cx)(r:R2):Prop:=
 ∀(value slice:Expr) (pins:List (Addr×Obj)) (s:Shared) (σ:St) (H:Hp) (x y:V) (v u:Value) (Q:VK),Inv X pins σ H s->RelV x v->RelV y u->r x y H Q->
  subscripted slice false v u=operate [v,u] (getItem v u)->wpAny (model X.prog X.w) X.A (subscriptTail value slice v u) (EP X pins σ Q) X.xe s
noncomputable def MtR(X:Cx)(id:String)(r:V->List V->Hp->VK->Prop):Prop:=
 ∀(pins:List (Addr×Obj)) (s:Shared) (σ:St) (H:Hp) (x:V) (xs:List V) (v:Value) (us:List Value) (Q:VK),Inv X pins σ H s->RelV x v->Vals xs us->r x xs H Q->
  wpAny (model X.prog X.w) X.A (call (.builtin id) (v::us)) (EP X pins σ Q) X.xe s
section
variable {X:Cx}{a b:Expr}{ta tb:TE}{pos:Pos}
theorem IxR.or{r r':R2}(h:IxR X r)(h':IxR X r'):IxR X (fun x y H Q=>r x y H Q\/r' x y H Q):=by
 intro value slice pins s σ H x y v u Q I rx ry q hs
 rcases q with q|q
 ·exact h value slice pins s σ H x y v u Q I rx ry q hs
 ·exact h' value slice pins s σ H x y v u Q I rx ry q hs
theorem MtR.or{id:String}{r r':V->List V->Hp->VK->Prop}(h:MtR X id r)(h':MtR X id r'):MtR X id (fun x xs H Q=>r x xs H Q\/r' x xs H Q):=by
 intro pins s σ H x xs v us Q I rx rs q
 rcases q with q|q
 ·exact h pins s σ H x xs v us Q I rx rs q
 ·exact h' pins s σ H x xs v us Q I rx rs q
theorem B6{r:R2}(hr:IxR X r)(ha:PE X a ta)(hb:PE X b tb)(hs:jx b):PE X (.Subscript a b pos) (tOp r ta tb):=by
 intro pins s σ H Q I h
 exact Subscript_ (vB ha hb I h fun v u s2 x y H2 I2 rx ry q=>hr a b pins s2 σ H2 x y v u Q I2 rx ry q (hs _ _))
noncomputable def AM(K:PySem.W.Frag):R2:=fun x y H Q=>∃p xs i v,x=.ref p/\y=.int i/\SqL K H p xs/\atI xs i=some v/\Q v H
noncomputable def BJ(K:PySem.W.Frag):R2:=fun x y H Q=>∃p xs i v,x=.ref p/\y=.int i/\SqT K H p xs/\atI xs i=some v/\Q v H
noncomputable def rIxS:R2:=fun x y H Q=>∃z i c,x=.str z/\y=.int i/\z.length<=sizeLine/\atI z.cps.toList i=some c/\Q (.str ⟨#[c]⟩) H
theorem ix_list:IxR X (AM X.K):=by
 intro value slice pins s σ H x y v u Q I rx ry h hs
 obtain⟨p,xs,i,z,rfl,rfl,hq,he,q⟩:=h
 cases rx
 obtain⟨t,rfl⟩:=ry
 obtain⟨its,r,pl,hz⟩:=I.list hq
 obtain⟨j,h1,h2,h3,h4,h5⟩:=jr he
 obtain⟨w,ew,rw'⟩:=r.get h2
 have hl:=r.length
 have hn:=eV
 have fin:EP X pins σ Q w s:=⟨z,H,I,rw',q⟩
 by_cases h0:0<=i
 ·have hj:i.toNat=j:=by
   rw[seqIndex_of h0 h5]at h1
   exact Option.some.inj h1
  exact item_listR pl.isList h0 (by omega) (by rw[hj];simpa using ew) fin hs
 ·have hj:(i+(its.toArray.size:Int)).toNat=j:=by
   rw[seqIndex_neg (by omega) h4]at h1
   rw[List.size_toArray,<-hl]
   exact Option.some.inj h1
  exact subscriptTail_builtinR (x:=w) pl.isList.typeIs slot_list_getitem.lookup
   (wpAny_getItem_list_neg (Q:=fun r s'=>r=w/\EP X pins σ Q r s') pl.isList (by omega) (by rw[List.size_toArray]<;>omega) (by omega) (by rw[hj];simpa using ew) ⟨rfl,fin⟩) hs
theorem ix_tup:IxR X (BJ X.K):=by
 intro value slice pins s σ H x y v u Q I rx ry h hs
 obtain⟨p,xs,i,z,rfl,rfl,hq,he,q⟩:=h
 cases rx
 obtain⟨t,rfl⟩:=ry
 obtain⟨its,r,pl,hz⟩:=I.tuple hq
 obtain⟨j,h1,h2,h3,h4,h5⟩:=jr he
 obtain⟨w,ew,rw'⟩:=r.get h2
 have hl:=r.length
 have hn:=eV
 have fin:EP X pins σ Q w s:=⟨z,H,I,rw',q⟩
 exact subscriptTail_builtinR (x:=w) pl.typeIs slot_tuple_getitem.lookup
  (getItem_tuple (j:=j) (Q:=fun r s'=>r=w/\EP X pins σ Q r s') pl (by omega) (by omega) (by rw[List.size_toArray,<-hl];exact h1) (by simpa using ew) ⟨rfl,fin⟩) hs
theorem wY:IxR X rIxS:=by
 intro value slice pins s σ H x y v u Q I rx ry h hs
 obtain⟨z,i,c,rfl,rfl,hz,he,q⟩:=h
 obtain⟨t,rfl⟩:=rx
 obtain⟨t',rfl⟩:=ry
 obtain⟨j,h1,h2,h3,h4,h5⟩:=jr he
 have hl:z.cps.toList.length=z.length:=by simp[Str.length]
 rw[hl]at h1 h4 h5
 have hn:=eV
 exact tail_any (typeIs_str s z t) slot_str_getitem.lookup (getItem_str (c:=c) (by
  have e1:decide (i < -(2 ^ 63:Int))=false:=decide_eq_false (by omega)
  have e2:decide (i>=2 ^ 63)=false:=decide_eq_false (by omega)
  rw[e1,e2,Bool.or_false]) (by rw[h1];simpa using h2) ⟨.str ⟨#[c]⟩,H,I.tok _,⟨_,rfl⟩,q⟩) hs
noncomputable def rIx(K:PySem.W.Frag):R2:=fun x y H Q=>AM K x y H Q\/BJ K x y H Q\/rIxS x y H Q
theorem wW:IxR X (rIx X.K):=ix_list.or (ix_tup.or wY)
theorem kZ(its:List Value)(n j:Nat)(u:Value):Obj.mapSeq (·.setIfInBounds j u) {cls:=.type "list",data:=.seq its.toArray n}={cls:=.type "list",data:=.seq (its.set j u).toArray n}:=by
 simp[Obj.mapSeq]
theorem Inv.lst{pins:List (Addr×Obj)}{σ:St}{H:Hp}{s:Shared}{p:Addr}{xs:List V}(I:Inv X pins σ H s)(h:H p=some (.lst xs)) :
  ∃(its:List Value) (n:Nat),Vals xs its/\s.heap.get? p=some {cls:=.type "list",data:=.seq its.toArray n}/\xs.length<=sizeLine:=by
 obtain⟨z,its,n,r,e⟩:=I.hok p _ h
 exact⟨its,n,r,e,z⟩
theorem Inv.lstUpd{pins:List (Addr×Obj)}{σ:St}{H:Hp}{s:Shared}{p:Addr}{xs ys:List V}{its its':List Value}{n n':Nat}{f:Obj->Obj}(I:Inv X pins σ H s)(h:H p=some (.lst xs))
  (ho:s.heap.get? p=some {cls:=.type "list",data:=.seq its.toArray n}) (hf:f {cls:=.type "list",data:=.seq its.toArray n}={cls:=.type "list",data:=.seq its'.toArray n'}) (r:Vals ys its') (hz:ys.length<=sizeLine) (t:Nat) :
  Inv X pins σ (upd H p (.lst ys)) {s with heap:=s.heap.update p f,toks:=t}:=by
 have e:(s.heap.update p f).get? p=some {cls:=.type "list",data:=.seq its'.toArray n'}:=by
  rw[Heap.get?_update_self f ho (by rw[hf]<;>rfl),hf]
 refine I.write (x:=p) (e:=p) (by rw[h];trivial) (.inl rfl) (fun b u hb q=>(Heap.get?_update_other _ _ (Ne.symm hb)).trans q) ⟨_,e⟩ ?_
 exact⟨hz,its',n',r,e⟩
noncomputable def rSetL:V->V->V->Hp->(Hp->Prop)->Prop:=fun o i v H Q=>∃p xs k j,o=.ref p/\i=.int k/\H p=some (.lst xs)/\ixN xs.length k=some j/\Q (upd H p (.lst (xs.set j v)))
theorem n8:u7 X rSetL:=by
 intro pins s σ H o i v ov iv u Q I ro ri rv h
 obtain⟨p,xs,k,j,rfl,rfl,hp,hj,q⟩:=h
 cases ro
 obtain⟨t,rfl⟩:=ri
 obtain⟨its,n,r,ho,hz⟩:=I.lst hp
 obtain⟨h1,h2,h3,h4⟩:=lJ hj
 have hl:=r.length
 have hn:=eV
 have I':Inv X pins σ (upd H p (.lst (xs.set j v))) {s with heap:=s.heap.update p (Obj.mapSeq (·.setIfInBounds j u))}:=
  I.lstUpd hp ho (kZ its n j u) (r.set rv j) (by rw[List.length_set];exact hz) s.toks
 by_cases h0:0<=k
 ·have hk:k.toNat=j:=by
   rw[seqIndex_of h0 h4]at h1
   exact Option.some.inj h1
  exact PySem.W.ki_setAt ho h0 (by omega) (by rw[List.size_toArray,<-hl];exact h4) (by rw[hk];exact⟨_,I',q⟩)
 ·have hk:(k+(its.toArray.size:Int)).toNat=j:=by
   rw[seqIndex_neg (by omega) h3]at h1
   rw[List.size_toArray,<-hl]
   exact Option.some.inj h1
  exact PySem.W.ki_setBack ho (by omega) (by rw[List.size_toArray,<-hl];exact h3) (by omega) (by rw[hk];exact⟨_,I',q⟩)
theorem jF(lo hi:Option Int)(n:Nat):(sliceBounds lo hi none n).1=((HT.sIx n 0 lo:Nat):Int)/\(sliceBounds lo hi none n).2.1=((HT.sIx n n hi:Nat):Int)/\(sliceBounds lo hi none n).2.2=1:=by
 refine⟨?_,?_,rfl⟩
 ·cases lo with
  |none=>simp[sliceBounds,HT.sIx]
  |some i=>
   simp only[sliceBounds,HT.sIx,Option.getD_none,show (1:Int) > 0 by decide,if_true]
   by_cases h:i < 0
   ·simp only[h,if_true]<;>omega
   ·simp only[h,if_false]<;>omega
 ·cases hi with
  |none=>simp[sliceBounds,HT.sIx]
  |some i=>
   simp only[sliceBounds,HT.sIx,Option.getD_none,show (1:Int) > 0 by decide,if_true]
   by_cases h:i < 0
   ·simp only[h,if_true]<;>omega
   ·simp only[h,if_false]<;>omega
theorem iE(its:List Value)(lo hi:Option Int):slicePick its.toArray lo hi none=((its.drop (HT.sIx its.length 0 lo)).take (HT.sIx its.length its.length hi - HT.sIx its.length 0 lo)).toArray:=by
 obtain⟨h1,h2,h3⟩:=jF lo hi its.toArray.size
 unfold slicePick
 rw[h1,h2,h3]
 simp only[sliceRange_one,pick_run,List.size_toArray]<;>rfl
theorem ji:CallR X (.builtin "len") (fun xs H Q=>∃p ys,xs=[.ref p]/\(SqL X.K H p ys\/SqT X.K H p ys)/\Q (.int ys.length) H):=by
 intro pins s σ H xs us Q I r h
 obtain⟨p,ys,rfl,hq,q⟩:=h
 obtain⟨u,rfl,rx⟩:=fM r
 cases rx
 have hn:=eV
 rcases hq with hq|hq
 ·obtain⟨its,r',pl,hz⟩:=I.list hq
  have hlen:=r'.length
  exact Calls.call_len_list pl.isList (by simp only[List.size_toArray]<;>omega) ⟨.int ys.length,H,I.tok _,⟨s.toks+1,by rw[List.size_toArray,hlen]⟩,q⟩
 ·obtain⟨its,r',pl,hz⟩:=I.tuple hq
  have hlen:=r'.length
  exact len_tuple pl (by simp only[List.size_toArray]<;>omega) ⟨.int ys.length,H,I.tok _,⟨s.toks+1,by rw[List.size_toArray,hlen]⟩,q⟩
theorem jh:CallR X (.builtin "len") (fun xs H Q=>∃z,xs=[.str z]/\z.length<=sizeLine/\Q (.int z.length) H):=by
 intro pins s σ H xs us Q I r h
 obtain⟨z,rfl,hz,q⟩:=h
 obtain⟨u,rfl,t,rfl⟩:=fM r
 have hn:=eV
 exact len_str (by omega) ⟨.int z.length,H,I.tok _,⟨_,rfl⟩,q⟩
theorem CallR.or{f:Value}{r r':List V->Hp->VK->Prop}(h:CallR X f r)(h':CallR X f r'):CallR X f (fun xs H Q=>r xs H Q\/r' xs H Q):=by
 intro pins s σ H xs us Q I rs q
 rcases q with q|q
 ·exact h pins s σ H xs us Q I rs q
 ·exact h' pins s σ H xs us Q I rs q
theorem jz:CallR X (.type "list") (fun xs H Q=>∃p ys,xs=[.ref p]/\(SqL X.K H p ys\/SqT X.K H p ys)/\∀l,H l=none->Q (.ref l) (upd H l (.lst ys))):=by
 intro pins s σ H xs us Q I r h
 obtain⟨p,ys,rfl,hq,q⟩:=h
 obtain⟨u,rfl,rx⟩:=fM r
 cases rx
 have fin:∀(its:List Value),Vals ys its->ys.length<=sizeLine->∀(h':Heap) (c':Nat),(∀b o',s.heap.get? b=some o'->h'.get? b=some o')->
   h'.get? s.heap.objs.size=some {cls:=.type "list",dict:=none,data:=.seq its.toArray c',slots:=#[]}->EP X pins σ Q (.ref s.heap.objs.size) {s with heap:=h'}:=fun its r' hz h' c' kp e=>
  ⟨.ref s.heap.objs.size,_,I.laid (t':=s.toks) kp (Nat.le_refl _) (show ObjOk X.prog X.w _ h' _ (.lst ys) from⟨hz,its,c',r',e⟩),rfl,q _ (I.hok.fresh (Nat.le_refl _))⟩
 rcases hq with hq|hq
 ·obtain⟨its,r',pl,hz⟩:=I.list hq
  have hlen:=r'.length
  obtain⟨o,ho,hc,n,hd⟩:=pl.isList
  exact call_list_seq p (.inl rfl) ho hc hd (fun h' c' kp e=>fin its r' hz h' c' kp e) (by simp only[List.size_toArray]<;>omega)
 ·obtain⟨its,r',pl,hz⟩:=I.tuple hq
  have hlen:=r'.length
  obtain⟨o,ho,hc,n,hd⟩:=pl
  exact call_list_seq p (.inr rfl) ho hc hd (fun h' c' kp e=>fin its r' hz h' c' kp e) (by simp only[List.size_toArray]<;>omega)
noncomputable def tyV(K:PySem.W.Frag)(T:String)(x:V)(H:Hp):Prop:=match x with
 |.str _=>T = "str"
 |.int _=>T = "int"
 |.ref p=>(T = "list"/\∃xs,SqL K H p xs)\/(T = "tuple"/\∃o,K.lookup p=some o/\o.cls=.type "tuple"/\o.dict=none)\/
   (T = "dict"/\((∃kvs,H p=some (.dK kvs))\/∃kvs,H p=some (.dT kvs)))\/(T = "set"/\∃S n,H p=some (.set S n))
 |_=>False
theorem vK{pins:List (Addr×Obj)}{σ:St}{H:Hp}{s:Shared}{T:String}{x:V}{v:Value}(I:Inv X pins σ H s)(r:RelV x v)(ty:tyV X.K T x H) :
  s.TypeIs v T/\∀a,v=.ref a->∃ob,s.heap.get? a=some ob/\ob.dict=none:=by
 cases x with
 |str z=>
  obtain⟨t,rfl⟩:=r
  cases (show T = "str" from ty)
  exact⟨typeIs_str s z t,fun _ e=>nomatch e⟩
 |int i=>
  obtain⟨t,rfl⟩:=r
  cases (show T = "int" from ty)
  exact⟨typeIs_int s i t,fun _ e=>nomatch e⟩
 |ref p=>
  cases r
  rcases ty with ⟨rfl,xs,hq⟩|⟨rfl,o,hk,hc,hd⟩|⟨rfl,hk⟩|⟨rfl,S,n,hk⟩
  ·obtain⟨its,_,pl,_⟩:=I.list hq
   refine⟨pl.isList.typeIs,fun a e=>?_⟩
   cases e
   obtain⟨o,n,e,c,hd,_⟩:=pl
   exact⟨o,e,hd⟩
  ·refine⟨⟨o,I.kIn p o hk,hc⟩,fun a e=>?_⟩
   cases e
   exact⟨o,I.kIn _ o hk,hd⟩
  ·have z:∃o,s.heap.get? p=some o/\o.ExactDict:=by
    rcases hk with ⟨kvs,hk⟩|⟨kvs,hk⟩
    ·obtain⟨_,_,_,_,o,_,_,e,ex,_⟩:=I.hok p _ hk
     exact⟨o,e,ex⟩
    ·obtain⟨_,_,_,_,o,_,_,e,ex,_⟩:=I.hok p _ hk
     exact⟨o,e,ex⟩
   obtain⟨o,e,ex⟩:=z
   refine⟨⟨o,e,ex.1⟩,fun a e2=>?_⟩
   cases e2
   exact⟨o,e,ex.2.1⟩
  ·obtain⟨o,_,_,_,e,ex,_⟩:=I.hok p _ hk
   refine⟨⟨o,e,ex.1⟩,fun a e2=>?_⟩
   cases e2
   exact⟨o,e,ex.2.1⟩
 |_=>exact False.elim ty
noncomputable def tBM(K:PySem.W.Frag)(T:String)(r:V->List V->Hp->VK->Prop)(to:TE)(t:TA):TE:=fun σ H Q=>to σ H fun x H1=>tyV K T x H1/\t σ H1 fun xs H2=>r x xs H2 Q
variable {o e:Expr}{es:List Expr}{to:TE}{t:TA}{name:Str}{apos cpos:Pos}{T id:String}{r:V->List V->Hp->VK->Prop}
theorem AG(pa:PlainAttrs T)(slot:Slot T name id)(hty:typeOf (.builtin id)=pure (.type "method_descriptor"))(hm:MtR X id r)(ho:PE X o to)(ha:PA X (e::es) t)
  (hbase:attributeBase o name X.env (eval o X.env)=eval o X.env:=by rfl)
  (hfew:((backTo cpos (starEach (e::es) X.env)).all (fun x=>!x.1)&&(backToKw cpos (keywordEach [] X.env)).all (fun x=>x.1.isSome)
   &&decide ((e::es).length+([]:List Keyword).length+(if ([]:List Keyword).isEmpty then 0 else 1) < 30))=true:=by rfl)
  (hline:(apos.endLine == cpos.line)=true:=by rfl) (hs:starEach (e::es) X.env=(false,eval e X.env)::starEach es X.env:=by rfl) (hplain:(backTo cpos (starEach es X.env)).any (·.1)=false:=by rfl) :
  PE X (.Call (.Attribute o name apos) (e::es) [] cpos) (tBM X.K T r to t):=by
 intro pins s σ H Q I h
 refine wpAny_Call_method_late hbase hfew hline rfl (thn (ho pins s σ H _ I h) fun v s1 ⟨x,H1,I1,r1,ty,q1⟩=>?_)
 obtain⟨h1,h2⟩:=vK I1 r1 ty
 refine⟨T,id,pa,slot,hty,h1,h2,?_⟩
 have hA:=ha cpos pins s1 σ H1 _ I1 q1
 rw[hs]at hA ⊢
 refine Calls.callWith_builtin (by show (false||(backTo cpos (starEach es X.env)).any (·.1))=false;rw[hplain]<;>rfl) (Calls.evalArgs_plain ?_)
 exact thn hA fun us s2 ⟨vs,H2,I2,r2,q2⟩=>hm pins s2 σ H2 x vs v us Q I2 r1 r2 q2
end
end L2
namespace L2
open PySem PySem.Spec PyProof.Rows
noncomputable def MtM(X:Cx)(id:String)(r:V->List V->Hp->VK->Prop):Prop:=
 ∀(pins:List (Addr×Obj)) (s:Shared) (σ:St) (H:Hp) (x:V) (xs:List V) (v:Value) (us:List Value) (Q:VK),Inv X pins σ H s->RelV x v->Vals xs us->r x xs H Q->
  wpAny (model X.prog X.w) X.A (call (.builtin id) (v::us)) (EP X pins σ Q) X.xe s
theorem Vals.one:∀{x:V}{us:List Value},Vals [x] us->∃u,us=[u]/\RelV x u
 |_,_,.cons r .nil=>⟨_,rfl,r⟩
theorem Vals.two:∀{x y:V}{us:List Value},Vals [x,y] us->∃u v,us=[u,v]/\RelV x u/\RelV y v
 |_,_,_,.cons r (.cons q .nil)=>⟨_,_,rfl,r,q⟩
theorem Vals.zero:∀{us:List Value},Vals [] us->us=[]
 |_,.nil=>rfl
theorem Vals.reverse{xs:List V}{us:List Value}(h:Vals xs us):Vals xs.reverse us.reverse:=by
 induction h with
 |nil=>exact .nil
 |cons r t ih=>rw[List.reverse_cons,List.reverse_cons];exact Vals.append ih (.cons r .nil)
theorem Vals.rep{xs:List V}{us:List Value}(h:Vals xs us):∀k:Nat,Vals (List.replicate k xs).flatten (List.replicate k us).flatten
 |0=>.nil
 |k+1=>by
  rw[List.replicate_succ,List.replicate_succ,List.flatten_cons,List.flatten_cons]
  exact Vals.append h (Vals.rep h k)
theorem i0(its:List Value):∀(k:Nat) (acc:List Value),
  List.foldl (fun x1 x2=>x1++x2) acc.toArray (List.replicate k its.toArray)=(acc++(List.replicate k its).flatten).toArray
 |0,acc=>by simp
 |k+1,acc=>by
  have e:acc.toArray++its.toArray=(acc++its).toArray:=by simp
  have e2:(acc++its)++(List.replicate k its).flatten=acc++(List.replicate (k+1) its).flatten:=by
   rw[List.replicate_succ,List.flatten_cons,List.append_assoc]
  rw[<-e2,<-i0 its k (acc++its),<-e,List.replicate_succ,List.foldl_cons]
section
variable {X:Cx}{pins:List (Addr×Obj)}{σ:St}{H:Hp}{s:Shared}{l b:Addr}{xs ys zs:List V}
theorem Inv.lset{its its':List Value}{n:Nat}{f:Array Value->Array Value}{t':Nat}(I:Inv X pins σ H s)(hH:H l=some (.lst xs))
  (e:s.heap.get? l=some {cls:=.type "list",data:=.seq its.toArray n}) (hf:f its.toArray=its'.toArray) (hv:Vals ys its') (hz:ys.length<=sizeLine) :
  Inv X pins σ (upd H l (.lst ys)) {s with heap:=s.heap.update l (Obj.mapSeq f),toks:=t'}:=by
 have q:=PySem.IsL.update e f
 rw[hf]at q
 refine I.write (x:=l) (e:=l) (by rw[hH];exact trivial) (.inl rfl) (fun b' u hb hu=>(Heap.get?_update_other s.heap (Obj.mapSeq f) (Ne.symm hb)).trans hu) ⟨_,q⟩ ?_
 exact⟨hz,its',_,hv,q⟩
theorem Inv.lnew{its:List Value}{t':Nat}(I:Inv X pins σ H s)(hv:Vals ys its)(hz:ys.length<=sizeLine) :
  Inv X pins σ (upd H s.heap.objs.size (.lst ys)) {s with heap:=s.heap.push {cls:=.type "list",data:=.seq its.toArray},toks:=t'}:=
 I.laid (fun _ _ q=>Heap.get?_push_of_some _ q) (Nat.le_refl _) ⟨hz,its,0,hv,Heap.get?_push_size _ rfl⟩
theorem Inv.fresh(I:Inv X pins σ H s):H s.heap.objs.size=none:=I.hok.fresh (Nat.le_refl _)
theorem Inv.lstM(I:Inv X pins σ H s)(hH:H l=some (.lst xs)):xs.length<=sizeLine/\∃(its:List Value) (n:Nat),Vals xs its/\xs.length=its.length/\s.heap.get? l=some {cls:=.type "list",data:=.seq its.toArray n}:=by
 obtain⟨z,its,n,r,e⟩:=I.hok l _ hH
 exact⟨z,its,n,r,r.length,e⟩
theorem oI{n:Nat}(h:n<=sizeLine):Builtin.List.listTooLong n=false:=by
 unfold Builtin.List.listTooLong
 exact decide_eq_false (by omega)
end
section
variable {X:Cx}
noncomputable def rAppend:V->List V->Hp->VK->Prop:=fun x vs H Q=>∃l xs y,x=.ref l/\vs=[y]/\H l=some (.lst xs)/\xs.length < sizeLine/\Q .non (upd H l (.lst (xs++[y])))
theorem jf:MtM X "list.append" rAppend:=by
 intro pins s σ H x vs v us Q I rx rv h
 obtain⟨l,xs,y,rfl,rfl,hH,hz,q⟩:=h
 cases rx
 obtain⟨u,rfl,ru⟩:=rv.one
 obtain⟨z,its,n,r,hl,e⟩:=I.lstM hH
 refine call_meets F.slot_list_append ⟨_,e,rfl⟩ F.entry_list_append (F.args_list_append_2 _ _) (PySem.list_append l its.toArray n u (by rw[List.size_toArray];omega)) ⟨e,?_⟩
 refine⟨.non,_,I.lset (its':=its++[u]) hH e (by simp) (r.append (.cons ru .nil)) ?_,rfl,q⟩
 rw[List.length_append,List.length_singleton]
 omega
theorem rN{α:Type}(xs:List α)(k:Nat):(List.replicate k xs).flatten.length=k * xs.length:=by
 induction k with
 |zero=>simp
 |succ k ih=>rw[List.replicate_succ,List.flatten_cons,List.length_append,ih,Nat.succ_mul,Nat.add_comm]
end
section
variable {prog:Program}{w:World}{A:Around}{E:Value->Shared->Prop}{s:Shared}
set_option maxRecDepth 100000 in
end
section
variable {X:Cx}
end
end L2
namespace Att
open PySem PySem.W PySem.Calls PyProof.Rows
theorem fQ{P:Params}{h:Heap}:∀(ns:List Int) (vs:List Value),WellAll P h vs (ns.map WData.int)->IntsAre vs ns:=by
 intro ns
 induction ns with
 |nil=>
  intro vs w
  rw[List.map_nil]at w
  cases w
  exact .nil
 |cons n ns ih=>
  intro vs w
  rw[List.map_cons]at w
  cases w with
  |cons a b=>
   cases a
   exact .cons _ _ (ih _ b)
theorem mw{l:OpenLaw}{n:Nat}(hn:l.most=some n){P:Params}{h:Heap}{args:List WData}{vals:List Value}
  (hpre:l.row.toRowW.claim.pre args=true) (hwl:WellAll P h vals args) :
  ∃a vs ns,vals=[Value.ref a]/\args=[WData.list (ns.map WData.int)]/\h.get? a=some {cls:=.type "list",data:=.seq vs.toArray}/\IntsAre vs ns/\ns.length<=n:=by
 have hsh:WShape.hasAll [] args [.list .int]=true:=(pre_splitW hpre).1
 have hc:l.pre.holds [] {args:=args}=true:=(pre_splitW hpre).2
 obtain⟨d,r,rfl,h1,h2⟩:=hasAllW_cons hsh
 obtain rfl:=hasAllW_nil h2
 obtain⟨xs,rfl,h3⟩:=hasW_list h1
 obtain⟨ns,rfl⟩:=items_int h3
 have hlen:ns.length<=n:=by
  unfold OpenLaw.pre at hc
  have h4:(WTm.not (.lt (.lit (.int (n:Int))) (.len (.arg 0)))).holds [] {args:=[.list (ns.map .int)]}=true:=by
   have h4:=(holds_andW hc).1
   rw[hn]at h4
   exact h4
  have h5:=condW_of h4 (w_not (w_lt w_lit (w_len_list (w_arg rfl))))
  rw[List.length_map]at h5
  refine Nat.le_of_not_lt fun q=>?_
  have q':(n:Int) < ((ns.length:Nat):Int):=by omega
  first
   |(rw[decide_eq_true q']at h5;exact absurd h5 (by decide))
   |(simp at h5;omega)
 cases hwl with
 |cons w1 w2=>
  cases w2
  cases w1 with
  |list ho hall=>exact⟨_,_,ns,rfl,rfl,ho,fQ ns _ hall,hlen⟩
theorem mv(l:OpenLaw)(args:List WData):l.row.toRowW.claim.post args (.bool true) args=true:=
 postW_of (r:=l.row.toRowW) (X:=(true == true))
  (show WShape.has [] (.bool true) .bool=true by first|rfl|decide|simp[WShape.has,WShape.arms,WShape.armsAll])
  (show (WTm.eq .res (.lit (.bool true))).value [] {args:=args,res:=some (.bool true),after:=args}=some (.bool (true == true)) from w_eq_bool (w_res rfl) w_lit) rfl
theorem attach_call{l:OpenLaw}{n:Nat}{q:Program}{loose:List Str}{XP:(Str->Option Value)->Heap->Prop}{YP:World->Heap->Prop}{d:DefRec}
  (hn:l.most=some n) (hdf:d.params.defaults=[])
  (call:∀(w:World) (s₀ s₁:Shared) (mg mb:Str->Option Value) (fa:Addr) (o:Obj) (pm cd doc:Value) (a:Addr) (vs:List Value) (ns:List Int),
   Ground q loose [] XP w s₀ mg mb s₁.heap->YP w s₁.heap->
   s₁.heap.get? fa=some o->o.data=.func (docDef d.name d.params d.body d.scope pm cd doc)->s₁.heap.CodeRec cd d.name->mg d.name=some (.ref fa)->
   s₁.heap.get? a=some {cls:=.type "list",data:=.seq vs.toArray}->IntsAre vs ns->ns.length<=n->s₁.gens=#[]->
   codeAny (model l.prog w) callerA (.call (.ref fa) ⟨[.ref a],[]⟩) (fun r s'=>r=.ok (.ret (.bool true))/\OldK s₁.heap s'.heap/\s'.os=s₁.os/\AllBare s'.gens) s₁) :
  WalkO q loose XP YP l.row.toRowW d [] (fun f vs=>PySem.call f vs):=by
 intro w s₀ s₁ mg mb G Y fa o pm cd doc dV kV ho hd hcd hD hmg hg args vals as hpre hlay hrd hwl hlo
 obtain rfl:dV=.none:=Dflts.none hD hdf
 obtain rfl:kV=.none:=Dflts.noKw hD
 obtain⟨a,vs,ns,rfl,rfl,hobj,hints,hlen⟩:=mw hn hpre hwl
 refine enter_call (codeAny_mono (call w s₀ s₁ mg mb fa o pm cd doc a vs ns G Y ho (fd_plain hd) hcd hmg hobj hints hlen hg) fun r s' hq=>?_)
 obtain⟨rfl,h2,h3,h4⟩:=hq
 exact⟨.inl ⟨.bool true,.bool true,[],rfl,fun _=>rfl,.bool true,mv l _,fun _=>⟨List.Pairwise.nil,fun _ hm=>(nomatch hm)⟩⟩,h2,h3,h4⟩
section
variable {prog:Program}{w:World}{A:Around}{E:Value->Shared->Prop}{s:Shared}{K:Frag}
end
end Att
namespace L2
open PySem PySem.Spec PyProof.Rows
theorem eW:∀{vs:List Value}{ns:List Int},IntsAre vs ns->Vals (ns.map V.int) vs
 |_,_,.nil=>.nil
 |_,_,.cons n t h=>.cons ⟨t,rfl⟩ (eW h)
noncomputable def zg(H:Hp):Prop:=∀b,H b=none\/∃o xs,H b=some (.frz o (.lst xs))
theorem pG{P:Program}{w:World}{K:PySem.W.Frag}{mg mb:Str->Option Value}{CX:CXT}{k:Nat}{fa a:Addr}{fd:FuncData}{x:Str}{sp:Sp}{s₁:Shared}{vs:List Value}{ns:List Int}
  (KX:K.In s₁.heap) (hns:s₁.heap.Ns mainGlobals mg) (hb:s₁.heap.Ns builtinsNs mb) (hbb:∀x:Str,x≠"__name__"->mb x=bootBuiltins x) (hlim:s₁.heap.NoLimit) (hg:s₁.gens=#[])
  (ha:s₁.heap.get? a=some {cls:=.type "list",data:=.seq vs.toArray}) (hi:IntsAre vs ns) (hl:ns.length<=sizeLine) (hr:Room k callerA)
  (F:∀base:Heap,K.In base->base.Ns mainGlobals mg->FnOk P w K mg base CX k fa fd [x] sp) (hbind:∀(s:Shared) (u:Value),BindsTo s fd ⟨[u],[]⟩ [(x,u)])
  (hsp:∀H:Hp,zg H->SqL K H a (ns.map V.int)->sp [.ref a] H (fun v _=>v=.bl true) fun _ _ _=>False)
  (hCX:∀H e s',CX [] H s₁ (fun _ _ _=>False) e s'->False) :
  codeAny (model P w) callerA (.call (.ref fa) ⟨[.ref a],[]⟩) (fun r s'=>r=.ok (.ret (.bool true))/\OldK s₁.heap s'.heap/\s'.os=s₁.os/\AllBare s'.gens) s₁:=by
 have rv:=eW hi
 have lenV:=hi.length
 have core:∀H:Hp,zg H->SqL K H a (ns.map V.int)->HOk P w H s₁.heap->(∀b,H b≠none->b=a)->(H a≠none->K.lookup a=none)->
   codeAny (model P w) callerA (.call (.ref fa) ⟨[.ref a],[]⟩) (fun r s'=>r=.ok (.ret (.bool true))/\OldK s₁.heap s'.heap/\s'.os=s₁.os/\AllBare s'.gens) s₁:=by
  intro H hO hS hok hA hK
  have base_of:∀{b:Addr}{o:Obj},s₁.heap.get? b=some o->H b=none->(jD s₁.heap H).get? b=some o:=fun e n=>pA e n
  have noA:∀{b:Addr}{o:Obj}{es:Array DictEntry}{ep:Nat},s₁.heap.get? b=some o->o.data=.dict es ep->H b=none:=fun {b o es ep} e d=>by
   cases q:H b with
   |none=>rfl
   |some u=>
    have e':b=a:=hA b (by rw[q];simp)
    subst e'
    rw[ha]at e;cases e
    have d':Data.seq vs.toArray _=Data.dict es ep:=d
    cases d'
  have nsK:∀{b:Addr}{m:Str->Option Value},s₁.heap.Ns b m->(jD s₁.heap H).Ns b m:=fun {b m} ⟨o,es,ep,e,d,r⟩=>⟨o,es,ep,base_of e (noA e d),d,r⟩
  have hKb:K.In (jD s₁.heap H):=fun b o e=>base_of (KX b o e) (by
   cases q:H b with
   |none=>rfl
   |some u=>
    have e':b=a:=hA b (by rw[q];simp)
    subst e'
    rw[hK (by rw[q];simp)]at e;cases e)
  have hM:Mod K mg (jD s₁.heap H):=⟨hKb,nsK hns,⟨mb,nsK hb,hbb⟩,let ⟨mc,h1,h2⟩:=hlim;⟨mc,nsK h1,h2⟩⟩
  have e0:Env0 P w K mg (jD s₁.heap H) callerA [] s₁ H:=⟨rfl,hM,fun b o e=>qh e,Nat.le_of_eq (nj _ _),trivial,fun b hb=>absurd (show b∈([]:List Addr) from hb) (by simp),hok,.of_eq hg⟩
  refine codeAny_mono ((F _ hKb (nsK hns)).run callerA [] s₁ H ⟨[.ref a],[]⟩ [.ref a] [.ref a] _ _ hr e0 (hbind s₁ (.ref a)) (.cons rfl .nil) (hsp H hO hS)) fun r s' h=>?_
  cases r with
  |error e=>exact (hCX H e s' h).elim
  |ok fl=>
   cases fl with
   |next=>exact False.elim h
   |brk=>exact False.elim h
   |cont=>exact False.elim h
   |ret u=>
    obtain⟨v,H',os,bare,un,hok',r',q⟩:=h
    have q':v=.bl true:=q
    subst q'
    obtain rfl:u=Value.bool true:=r'
    refine⟨rfl,OldK.of_keep fun b o e=>?_,os,bare⟩
    cases q:H b with
    |none=>exact un.keep b o e q (by intro z;exact absurd (show b∈([]:List Addr) from z) (by simp)) (by simp)
    |some u=>
     rcases hO b with z|⟨ob,xs,z⟩
     ·rw[q]at z;cases z
     ·have z2:=un.frzs b ob _ z
      obtain⟨e1,_⟩:=hok b _ z
      obtain⟨e2,_⟩:=hok' b _ z2
      rw[e]at e1;cases e1
      exact e2
 cases hk:K.lookup a with
 |some o=>
  have e:=KX a o hk
  rw[ha]at e
  cases e
  refine core (fun _=>none) (fun _=>.inl rfl) (.inr ⟨_,vs.toArray,_,hk,rfl,rfl,rfl,by rw[List.size_toArray,lenV];exact hl,by simpa using rv⟩) (fun b u z=>by have z':(none:Option HO)=some u:=z;cases z') (fun b z=>absurd rfl z) fun z=>absurd rfl z
 |none=>
  refine core (fun b=>if b=a then some (.frz {cls:=.type "list",data:=.seq vs.toArray} (.lst (ns.map V.int))) else none) (fun b=>?_) (.inl (.inr ⟨{cls:=.type "list",data:=.seq vs.toArray},if_pos rfl⟩)) (fun b u z=>?_) (fun b z=>?_) fun _=>hk
  ·by_cases hb:b=a
   ·exact .inr ⟨_,_,if_pos hb⟩
   ·exact .inl (if_neg hb)
  ·by_cases hb:b=a
   ·have z':=(if_pos hb).symm.trans z
    cases z'
    subst hb
    exact⟨ha,by rw[List.length_map];exact hl,vs,_,rv,ha⟩
   ·have z':=(if_neg hb).symm.trans z
    cases z'
  ·by_cases hb:b=a
   ·exact hb
   ·exact absurd (if_neg hb) z
end L2
namespace L2
open PySem PySem.Spec PyProof.Rows
end L2
namespace L2
open PySem PySem.Spec PyProof.Rows
noncomputable def af(s:Stmt)(j:Nat):Stmt:=match s with
 |.ClassDef _ _ _ body _ _ _ _ _ _ _=>body.getD j (.Pass ⟨0,0,0,0⟩)
 |_=>.Pass ⟨0,0,0,0⟩
noncomputable def eK(s:Stmt):Arguments:=match s with
 |.FunctionDef _ a _ _ _ _ _ _ _ _=>a
 |_=>{posonlyargs:=[],args:=[],vararg:=none,kwonlyargs:=[],kw_defaults:=[],kwarg:=none,defaults:=[]}
noncomputable def cP(s:Stmt):List Stmt:=match s with
 |.FunctionDef _ _ b _ _ _ _ _ _ _=>b
 |_=>[]
noncomputable def aR(s:Stmt):Scope:=match s with
 |.FunctionDef _ _ _ _ _ _ sc _ _ _=>sc
 |_=>{kind:=.function,names:=[],isGenerator:=false,isCoroutine:=false}
noncomputable abbrev CX0:CXT:=fun _ _ _ _ _ _=>False
structure Fun (K:PySem.W.Frag) (x qual:Str) (st:Stmt) (f:Addr) (fd:FuncData):Prop where
 ex:∃(oc:Value) (od:Option Addr) (kV doc pm:Value) (an:Option Addr) (cdv ct:Value) (osl:Array (Option Value)),
  fd=PySem.W.fnOf x qual (eK st) (cP st) (aR st) .none kV doc pm an cdv ct/\K.lookup f=some ⟨oc,od,.func fd,osl⟩/\PySem.W.codeIn K cdv qual=true
 kp:PySem.W.keepIn K (.ref f)=true
section
variable {P:Program}{w:World}{K:PySem.W.Frag}{mg:Str->Option Value}{base:Heap}
theorem Fun.ok{x qual:Str}{st:Stmt}{f:Addr}{fd:FuncData}{N ps:List Str}{k:Nat}{sp:Sp}(F:Fun K x qual st f fd)(S:FnScope N ps (aR st))(len:∀vs H Q E,sp vs H Q E->vs.length=ps.length)
  (hbody:∀(cdv:Value) (A:Around) (outer:List Env) (s:Shared) (H:Hp) (vs:List V) (Q:VK) (E:XK),Room k (A.deeper (envOfC qual (aR st) s.heap.objs.size f cdv))->sp vs H Q E->
   ∃t,PSs (cy CX0 P w K mg base N qual (aR st) f cdv A outer s H E).nox (cP st) t/\t {nx:=fun _ H'=>Q .non H',rt:=Q} (start N vs) H):FnOk P w K mg base CX0 (k+1) f fd ps sp:=by
 obtain⟨oc,od,kV,doc,pm,an,cdv,ct,osl,rfl,lk,hcd⟩:=F.ex
 refine sx lk hcd S len fun A outer s H vs Q E hr hsp=>?_
 obtain⟨t,h,q⟩:=hbody cdv A outer s H vs Q E hr hsp
 exact⟨t,h.nox,q⟩
end
section
variable {X:Cx}
end
noncomputable def Same(H H':Hp):Prop:=∀b o,H b=some o->H' b=some o
theorem Same.trans{H H1 H2:Hp}(a:Same H H1)(b:Same H1 H2):Same H H2:=fun c o h=>b c o (a c o h)
theorem Same.free{H H':Hp}(e:Same H H'){l:Addr}(h:H' l=Option.none):H l=Option.none:=by
 cases q:H l with
 |none=>rfl
 |some o=>
  rw[e l o q]at h
  cases h
theorem Same.seq{K:PySem.W.Frag}{H H':Hp}{a:Addr}{xs:List V}(e:Same H H')(h:SqL K H a xs):SqL K H' a xs:=by
 rcases h with (h|⟨o,h⟩)|h
 ·exact .inl (.inl (e _ _ h))
 ·exact .inl (.inr ⟨o,e _ _ h⟩)
 ·exact .inr h
section
variable {κ:Type} [DecidableEq κ]
end
end L2
set_option maxHeartbeats 4000000
namespace L2
open PySem PySem.Spec PyProof.Rows
noncomputable def DA(h:Heap)(e:Addr)(d:Option Addr):Prop:=∃o,h.get? e=some o/\o.dict=d
theorem hZ(f:Array Value->Array Value)(o:Obj):(Obj.mapFields f o).dict=o.dict:=by
 obtain⟨c,d,x,sl⟩:=o
 cases x<;>rfl
section
variable {M:Model}{A:Around}{E:Value->Shared->Prop}{s:Shared}{base:Heap}{env:Env}{outer l:List Env}{L e:Addr}{Q:Unit->Shared->Prop}
theorem lS{oe:Obj}{vs:Array Value}{head a0:Value}{hadNext:Bool}(hfr:A.frames=some (env::outer))(hl:s.heap.FunFrames base (env::outer))(hf:env.frame=some L)(he:s.heap.get? e=some oe)(hkb:base.StaysIn s.heap)(hen:base.get? e=none)
  (hd:oe.data=.fields vs) (hsz:1 < vs.size) (h0:vs[0]?=some a0) (k:∀h',Heap.NotedW base (env::outer) e oe.cls a0 (rawInt L) s.heap h'->DA h' e oe.dict->Q () {s with heap:=h'}) :
  wpAny M A (do let fr<-frameOf env;let pl<-entryPlaceOf L hadNext;let t<-EntryCells.newEntry head fr .none (rawInt L) .none pl;setField (.ref e) 1 t) Q E s:=by
 have out:e∉(env::outer).filterMap (·.frame):=fun z=>by
  obtain⟨_,o,ho,nf⟩:=hl.mem z
  cases he.symm.trans ho
  exact nf vs hd
 refine wpAny_bind (wpAny_frameOf_fun hfr hl hf fun g1 sl1=>wpAny_bind (wpAny_entryPlaceOf fun pl hpl=>?_))
 unfold EntryCells.newEntry newFields
 refine wpAny_bind (wpAny_newObj_type ?_ (hpl.sizeOk5 _ _ _ _ _))
 generalize hT:({cls:=.type "traceback",dict:=none,data:=.fields ([head,.ref L,.none,rawInt L,.none]++(if pl.isEmpty then List.replicate 6 Value.none else pl)).toArray}:Obj)=oT
 have e1:g1.get? e=some oe:=(sl1.2.1 e out).trans he
 have b1:base.StaysIn g1:=fun b o q=>(sl1.2.1 b fun z=>by rw[(hl.mem z).1]at q;cases q).trans (hkb b o q)
 have e2:(g1.push oT).get? e=some oe:=Heap.get?_push_of_some oT e1
 refine wpAny_setField e2 hd hsz (k _ ?_ ?_)
 ·have ne:g1.objs.size≠e:=Nat.ne_of_gt (Heap.lt_size e1)
  have d3:=Obj.data_mapFields hd (·.setIfInBounds 1 (Value.ref g1.objs.size))
  have e3:=Heap.get?_update_self (Obj.mapFields (·.setIfInBounds 1 (Value.ref g1.objs.size))) e2 (Obj.isFreed_of_fields d3)
  have t3:(g1.push oT).get? g1.objs.size=some oT:=Heap.get?_push_size g1 (by rw[<-hT];rfl)
  have t4:((g1.push oT).update e (Obj.mapFields (·.setIfInBounds 1 (Value.ref g1.objs.size)))).get? g1.objs.size=some oT:=(Heap.get?_update_other _ _ (Ne.symm ne)).trans t3
  have stay:∀b o,b≠e->g1.get? b=some o->((g1.push oT).update e (Obj.mapFields (·.setIfInBounds 1 (Value.ref g1.objs.size)))).get? b=some o:=fun b o n q=>
   (Heap.get?_update_other _ _ (Ne.symm n)).trans (Heap.get?_push_of_some oT q)
  have other:∀b o,s.heap.get? b=some o->(∀ws,o.data≠.fields ws)->b≠e:=fun b o q nf z=>by
   subst z
   cases he.symm.trans q
   exact nf vs hd
  refine⟨fun b o q=>stay b o (fun z=>by rw[z,hen]at q;cases q) (b1 b o q),hl.of_keeps fun b o q nf=>?_,⟨_,_,g1.objs.size,oT,_,e3,⟨Obj.cls_mapFields _ _,?_⟩,d3,by simp[hsz],b1.fresh,ne,t4,by rw[<-hT],?_⟩,fun b o q nf=>?_⟩
  ·obtain⟨sl,z⟩:=sl1.2.2 b o q
   exact⟨_,stay b _ (other b o q nf) z,rfl⟩
  ·rw[Array.getElem?_setIfInBounds_ne (by decide)];exact h0
  ·first|(simp;done)|(rcases hpl with rfl|⟨_,_,_,_,_,_,_,rfl⟩<;>simp)
  ·obtain⟨sl,z⟩:=sl1.2.2 b o q
   exact⟨sl,stay b _ (other b o q nf) z⟩
 ·have d3:=Obj.data_mapFields hd (·.setIfInBounds 1 (Value.ref g1.objs.size))
  exact⟨_,Heap.get?_update_self (Obj.mapFields (·.setIfInBounds 1 (Value.ref g1.objs.size))) e2 (Obj.isFreed_of_fields d3),hZ _ _⟩
theorem gT{cls a0 fl:Value}{d:Option Addr}(hkb:base.StaysIn s.heap)(hl:s.heap.FunFrames base l)(ht:s.heap.TracedAtW base e cls a0 fl)(hd:DA s.heap e d)
  (k:∀h',base.StaysIn h'->h'.FunFrames base l->h'.TracedW base e cls a0->s.heap.UpToSlots h'->DA h' e d->Q () {s with heap:=h'}):wpAny M A (setFlight (.ref e) none) Q E s:=by
 obtain⟨oe,vs,T,oT,ts,he,hc,hv,h1,nT,ne,hT,dT,h3⟩:=ht
 obtain⟨oe',he',hd⟩:=hd
 cases he.symm.trans he'
 have sz:3 < ts.size:=(Array.getElem?_eq_some_iff.mp h3).1
 unfold setFlight
 refine wpAny_bind (wpAny_field he hv h1 ?_)
 rw[if_pos (by simp:(Value.ref T != Value.none)=true)]
 have oth:∀b,b≠T->(s.heap.update T (Obj.mapFields (·.setIfInBounds 3 ((none:Option Addr).elim Value.none fun f=>rawInt f)))).get? b=s.heap.get? b:=fun b n=>Heap.get?_update_other _ _ (Ne.symm n)
 have plain:∀b o,s.heap.get? b=some o->(∀ws,o.data≠.fields ws)->b≠T:=fun b o q nf z=>by
  subst z
  cases hT.symm.trans q
  exact nf ts dT
 have ee:=(oth e (Ne.symm ne)).trans he
 refine wpAny_setField hT dT sz (k _ (fun b o q=>(oth b fun z=>by rw[z,nT]at q;cases q).trans (hkb b o q)) (hl.of_keeps fun b o q nf=>⟨o,(oth b (plain b o q nf)).trans q,rfl⟩) ⟨oe,vs,T,_,_,ee,hc,hv,h1,nT,ne,Heap.get?_update_self _ hT (Obj.isFreed_of_fields (Obj.data_mapFields dT _)),Obj.data_mapFields dT _,by simp[sz]⟩
  (fun b o q nf=>⟨o.slots,(oth b (plain b o q nf)).trans q⟩) ⟨oe,ee,hd⟩)
theorem pJ{cls a0:Value}{d:Option Addr}(hfr:A.frames=some (env::outer))(hf:env.frame=some L)(fl:Heap.FlyingW base (env::outer) e cls a0 s.heap)(hd:DA s.heap e d)
  (k:∀h',Heap.HeldW base (env::outer) e cls a0 L h'->s.heap.UpToSlots h'->DA h' e d->Q () {s with heap:=h'}):wpAny M A (noteFrame (.ref e) env) Q E s:=by
 obtain⟨hkb,hen,hl,oe,vs,T,oT,ts,he,⟨rfl,h0⟩,hv,h1,nT,ne,hT,dT,h3⟩:=fl
 obtain⟨oe',he',rfl⟩:=hd
 cases he.symm.trans he'
 unfold noteFrame
 simp only[hf]
 refine wpAny_bind (wpAny_field he hv h1 ?_)
 rw[if_pos (by simp:(Value.ref T != Value.none)=true)]
 refine wpAny_bind (wpAny_field hT dT h3 ?_)
 rw[if_neg (by simp[rawInt]:¬ ((Value.none == rawInt L)=true))]
 refine wpAny_bind (wpAny_setField hT dT (Array.getElem?_eq_some_iff.mp h3).1 ?_)
 have oth:∀b,b≠T->(s.heap.update T (Obj.mapFields (·.setIfInBounds 3 Value.none))).get? b=s.heap.get? b:=fun b n=>Heap.get?_update_other _ _ (Ne.symm n)
 have plain:∀b o,s.heap.get? b=some o->(∀ws,o.data≠.fields ws)->b≠T:=fun b o q nf z=>by
  subst z
  cases hT.symm.trans q
  exact nf ts dT
 exact lS hfr (hl.of_keeps fun b o q nf=>⟨o,(oth b (plain b o q nf)).trans q,rfl⟩) hf ((oth e (Ne.symm ne)).trans he) (fun b o q=>(oth b fun z=>by rw[z,nT]at q;cases q).trans (hkb b o q)) hen hv (Array.getElem?_eq_some_iff.mp h1).1 h0
  fun h' ⟨x1,x2,x3,x4⟩ dd=>k h' ⟨x1,hen,x2,x3⟩ (fun b o q nf=>x4 b o ((oth b (plain b o q nf)).trans q) nf) dd
theorem mo{cls a0:Value}{d:Option Addr}(hh:Heap.HeldW base l e cls a0 L s.heap)(hd:DA s.heap e d)(k:∀h',Heap.FlyingW base l e cls a0 h'->s.heap.UpToSlots h'->DA h' e d->Q () {s with heap:=h'}):wpAny M A (setFlight (.ref e) none) Q E s:=
 gT hh.1 hh.2.2.1 hh.2.2.2 hd fun h' k1 k2 k3 k4 k5=>k h' ⟨k1,hh.2.1,k2,k3⟩ k4 k5
theorem lM{cls a0:Value}{d:Option Addr}(fl:Heap.FlyingW base l e cls a0 s.heap)(hd:DA s.heap e d)(k:∀h',Heap.FlyingW base l e cls a0 h'->s.heap.UpToSlots h'->DA h' e d->Q () {s with heap:=h'}):wpAny M A (setFlight (.ref e) none) Q E s:=
 gT fl.1 fl.2.2.1 fl.2.2.2.at hd fun h' k1 k2 k3 k4 k5=>k h' ⟨k1,fl.2.1,k2,k3⟩ k4 k5
theorem di{h:Heap}(x:h.FunFrames base (env::outer)):h.FunFrames base outer:=x.2.2
theorem nW{cls a0:Value}{d:Option Addr}(hfr:A.frames=some (env::outer))(hf:env.frame=some L)(fl:Heap.FlyingW base (env::outer) e cls a0 s.heap)(hd:DA s.heap e d)
  (k:∀h',Heap.FlyingW base outer e cls a0 h'->s.heap.UpToSlots h'->DA h' e d->Q () {s with heap:=h'}):wpAny M A (leaving env (.ref e)) Q E s:=by
 unfold leaving
 refine wpAny_bind (pJ hfr hf fl hd fun h1 x1 u1 d1=>mo x1 d1 fun h2 x2 u2 d2=>k h2 ⟨x2.1,x2.2.1,di x2.2.2.1,x2.2.2.2⟩ (u1.trans u2) d2)
theorem qY{oe:Obj}{vs:Array Value}{a0:Value}(hfr:A.frames=some (env::outer))(hf:env.frame=some L)(hkb:base.StaysIn s.heap)(hl:s.heap.FunFrames base (env::outer))(he:s.heap.get? e=some oe)(hen:base.get? e=none)(hv:oe.data=.fields vs)(h0:vs[0]?=some a0)(h1:vs[1]?=some .none)
  (k:∀h',Heap.FlyingW base outer e oe.cls a0 h'->s.heap.UpToSlots h'->DA h' e oe.dict->Q () {s with heap:=h'}):wpAny M A (leaving env (.ref e)) Q E s:=by
 unfold leaving noteFrame
 simp only[hf]
 refine wpAny_bind (wpAny_bind (wpAny_field he hv h1 ?_))
 rw[if_neg (by decide)]
 refine lS hfr hl hf he hkb hen hv (Array.getElem?_eq_some_iff.mp h1).1 h0 fun h1 x1 d1=>?_
 exact gT x1.1 x1.2.1 x1.2.2.1 d1 fun h2 k1 k2 k3 k4 k5=>k h2 ⟨k1,hen,di k2,k3⟩ (Heap.UpToSlots.trans x1.2.2.2 k4) k5
end
end L2
namespace L2
open PySem PySem.Spec PyProof.Rows
section
variable {P:Program}{w:World}{H H':Hp}{h h':Heap}{a:Addr}{o:HO}
theorem ObjOk.isAt(x:ObjOk P w H h a o):∃ob,h.get? a=some ob:=by
 cases o with
 |lst xs=>obtain⟨_,_,_,_,e⟩:=x;exact⟨_,e⟩
 |tup xs=>obtain⟨_,_,_,ob,e,_⟩:=x;exact⟨_,e⟩
 |dK kvs=>obtain⟨_,_,_,_,ob,_,_,e,_⟩:=x;exact⟨_,e⟩
 |dT kvs=>obtain⟨_,_,_,_,ob,_,_,e,_⟩:=x;exact⟨_,e⟩
 |set S n=>obtain⟨ob,_,_,_,e,_⟩:=x;exact⟨_,e⟩
 |ins C dx fs=>obtain⟨_,_,_,e,_⟩:=x;exact⟨_,e⟩
 |own y=>exact x
 |xd fs=>obtain⟨_,⟨ob,_,_,e,_⟩,_⟩:=x;exact⟨_,e⟩
 |rng lo hi=>obtain⟨_,_,_,e⟩:=x;exact⟨_,e⟩
 |frz ob u=>exact⟨_,x.1⟩
 |tbl ps=>exact⟨_,x⟩
 |met f y=>exact⟨_,x⟩
 |ext φ=>exact x.2.1
theorem HOk.keptT(x:HOk P w H h)(k:∀b u ob,H b=some u->h.get? b=some ob->h'.get? b=some ob):HOk P w H h':=fun a o e=>
 (x a o e).stay (fun b u hb q=>hb.elim (fun z=>by subst z;exact k _ _ _ e q) (fun z=>k _ _ _ z q)) (fun _ q=>q) fun _ _ q=>q
end
noncomputable def Fly(B:Heap)(l:List Env)(a:Addr)(cls:Value)(h:Heap):Prop:=∃a0,Heap.FlyingW B l a cls a0 h
noncomputable def Within(B:Heap)(l:List Env)(hs:Heap)(H':Hp)(h':Heap):Prop:=
 ∀b ob,h'.get? b=some ob->(H' b≠none\/((∃o',hs.get? b=some o')/\b∉frs l))->B.get? b=some ob
noncomputable def CX1(P:Program)(w:World):CXT:=fun outer H s E e s'=>
 ∃(a:Addr) (cls:Value) (B:Heap) (H':Hp) (dx:Option Addr),e=.ref a/\s'.os=s.os/\AllBare s'.gens/\Un (frs outer) [] H H' s.heap s'.heap/\HOk P w H' s'.heap/\
  (Fly B outer a cls s'.heap/\DA s'.heap a dx)/\H' a=none/\Within B outer s.heap H' s'.heap/\E cls dx H'
theorem Inv.notrk{X:Cx}{pins:List (Addr×Obj)}{σ:St}{H:Hp}{s:Shared}(I:Inv X pins σ H s){e:Addr}(hn:s.heap.get? e=none):H e=none:=by
 cases q:H e with
 |none=>rfl
 |some u=>
  obtain⟨ob,z⟩:=(I.hok e u q).isAt
  rw[hn]at z;cases z
theorem Inv.oldNe{X:Cx}{pins:List (Addr×Obj)}{σ:St}{H:Hp}{s:Shared}(I:Inv X pins σ H s){b:Addr}{o:Obj}(q:X.s₀.heap.get? b=some o)(hb:b∉X.fs):b∉frs X.stack:=fun hm=>by
 rcases List.mem_cons.mp (I.stkSub b hm) with z|z
 ·have:=Nat.lt_of_lt_of_le (Heap.lt_size q) I.ok.above
  rw[z]at this
  exact absurd this (Nat.lt_irrefl _)
 ·exact hb z
section
variable {P:Program}{w:World}{K:PySem.W.Frag}{mg:Str->Option Value}{base:Heap}{N:List Str}{qual:Str}{scope:Scope}{f:Addr}{cd:Value}{A:Around}{outer:List Env}{s:Shared}{H:Hp}{E:XK}
theorem i6{pins:List (Addr×Obj)}{σ:St}{H1:Hp}{s1:Shared}{e:Addr}{oe:Obj}{vs:Array Value}{a0:Value}{h':Heap}
  (I:Inv (cy (CX1 P w) P w K mg base N qual scope f cd A outer s H E) pins σ H1 s1) (hk:∀b o,s1.heap.get? b=some o->b≠e->h'.get? b=some o) (hke:∀o,s1.heap.get? e=some o->∃vs,o.data=.fields vs) (hnt:H1 e=none) (hno:s.heap.get? e=none)
  (hoe:h'.get? e=some oe) (hv:oe.data=.fields vs) (hv0:vs[0]?=some a0) (hv1:vs[1]?=some .none) (he:E oe.cls oe.dict H1) :
  (cy (CX1 P w) P w K mg base N qual scope f cd A outer s H E).xe (.ref e) {s1 with heap:=h'}:=by
 have hfr:((cy (CX1 P w) P w K mg base N qual scope f cd A outer s H E).A).frames=some (envOfC qual scope s.heap.objs.size f cd::outer):=I.ok.frames
 have hl:s1.heap.FunFrames base (envOfC qual scope s.heap.objs.size f cd::outer):=I.stack
 have hin:∀env∈(envOfC qual scope s.heap.objs.size f cd::outer),∀b,env.frame=some b->b∈e::frs (envOfC qual scope s.heap.objs.size f cd::outer):=fun env he b hb=>List.mem_cons_of_mem _ (List.mem_filterMap.mpr ⟨env,he,hb⟩)
 have hB:∀b o,(PySem.W.hideAll s1.heap (e::frs (envOfC qual scope s.heap.objs.size f cd::outer))).get? b=some o->s1.heap.get? b=some o/\b≠e:=fun b o q=>⟨PySem.W.of_hideAll _ q,fun z=>by
  subst z
  rw[PySem.W.hideAll_none _ List.mem_cons_self]at q;cases q⟩
 have hff:s1.heap.FunFrames (PySem.W.hideAll s1.heap (e::frs (envOfC qual scope s.heap.objs.size f cd::outer))) (envOfC qual scope s.heap.objs.size f cd::outer):=PySem.W.funFrames_hide hl hin
 show wpAny _ _ (leaving _ _) _ _ _
 refine qY (base:=PySem.W.hideAll s1.heap (e::frs (envOfC qual scope s.heap.objs.size f cd::outer))) hfr rfl (fun b o q=>hk b o (hB b o q).1 (hB b o q).2) (hff.of_keeps fun b o q nf=>⟨o,hk b o q (fun z=>by
  subst z
  obtain⟨ws,dw⟩:=hke o q
  exact nf ws dw),rfl⟩) hoe (PySem.W.hideAll_none _ List.mem_cons_self) hv hv0 hv1 fun h2 fl up dd=>?_
 have tB:∀b u ob,H1 b=some u->s1.heap.get? b=some ob->(PySem.W.hideAll s1.heap (e::frs (envOfC qual scope s.heap.objs.size f cd::outer))).get? b=some ob:=fun b u ob hb q=>
  PySem.W.hideAll_get _ q fun hm=>by
   rcases List.mem_cons.mp hm with z|hm
   ·rw[z,hnt]at hb;cases hb
   ·have z:=I.stkFree b hm
    rw[hb]at z;cases z
 have one:∀b o,s.heap.get? b=some o->b≠e:=fun b o q z=>by rw[z,hno]at q;cases q
 have oB:∀b o ob,s.heap.get? b=some o->b∉frs outer->s1.heap.get? b=some ob->(PySem.W.hideAll s1.heap (e::frs (envOfC qual scope s.heap.objs.size f cd::outer))).get? b=some ob:=fun b o ob q hb q1=>
  PySem.W.hideAll_get _ q1 fun hm=>(List.mem_cons.mp hm).elim (one b o q) (I.oldNe q hb)
 have st:=fl.1
 have slot:∀b o,s.heap.get? b=some o->H b=none->b∈frs outer->∃sl,h2.get? b=some {o with slots:=sl}:=fun b o q n hb=>by
  obtain⟨sl,e1⟩:=I.base.slot b o q n hb (fun z=>nomatch z)
  obtain⟨_,o2,e2,nf⟩:=I.ok.funs.mem hb
  have e3:o2=o:=Option.some.inj (e2.symm.trans q)
  subst e3
  obtain⟨sl2,e4⟩:=up b _ (hk _ _ e1 (one b _ q)) nf
  exact⟨sl2,e4⟩
 refine⟨e,oe.cls,_,H1,oe.dict,rfl,I.os,I.bare,⟨fun b o q n hb _=>?_,fun b o q n hb _=>slot b o q n hb,fun b o q n _=>I.base.free b o q n (fun z=>nomatch z),fun b o q _=>?_,I.base.tups,I.base.frzs,I.base.tbls⟩,?_,⟨⟨_,fl⟩,dd⟩,hnt,fun b ob q hb=>?_,he⟩
 ·exact st b o (oB b o o q hb (I.base.keep b o q n hb (fun z=>nomatch z)))
 ·by_cases hb:b∈frs outer
  ·obtain⟨sl,z⟩:=slot b o q (I.ok.frf b hb) hb
   exact⟨_,z⟩
  ·obtain⟨o',e1⟩:=I.base.there b o q (fun z=>nomatch z)
   exact⟨o',st b o' (oB b o o' q hb e1)⟩
 ·exact I.hok.keptT fun b u ob hb q=>st b ob (tB b u ob hb q)
 ·rcases hb with hb|⟨⟨o',ho'⟩,hb⟩
  ·cases z:H1 b with
   |none=>exact absurd z hb
   |some u=>
    obtain⟨o1,e1⟩:=(I.hok b u z).isAt
    have e2:=tB b u o1 z e1
    have e3:o1=ob:=Option.some.inj ((st b o1 e2).symm.trans q)
    rw[<-e3];exact e2
  ·obtain⟨o1,e1⟩:=I.base.there b o' ho' (fun z=>nomatch z)
   have e2:=oB b o' o1 ho' hb e1
   have e3:o1=ob:=Option.some.inj ((st b o1 e2).symm.trans q)
   rw[<-e3];exact e2
theorem nz{pins:List (Addr×Obj)}{σ:St}{H1:Hp}{s1:Shared}{e:Addr}{cls:Value}{args:List Value}{h':Heap}
  (I:Inv (cy (CX1 P w) P w K mg base N qual scope f cd A outer s H E) pins σ H1 s1) (hx:Heap.MadeExcOf s1.heap h' e cls args) (he:E cls none H1) :
  (cy (CX1 P w) P w K mg base N qual scope f cd A outer s H E).xe (.ref e) {s1 with heap:=h'}:=by
 obtain⟨t,e1,_,_⟩:=hx.there
 refine i6 I (fun b o q _=>hx.keeps b o q) (fun o q=>by rw[hx.new]at q;cases q) (I.notrk hx.new) ?_ e1 rfl rfl rfl he
 cases q:s.heap.get? e with
 |none=>rfl
 |some o=>
  obtain⟨o1,z⟩:=I.base.there e o q (fun z=>nomatch z)
  rw[hx.new]at z;cases z
theorem pF{E':XK}{pins:List (Addr×Obj)}{σ:St}{H1:Hp}{s1:Shared}{e:Value}{s':Shared}(hE:∀c d H',E' c d H'->E c d H')
  (I:Inv (cy (CX1 P w) P w K mg base N qual scope f cd A outer s H E) pins σ H1 s1) (hc:CX1 P w (envOfC qual scope s.heap.objs.size f cd::outer) H1 s1 E' e s') :
  (cy (CX1 P w) P w K mg base N qual scope f cd A outer s H E).xe e s':=by
 obtain⟨a,cls,B,H2,dx,rfl,os,bare,un,hok,⟨⟨a0,fl⟩,dd⟩,ha,inc,he⟩:=hc
 have hfr:((cy (CX1 P w) P w K mg base N qual scope f cd A outer s H E).A).frames=some (envOfC qual scope s.heap.objs.size f cd::outer):=I.ok.frames
 show wpAny _ _ (leaving _ _) _ _ _
 refine nW hfr rfl fl dd fun h2 fl2 up dd2=>?_
 have st:=fl2.1
 have nil:∀b:Addr,b∉([]:List Addr):=fun b z=>nomatch z
 have slot:∀b o,s.heap.get? b=some o->H b=none->b∈frs outer->∃sl,h2.get? b=some {o with slots:=sl}:=fun b o q n hb=>by
  obtain⟨sl,e1⟩:=I.base.slot b o q n hb (nil b)
  obtain⟨sl1,e2⟩:=un.any e1 (I.base.free b o q n (nil b)) (nil b)
  obtain⟨_,o2,e3,nf⟩:=I.ok.funs.mem hb
  have e4:o2=o:=Option.some.inj (e3.symm.trans q)
  subst e4
  obtain⟨sl2,e5⟩:=up b _ e2 nf
  exact⟨sl2,e5⟩
 have old:∀b o,s.heap.get? b=some o->b∉frs outer->∃ob,s'.heap.get? b=some ob/\B.get? b=some ob:=fun b o q hb=>by
  obtain⟨o1,e1⟩:=I.base.there b o q (nil b)
  obtain⟨o2,e2⟩:=un.there b o1 e1 (nil b)
  exact⟨o2,e2,inc b o2 e2 (.inr ⟨⟨o1,e1⟩,I.oldNe q hb⟩)⟩
 refine⟨a,cls,B,H2,dx,rfl,os.trans I.os,bare,⟨fun b o q n hb _=>?_,fun b o q n hb _=>slot b o q n hb,fun b o q n _=>?_,fun b o q _=>?_,fun b xs q=>un.tups b xs (I.base.tups b xs q),fun b o u q=>un.frzs b o u (I.base.frzs b o u q),fun b ps q=>?_⟩,?_,⟨⟨a0,fl2⟩,dd2⟩,ha,fun b ob q hb=>?_,hE _ _ _ he⟩
 ·have e1:=I.base.keep b o q n hb (nil b)
  have e2:=un.keep b o e1 (I.base.free b o q n (nil b)) (I.oldNe q hb) (nil b)
  exact st b o (inc b o e2 (.inr ⟨⟨o,e1⟩,I.oldNe q hb⟩))
 ·obtain⟨o1,e1⟩:=I.base.there b o q (nil b)
  exact un.free b o1 e1 (I.base.free b o q n (nil b)) (nil b)
 ·by_cases hb:b∈frs outer
  ·obtain⟨sl,z⟩:=slot b o q (I.ok.frf b hb) hb
   exact⟨_,z⟩
  ·obtain⟨ob,_,e2⟩:=old b o q hb
   exact⟨ob,st b ob e2⟩
 ·obtain⟨m1,e1⟩:=I.base.tbls b ps q
  obtain⟨m2,e2⟩:=un.tbls b _ e1
  exact⟨m1++m2,by rw[e2,Array.append_assoc]⟩
 ·exact hok.keptT fun b u ob hb q=>st b ob (inc b ob q (.inl (by rw[hb];exact fun z=>nomatch z)))
 ·rcases hb with hb|⟨⟨o',ho'⟩,hb⟩
  ·cases z:H2 b with
   |none=>exact absurd z hb
   |some u=>
    obtain⟨o1,e1⟩:=(hok b u z).isAt
    have e2:=inc b o1 e1 (.inl hb)
    have e3:o1=ob:=Option.some.inj ((st b o1 e2).symm.trans q)
    rw[<-e3];exact e2
  ·obtain⟨o1,e1,e2⟩:=old b o' ho' hb
   have e3:o1=ob:=Option.some.inj ((st b o1 e2).symm.trans q)
   rw[<-e3];exact e2
theorem Af:ui (CX1 P w) (cy (CX1 P w) P w K mg base N qual scope f cd A outer s H E) E:=fun _ _ _ _ _ _ I h=>pF (fun _ _ _ z=>z) I h
theorem FC:PassesOwn (model P w) (cy (CX1 P w) P w K mg base N qual scope f cd A outer s H E).A (cy (CX1 P w) P w K mg base N qual scope f cd A outer s H E).env (cy (CX1 P w) P w K mg base N qual scope f cd A outer s H E).xe:=
 PassesOwn.leaving
end
noncomputable def jH(X:Cx)(E:XK):Prop:=∀(pins:List (Addr×Obj)) (σ:St) (H:Hp) (s:Shared) (e:Addr) (cls:Value) (args:List Value) (h':Heap),Inv X pins σ H s->Heap.MadeExcOf s.heap h' e cls args->E cls none H->X.xe (.ref e) {s with heap:=h'}
noncomputable def lU(X:Cx)(E:XK):Prop:=∀(pins:List (Addr×Obj)) (σ:St) (H:Hp) (s:Shared) (e:Addr) (oe:Obj) (vs:Array Value) (a0:Value),Inv X pins σ H s->H e=none->X.s₀.heap.get? e=none->s.heap.get? e=some oe->oe.data=.fields vs->vs[0]?=some a0->vs[1]?=some .none->E oe.cls oe.dict H->X.xe (.ref e) s
theorem oj{P:Program}{w:World}{K:PySem.W.Frag}{mg:Str->Option Value}{base:Heap}{N:List Str}{qual:Str}{scope:Scope}{f:Addr}{cd:Value}{A:Around}{outer:List Env}{s:Shared}{H:Hp}{E:XK} :
  lU (cy (CX1 P w) P w K mg base N qual scope f cd A outer s H E) E:=fun _ _ _ s1 e oe vs a0 I ht h0 hoe hv v0 v1 he=>i6 (h':=s1.heap) I (fun _ _ q _=>q) (fun o q=>by
 cases hoe.symm.trans q
 exact⟨vs,hv⟩) ht h0 hoe hv v0 v1 he
theorem rk{P:Program}{w:World}{K:PySem.W.Frag}{mg:Str->Option Value}{base:Heap}{N:List Str}{qual:Str}{scope:Scope}{f:Addr}{cd:Value}{A:Around}{outer:List Env}{s:Shared}{H:Hp}{E:XK} :
  jH (cy (CX1 P w) P w K mg base N qual scope f cd A outer s H E) E:=fun _ _ _ _ _ _ _ _ I hx he=>nz I hx he
abbrev bmV:List Value:=[.type "ValueError",.type "Exception",.type "BaseException",.type "object"]
noncomputable def qL(K:PySem.W.Frag)(C:Addr):Prop:=PySem.W.excIn K C bmV "ValueError.__new__"=true
noncomputable def xt(E:XK)(C:Addr)(t:TA):TS:=fun _ σ H=>t σ H fun vs H1=>vs.length<=sizeLine/\E (.ref C) none H1
theorem rS{K:PySem.W.Frag}{h:Heap}{C:Addr}{bmB:List Value}{nid:String}(X:K.In h)(z:PySem.W.excIn K C bmB nid=true) :
  ∃bm M nm qn bs b1 sn sb b2 co dd x0 x1 x2 x3 x5 mN,h.get? C=some (excClassObj nm qn C M bs bm b1 sn sb b2 co dd x0 x1 x2 x3 x5 nid)/\h.Ns M mN/\mN "__init__"=none/\OwnTail h bmB bm:=by
 unfold PySem.W.excIn at z
 split at z
 next dd cd sl ho=>
  split at z
  next C' bm x0 x1 x2 x3 n x5 hm hs=>
   rw[Bool.and_eq_true,Bool.and_eq_true,Bool.and_eq_true,Bool.and_eq_true,Bool.and_eq_true,beq_iff_eq,beq_iff_eq,beq_iff_eq]at z
   have z1:=z.1.1.1.1.1
   have z2:=z.1.1.1.1.2
   have z3:=z.1.1.1.2
   have z4:=z.1.1.2
   have z5:=z.1.2
   have z6:=z.2
   subst z1;subst z2
   cases cd with
   |mk nm bs mro ns qn hd sn sub ab col del=>
    cases hm
    cases del with
    |true=>cases z3
    |false=>
     have es:sl=#[x0,x1,x2,x3,some (.builtin n),x5]:=by
      cases sl with
      |mk l=>cases hs;rfl
     subst es
     exact⟨bm,ns,nm,qn,bs,hd,sn,sub,ab,col,dd,x0,x1,x2,x3,x5,_,X _ _ ho,.of_isNs (PySem.W.isNs_of_in X z5),PySem.W.nsMap_none_of_in X z5 z6,PySem.W.tail_of_in X z4⟩
  next=>cases z
 next=>cases z
section
variable {X:Cx}{x:Str}{C:Addr}{e:Expr}{es:List Expr}{t:TA}{np cpos pos:Pos}{E:XK}
theorem om(hx:jH X E)(hc:X.calm=true)(hg:Gl X x)(hm:X.mg x=some (.ref C))(q:qL X.K C)(ha:PA X (e::es) t)(hdb:(x == ("__debug__" : Str))=false:=by decide)
  (he:starEach (e::es) X.env=(false,eval e X.env)::starEach es X.env:=by rfl) (hpl:(backTo cpos (starEach es X.env)).any (·.1)=false:=by rfl) :
  PS X (.Raise (some (.Call (.Name x np) (e::es) [] cpos)) none pos) (xt E C t):=by
 intro pins s σ H D I h
 obtain⟨bm,M,nm,qn,bs,b1,sn,sb,b2,co,dd,x0,x1,x2,x3,x5,mN,hC,hN,hni,T⟩:=rS I.ok.mod.kin q
 refine wpAny_Raise_call_subT (C:=C) (nm:=nm) (q:=qn) (N:=M) (bs:=bs) (bm:=bm) (hdct:=b1) (sn:=sn) (sub:=sb) (ab:=b2) (col:=co) (dd:=dd) (k0:=x0) (k1:=x1) (k2:=x2) (k3:=x3) (k5:=x5)
  PySem.F.excBase_ValueError (mN:=mN) (T.hasType PySem.F.excBase_ValueError.hasBase) (I.ok.hd hc) ?pl hni (bF I hg hm ⟨rfl,?_⟩ hdb)
 case pl=>
  rw[he]
  show (false||(backTo cpos (starEach es X.env)).any (·.1))=false
  rw[hpl];rfl
 have h2:=ha cpos pins s σ H _ I h
 rw[he]at h2 ⊢
 refine Calls.evalArgs_plain (thn h2 fun us s2 ⟨vs,H2,I2,r,z,q2⟩=>?_)
 exact⟨rfl,by rw[<-r.length];exact z,I2.bk _ _ hC,hN.keeps I2.bk,T.keeps I2.bk,fun h' a hm'=>hx pins σ H2 s2 a _ us h' I2 hm' q2⟩
end
end L2
namespace L2
open PySem PySem.Spec PyProof.Rows
noncomputable def aL(CX:CXT)(X:Cx)(E:St->XK):Prop:=∀(pins:List (Addr×Obj)) (σ:St) (H:Hp) (s:Shared) (e:Value) (s':Shared),Inv X pins σ H s->CX X.stack H s (E σ) e s'->X.xe e s'
section
variable {X:Cx}{CX:CXT}{k:Nat}{f C:Addr}{fd:FuncData}{ps:List Str}{sp:Sp}{dvs:List V}{ds:List Value}{E:St->XK}{x m:Str}{p pos apos:Pos}{e o:Expr}{es:List Expr}{ta:TE}{t:TA}
end
section
variable {X:Cx}{pins:List (Addr×Obj)}{σ:St}{H1 H2:Hp}{s1 s':Shared}{B h4:Heap}
theorem Inv.behind(I:Inv X pins σ H1 s1)(hex:X.ex=[])(os:s'.os=s1.os)(bare:AllBare s'.gens)(un:Un (frs X.stack) [] H1 H2 s1.heap s'.heap)(hok:HOk X.prog X.w H2 s'.heap)
  (inc:Within B X.stack s1.heap H2 s'.heap) (st:B.StaysIn h4) (up:s'.heap.UpToSlots h4):Inv X pins σ H2 {s' with heap:=h4}:=by
 have nil:∀b:Addr,b∉([]:List Addr):=fun b z=>nomatch z
 have ex:∀b:Addr,b∉X.ex:=fun b=>by rw[hex];exact nil b
 have dataK:∀b o,s1.heap.get? b=some o->H1 b=none->(∀vs,o.data≠.fields vs)->∃sl,h4.get? b=some {o with slots:=sl}:=fun b o q n nf=>by
  obtain⟨sl,e1⟩:=un.any q n (nil b)
  obtain⟨sl2,e2⟩:=up b _ e1 nf
  exact⟨sl2,e2⟩
 have cellK:∀x c,X.env.cells.lookup x=some c->∀v,s1.heap.IsCell c v->h4.IsCell c v:=fun x c e v ⟨o,ho,hd⟩=>by
  obtain⟨sl,z⟩:=dataK c o ho (I.freeC x c e) fun vs q=>by rw[hd]at q;cases q
  exact⟨_,z,hd⟩
 refine⟨I.ok,os.trans I.os,bare,⟨fun b o q n hb _=>?_,fun b o q n hb _=>?_,fun b o q n _=>?_,fun b o q _=>?_,fun b xs q=>un.tups b xs (I.base.tups b xs q),fun b o u q=>un.frzs b o u (I.base.frzs b o u q),fun b ps q=>?_⟩,?_,fun x c e=>?_,?_,fun x c e=>?_,fun p hp=>?_,?_,I.len⟩
 ·have e1:=I.base.keep b o q n hb (ex b)
  have e2:=un.keep b o e1 (I.base.free b o q n (ex b)) (I.oldNe q hb) (nil b)
  exact st b o (inc b o e2 (.inr ⟨⟨o,e1⟩,I.oldNe q hb⟩))
 ·obtain⟨sl,e1⟩:=I.base.slot b o q n hb (ex b)
  obtain⟨_,o2,e3,nf⟩:=I.ok.funs.mem hb
  have e4:o2=o:=Option.some.inj (e3.symm.trans q)
  subst e4
  obtain⟨sl2,e5⟩:=dataK b _ e1 (I.base.free b _ q n (ex b)) nf
  exact⟨sl2,e5⟩
 ·obtain⟨o1,e1⟩:=I.base.there b o q (ex b)
  exact un.free b o1 e1 (I.base.free b o q n (ex b)) (nil b)
 ·obtain⟨o1,e1⟩:=I.base.there b o q (ex b)
  by_cases hb:b∈X.fs
  ·obtain⟨_,o2,e3,nf⟩:=I.ok.funs.mem hb
   obtain⟨sl,e4⟩:=I.base.slot b o2 e3 (I.ok.frf b hb) hb (ex b)
   obtain⟨sl2,e5⟩:=dataK b _ e4 (I.base.free b _ e3 (I.ok.frf b hb) (ex b)) nf
   exact⟨_,e5⟩
  ·obtain⟨o2,e2⟩:=un.there b o1 e1 (nil b)
   exact⟨o2,st b o2 (inc b o2 e2 (.inr ⟨⟨o1,e1⟩,I.oldNe q hb⟩))⟩
 ·obtain⟨m1,e1⟩:=I.base.tbls b ps q
  obtain⟨m2,e2⟩:=un.tbls b _ e1
  exact⟨m1++m2,by rw[e2,Array.append_assoc]⟩
 ·obtain⟨m,⟨o,es,ep,ho,hd,r⟩,hl⟩:=I.loc
  obtain⟨sl,z⟩:=dataK _ o ho I.free fun vs q=>by rw[hd]at q;cases q
  refine⟨m,⟨_,es,ep,z,hd,r⟩,fun i x v e1 e2 e3=>?_⟩
  obtain⟨u,r',l⟩:=hl i x v e1 e2 e3
  refine⟨u,r',l.elim .inl fun ⟨k,c,e,z⟩=>.inr ⟨k,c,e,cellK x c e _ z⟩⟩
 ·obtain⟨v,z⟩:=I.cell x c e
  exact⟨v,cellK x c e v z⟩
 ·obtain⟨m,⟨o,_,_,ho,_⟩,_⟩:=I.loc
  exact un.free _ o ho I.free (nil _)
 ·obtain⟨v,o,ho,_⟩:=I.cell x c e
  exact un.free c o ho (I.freeC x c e) (nil _)
 ·obtain⟨e,n,ne,nf,d⟩:=I.pin p hp
  have nb:p.1∉frs X.stack:=fun hm=>(List.mem_cons.mp (I.stkSub _ hm)).elim ne nf
  have e2:=un.keep p.1 p.2 e n nb (nil _)
  exact⟨st _ _ (inc _ _ e2 (.inr ⟨⟨_,e⟩,nb⟩)),un.free p.1 p.2 e n (nil _),ne,nf,d⟩
 ·exact hok.keptT fun b u ob hb q=>st b ob (inc b ob q (.inl (by rw[hb];exact fun z=>nomatch z)))
theorem qx{a:Addr}{cls:Value}(fl:Fly B X.stack a cls s'.heap)(inc:Within B X.stack s1.heap H2 s'.heap):s1.heap.get? a=none:=by
 obtain⟨a0,f1,f2,f3,oe,vs,T,oT,ts,he,hc,hd,_⟩:=fl
 cases q:s1.heap.get? a with
 |none=>rfl
 |some o=>
  have z:=inc a oe he (.inr ⟨⟨o,q⟩,fun hm=>by
   obtain⟨_,o2,e2,nf⟩:=f3.mem hm
   rw[he]at e2;cases e2
   exact nf vs hd⟩)
  rw[f2]at z;cases z
end
noncomputable def qS(a:Addr)(cls:Value)(dx:Option Addr):HO:=.ext fun h=>∃o vs,h.get? a=some o/\o.cls=cls/\o.data=.fields vs/\o.dict=dx
section
variable {X:Cx}{pins:List (Addr×Obj)}{σ:St}{H:Hp}{s:Shared}
theorem Inv.trackExc{a:Addr}{cls:Value}{o:Obj}{vs:Array Value}{dx:Option Addr}(I:Inv X pins σ H s)(hn:H a=none)(ho:s.heap.get? a=some o)(hc:o.cls=cls)(hd:o.data=.fields vs)(hdx:o.dict=dx)(h0:X.s₀.heap.get? a=none)(hp:∀p∈X.pn++pins,p.1≠a) :
  Inv X pins σ (upd H a (qS a cls dx)) s:=by
 have ne:∀b u,H b=some u->b≠a:=fun b u q=>aN q hn
 have nL:X.env.locals≠a:=fun z=>by
  obtain⟨m,⟨o',_,_,ho',hd',_⟩,_⟩:=I.loc
  rw[z,ho]at ho';cases ho';rw[hd]at hd';cases hd'
 have nC:∀x c,X.env.cells.lookup x=some c->c≠a:=fun x c e z=>by
  obtain⟨v,o',ho',hd'⟩:=I.cell x c e
  rw[z,ho]at ho';cases ho';rw[hd]at hd';cases hd'
 refine⟨I.ok,I.os,I.bare,⟨I.base.keep,I.base.slot,fun b o' q n hx=>?_,I.base.there,fun b xs q=>?_,fun b o' u q=>?_,fun b ps q=>?_⟩,I.loc,I.cell,?_,fun x c e=>?_,fun p hp'=>?_,fun b u q=>?_,I.len⟩
 ·rw[ah fun z=>by rw[z,h0]at q;cases q]
  exact I.base.free b o' q n hx
 ·have z:=I.base.tups b xs q
  rw[ah (ne _ _ z)];exact z
 ·have z:=I.base.frzs b o' u q
  rw[ah (ne _ _ z)];exact z
 ·obtain⟨m,z⟩:=I.base.tbls b ps q
  exact⟨m,by rw[ah (ne _ _ z)];exact z⟩
 ·rw[ah nL];exact I.free
 ·rw[ah (nC x c e)];exact I.freeC x c e
 ·obtain⟨e,n,r⟩:=I.pin p hp'
  exact⟨e,by rw[ah (hp p hp')];exact n,r⟩
 ·by_cases hb:b=a
  ·subst hb
   rw[ai]at q;cases q
   exact⟨⟨o,vs,ho,hc,hd,hdx⟩,⟨o,ho⟩,fun h1 h2 ⟨o1,vs1,e1,e2,e3⟩ k=>⟨o1,vs1,k _ e1,e2,e3⟩⟩
  ·rw[ah hb]at q
   exact (I.hok b u q).stay (fun _ _ _ z=>z) (fun c z=>by rw[ah (ne _ _ z)];exact z) fun c xs z=>by rw[ah (ne _ _ z)];exact z
theorem Inv.goes{i:Nat}{n:Str}{h':Heap}{v:Option Value}{t':Nat}(hi:X.N[i]?=some n)(hN:X.N.Nodup)(I:Inv X pins σ H s){m:Str->Option Value}(hm:s.heap.Ns X.env.locals m)
  (hl:∀(j:Nat) (x:Str) (w:V),X.N[j]?=some x->σ[j]?=some (some w)->Vis X.env.scope x->∃u,RelV w u/\BS X.env s.heap m x u)
  (hn:h'.Ns X.env.locals (fun x=>if x=n then v else m x)) (hs:Heap.SameBut X.env.locals s.heap h'):Inv X pins (σ.set i none) H {s with heap:=h',toks:=t'}:=by
 obtain⟨oL,_,_,hoL,_⟩:=id hm
 have old:∀b o,X.s₀.heap.get? b=some o->h'.get? b=s.heap.get? b:=fun b o e=>hs.2 b (Nat.ne_of_lt (Nat.lt_of_lt_of_le (Heap.lt_size e) I.ok.above))
 refine⟨I.ok,I.os,I.bare,⟨fun b o q n hb hx=>(old b o q).trans (I.base.keep b o q n hb hx),fun b o q n hb hx=>?_,I.base.free,fun b o q hx=>?_,I.base.tups,I.base.frzs,I.base.tbls⟩,⟨_,hn,fun j y w e1 e2 e3=>?_⟩,fun y c e=>?_,I.free,I.freeC,fun p hp=>?_,fun b u q=>?_,by rw[List.length_set];exact I.len⟩
 ·obtain⟨sl,z⟩:=I.base.slot b o q n hb hx
  exact⟨sl,(old b o q).trans z⟩
 ·obtain⟨o',z⟩:=I.base.there b o q hx
  exact⟨o',(old b o q).trans z⟩
 ·have hj:j≠i:=fun z=>by
   subst z
   rw[List.getElem?_set_self']at e2
   cases q:σ[j]? with
   |none=>rw[q]at e2;cases e2
   |some r=>rw[q]at e2;cases e2
  rw[List.getElem?_set_ne (Ne.symm hj)]at e2
  obtain⟨u,r,l⟩:=hl j y w e1 e2 e3
  refine⟨u,r,?_⟩
  rcases l with ⟨k,e⟩|⟨k,c,e,z⟩
  ·refine .inl ⟨k,?_⟩
   have:y≠n:=fun e=>hj (gD hN e1 (e▸hi))
   show (if y=n then v else m y)=some u
   rw[if_neg this];exact e
  ·exact .inr ⟨k,c,e,z.sameBut hs (I.cne y c e)⟩
 ·obtain⟨w',z⟩:=I.cell y c e
  exact⟨w',z.sameBut hs (I.cne y c e)⟩
 ·obtain⟨e,n,ne,nf,d⟩:=I.pin p hp
  exact⟨(hs.2 p.1 ne).trans e,n,ne,nf,d⟩
 ·refine (I.hok b u q).stay (fun c w' hc z=>(hs.2 c ?_).trans z) (fun _ z=>z) fun _ _ z=>z
  rintro rfl
  rcases hc with rfl|hc
  ·rw[I.free]at q;cases q
  ·rw[I.free]at hc;cases hc
end
noncomputable abbrev Cx.marked(X:Cx)(v:Value):Cx:={X with A:=X.A.mark (some v),calm:=false,xe:=fun _ _=>False}
noncomputable abbrev Cx.tryX(X:Cx)(pn:List (Addr×Obj))(W:Value->Shared->Prop):Cx:={X with pn:=X.pn++pn,xe:=W}
section
variable {X:Cx}{pins:List (Addr×Obj)}{σ:St}{H:Hp}{s:Shared}
theorem Inv.marked(I:Inv X pins σ H s)(v:Value):Inv (X.marked v) pins σ H s:=
 ⟨⟨I.ok.mod,I.ok.kind,I.ok.glob,I.ok.blt,I.ok.above,I.ok.inj,I.ok.has,I.ok.cab,(fun z=>nomatch z),I.ok.frames,I.ok.stk,I.ok.exf,I.ok.bs,I.ok.bsz,I.ok.noex,I.ok.exfs,I.ok.funs,I.ok.frf⟩,I.os,I.bare,I.base,I.loc,I.cell,I.free,I.freeC,I.pin,I.hok,I.len⟩
theorem Inv.unmark{v:Value}(ok:X.Ok)(I:Inv (X.marked v) pins σ H s):Inv X pins σ H s:=⟨ok,I.os,I.bare,I.base,I.loc,I.cell,I.free,I.freeC,I.pin,I.hok,I.len⟩
theorem Cx.Ok.tryX(ok:X.Ok)(pn:List (Addr×Obj))(W:Value->Shared->Prop):(X.tryX pn W).Ok:=
 ⟨ok.mod,ok.kind,ok.glob,ok.blt,ok.above,ok.inj,ok.has,ok.cab,ok.hd,ok.frames,ok.stk,ok.exf,ok.bs,ok.bsz,ok.noex,ok.exfs,ok.funs,ok.frf⟩
theorem Inv.tryX(I:Inv X pins σ H s)(W:Value->Shared->Prop):Inv (X.tryX pins W) [] σ H s:=
 ⟨I.ok.tryX _ _,I.os,I.bare,I.base,I.loc,I.cell,I.free,I.freeC,fun p hp=>I.pin p (by rw[List.append_nil]at hp;exact hp),I.hok,I.len⟩
theorem Inv.untry{pn:List (Addr×Obj)}{W:Value->Shared->Prop}(ok:X.Ok)(I:Inv (X.tryX pn W) pins σ H s):Inv X pn σ H s:=
 ⟨ok,I.os,I.bare,I.base,I.loc,I.cell,I.free,I.freeC,fun p hp=>I.pin p (List.mem_append_left _ hp),I.hok,I.len⟩
end
noncomputable def XI(X:Cx)(pins:List (Addr×Obj))(σ:St)(H:Hp)(a:Addr)(cls:Value)(dx:Option Addr)(s:Shared):Prop:=
 ∃B a0,Inv X pins σ H s/\(Heap.FlyingW B X.stack a cls a0 s.heap/\DA s.heap a dx)/\H a=none/\X.s₀.heap.get? a=none/\(∀p∈X.pn++pins,p.1≠a)/\∀h4,B.StaysIn h4->s.heap.UpToSlots h4->Inv X pins σ H {s with heap:=h4}
noncomputable def PH(X:Cx)(hs:List ExceptHandler)(t:Ends->St->XK):Prop:=
 ∀(pins:List (Addr×Obj)) (s:Shared) (σ:St) (H:Hp) (D:Ends) (a:Addr) (cls:Value) (dx:Option Addr),XI X pins σ H a cls dx s->t D σ cls dx H->wpAny (model X.prog X.w) X.A (handleBy (.ref a) X.env hs) (SP X pins D) X.xe s
noncomputable def Ends.goes(D:Ends)(i:Nat):Ends:=⟨fun σ H=>D.nx (σ.set i none) H,D.rt,fun σ H=>D.bk (σ.set i none) H,fun σ H=>D.ct (σ.set i none) H⟩
noncomputable def Fi(K:PySem.W.Frag)(C:Addr)(i:Nat)(ts:TS)(tr:Ends->St->XK):Ends->St->XK:=fun D σ cls d H=>
 (PySem.W.exmOne K cls (.ref C)=some true/\∀a,H a=none->ts (D.goes i) (σ.set i (some (.ref a))) (upd H a (qS a cls d)))\/(PySem.W.exmOne K cls (.ref C)=some false/\tr D σ cls d H)
noncomputable def FT(K:PySem.W.Frag)(C:Addr)(ts:TS)(tr:Ends->St->XK):Ends->St->XK:=fun D σ cls d H=>
 (PySem.W.exmOne K cls (.ref C)=some true/\ts D σ H)\/(PySem.W.exmOne K cls (.ref C)=some false/\tr D σ cls d H)
section
variable {X:Cx}{c n:Str}{C:Addr}{b0:Stmt}{suite:List Stmt}{np hpos pos:Pos}{av:List ExceptHandler}{ts:TS}{tr:Ends->St->XK}{i:Nat}
theorem eo{M:Model}{B h:Heap}{l:List Env}{a:Addr}{cls a0:Value}(fl:Heap.FlyingW B l a cls a0 h):PySem.W.Looks M h (typeOf (.ref a)) cls:=by
 obtain⟨ob,hob,hc⟩:=fl.there
 exact hc▸(PySem.W.Looks.ld hob).andThen .now
theorem Ao(hg:Gl X c)(hm:X.mg c=some (.ref C))(hN:X.N.Nodup)(hi:X.N[i]?=some n)(hl:X.env.scope.names.lookup n=some .local)(hs:∀v,PSs (X.marked v) (b0::suite) ts)(hr:PH X av tr)(hdb:(c == ("__debug__" : Str))=false:=by decide) :
  PH X (.ExceptHandler (some (.Name c np)) (some n) (b0::suite) hpos::av) (Fi X.K C i ts tr):=by
 intro pins s σ H D a cls dx xi h
 obtain⟨B,a0,I,⟨fl,dd⟩,ha,h0,hp,stab⟩:=id xi
 rcases h with ⟨em,k⟩|⟨em,k⟩
 ·refine wpAny_handleBy_cons (codeAny_handlers_test (bF (I.marked (.ref a)) hg hm ?_ hdb)) (by intro q;cases q)
  refine (PySem.W.exm_one I.kIn (eo fl) em).here ?_
  refine codeAny_handlers_suite_as (lM fl dd fun h6 fl6 up6 dd6=>?_)
  have I6:=stab h6 fl6.1 up6
  obtain⟨oe,vs,e1,e2,e3,_⟩:=fl6.first
  have e4:oe.dict=dx:=by
   obtain⟨o',z1,z2⟩:=dd6
   cases e1.symm.trans z1
   exact z2
  have I7:=I6.trackExc (cls:=cls) ha e1 e2 e3 e4 h0 hp
  refine gZ (X:=X.marked (.ref a)) (v:=.ref a) (I7.marked (.ref a)) hN hi (.inl hl) rfl (fun s7 I8=>?_) (.inr hl)
  refine wpAny_mono (hs (.ref a) pins s7 _ _ (D.goes i) I8 (k a ha)) (fun fl s8 q=>?_) (fun _ _ z=>False.elim z)
  have hcl:(X.env.scope.kind == .class||(X.env.scope.kind == .module&&X.env.locals != X.env.globals))=false:=by rw[I.ok.kind];rfl
  have fin:∀σ' H',Inv (X.marked (.ref a)) pins σ' H' s8->∀(Q:Unit->Shared->Prop),(∀s9,Inv X pins (σ'.set i none) H' s9->Q () s9)->
    wpAny (model X.prog X.w) X.A (do bindName X.env n .none;unbindBehindTheSuite X.env n hpos) Q X.xe s8:=fun σ' H' J Q kq=>by
   have J':=J.unmark I.ok
   obtain⟨m,hm',hl'⟩:=J'.loc
   exact wpAny_nameGoes_keeps hl hm' hcl fun h' v hn hs'=>kq _ (Inv.goes hi hN J' hm' hl' hn hs')
  match fl,q with
  |.next,⟨σ',H',J,q⟩=>exact fin σ' H' J _ fun s9 J9=>⟨_,_,J9,q⟩
  |.brk,⟨σ',H',J,q⟩=>exact fin σ' H' J _ fun s9 J9=>⟨_,_,J9,q⟩
  |.cont,⟨σ',H',J,q⟩=>exact fin σ' H' J _ fun s9 J9=>⟨_,_,J9,q⟩
  |.ret u,⟨v,σ',H',J,r,q⟩=>exact fin σ' H' J _ fun s9 J9=>⟨v,_,_,J9,r,q⟩
 ·refine wpAny_handleBy_cons (codeAny_handlers_test (bF (I.marked (.ref a)) hg hm ?_ hdb)) (by intro q;cases q)
  refine (PySem.W.exm_one I.kIn (eo fl) em).here ?_
  exact hr pins s σ H D a cls dx xi k
theorem Bg(hg:Gl X c)(hm:X.mg c=some (.ref C))(hs:∀v,PSs (X.marked v) (b0::suite) ts)(hr:PH X av tr)(hdb:(c == ("__debug__" : Str))=false:=by decide) :
  PH X (.ExceptHandler (some (.Name c np)) none (b0::suite) hpos::av) (FT X.K C ts tr):=by
 intro pins s σ H D a cls dx xi h
 obtain⟨B,a0,I,⟨fl,dd⟩,ha,h0,hp,stab⟩:=id xi
 rcases h with ⟨em,k⟩|⟨em,k⟩
 ·refine wpAny_handleBy_cons (codeAny_handlers_test (bF (I.marked (.ref a)) hg hm ?_ hdb)) (by intro q;cases q)
  refine (PySem.W.exm_one I.kIn (eo fl) em).here ?_
  refine codeAny_handlers_suite (lM fl dd fun h6 fl6 up6 dd6=>?_)
  have I6:=stab h6 fl6.1 up6
  refine wpAny_mono (hs (.ref a) pins _ _ _ D (I6.marked (.ref a)) k) (fun fl s8 q=>?_) (fun _ _ z=>False.elim z)
  match fl,q with
  |.next,⟨σ',H',J,q⟩=>exact⟨_,_,J.unmark I.ok,q⟩
  |.brk,⟨σ',H',J,q⟩=>exact⟨_,_,J.unmark I.ok,q⟩
  |.cont,⟨σ',H',J,q⟩=>exact⟨_,_,J.unmark I.ok,q⟩
  |.ret u,⟨v,σ',H',J,r,q⟩=>exact⟨v,_,_,J.unmark I.ok,r,q⟩
 ·refine wpAny_handleBy_cons (codeAny_handlers_test (bF (I.marked (.ref a)) hg hm ?_ hdb)) (by intro q;cases q)
  refine (PySem.W.exm_one I.kIn (eo fl) em).here ?_
  exact hr pins s σ H D a cls dx xi k
end
end L2
namespace L2
open PySem PySem.Spec PySem.Calls PyProof.Rows
noncomputable def yd(K:PySem.W.Frag)(C:Addr):Bool:=match K.lookup C with
 |some ⟨.type "type",_,.cls k,sl⟩=>(match k.mro with
  |.ref C2::above=>C2 == C&&!k.hasDel&&PySem.W.tailIn K bmV above&&(match sl.toList with
   |[_,_,_,_,some (.builtin mk),_]=>mk == "ValueError.__new__"
   |_=>false)
  |_=>false)
 |_=>false
section
variable {prog:Program}{w:World}{A:Around}{E:Value->Shared->Prop}{h:Heap}{g:Array GenState}{d:Drawn}{t:Nat}{os:OsState}{K:PySem.W.Frag}{C fI:Addr}
end
end L2
namespace L2
open PySem PySem.Spec PySem.Calls PyProof.Rows
section
variable {pos:Pos}
theorem ge{args:List Expr}{env:Env}(h1:(backTo pos (starEach args env)).any (·.1)=false)(h2:args.length < 30):methodCallForm (args.length+([]:List Keyword).length) (backTo pos (starEach args env)) (backToKw pos (keywordEach [] env))=true:=by
 unfold methodCallForm
 have a:(backTo pos (starEach args env)).all (!·.1)=true:=by
  rw[List.all_eq_true]
  intro x hx
  have:=List.any_eq_false.mp h1 x hx
  simpa using this
 rw[a]
 have:(backToKw pos (keywordEach [] env)).all (·.1.isSome)=true:=rfl
 rw[this]
 have h3:(backToKw pos (keywordEach ([]:List Keyword) env)).isEmpty=true:=rfl
 simp only[h3,if_true,List.length_nil,Bool.true_and,Nat.add_zero,decide_eq_true_eq]
 exact h2
theorem fj{o:Expr}{m:Str}{apos:Pos}{args:List Expr}{env:Env}(hb:attributeBase o m env (eval o env)=eval o env)
  (hf:methodCallForm (args.length+([]:List Keyword).length) (backTo pos (starEach args env)) (backToKw pos (keywordEach [] env))=true) (hl:(apos.endLine == pos.line)=true) :
  eval (.Call (.Attribute o m apos) args [] pos) env=(do
   let ov<-eval o env
   standAt apos.atName
   let (f,first)<-holding [ov] (getMethod ov m (do return (<-importBound o env).getD true))
   callWith pos f first (backTo pos (starEach args env)) (backToKw pos (keywordEach [] env))):=by
 rw[arm_eval_Call,hb]
 unfold methodCall calleeOf methodCallPos
 simp only[hf,hl]
 rfl
end
noncomputable def FV(e C:Addr):HO:=.ext fun h=>∃t0,h.get? e=some {cls:=.ref C,data:=.fields #[.ref t0,.none,.none,.none,.bool false,.none]}
noncomputable def FY(e C dx:Addr):HO:=.ext fun h=>∃t0,h.get? e=some {cls:=.ref C,dict:=some dx,data:=.fields #[.ref t0,.none,.none,.none,.bool false,.none]}
structure XIni (K:PySem.W.Frag) (C fI:Addr) (f:Str):Prop where
 cl:yd K C=true
 ini:PySem.W.findIn K (.ref C) "__init__"=some (some (.ref fI))
 fn:PySem.W.typeIn K (.ref fI)=some (.type "function")
 sa:PySem.W.findIn K (.ref C) "__setattr__"=some (some (.builtin "object.__setattr__"))
 at_:PySem.W.findIn K (.ref C) f=some none
 hd:PySem.W.hasDictIn K C=true
 ob:PySem.W.mroIn K C (.type "object")=some true
 kp:PySem.W.keepIn K (.ref C)=true
section
variable {X:Cx}{x f:Str}{D C fI:Addr}{o e value:Expr}{es:List Expr}{t:TA}{ta tv:TE}{px apos pos pos':Pos}
noncomputable def nU(C:Addr)(f:Str):Sp:=fun vs H Q _=>∃a v,vs=[.ref a,v]/\H a=some (FV a C)/\∀dx ob,H dx=none->dx≠a->Q .non (upd (upd H a (FY a C dx)) dx (.frz ob (.xd [(f,v)])))
end
end L2
namespace L2
open PySem PySem.Spec PyProof.Rows
noncomputable def aI(names:List (Str×NameKind))(cs:List (Str×Addr))(acc:List (Str×Addr)):List (Str×Addr):=match names with
 |[]=>acc
 |(n,k)::r=>if k=.free then (match cs.lookup n with|some c=>aI r cs ((n,c)::acc)|none=>aI r cs acc) else aI r cs acc
theorem bC{cs:List (Str×Addr)}:∀{names:List (Str×NameKind)}{acc:List (Str×Addr)},(∀p∈acc,cs.lookup p.1=some p.2)->∀p∈aI names cs acc,cs.lookup p.1=some p.2
 |[],_,h,p,hp=>h p hp
 |(n,k)::r,acc,h,p,hp=>by
  unfold aI at hp
  split at hp
  ·split at hp
   next c e=>
    refine bC (fun q hq=>?_) p hp
    rcases List.mem_cons.mp hq with z|z
    ·subst z;exact e
    ·exact h q z
   next=>exact bC h p hp
  ·exact bC h p hp
theorem cJ{cs:List (Str×Addr)}:∀{names:List (Str×NameKind)}{acc:List (Str×Addr)}{p:Str×Addr},p∈acc->p∈aI names cs acc
 |[],_,_,h=>h
 |(n,k)::r,acc,p,h=>by
  unfold aI
  split
  ·split
   ·exact cJ (List.mem_cons_of_mem _ h)
   ·exact cJ h
  ·exact cJ h
theorem cV{cs:List (Str×Addr)}{x:Str}{c:Addr}(e:cs.lookup x=some c):∀{names:List (Str×NameKind)}{acc:List (Str×Addr)},(x,NameKind.free)∈names->(x,c)∈aI names cs acc
 |(n,k)::r,acc,h=>by
  rcases List.mem_cons.mp h with z|z
  ·cases z
   unfold aI
   rw[if_pos rfl,e]
   exact cJ List.mem_cons_self
  ·unfold aI
   split
   ·split
    ·exact cV e z
    ·exact cV e z
   ·exact cV e z
theorem c8{l:List (Str×Addr)}{x:Str}{c:Addr}(h:(x,c)∈l)(u:∀p∈l,p.1=x->p.2=c):l.lookup x=some c:=by
 induction l with
 |nil=>cases h
 |cons p r ih=>
  obtain⟨n,d⟩:=p
  by_cases e:x=n
  ·subst e
   rw[List.lookup_cons,beq_self_eq_true]
   exact congrArg some (u (x,d) List.mem_cons_self rfl)
  ·rw[List.lookup_cons]
   rw[beq_eq_false_iff_ne.mpr e]
   rcases List.mem_cons.mp h with z|z
   ·cases z;exact absurd rfl e
   ·exact ih z fun q hq=>u q (List.mem_cons_of_mem _ hq)
theorem bt{l:List (Str×Addr)}{x:Str}{c:Addr}(h:l.lookup x=some c):(x,c)∈l:=PySem.mem_of_lookup h
theorem jS{names:List (Str×NameKind)}{cs:List (Str×Addr)}{x:Str}{c:Addr}(hm:(x,NameKind.free)∈names)(e:cs.lookup x=some c):(aI names cs []).lookup x=some c:=by
 refine c8 (cV e hm) fun p hp hx=>?_
 have z:=bC (acc:=[]) (fun p hp=>nomatch hp) p hp
 rw[hx,e]at z
 exact (Option.some.inj z).symm
theorem mX{env:Env}{n:Str}{c:Addr}(e:env.cells.lookup n=some c):cellOf env n=pure c:=by
 unfold cellOf;rw[e]
theorem ir{scope:Scope}{env:Env}(h:∀y∈scope.names,y.2=.free->∃c,env.cells.lookup y.1=some c):closureFor scope env=pure (aI scope.names env.cells []):=by
 have go:∀(names:List (Str×NameKind)) (acc:List (Str×Addr)),(∀y∈names,y.2=.free->∃c,env.cells.lookup y.1=some c)->
   (forIn names acc fun x r=>match x with
    |(n,k)=>if (k == NameKind.free)=true then do let c<-cellOf env n;pure (ForInStep.yield ((n,c)::r)) else pure (ForInStep.yield r):Sem (List (Str×Addr)))=pure (aI names env.cells acc):=by
  intro names
  induction names with
  |nil=>intro acc _;rfl
  |cons y r ih=>
   intro acc hy
   obtain⟨n,k⟩:=y
   rw[List.forIn_cons]
   by_cases hk:k=NameKind.free
   ·subst hk
    obtain⟨c,e⟩:=hy (n,.free) List.mem_cons_self rfl
    simp only[beq_self_eq_true,if_true]
    rw[mX e]
    show (forIn r ((n,c)::acc) _:Sem _)=_
    rw[ih _ fun z hz=>hy z (List.mem_cons_of_mem _ hz)]
    conv=>rhs;unfold aI
    simp only[if_true,e]
   ·have hb:(k == NameKind.free)=false:=by simpa using hk
    simp only[hb,Bool.false_eq_true,if_false]
    show (forIn r acc _:Sem _)=_
    rw[ih _ fun z hz=>hy z (List.mem_cons_of_mem _ hz)]
    conv=>rhs;unfold aI
    simp only[hk,if_false]
 have e:=go scope.names [] h
 show ((forIn scope.names [] fun x r=>match x with
    |(n,k)=>if (k == NameKind.free)=true then do let c<-cellOf env n;pure (ForInStep.yield ((n,c)::r)) else pure (ForInStep.yield r):Sem (List (Str×Addr))) >>=fun z=>pure z)=_
 rw[e]
 rfl
theorem aF:∀(names:List (Str×NameKind)) (n:Nat) (acc:List (Str×Addr)),cellsFrom n names acc=cellsFrom n names []++acc
 |[],_,_=>rfl
 |(x,k)::r,n,acc=>by
  unfold cellsFrom
  split
  ·rw[aF r (n+1) ((x,n)::acc),aF r (n+1) [(x,n)],List.append_assoc];rfl
  ·exact aF r n acc
theorem ay:∀{names:List (Str×NameKind)}{n:Nat}{p:Str×Addr},p∈cellsFrom n names []->(p.1,NameKind.cell)∈names/\n<=p.2
 |[],_,_,h=>nomatch h
 |(x,k)::r,n,p,h=>by
  unfold cellsFrom at h
  split at h
  ·rename_i hk
   rw[aF]at h
   rcases List.mem_append.mp h with z|z
   ·obtain⟨a,b⟩:=ay z
    exact⟨List.mem_cons_of_mem _ a,by omega⟩
   ·obtain rfl:=List.mem_singleton.mp z
    exact⟨by rw[show k=NameKind.cell from by simpa using hk];exact List.mem_cons_self,Nat.le_refl _⟩
  ·obtain⟨a,b⟩:=ay h
   exact⟨List.mem_cons_of_mem _ a,b⟩
theorem bY:∀{names:List (Str×NameKind)}{n:Nat}{x:Str},(x,NameKind.cell)∈names->∃c,(x,c)∈cellsFrom n names []
 |(y,k)::r,n,x,h=>by
  rcases List.mem_cons.mp h with z|z
  ·cases z
   unfold cellsFrom
   rw[if_pos (by rfl),aF]
   exact⟨n,List.mem_append_right _ List.mem_cons_self⟩
  ·unfold cellsFrom
   split
   ·obtain⟨c,e⟩:=bY z (n:=n+1)
    rw[aF]
    exact⟨c,List.mem_append_left _ e⟩
   ·exact bY z
theorem cL:∀{l:List (Str×Addr)}{x:Str}{c:Addr},(x,c)∈l->∃c',l.lookup x=some c'
 |(y,d)::r,x,c,h=>by
  rw[List.lookup_cons]
  cases e:x == y with
  |true=>exact⟨d,rfl⟩
  |false=>
   rcases List.mem_cons.mp h with z|z
   ·cases z;simp at e
   ·exact cL z
theorem fh{M:Model}{A:Around}{E:Value->Shared->Prop}{s:Shared}{scope:Scope}{globals:Addr}{cl:List (Str×Addr)}{qual:Str}{outer:Env}{Q:Env->Shared->Prop}
  (hQ:Q {scope:=scope,locals:=s.heap.objs.size,globals:=globals,cells:=cellsFrom (s.heap.objs.size+1) scope.names []++cl,qual:=qual,func:=none,code:=outer.code,frame:=outer.frame,builtins:=outer.builtins} {s with heap:=pushCells (s.heap.push {cls:=.type "dict",data:=.dict #[]}) scope.names}) :
  wpAny M A (newFunctionEnv scope globals cl [] qual none .none (some outer)) Q E s:=by
 simp only[newFunctionEnv,Option.isSome_some,if_true]
 refine wpAny_bind (wpAny_alloc ?_)
 refine wpAny_bind (wpAny_layCells _ (fun name kind cells=>by cases hkc:kind == NameKind.cell<;>simp[hkc]) _ _ _ _ ?_)
 rw[show ({s with heap:=s.heap.push {cls:=.type "dict",data:=.dict #[]}}:Shared).heap.objs.size=s.heap.objs.size+1 from Heap.size_push ..,aF]
 refine wpAny_bind ?_
 rw[List.forIn_nil]
 exact wpAny_pure (wpAny_pure hQ)
noncomputable def dg(N:List Str)(js:List (Option Nat))(sc osc:Scope)(oN:List Str):Bool:=
 N.length == js.length&&decide N.Nodup&&
 (N.zip js).all (fun p=>match p.2 with
  |none=>sc.names.lookup p.1 == some .local||sc.names.lookup p.1 == some .cell
  |some j=>oN[j]? == some p.1&&sc.names.contains (p.1,NameKind.free)&&osc.names.lookup p.1 == some .cell)&&
 decide (sc.names.map (·.1)).Nodup&&sc.names.all (fun y=>(y.2 != .free||osc.names.lookup y.1 == some .cell)&&(y.2 != .local||sc.names.lookup y.1 == some .local))&&(sc.kind == .function)&&(osc.kind == .function)
noncomputable def gE(js:List (Option Nat))(σ:St):St:=js.map fun o=>o.bind fun j=>(σ[j]?).bind id
noncomputable abbrev compCx(X:Cx)(scope:Scope)(C:Addr)(N:List Str)(s2:Shared)(H2:Hp)(fp:List Addr)(pins:List (Addr×Obj)):Cx:=
 {X with env:=compEnvC scope (cellsFrom (C+1) scope.names []++aI scope.names X.env.cells []) C X.env,N:=N,s₀:=s2,H₀:=H2,outer:=X.stack,stack:=X.stack,ex:=fp,fn:=fun x=>scope.names.lookup x == some .cell,pn:=X.pn++pins,xe:=fun _ _=>False}
theorem eR{env:Env}{x:Str}(hk:env.scope.kind=.function)(hc:env.kindOf x=some .cell):∀{names:List (Str×NameKind)},(x,NameKind.free)∈names->(∀y∈names,y.1=x->y.2=.free)->
  (names.map fun (n,k)=>if (k == .free&&env.scope.kind == .function&&env.kindOf n == some .cell) then (n,.cell) else (n,k)).lookup x=some NameKind.cell
 |(n,k)::r,hm,hu=>by
  show List.lookup x ((if (k == NameKind.free&&env.scope.kind == .function&&env.kindOf n == some .cell)=true then (n,NameKind.cell) else (n,k))::_)=_
  by_cases e:x=n
  ·subst e
   have ek:k=.free:=hu (x,k) List.mem_cons_self rfl
   subst ek
   simp only[hk,hc,beq_self_eq_true,Bool.and_self,if_true]
   rw[List.lookup_cons,beq_self_eq_true]
  ·have hm':(x,NameKind.free)∈r:=by
    rcases List.mem_cons.mp hm with z|z
    ·cases z;exact absurd rfl e
    ·exact z
   have ih:=eR hk hc hm' fun y hy=>hu y (List.mem_cons_of_mem _ hy)
   split
   ·rw[List.lookup_cons,beq_eq_false_iff_ne.mpr e];exact ih
   ·rw[List.lookup_cons,beq_eq_false_iff_ne.mpr e];exact ih
end L2
namespace L2
open PySem PySem.Spec PyProof.Rows
structure CompOk (N:List Str) (js:List (Option Nat)) (sc osc:Scope) (oN:List Str):Prop where
 len:N.length=js.length
 nd:N.Nodup
 own:∀(i:Nat) (x:Str),N[i]?=some x->js[i]?=some none->sc.names.lookup x=some .local\/sc.names.lookup x=some .cell
 fr:∀(i:Nat) (x:Str) (j:Nat),N[i]?=some x->js[i]?=some (some j)->oN[j]?=some x/\(x,NameKind.free)∈sc.names/\osc.names.lookup x=some .cell
 ndn:(sc.names.map (·.1)).Nodup
 nf:∀y∈sc.names,y.2=.free->osc.names.lookup y.1=some .cell
 nl:∀y∈sc.names,y.2=.local->sc.names.lookup y.1=some .local
 k1:sc.kind=.function
 k2:osc.kind=.function
theorem i5{N:List Str}{js:List (Option Nat)}{sc osc:Scope}{oN:List Str}(h:dg N js sc osc oN=true):CompOk N js sc osc oN:=by
 unfold dg at h
 simp only[Bool.and_eq_true,beq_iff_eq,decide_eq_true_eq,List.all_eq_true,Bool.or_eq_true,bne_iff_ne]at h
 obtain⟨⟨⟨⟨⟨⟨h1,h2⟩,h3⟩,h4⟩,h5⟩,h6⟩,h7⟩:=h
 have zip:∀(i:Nat) (x:Str) (o:Option Nat),N[i]?=some x->js[i]?=some o->(x,o)∈N.zip js:=fun i x o e1 e2=>
  List.mem_of_getElem? (i:=i) (by rw[List.getElem?_zip_eq_some];exact⟨e1,e2⟩)
 refine⟨h1,h2,fun i x e1 e2=>?_,fun i x j e1 e2=>?_,h4,fun y hy e=>?_,fun y hy e=>?_,h6,h7⟩
 ·have z:=h3 _ (zip i x _ e1 e2)
  simpa using z
 ·have z:=h3 _ (zip i x _ e1 e2)
  simp only[Bool.and_eq_true,beq_iff_eq]at z
  exact⟨z.1.1,List.contains_iff_mem.mp z.1.2,z.2⟩
 ·rcases (h5 y hy).1 with z|z
  ·exact absurd e z
  ·exact z
 ·rcases (h5 y hy).2 with z|z
  ·exact absurd e z
  ·exact z
theorem df{env:Env}{x:Str}{k:NameKind}:∀{names:List (Str×NameKind)},
  (names.map fun (n,k)=>if (k == .free&&env.scope.kind == .function&&env.kindOf n == some .cell) then (n,.cell) else (n,k)).lookup x=some k->∃k',(x,k')∈names/\(k'=k\/k'=.free)
 |[],h=>by cases h
 |(n,k0)::r,h=>by
  have h:List.lookup x ((if (k0 == NameKind.free&&env.scope.kind == .function&&env.kindOf n == some .cell)=true then (n,NameKind.cell) else (n,k0))::_)=_:=h
  by_cases e:x=n
  ·subst e
   split at h
   next hc=>
    refine⟨k0,List.mem_cons_self,.inr ?_⟩
    have:=(Bool.and_eq_true_iff.mp (Bool.and_eq_true_iff.mp hc).1).1
    simpa using this
   next=>
    rw[List.lookup_cons,beq_self_eq_true]at h
    exact⟨k0,List.mem_cons_self,.inl (Option.some.inj h)⟩
  ·have h':List.lookup x (r.map fun (n,k)=>if (k == .free&&env.scope.kind == .function&&env.kindOf n == some .cell) then (n,.cell) else (n,k))=some k:=by
    split at h
    ·rw[List.lookup_cons,beq_eq_false_iff_ne.mpr e]at h;exact h
    ·rw[List.lookup_cons,beq_eq_false_iff_ne.mpr e]at h;exact h
   obtain⟨k',m,z⟩:=df h'
   exact⟨k',List.mem_cons_of_mem _ m,z⟩
theorem nw{prog:Program}{w:World}{A:Around}{R:Result->Shared->Prop}{s:Shared}{elt target iter:Expr}{ifs:List Expr}{scope:Scope}{pos:Pos}{it acc:Value}{env:Env}(I:Nat->Shared->Prop)
  (turn:∀n s,I n s->wpAny (model prog w) A (pyNext it) (fun r s1=>match r with
   |none=>R (.ok .next) s1
   |some v=>wpAny (model prog w) A (letOwnedTupleGo target it v) (fun _ s2=>wpAny (model prog w) A (assign target env v) (fun _ s3=>
     wpAny (model prog w) A (forIn ifs true fun c r=>if r=true then do let ok<-isTrue c env (eval c env);pure (ForInStep.yield ok) else pure (ForInStep.yield r)) (fun ok s4=>
      if ok=true then wpAny (model prog w) A (eval elt env) (fun x s5=>wpAny (model prog w) A (call (.builtin "list.append") [acc,x]) (fun _ s6=>∃m,m < n/\I m s6) (fun _ _=>False) s5) (fun _ _=>False) s4
      else ∃m,m < n/\I m s4) (fun _ _=>False) s3) (fun _ _=>False) s2) (fun _ _=>False) s1) (fun _ _=>False) s)
  (n:Nat) (h:I n s):codeAny (model prog w) A (.compLoop (.ListComp elt [⟨target,iter,ifs,0⟩] scope pos) 0 it acc env) R s:=by
 have no:∀{α:Type}{t:Sem α}{Q:α->Shared->Prop}{E:Value->Shared->Prop}{z:Shared},wpAny (model prog w) A t Q (fun _ _=>False) z->wpAny (model prog w) A t Q E z:=fun h=>wpAny_noRaise h
 refine codeAny_loop rfl I (fun n s hI=>?_) n h
 show wpAny _ A ((compTurn (.ListComp elt [⟨target,iter,ifs,0⟩] scope pos) 0 it acc env).onRaise (fun x=>do noteFrame x env;theTreesLotGoes x)) _ _ s
 refine wpAny_noted ?_
 rw[compTurn_list]
 refine wpAny_bind (wpAny_standAt (wpAny_bind (no (wpAny_mono (turn n s hI) (fun r s1 h1=>?_) fun _ _ z=>z))))
 cases r with
 |none=>exact wpAny_pure h1
 |some v=>
  refine wpAny_bind (no (wpAny_mono h1 (fun _ s2 h2=>?_) fun _ _ z=>z))
  refine wpAny_bind (no (wpAny_mono h2 (fun _ s3 h3=>?_) fun _ _ z=>z))
  refine wpAny_bind (no (wpAny_mono h3 (fun ok s4 h4=>?_) fun _ _ z=>z))
  cases ok with
  |false=>exact wpAny_pure ⟨rfl,h4⟩
  |true=>
   refine wpAny_bind (wpAny_bind (no (wpAny_mono h4 (fun x s5 h5=>?_) fun _ _ z=>z)))
   exact wpAny_bind (no (wpAny_mono h5 (fun _ s6 h6=>wpAny_pure (wpAny_pure ⟨rfl,h6⟩)) fun _ _ z=>z))
noncomputable def PIf(X:Cx)(ifs:List Expr)(tt:TT):Prop:=∀(pins:List (Addr×Obj)) (s:Shared) (σ:St) (H:Hp) (Q:Bool->Hp->Prop),Inv X pins σ H s->tt σ H Q->
 wpAny (model X.prog X.w) X.A (forIn ifs true fun c r=>if r=true then do let ok<-isTrue c X.env (eval c X.env);pure (ForInStep.yield ok) else pure (ForInStep.yield r)) (TP X pins σ Q) X.xe s
noncomputable def tYes:TT:=fun _ H Q=>Q true H
theorem rp{X:Cx}:PIf X [] tYes:=fun pins s σ H Q I h=>wpAny_tests_nil ⟨H,I,h⟩
theorem sf{X:Cx}{c:Expr}{t:TT}(h:PT X c t):PIf X [c] t:=fun pins s σ H Q I q=>wpAny_tests_one (h pins s σ H Q I q)
noncomputable def l0(js:List (Option Nat))(wi:TI)(g:TG)(tt:TT)(te:TE):TE:=fun σ H Q=>wi σ H fun J H1=>∀p,H1 p=none->∃W:Nat->Nat->St->Hp->Prop,(∃m,W 0 m (gE js σ) (upd H1 p (.lst [])))/\
 ∀(i:Nat) m σc H,W i m σc H->(J.stop i H/\Q (.ref p) H)\/(J.go i H/\∀x H',J.yld i H x H'->g x σc H' fun σ2 H2=>tt σ2 H2 fun b H3=>
  if b=true then te σ2 H3 fun y H4=>∃ys,H4 p=some (.lst ys)/\ys.length < sizeLine/\∃m',m' < m/\W (i+1) m' σ2 (upd H4 p (.lst (ys++[y]))) else ∃m',m' < m/\W (i+1) m' σ2 H3)
section
variable {X:Cx}{elt tg iter:Expr}{ifs:List Expr}{scope:Scope}{pos:Pos}{N:List Str}{js:List (Option Nat)}{wi:TI}{g:TG}{tt:TT}{te:TE}
theorem j4{use:Option (Value->Sem Unit)}{Qf:Value->Shared->Prop}{pins:List (Addr×Obj)}{s:Shared}{σ:St}{H:Hp}{Q:VK}{pos':Pos}(hok:dg N js scope X.env.scope X.N=true)(hcalm:X.calm=true)(hi:PI X tg iter wi)
  (hg:∀C s2 H2 fp pn,PG (compCx X scope C N s2 H2 fp pn) tg g) (ht:∀C s2 H2 fp pn,PIf (compCx X scope C N s2 H2 fp pn) ifs tt) (he:∀C s2 H2 fp pn,PE (compCx X scope C N s2 H2 fp pn) elt te)
  (hs:∀x,foldedSetIterable iter X.env x=pure x) (I:Inv X pins σ H s) (h:l0 js wi g tt te σ H Q)
  (fin:∀(D C:Addr) (s5:Shared) (H4:Hp) (m5:Str->Option Value),s5.heap.Ns C m5->et X pins H4 C->(∀h',Heap.SameBut C s5.heap h'->Inv X pins σ H4 {s5 with heap:=h'})->Q (.ref D) H4->compPost (model X.prog X.w) X.A X.xe use Qf (.ref D) C (.ok .next) s5) :
  wpAny (model X.prog X.w) X.A (comprehension (.ListComp elt [⟨tg,iter,ifs,0⟩] scope pos) scope X.env pos' (newList []) false (eval iter X.env) use) Qf X.xe s:=by
 have O:=i5 hok
 have hcells:∀y∈scope.names,y.2=.free->∃c,X.env.cells.lookup y.1=some c:=fun y hy e=>I.ok.has y.1 (.inl (O.nf y hy e))
 refine wpAny_comprehension_free (use:=use) rfl hs (ir hcells) O.k1 O.nl (thn (hi pins s σ H _ I h) fun xv s1 h1=>thn h1 fun itv s2 h2=>?_)
 obtain⟨it,fp,tn,J,H2,rfl,I2,T,st2,f2,hQ⟩:=h2
 refine wpAny_newObj_type (fh ?_)
 dsimp only
 have sz1:(s2.heap.push {cls:=.type "list",dict:=none,data:=.seq ([]:List Value).toArray}).objs.size=s2.heap.objs.size+1:=Heap.size_push ..
 have sz2:((s2.heap.push {cls:=.type "list",dict:=none,data:=.seq ([]:List Value).toArray}).push {cls:=.type "dict",data:=.dict #[]}).objs.size=s2.heap.objs.size+1+1:=by rw[Heap.size_push,sz1]
 have hns:(pushCells ((s2.heap.push {cls:=.type "list",dict:=none,data:=.seq ([]:List Value).toArray}).push {cls:=.type "dict",data:=.dict #[]}) scope.names).Ns (s2.heap.objs.size+1) (fun _=>none):=by
  rw[<-sz1];exact (Heap.Ns.new _ (.type "dict")).keeps (pushCells_keeps _ _)
 have keep:∀b o,s2.heap.get? b=some o->(pushCells ((s2.heap.push {cls:=.type "list",dict:=none,data:=.seq ([]:List Value).toArray}).push {cls:=.type "dict",data:=.dict #[]}) scope.names).get? b=some o:=fun b o e=>
  pushCells_keeps _ _ b o (Heap.get?_push_of_some _ (Heap.get?_push_of_some _ e))
 have atD:(pushCells ((s2.heap.push {cls:=.type "list",dict:=none,data:=.seq ([]:List Value).toArray}).push {cls:=.type "dict",data:=.dict #[]}) scope.names).get? s2.heap.objs.size=some {cls:=.type "list",data:=.seq ([]:List Value).toArray}:=
  pushCells_keeps _ _ _ _ (Heap.get?_push_of_some _ (Heap.get?_push_size _ rfl))
 have cok:=cellsFrom_ok scope.names ((s2.heap.push {cls:=.type "list",dict:=none,data:=.seq ([]:List Value).toArray}).push {cls:=.type "dict",data:=.dict #[]}) (s2.heap.objs.size+1+1) [] ⟨fun _ _ hm=>(nomatch hm),List.Pairwise.nil⟩ (by rw[sz2];exact Nat.le_refl _)
 rw[sz2]at cok
 rw[sz1]
 generalize pushCells ((s2.heap.push {cls:=.type "list",dict:=none,data:=.seq ([]:List Value).toArray}).push {cls:=.type "dict",data:=.dict #[]}) scope.names=h1' at hns keep atD cok ⊢
 have frD:H2 s2.heap.objs.size=none:=I2.hok.fresh (Nat.le_refl _)
 have frC:H2 (s2.heap.objs.size+1)=none:=I2.hok.fresh (Nat.le_succ _)
 have hCD:s2.heap.objs.size+1≠s2.heap.objs.size:=Nat.succ_ne_self _
 obtain⟨W,⟨m0,w0⟩,turn⟩:=hQ s2.heap.objs.size frD
 have fpThere:∀b∈fp,b < s2.heap.objs.size:=fun b hb=>by
  obtain⟨o,e,_⟩:=T.obj 0 _ st2 b hb
  exact Heap.lt_size e
 have lk:∀x c,(cellsFrom (s2.heap.objs.size+1+1) scope.names []++aI scope.names X.env.cells []).lookup x=some c->(x,c)∈cellsFrom (s2.heap.objs.size+1+1) scope.names []\/X.env.cells.lookup x=some c:=fun x c e=>by
  rcases List.mem_append.mp (bt e) with z|z
  ·exact .inl z
  ·exact .inr (bC (acc:=[]) (fun p hp=>nomatch hp) _ z)
 have old:∀x c,X.env.cells.lookup x=some c->c < s2.heap.objs.size:=fun x c e=>by
  obtain⟨v,o,ho,hd⟩:=I2.cell x c e
  exact Heap.lt_size ho
 have cne:∀b∈fp,∀x c,(cellsFrom (s2.heap.objs.size+1+1) scope.names []++aI scope.names X.env.cells []).lookup x=some c->c≠b:=fun b hb x c e=>by
  rcases lk x c e with z|z
  ·have a1:=(ay z).2
   exact Nat.ne_of_gt (Nat.lt_of_lt_of_le (fpThere b hb) (Nat.le_trans (Nat.le_add_right _ 2) a1))
  ·exact (f2 b hb).2.2.2.2.1 x c z
 let Xc:Cx:=compCx X scope (s2.heap.objs.size+1) N s2 H2 fp pins
 have cOk:Xc.Ok:=by
  refine⟨I2.ok.mod,O.k1,I2.ok.glob,I2.ok.blt,Nat.le_succ _,fun x y c e1 e2=>?_,fun x hx=>?_,fun x c e1 e2=>?_,I2.ok.hd,I2.ok.frames,.inl rfl,fun b hb=>?_,I2.bs,Nat.le_trans I2.ok.bsz I2.sz,fun b o e hb=>?_,fun b hb hm=>?_,I2.stack,I2.stkFree⟩
  ·rcases lk x c e1 with z1|z1<;>rcases lk y c e2 with z2|z2
   ·exact name_of_addr cok.apart z1 z2
   ·have a1:=(ay z1).2
    exact absurd (Nat.lt_of_lt_of_le (old _ _ z2) (Nat.le_trans (Nat.le_add_right _ 2) a1)) (Nat.lt_irrefl _)
   ·have a1:=(ay z2).2
    exact absurd (Nat.lt_of_lt_of_le (old _ _ z1) (Nat.le_trans (Nat.le_add_right _ 2) a1)) (Nat.lt_irrefl _)
   ·exact I2.ok.inj x y c z1 z2
  ·have hx:(relabel scope X.env).names.lookup x=some .cell\/(relabel scope X.env).names.lookup x=some .free:=hx
   have key:(x,NameKind.free)∈scope.names\/(x,NameKind.cell)∈scope.names:=by
    rcases hx with hx|hx
    ·obtain⟨k',m,z⟩:=df hx
     rcases z with z|z
     ·subst z;exact .inr m
     ·subst z;exact .inl m
    ·obtain⟨k',m,z⟩:=df hx
     rcases z with z|z<;>(subst z;exact .inl m)
   rcases key with key|key
   ·obtain⟨c,e⟩:=hcells _ key rfl
    exact cL (List.mem_append_right _ (bt (jS key e)))
   ·obtain⟨c,e⟩:=bY key (n:=s2.heap.objs.size+1+1)
    exact cL (List.mem_append_left _ e)
  ·have e1:scope.names.lookup x=some .cell:=beq_iff_eq.mp e1
   obtain⟨c1,h1⟩:=bY (PySem.mem_of_lookup e1) (n:=s2.heap.objs.size+1+1)
   obtain⟨c2,h2⟩:=cL h1
   have e2:(cellsFrom (s2.heap.objs.size+1+1) scope.names []++aI scope.names X.env.cells []).lookup x=some c:=e2
   rw[List.lookup_append,h2]at e2
   cases e2
   have a1:=(ay (bt h2)).2
   exact Nat.le_trans (Nat.le_add_right _ 2) a1
  ·exact⟨Nat.ne_of_lt (Nat.lt_succ_of_lt (fpThere b hb)),fun x c e=>cne b hb x c e⟩
  ·rcases (f2 b hb).2.2.2.1 with z|z
   ·exact I2.ok.noex b o e z
   ·exact absurd (Nat.lt_of_lt_of_le (Heap.lt_size e) (Nat.le_trans I2.ok.bsz z)) (Nat.lt_irrefl _)
  ·rcases List.mem_cons.mp (I2.stkSub b hm) with z|z
   ·exact (f2 b hb).2.1 z
   ·exact (f2 b hb).2.2.1 z
 have I3:Inv Xc [] (gE js σ) (upd H2 s2.heap.objs.size (.lst [])) {s2 with heap:=h1'}:=by
  refine⟨cOk,rfl,I2.bare,Un.laid keep (Nat.le_refl _) frD,⟨_,hns,fun i x v e1 e2 e3=>?_⟩,fun x c e=>?_,?_,fun x c e=>?_,fun p hp=>?_,?_,?_⟩
  ·have e2:(js.map fun o=>o.bind fun j=>(σ[j]?).bind id)[i]?=some (some v):=e2
   rw[List.getElem?_map]at e2
   cases q:js[i]? with
   |none=>rw[q]at e2;cases e2
   |some o=>
    rw[q]at e2
    cases o with
    |none=>cases e2
    |some j=>
     obtain⟨a1,a2,a3⟩:=O.fr i x j e1 q
     have hv:σ[j]?=some (some v):=by
      cases z:σ[j]? with
      |none=>rw[Option.map_some,Option.bind_some,z]at e2;cases e2
      |some y=>
       rw[Option.map_some,Option.bind_some,z]at e2
       have e2:some (id y)=some (some v):=e2
       rw[show y=some v from Option.some.inj e2]
     obtain⟨m,hn,hl⟩:=I2.loc
     obtain⟨u,r,l⟩:=hl j x v a1 hv (.inr (.inl a3))
     refine⟨u,r,?_⟩
     rcases l with ⟨k,_⟩|⟨k,c,e,o,ho,hd⟩
     ·rw[show X.env.kindOf x=some .cell from a3]at k;cases k
     ·have only:∀y∈scope.names,y.1=x->y.2=.free:=fun y hy hyx=>?_
      ·refine .inr ⟨.inl (eR I2.ok.kind a3 a2 only),c,c8 (List.mem_append_right _ (bt (jS a2 e))) (fun p hp hx=>?_),o,keep _ _ ho,hd⟩
       rcases List.mem_append.mp hp with z|z
       ·have:=only _ (ay z).1 hx
        cases this
       ·have z:=bC (acc:=[]) (fun p hp=>nomatch hp) p z
        rw[hx,e]at z
        exact (Option.some.inj z).symm
      obtain⟨i1,h1,e1'⟩:=List.mem_iff_getElem.mp hy
      obtain⟨i2,h2,e2'⟩:=List.mem_iff_getElem.mp a2
      have:i1=i2:=by
       refine (List.getElem_inj (h₀:=by rw[List.length_map];exact h1) (h₁:=by rw[List.length_map];exact h2) O.ndn).mp ?_
       rw[List.getElem_map,List.getElem_map,e1',e2'];exact hyx
      subst this
      rw[e1']at e2';rw[e2']
  ·rcases lk x c e with z|z
   ·exact⟨none,(cok.empty x c z).1⟩
   ·obtain⟨v,o,ho,hd⟩:=I2.cell x c z
    exact⟨v,o,keep _ _ ho,hd⟩
  ·show upd H2 _ _ (s2.heap.objs.size+1)=none
   rw[ah hCD];exact frC
  ·rcases lk x c e with z|z
   ·have a1:=(ay z).2
    show upd H2 _ _ c=none
    rw[ah (Nat.ne_of_gt (Nat.lt_of_lt_of_le (Nat.lt_add_of_pos_right (by decide:0 < 2)) a1))]
    exact I2.hok.fresh (Nat.le_trans (Nat.le_add_right _ 2) a1)
   ·have a2:=old _ _ z
    show upd H2 _ _ c=none
    rw[ah (Nat.ne_of_lt a2)]
    exact I2.freeC x c z
  ·have hp:p∈X.pn++pins:=by rw[List.append_nil]at hp;exact hp
   obtain⟨e,n,ne,nf,d⟩:=I2.pin p hp
   refine⟨keep _ _ e,by rw[ah (Nat.ne_of_lt (Heap.lt_size e))];exact n,Nat.ne_of_lt (Nat.lt_succ_of_lt (Heap.lt_size e)),fun hm=>?_,d⟩
   rcases List.mem_cons.mp (I2.stkSub _ hm) with z|z
   ·exact ne z
   ·exact nf z
  ·exact I2.hok.laid keep (Nat.le_refl _) ⟨Nat.zero_le _,[],0,.nil,atD⟩
  ·show (js.map _).length=N.length
   rw[List.length_map,O.len]
 have fpc:∀{H':Hp},(∀b∈fp,H' b=none)->∀b∈fp,et Xc [] H' b:=fun {H'} hn b hb=>by
  refine⟨hn b hb,Nat.ne_of_lt (Nat.lt_succ_of_lt (fpThere b hb)),fun hm=>?_,.inl hb,fun x c e=>cne b hb x c e,fun p hp=>(f2 b hb).2.2.2.2.2 p (by rw[List.append_nil]at hp;exact hp)⟩
  rcases List.mem_cons.mp (I2.stkSub b hm) with z|z
  ·exact (f2 b hb).2.1 z
  ·exact (f2 b hb).2.2.1 z
 have st3:tn 0 h1':=T.keep 0 _ _ st2 fun b hb o e=>keep b o e
 have fr3:∀b∈fp,(upd H2 s2.heap.objs.size (.lst [])) b=none:=fun b hb=>by
  rw[ah (Nat.ne_of_lt (fpThere b hb))];exact (f2 b hb).1
 have loop:codeAny (model X.prog X.w) X.A (.compLoop (.ListComp elt [⟨tg,iter,ifs,0⟩] scope pos) 0 (.ref it) (.ref s2.heap.objs.size) (compEnvC scope (cellsFrom (s2.heap.objs.size+1+1) scope.names []++aI scope.names X.env.cells []) (s2.heap.objs.size+1) X.env))
   (compPost (model X.prog X.w) X.A X.xe use Qf (.ref s2.heap.objs.size) (s2.heap.objs.size+1)) {s2 with heap:=h1'}:=by
  refine nw (fun n s'=>∃i σc H',Inv Xc [] σc H' s'/\tn i s'.heap/\(∀b∈fp,H' b=none)/\W i n σc H') ?_ m0 ⟨0,_,_,I3,st3,fr3,w0⟩
  rintro n s4 ⟨i,σc,H4,I4,st4,fr4,w4⟩
  rcases turn i n σc H4 w4 with ⟨stop,q⟩|⟨go,step⟩
  ·refine thn (T.done Xc rfl rfl rfl hcalm i [] s4 σc H4 (fun _ _=>False) I4 (fpc fr4) st4 stop) fun r s5 ⟨hr,I5⟩=>?_
   subst hr
   obtain⟨m5,hn5,_⟩:=I5.loc
   have un5:Un (frs X.stack) fp H2 H4 s2.heap s5.heap:=I5.base
   have neC:∀b o,s2.heap.get? b=some o->b≠s2.heap.objs.size+1:=fun b o e=>Nat.ne_of_lt (Nat.lt_succ_of_lt (Heap.lt_size e))
   have fC:H4 (s2.heap.objs.size+1)=none:=I5.free
   refine fin _ _ _ H4 m5 hn5 (I2.fpOk (Nat.le_succ _) fC) (fun h' hsame=>?_) q
   refine I2.call' (s':={s5 with heap:=h'}) (ch:=fp) I5.os ⟨fun b o q n hb hx=>(hsame.2 b (neC b o q)).trans (un5.keep b o q n hb hx),fun b o q n hb hx=>?_,un5.free,fun b o q hx=>?_,un5.tups,un5.frzs,un5.tbls⟩ ?_ I5.bare (fun b hb=>⟨(f2 b hb).2.2.2.1,(f2 b hb).2.1,(f2 b hb).2.2.2.2.1,(f2 b hb).2.2.2.2.2⟩)
   ·obtain⟨sl,z⟩:=un5.slot b o q n hb hx
    exact⟨sl,(hsame.2 b (neC b o q)).trans z⟩
   ·obtain⟨o',z⟩:=un5.there b o q hx
    exact⟨o',(hsame.2 b (neC b o q)).trans z⟩
   ·exact I5.hok.keptT fun b u ob hb q=>(hsame.2 b fun z=>by rw[z,fC]at hb;cases hb).trans q
  ·refine thn (T.item Xc rfl rfl rfl hcalm i [] s4 σc H4 (fun _ _=>False) I4 (fpc fr4) st4 go) fun r s5 ⟨u,hr,h5⟩=>?_
   subst hr
   refine thn h5 fun _ s6 ⟨x,H6,I6,r6,y6,st6,fr6⟩=>?_
   have I6':=I6.pinned (fpc fr6) (T.obj _ _ st6)
   refine thn (hg _ _ _ _ _ _ s6 σc H6 x u _ I6' r6 (step x H6 y6)) fun _ s7 ⟨σ7,H7,I7,q7⟩=>?_
   refine thn (ht _ _ _ _ _ _ s7 σ7 H7 _ I7 q7) fun ok s8 ⟨H8,I8,q8⟩=>?_
   have back:∀{H9:Hp}{s9:Shared}{σ9:St},Inv Xc ([]++gH fp s6.heap) σ9 H9 s9->Inv Xc [] σ9 H9 s9/\tn (i+1) s9.heap/\∀b∈fp,H9 b=none:=fun {H9 s9 σ9} I9=>by
    refine⟨I9.unpinned,T.keep _ _ _ st6 fun b hb o e=>(I9.pin (b,o) (List.mem_append_right _ (List.mem_append_right _ (cK hb e)))).1,fun b hb=>?_⟩
    obtain⟨o,e,d⟩:=T.obj _ _ st6 b hb
    exact (I9.pin (b,o) (List.mem_append_right _ (List.mem_append_right _ (cK hb e)))).2.1
   cases ok with
   |false=>
    rw[if_neg Bool.false_ne_true]at q8 ⊢
    obtain⟨m',hm,w8⟩:=q8
    obtain⟨b1,b2,b3⟩:=back I8
    exact⟨m',hm,i+1,σ7,H8,b1,b2,b3,w8⟩
   |true=>
    rw[if_pos rfl]at q8 ⊢
    refine thn (he _ _ _ _ _ _ s8 σ7 H8 _ I8 q8) fun y s9 ⟨z,H9,I9,r9,ys,e9,hl,m',hm,w9⟩=>?_
    refine thn (jf (X:=Xc) _ s9 σ7 H9 (.ref s2.heap.objs.size) [z] (.ref s2.heap.objs.size) [y] (fun _ H10=>H10=upd H9 s2.heap.objs.size (.lst (ys++[z]))) I9 rfl (.cons r9 .nil) ⟨_,ys,z,rfl,rfl,e9,hl,rfl⟩) fun _ s10 ⟨_,H10,I10,_,e10⟩=>?_
    subst e10
    obtain⟨b1,b2,b3⟩:=back I10
    exact⟨m',hm,i+1,σ7,_,b1,b2,b3,w9⟩
 exact codeAny_compStart_list loop (T.self _ 0 _ _ _ st3 loop)
theorem rO(hok:dg N js scope X.env.scope X.N=true)(hcalm:X.calm=true)(hi:PI X tg iter wi)
  (hg:∀C s2 H2 fp pn,PG (compCx X scope C N s2 H2 fp pn) tg g) (ht:∀C s2 H2 fp pn,PIf (compCx X scope C N s2 H2 fp pn) ifs tt) (he:∀C s2 H2 fp pn,PE (compCx X scope C N s2 H2 fp pn) elt te)
  (hs:∀x,foldedSetIterable iter X.env x=pure x:=by intro _;rfl):PE X (.ListComp elt [⟨tg,iter,ifs,0⟩] scope pos) (l0 js wi g tt te):=fun pins s σ H Q I h=>by
 rw[eval_ListComp]
 exact j4 (use:=none) hok hcalm hi hg ht he hs I h fun D C s5 H4 m5 hn _ key q=>⟨m5,hn,fun h' hs'=>⟨.ref D,H4,key h' hs',rfl,q⟩⟩
theorem hV{i:Nat}{y:Str}{py spos:Pos}(hN:X.N.Nodup)(hy:X.N[i]?=some y)(hl:X.env.scope.names.lookup y=some .local)(hok:dg N js scope X.env.scope X.N=true)(hcalm:X.calm=true)(hi:PI X tg iter wi)
  (hg:∀C s2 H2 fp pn,PG (compCx X scope C N s2 H2 fp pn) tg g) (ht:∀C s2 H2 fp pn,PIf (compCx X scope C N s2 H2 fp pn) ifs tt) (he:∀C s2 H2 fp pn,PE (compCx X scope C N s2 H2 fp pn) elt te)
  (hs:∀x,foldedSetIterable iter X.env x=pure x) (hsw:swapsWith (.ListComp elt [⟨tg,iter,ifs,0⟩] scope pos) (some (.Name y py)) spos.line X.env=pure true) :
  PS X (.Assign [.Name y py] (.ListComp elt [⟨tg,iter,ifs,0⟩] scope pos) spos) (xG (l0 js wi g tt te) (lW i)):=by
 intro pins s σ H D I h
 rw[exec_Assign_Name_used _ _ _ _ hsw]
 refine wpAny_bind (wpAny_standAt (wpAny_bind ?_))
 show wpAny _ _ (do let _<-comprehension (.ListComp elt [⟨tg,iter,ifs,0⟩] scope pos) scope X.env _ (newList []) false (eval iter X.env) (some (assign (.Name y py) X.env))) _ _ s
 refine wpAny_bind (wpAny_mono (j4 (use:=some (assign (.Name y py) X.env)) (Qf:=fun _ s'=>SP X pins D .next s') hok hcalm hi hg ht he hs I h fun Da C s5 H4 m5 hn fp key q=>?_) (fun _ s' hq=>wpAny_pure (wpAny_pure hq)) fun _ _ z=>z)
 show wpAny _ _ (assign (.Name y py) X.env (.ref Da)) _ _ _
 have J:Inv X pins σ H4 s5:=key s5.heap (Heap.SameBut.refl _ _)
 obtain⟨oC,es,ep,eC,rC⟩:=id hn
 obtain⟨f0,f1,f2,f3,f4,f5⟩:=id fp
 have JC:Inv X (pins++[(C,oC)]) σ H4 s5:=J.pins_of fun p hp=>by
  rcases List.mem_append.mp hp with z|z
  ·exact J.pin p (List.mem_append_right _ z)
  ·have e:p=(C,oC):=by simpa using z
   subst e
   exact⟨eC,f0,f1,f2,fun v hv=>by
    have z:=rC.1
    rw[show oC.data=.cell v from hv]at z
    cases z⟩
 refine thn ((fU (pos:=py) hN hy (.inl hl) (.inr hl)) _ s5 σ H4 (.ref Da) (.ref Da) (fun σ' H'=>H'=H4/\D.nx σ' H') JC rfl ⟨rfl,q⟩) fun _ s6 ⟨σ6,H6,I6,e6,q6⟩=>?_
 subst e6
 have eC6:s6.heap.get? C=some oC:=(I6.pin (C,oC) (List.mem_append_right _ (List.mem_append_right _ (by simp)))).1
 refine⟨m5,hn.at' fun o e=>?_,fun h' hsame=>⟨σ6,H6,?_,q6⟩⟩
 ·rw[eC]at e;cases e;exact eC6
 ·exact (Inv.unpinned I6).turned (t':=s6.toks) (it:=C) (fun b o hb e=>(hsame.2 b hb).trans e) f0 f1 f3 f4 f5
end
end L2
namespace L2
open PySem PySem.Spec PySem.Calls PyProof.Rows PySem.W PySem.Builtin PySem.Builtin.ObjectAttr PySem.Builtin.Getset_descriptor
section
variable {prog:Program}{w:World}{A:Around}{E:Value->Shared->Prop}{h:Heap}{g:Array GenState}{d:Drawn}{t:Nat}{os:OsState}{a C:Addr}{o:Obj}{K:PySem.W.Frag}
theorem qm{R:Result->Shared->Prop}{tp:Value}(X:K.In h)(hx:h.get? a=some o)(hc:o.cls=.ref C)(hm:PySem.W.mroIn K C (.type "object")=some true)(hq:R (.ok (.ret (.ref C))) ⟨h,g,d,t,os⟩) :
  codeAny (model prog w) A (.call (.builtin "getset_descriptor.__get__") ⟨[.builtin "object.__class__",.ref a,tp],[]⟩) R ⟨h,g,d,t,os⟩:=by
 have L0:PySem.W.Looks (model prog w) h (typeOf (.ref a)) (.ref C):=hc▸(PySem.W.Looks.ld hx).andThen .now
 have L1:=PySem.W.looks_mroIn (M:=model prog w) X hm
 refine codeAny_call_builtin KF.slot_gs.plain KF.entry_gs (KF.slot_gs.check _ _ _ _ _ _ _ _ KF.type_class (KF.args_gs _ _ _) ?_)
 unfold Builtin.«getset_descriptor.__get__» descrGet
 rw[dga_obj]
 refine wpAny_bind (wpAny_pure ?_)
 unfold descrGetter descrCheckInstance descrNameAndClass isInstance
 simp only[KF.owner_class]
 repeat lk
 refine⟨Code.quiet_builtin _ (by decide +kernel),codeAny_builtin KF.entry_class ?_⟩
 unfold Builtin.«object.__class__» shownTypeOf
 repeat lk
 exact hq
theorem kg{M:Model}{name:Str}{b gg:Value}(X:K.In h)(ha:findIn K (.ref C) name=some (some b))(hg:specialIn K b "__get__"=some (some gg))(ht:takesIn K b=some true):Looks M h (find (.ref a) (.ref C) name) (.bind gg b):=by
 have L1:=looks_findIn (M:=M) X ha
 have L2:Looks M h (getOf (some b)) (some gg):=looks_specialIn X hg
 have L3:=looks_takesIn (M:=M) X ht
 refine L1.andThen (L2.andThen ?_)
 exact (show Looks M h (dataDescriptor? (some b) (some gg)) (some (gg,b)) from L3.andThen .now).andThen (Looks.tag .now)
variable (hga:findIn K (.ref C) "__getattribute__"=some (some (.builtin "BaseException.__getattribute__"))) (hgn:findIn K (.ref C) "__getattr__"=some none) (hcl:findIn K (.ref C) "__class__"=some (some (.builtin "object.__class__")))
 (hn:specialIn K (.builtin "object.__class__") "__get__"=some (some (.builtin "getset_descriptor.__get__"))) (htk:takesIn K (.builtin "object.__class__")=some true) (hm:mroIn K C (.type "object")=some true) (hmB:mroIn K C (.type "BaseException")=some true)
include hcl hn htk hm in
theorem mQ{tk:Tok}{Q:PySem.Fin->Shared->Prop}(X:K.In h)(hx:h.get? a=some o)(hc:o.cls=.ref C)(hq:Q (.done (.ret (.ref C))) ⟨h,g,d,t,os⟩) :
  wpAny (model prog w) A (Builtin.«object.__getattribute__» ⟨[.ref a,.str "__class__" tk],[]⟩) Q E ⟨h,g,d,t,os⟩:=by
 have L0:Looks (model prog w) h (typeOf (.ref a)) (.ref C):=hc▸(Looks.ld hx).andThen .now
 have L1:=kg (M:=model prog w) (a:=a) X hcl hn htk
 refine wpAny_bind (wpAny_pure (wpAny_bind (wpAny_pure (wpAny_bind (L0.at (wpAny_bind (L1.at ?_)))))))
 show wpAny _ _ (bindTo _ _ _ _) _ _ _
 refine wpAny_bind (wpAny_holding (wpAny_call (qm X hx hc hm ?_)))
 exact wpAny_pure hq
include hmB in
theorem nG{M:Model}{nameV:Value}{Q:Unit->Shared->Prop}(X:K.In h)(hx:h.get? a=some o)(hc:o.cls=.ref C)(hq:Q () ⟨h,g,d,t,os⟩):wpAny M A (checkBuiltinCall "BaseException.__getattribute__" ⟨[.ref a,nameV],[]⟩) Q E ⟨h,g,d,t,os⟩:=by
 have hk:builtinKind "BaseException.__getattribute__"=some .slot:=by decide +kernel
 have hsplit:splitId "BaseException.__getattribute__"=some ("BaseException","__getattribute__"):=by decide +kernel
 have L0:Looks M h (typeOf (.ref a)) (.ref C):=hc▸(Looks.ld hx).andThen .now
 have L1:=looks_mroIn (M:=M) X hmB
 have ha:=F.args_bexc_ga (.ref a) nameV
 simp only[checkBuiltinCall,hk,hsplit]
 refine wpAny_bind ?_
 ·unfold isInstance
  refine wpAny_bind (L0.at (L1.at ?_))
  repeat (first|assumption|wp_step)
include hga hgn hcl hn htk hm hmB in
theorem pW{Q:Option Value->Shared->Prop}(X:K.In h)(hx:h.get? a=some o)(hc:o.cls=.ref C)(hq:Q (some (.ref C)) ⟨h,g,d,t+1,os⟩):wpAny (model prog w) A (getAttr? (.ref a) "__class__") Q E ⟨h,g,d,t,os⟩:=by
 have L0:Looks (model prog w) h (typeOf (.ref a)) (.ref C):=hc▸(Looks.ld hx).andThen .now
 have L1:=looks_findIn (M:=model prog w) X hga
 have L2:=looks_findIn (M:=model prog w) X hgn
 have FB:Slot "ValueError" "__getattribute__" "BaseException.__getattribute__":=F.excAttr_ValueError.ga
 have f3:=FB.bind (.ref a)
 unfold getAttr? getAttrBy? getAttrBy
 refine wpAny_bind (wpAny_mkText (wpAny_bind (wpAny_attempt (wpAny_holding (wpAny_bind (L0.at (wpAny_bind (L1.at ?_))))))))
 show wpAny _ _ (getAttrByItsOwn _ _ _ _ _ _) _ _ _
 refine wpAny_bind (L2.at (wpAny_bind (wpAny_attempt (wpAny_holding ?_))))
 unfold callGetattribute
 show wpAny _ _ (boundAndCalled _ _ _) _ _ _
 unfold boundAndCalled
 rw[f3]
 refine wpAny_bind (wpAny_pure ?_)
 refine wpAny_call (codeAny_call_builtin FB.plain F.entry_bexc_ga (nG hmB X hx hc (mQ hcl hn htk hm X hx hc ?_)))
 exact wpAny_pure (wpAny_pure hq)
end
structure ExcI (K:PySem.W.Frag) (C:Addr):Prop where
 hd:PySem.W.hasDictIn K C=true
 ga:findIn K (.ref C) "__getattribute__"=some (some (.builtin "BaseException.__getattribute__"))
 gn:findIn K (.ref C) "__getattr__"=some none
 cl:findIn K (.ref C) "__class__"=some (some (.builtin "object.__class__"))
 n:specialIn K (.builtin "object.__class__") "__get__"=some (some (.builtin "getset_descriptor.__get__"))
 tk:takesIn K (.builtin "object.__class__")=some true
 m:mroIn K C (.type "object")=some true
 mB:mroIn K C (.type "BaseException")=some true
theorem pP{K:PySem.W.Frag}{a C:Addr}(X:ExcI K C):KitX K (.ref a) (.ref C) (fun h=>∃o,h.get? a=some o/\o.cls=.ref C) where
 ty:=fun M h _ ⟨o,hx,hc⟩=>hc▸(Looks.ld hx).andThen .now
 it:=fun _ _ Y _=>by
  obtain⟨cdD,hcD,_⟩:=any_some X.hd
  unfold clsIn at hcD
  split at hcD
  ·rename_i c' d' cd' sl' ho
   intro A' Q' E' s' k q
   unfold isType loadHead
   exact wpAny_bind (wpAny_loadPart (k _ _ (Y _ _ ho)) (wpAny_pure q))
  ·cases hcD
 ne:=fun h tp dd its n sl Y htp=>by
  obtain⟨cdD,hcD,_⟩:=any_some X.hd
  refine Bool.eq_false_iff.mpr fun q=>?_
  have e:C=tp:=Value.ref.inj (beq_iff_eq.mp q)
  subst e
  unfold clsIn at hcD
  split at hcD
  ·rename_i c' d' cd' sl' ho
   have z:=(Y _ _ ho).symm.trans htp
   cases z
  ·cases hcD
 ca:=fun {prog w A E Q s} Y ⟨o,hx,hc⟩ k=>pW X.ga X.gn X.cl X.n X.tk X.m X.mB Y hx hc k
end L2
namespace L2
open PySem PySem.Spec PySem.Calls PyProof.Rows PySem.W PySem.Builtin PySem.Builtin.ObjectAttr
section
variable {prog:Program}{w:World}{A:Around}{E:Value->Shared->Prop}{h:Heap}{g:Array GenState}{d:Drawn}{t:Nat}{os:OsState}{a C:Addr}{o:Obj}{K:PySem.W.Frag}{name:Str}{u:Value}
end
end L2
namespace L2
open PySem PySem.Spec PySem.Calls PyProof.Rows PySem.W
noncomputable def sH(h:Heap)(v:Value)(p:Str×Int):Prop:=∃t o m tx ty,v=.ref t/\h.get? t=some o/\o.cls=.type "tuple"/\o.data=.seq #[.str p.1 tx,.int p.2 ty] m
section
variable {prog:Program}{w:World}{A:Around}{E:Value->Shared->Prop}{s:Shared}
noncomputable def Pv(h:Heap):List Value->List (Str×Int)->Prop
 |[],ps=>ps=[]
 |v::vs,ps=>∃p r,ps=p::r/\sH h v p/\Pv h vs r
theorem Pv.length{h:Heap}:∀{vs:List Value}{ps:List (Str×Int)},Pv h vs ps->vs.length=ps.length
 |[],_,e=>by rw[show _=[] from e];rfl
 |v::vs,_,e=>by obtain⟨p,r,rfl,_,t⟩:=e;rw[List.length_cons,List.length_cons,t.length]
theorem Pv.get{h:Heap}:∀{vs:List Value}{ps:List (Str×Int)}{i:Nat},Pv h vs ps->i < ps.length->sH h (vs.getD i .none) (ps.getD i ("",0))
 |[],_,i,e,hi=>by rw[e]at hi;simp at hi
 |v::vs,_,0,e,hi=>by obtain⟨p,r,rfl,a,t⟩:=e;simpa using a
 |v::vs,_,i+1,e,hi=>by
  obtain⟨p,r,rfl,a,t⟩:=e
  simpa using t.get (i:=i) (by simpa using hi)
theorem Pv.keeps{h h':Heap}(k:∀b o,h.get? b=some o->o.cls=.type "tuple"->h'.get? b=some o):∀{vs:List Value}{ps:List (Str×Int)},Pv h vs ps->Pv h' vs ps
 |[],_,e=>e
 |v::vs,_,e=>by
  obtain⟨p,r,rfl,⟨t,o,m,tx,ty,e1,g,c,d⟩,z⟩:=e
  exact⟨p,r,rfl,⟨t,o,m,tx,ty,e1,k _ _ g c,c,d⟩,z.keeps k⟩
theorem Pv.tups{h:Heap}:∀{vs:List Value}{ps:List (Str×Int)},Pv h vs ps->∃fs,KatTups h vs fs/\fs.length=ps.length/\∀v∈fs,∃x t,v=Value.str x t
 |[],_,e=>by rw[e];exact⟨[],KatTups.nil,rfl,fun _ h=>nomatch h⟩
 |v::vs,_,e=>by
  obtain⟨p,r,rfl,⟨t,o,m,tx,ty,rfl,g,c,d⟩,z⟩:=e
  obtain⟨fs,a,b,c'⟩:=z.tups
  exact⟨.str p.1 tx::fs,KatTups.cons g c d rfl a,by rw[List.length_cons,List.length_cons,b],fun v hv=>(List.mem_cons.mp hv).elim (fun e=>⟨_,_,e⟩) (c' v)⟩
end
end L2
namespace L2
open PySem PySem.Spec PySem.Calls PyProof.Rows PySem.W
open AutoSeq1 (wpAny_loadPart')
open MeetsSeq MeetsSeq2 MeetsSeq3
noncomputable def sB(h:Heap)(v:Value)(xs:List Int):Prop:=∃t n vs,v=.ref t/\h.get? t=some (seqObj "list" vs.toArray n)/\IntsAre vs xs
section
variable {prog:Program}{w:World}{A:Around}{E:Value->Shared->Prop}{s:Shared}
noncomputable def Lv(h:Heap):List Value->List (List Int)->Prop
 |[],ps=>ps=[]
 |v::vs,ps=>∃p r,ps=p::r/\sB h v p/\Lv h vs r
theorem Lv.length{h:Heap}:∀{vs:List Value}{ps:List (List Int)},Lv h vs ps->vs.length=ps.length
 |[],_,e=>by rw[show _=[] from e];rfl
 |v::vs,_,e=>by obtain⟨p,r,rfl,_,t⟩:=e;rw[List.length_cons,List.length_cons,t.length]
theorem Lv.get{h:Heap}:∀{vs:List Value}{ps:List (List Int)}{i:Nat},Lv h vs ps->i < ps.length->sB h (vs.getD i .none) (ps.getD i [])
 |[],_,i,e,hi=>by rw[e]at hi;simp at hi
 |v::vs,_,0,e,hi=>by obtain⟨p,r,rfl,a,t⟩:=e;simpa using a
 |v::vs,_,i+1,e,hi=>by
  obtain⟨p,r,rfl,a,t⟩:=e
  simpa using t.get (i:=i) (by simpa using hi)
theorem Lv.keeps{h h':Heap}:∀{vs:List Value}{ps:List (List Int)},(∀b o,.ref b∈vs->h.get? b=some o->h'.get? b=some o)->Lv h vs ps->Lv h' vs ps
 |[],_,_,e=>e
 |v::vs,_,k,e=>by
  obtain⟨p,r,rfl,⟨t,n,ws,e1,g,c⟩,z⟩:=e
  exact⟨p,r,rfl,⟨t,n,ws,e1,k _ _ (by rw[<-e1];exact List.mem_cons_self) g,c⟩,z.keeps fun b o m q=>k b o (List.mem_cons_of_mem _ m) q⟩
theorem Lv.ty{M:Model}{h:Heap}:∀{vs:List Value}{ps:List (List Int)},Lv h vs ps->∀v∈vs,Looks M h (typeOf v) (.type "list")
 |[],_,_,v,m=>nomatch m
 |v::vs,_,e,u,m=>by
  obtain⟨p,r,rfl,⟨t,n,ws,rfl,g,c⟩,z⟩:=e
  rcases List.mem_cons.mp m with rfl|m
  ·exact (Looks.ld g).andThen .now
  ·exact z.ty u m
end
end L2
namespace L2
open PySem PySem.Spec PyProof.Rows
section
variable {prog:Program}{w:World}{A:Around}{E:Value->Shared->Prop}{R:Result->Shared->Prop}{s:Shared}{I l:Addr}{fp wr:List Addr}{n:Nat}{P:Nat->Value->Prop}{St:Nat->Heap->Prop}{kw:List (Str×Value)}{xs:Array (Int×Tok)}
end
end L2
namespace L2
open PySem PySem.Spec PyProof.Rows
inductive D where
 |non|bl (b:Bool)|int (i:Int)|str (x:Str)|tup (ds:List D)|rol (ds:List D)|ref (a:Addr)
 |obj (i:Nat) (C:Addr) (ns:List Nat) (ds:List D)|dik (ks:List Key) (ds:List D)|dit (ks:List (List Int)) (ds:List D)
noncomputable def lm:Nat->Nat->List Nat
 |0,_=>[]
 |k+1,n=>if n=0 then [] else (n % 128)::lm k (n / 128)
noncomputable def fnm(n:Nat):Str:=⟨(lm n n).toArray⟩
noncomputable def qf:List Nat->Nat
 |[]=>0
 |d::r=>d+128 * qf r
theorem gF:∀(k n:Nat),n<=k->qf (lm k n)=n
 |0,n,h=>by have:n=0:=Nat.le_zero.mp h;subst this;rfl
 |k+1,n,h=>by
  unfold lm
  by_cases z:n=0
  ·rw[if_pos z];exact z.symm
  ·rw[if_neg z]
   show n % 128+128 * qf (lm k (n / 128))=n
   rw[gF k (n / 128) (by omega)]
   omega
theorem jq{a b:Nat}(h:fnm a=fnm b):a=b:=by
 have e:lm a a=lm b b:=by
  have:=congrArg (fun x:Str=>x.cps.toList) h
  simpa [fnm] using this
 have:=congrArg qf e
 rwa [gF a a (Nat.le_refl _),gF b b (Nat.le_refl _)]at this
noncomputable def tH(k:List Int):Int:=reduceHash (Builtin.Tuple.tupleHashOf (k.map hashInt))
noncomputable def cN(a:Addr)(xs:List (List Int×Addr×Value)):Heap->Prop:=fun h=>∃o es ep,h.get? a=some o/\o.ExactDict/\o.data=.dict es ep/\es.toList=xs.map fun x=>(⟨tH x.1,.ref x.2.1,x.2.2⟩:DictEntry)
structure TabOk (K:PySem.W.Frag) (H:Hp) (a:Addr) (ks:List (List Int)) (xs:List (List Int×Addr×Value)) (vs:List V):Prop where
 kx:xs.map (·.1)=ks
 nd:ks.Nodup
 sz:ks.length<=sizeLine
 no:(a == sysModules)=false
 vx:Vals vs (xs.map (·.2.2))
 at_:∀x∈xs,SqT K H x.2.1 (x.1.map V.int)
noncomputable def SqM(K:PySem.W.Frag)(a:Addr)(xs:List V):Prop:=∃(its:List Value) (n:Nat),K.lookup a=some {cls:=.type "list",data:=.seq its.toArray n}/\its.length<=sizeLine/\Vals xs its
noncomputable def SqF(K:PySem.W.Frag)(H:Hp)(a:Addr)(xs:List V):Prop:=(∃o,H a=some (.frz o (.lst xs)))\/SqM K a xs
theorem SqM.sq{K:PySem.W.Frag}{H:Hp}{a:Addr}{xs:List V}(h:SqM K a xs):SqL K H a xs:=by
 obtain⟨its,n,e,z,r⟩:=h
 exact .inr ⟨_,its.toArray,n,e,rfl,rfl,rfl,by simpa using z,by simpa using r⟩
theorem SqF.sq{K:PySem.W.Frag}{H:Hp}{a:Addr}{xs:List V}(h:SqF K H a xs):SqL K H a xs:=by
 rcases h with h|h
 ·exact .inl (.inr h)
 ·exact h.sq
mutual
noncomputable def Den(K:PySem.W.Frag)(H:Hp):D->V->Prop
 |.non,v=>v=.non
 |.bl b,v=>v=.bl b
 |.int i,v=>v=.int i
 |.str x,v=>v=.str x
 |.tup ds,v=>∃p vs,v=.ref p/\SqT K H p vs/\DenL K H ds vs
 |.rol ds,v=>∃p vs,v=.ref p/\SqF K H p vs/\DenL K H ds vs
 |.ref a,v=>v=.ref a
 |.obj _ C ns ds,v=>∃p vs o dx,v=.ref p/\H p=some (.frz o (.ins C dx ((ns.map fnm).zip vs)))/\ns.length=vs.length/\DenL K H ds vs
 |.dik ks ds,v=>∃p vs o,v=.ref p/\H p=some (.frz o (.dK (ks.zip vs)))/\ks.length=vs.length/\DenL K H ds vs
 |.dit ks ds,v=>∃p vs o xs,v=.ref p/\H p=some (.frz o (.ext (cN p xs)))/\TabOk K H p ks xs vs/\DenL K H ds vs
noncomputable def DenL(K:PySem.W.Frag)(H:Hp):List D->List V->Prop
 |[],vs=>vs=[]
 |d::ds,vs=>∃v r,vs=v::r/\Den K H d v/\DenL K H ds r
end
structure TM (K:PySem.W.Frag) (H H':Hp):Prop where
 t:∀p xs,SqT K H p xs->SqT K H' p xs
 f:∀p xs,SqF K H p xs->SqF K H' p xs
 g:∀p o u,H p=some (.frz o u)->H' p=some (.frz o u)
theorem TM.refl{K:PySem.W.Frag}(H:Hp):TM K H H:=⟨fun _ _ h=>h,fun _ _ h=>h,fun _ _ _ h=>h⟩
theorem TM.trans{K:PySem.W.Frag}{H H1 H2:Hp}(a:TM K H H1)(b:TM K H1 H2):TM K H H2:=⟨fun p xs h=>b.t p xs (a.t p xs h),fun p xs h=>b.f p xs (a.f p xs h),fun p o u h=>b.g p o u (a.g p o u h)⟩
theorem TM.un{K:PySem.W.Frag}{H H':Hp}(t:∀b xs,H b=some (.tup xs)->H' b=some (.tup xs))(f:∀b o u,H b=some (.frz o u)->H' b=some (.frz o u)):TM K H H':=⟨fun q xs h=>by
 rcases h with (h|⟨ob,h⟩)|h
 ·exact .inl (.inl (t _ _ h))
 ·exact .inl (.inr ⟨ob,f _ _ _ h⟩)
 ·exact .inr h,fun q xs h=>by
 rcases h with ⟨ob,h⟩|h
 ·exact .inl ⟨ob,f _ _ _ h⟩
 ·exact .inr h,f⟩
theorem TM.new{K:PySem.W.Frag}{H:Hp}{p:Addr}{o:HO}(hp:H p=none):TM K H (upd H p o):=
 .un (fun b xs h=>by rw[ah (aN h hp)];exact h) fun b ob u h=>by rw[ah (aN h hp)];exact h
theorem TM.put{K:PySem.W.Frag}{H:Hp}{p:Addr}{o u:HO}(hp:H p=some u)(h1:∀xs,u≠.tup xs)(h2:∀ob v,u≠.frz ob v):TM K H (upd H p o):=
 .un (fun b xs h=>by rw[ah (cC h hp fun z=>h1 _ z.symm)];exact h) fun b ob u h=>by rw[ah (cC h hp fun z=>h2 _ _ z.symm)];exact h
section
variable {K:PySem.W.Frag}{H H':Hp}
mutual
theorem Den.mono(t:TM K H H'):∀{d:D}{v:V},Den K H d v->Den K H' d v
 |.non,_,h=>h
 |.bl _,_,h=>h
 |.int _,_,h=>h
 |.str _,_,h=>h
 |.ref _,_,h=>h
 |.tup ds,v,h=>by
  obtain⟨p,vs,e,s,l⟩:=h
  exact⟨p,vs,e,t.t _ _ s,DenL.mono t l⟩
 |.rol ds,v,h=>by
  obtain⟨p,vs,e,s,l⟩:=h
  exact⟨p,vs,e,t.f _ _ s,DenL.mono t l⟩
 |.obj i C ns ds,v,h=>by
  obtain⟨p,vs,o,dx,e,s,z,l⟩:=h
  exact⟨p,vs,o,dx,e,t.g _ _ _ s,z,DenL.mono t l⟩
 |.dik ks ds,v,h=>by
  obtain⟨p,vs,o,e,s,z,l⟩:=h
  exact⟨p,vs,o,e,t.g _ _ _ s,z,DenL.mono t l⟩
 |.dit ks ds,v,h=>by
  obtain⟨p,vs,o,xs,e,s,z,l⟩:=h
  exact⟨p,vs,o,xs,e,t.g _ _ _ s,⟨z.kx,z.nd,z.sz,z.no,z.vx,fun x hx=>t.t _ _ (z.at_ x hx)⟩,DenL.mono t l⟩
theorem DenL.mono(t:TM K H H'):∀{ds:List D}{vs:List V},DenL K H ds vs->DenL K H' ds vs
 |[],_,h=>h
 |d::ds,vs,h=>by
  obtain⟨v,r,e,a,b⟩:=h
  exact⟨v,r,e,Den.mono t a,DenL.mono t b⟩
end
theorem DenL.length:∀{ds:List D}{vs:List V},DenL K H ds vs->ds.length=vs.length
 |[],_,h=>by cases h;rfl
 |d::ds,vs,h=>by
  obtain⟨v,r,rfl,_,b⟩:=h
  rw[List.length_cons,List.length_cons,DenL.length b]
theorem DenL.get:∀{ds:List D}{vs:List V}{i:Nat}{d:D},DenL K H ds vs->ds[i]?=some d->∃v,vs[i]?=some v/\Den K H d v
 |[],_,_,_,_,e=>by simp at e
 |d::ds,vs,0,d',h,e=>by
  obtain⟨v,r,rfl,a,b⟩:=h
  simp at e;subst e
  exact⟨v,rfl,a⟩
 |d::ds,vs,i+1,d',h,e=>by
  obtain⟨v,r,rfl,a,b⟩:=h
  obtain⟨u,e1,e2⟩:=DenL.get (i:=i) b (by simpa using e)
  exact⟨u,by simpa using e1,e2⟩
theorem DenL.get':∀{ds:List D}{vs:List V}{i:Nat}{v:V},DenL K H ds vs->vs[i]?=some v->∃d,ds[i]?=some d/\Den K H d v
 |[],_,_,_,h,e=>by cases h;simp at e
 |d::ds,vs,0,v',h,e=>by
  obtain⟨v,r,rfl,a,b⟩:=h
  simp at e;subst e
  exact⟨d,rfl,a⟩
 |d::ds,vs,i+1,v',h,e=>by
  obtain⟨v,r,rfl,a,b⟩:=h
  obtain⟨u,e1,e2⟩:=DenL.get' (i:=i) b (by simpa using e)
  exact⟨u,by simpa using e1,e2⟩
theorem DenL.append:∀{ds es:List D}{vs ws:List V},DenL K H ds vs->DenL K H es ws->DenL K H (ds++es) (vs++ws)
 |[],_,_,_,h,g=>by cases h;exact g
 |d::ds,_,_,_,h,g=>by
  obtain⟨v,r,rfl,a,b⟩:=h
  exact⟨v,r++_,rfl,a,DenL.append b g⟩
theorem DenL.nil:DenL K H [] []:=rfl
theorem DenL.cons{d:D}{v:V}{ds:List D}{vs:List V}(a:Den K H d v)(b:DenL K H ds vs):DenL K H (d::ds) (v::vs):=⟨v,vs,rfl,a,b⟩
theorem DenL.one{d:D}{v:V}(a:Den K H d v):DenL K H [d] [v]:=.cons a .nil
theorem DenL.take:∀{ds:List D}{vs:List V} (n:Nat),DenL K H ds vs->DenL K H (ds.take n) (vs.take n)
 |_,_,0,_=>rfl
 |[],_,n+1,h=>by cases h;rfl
 |d::ds,_,n+1,h=>by
  obtain⟨v,r,rfl,a,b⟩:=h
  exact⟨v,r.take n,rfl,a,DenL.take n b⟩
theorem DenL.drop:∀{ds:List D}{vs:List V} (n:Nat),DenL K H ds vs->DenL K H (ds.drop n) (vs.drop n)
 |_,_,0,h=>h
 |[],_,n+1,h=>by cases h;rfl
 |d::ds,_,n+1,h=>by
  obtain⟨v,r,rfl,a,b⟩:=h
  exact DenL.drop n b
theorem DenL.reverse:∀{ds:List D}{vs:List V},DenL K H ds vs->DenL K H ds.reverse vs.reverse
 |[],_,h=>by cases h;rfl
 |d::ds,_,h=>by
  obtain⟨v,r,rfl,a,b⟩:=h
  rw[List.reverse_cons,List.reverse_cons]
  exact (DenL.reverse b).append (.one a)
theorem DenL.set{d:D}{v:V}(a:Den K H d v):∀{ds:List D}{vs:List V} (i:Nat),DenL K H ds vs->DenL K H (ds.set i d) (vs.set i v)
 |[],_,_,h=>by cases h;rfl
 |_::ds,_,0,h=>by
  obtain⟨_,r,rfl,_,b⟩:=h
  exact⟨v,r,rfl,a,b⟩
 |e::ds,_,i+1,h=>by
  obtain⟨u,r,rfl,c,b⟩:=h
  exact⟨u,_,rfl,c,DenL.set a i b⟩
theorem DenL.of_int:∀{ns:List Int},DenL K H (ns.map D.int) (ns.map V.int)
 |[]=>rfl
 |n::ns=>⟨.int n,ns.map V.int,rfl,rfl,DenL.of_int⟩
end
structure XE where
 c:Nat
 pl:Option (Nat×D)
noncomputable def XD(K:PySem.W.Frag)(H:Hp)(i:XE)(dx:Option Addr):Prop:=match i.pl with
 |none=>dx=none
 |some (f,y)=>∃p o v,dx=some p/\H p=some (.frz o (.xd [(fnm f,v)]))/\Den K H y v
theorem XD.mono{K:PySem.W.Frag}{H H':Hp}{i:XE}{dx:Option Addr}(t:TM K H H')(h:XD K H i dx):XD K H' i dx:=by
 obtain⟨c,pl⟩:=i
 cases pl with
 |none=>exact h
 |some q=>
  obtain⟨p,o,v,e,g,d⟩:=h
  exact⟨p,o,v,e,t.g _ _ _ g,d.mono t⟩
inductive DO where
 |lst (ds:List D)
 |dk (ks:List Key) (ds:List D)
 |dt (ks:List (List Int)) (ds:List D)
 |ins (i:Nat) (C:Addr) (ns:List Nat) (ds:List D)
 |exc (i:XE) (cls:Value)
 |stl (φ:Heap->Prop)
noncomputable abbrev MH:=Addr->Option DO
noncomputable def put(M:MH)(a:Addr)(o:DO):MH:=fun b=>if b=a then some o else M b
theorem ag{M:MH}{a:Addr}{o:DO}:put M a o a=some o:=if_pos rfl
theorem ak{M:MH}{a b:Addr}{o:DO}(h:b≠a):put M a o b=M b:=if_neg h
theorem cn{M:MH}{a:Addr}{o u:DO}:put (put M a o) a u=put M a u:=by
 funext b;unfold put;split<;>rfl
noncomputable def OD(K:PySem.W.Frag)(H:Hp)(a:Addr):DO->Prop
 |.lst ds=>∃vs,H a=some (.lst vs)/\DenL K H ds vs
 |.dk ks ds=>∃vs,H a=some (.dK (ks.zip vs))/\ks.length=vs.length/\DenL K H ds vs
 |.dt ks ds=>∃vs xs,H a=some (.ext (cN a xs))/\TabOk K H a ks xs vs/\DenL K H ds vs
 |.ins _ C ns ds=>∃dx vs,H a=some (.ins C dx ((ns.map fnm).zip vs))/\ns.length=vs.length/\DenL K H ds vs
 |.exc i cls=>∃dx,H a=some (qS a cls dx)/\XD K H i dx
 |.stl φ=>H a=some (.ext φ)
noncomputable def RelM(K:PySem.W.Frag)(M:MH)(H:Hp):Prop:=∀a o,M a=some o->OD K H a o
noncomputable abbrev St3:=List (Option D)
noncomputable def DenS(K:PySem.W.Frag)(H:Hp)(σ3:St3)(σ:St):Prop:=σ3.length=σ.length/\∀(i:Nat) (d:D),σ3[i]?=some (some d)->∃v,σ[i]?=some (some v)/\Den K H d v
section
variable {K:PySem.W.Frag}{H H':Hp}{M M':MH}
theorem OD.tracked{a:Addr}{o:DO}(h:OD K H a o):∃u,H a=some u:=by
 cases o with
 |lst ds=>obtain⟨_,e,_⟩:=h;exact⟨_,e⟩
 |dk ks ds=>obtain⟨_,e,_⟩:=h;exact⟨_,e⟩
 |dt ks ds=>obtain⟨_,_,e,_⟩:=h;exact⟨_,e⟩
 |ins i C ns ds=>obtain⟨_,_,e,_⟩:=h;exact⟨_,e⟩
 |exc i cls=>obtain⟨_,e,_⟩:=h;exact⟨_,e⟩
 |stl φ=>exact⟨_,h⟩
theorem RelM.fresh(r:RelM K M H){p:Addr}(hp:H p=none):M p=none:=by
 cases e:M p with
 |none=>rfl
 |some o=>
  obtain⟨u,z⟩:=(r p o e).tracked
  rw[hp]at z;cases z
theorem OD.stay{a:Addr}{o:DO}(t:TM K H H')(e:H' a=H a)(h:OD K H a o):OD K H' a o:=by
 cases o with
 |lst ds=>obtain⟨vs,q,l⟩:=h;exact⟨vs,e.trans q,l.mono t⟩
 |dk ks ds=>obtain⟨vs,q,n,l⟩:=h;exact⟨vs,e.trans q,n,l.mono t⟩
 |dt ks ds=>obtain⟨vs,xs,q,z,l⟩:=h;exact⟨vs,xs,e.trans q,⟨z.kx,z.nd,z.sz,z.no,z.vx,fun x hx=>t.t _ _ (z.at_ x hx)⟩,l.mono t⟩
 |ins i C ns ds=>obtain⟨dx,vs,q,n,l⟩:=h;exact⟨dx,vs,e.trans q,n,l.mono t⟩
 |exc i cls=>obtain⟨dx,q,x⟩:=h;exact⟨dx,e.trans q,x.mono t⟩
 |stl φ=>exact e.trans h
theorem RelM.grow(r:RelM K M H){p:Addr}{o:HO}(hp:H p=none):RelM K M (upd H p o):=fun a u e=>by
 obtain⟨x,z⟩:=(r a u e).tracked
 exact (r a u e).stay (.new hp) (ah (aN z hp))
theorem RelM.lay(r:RelM K M H){p:Addr}{o:HO}{u:DO}(hp:H p=none)(h:OD K (upd H p o) p u):RelM K (put M p u) (upd H p o):=fun a x e=>by
 by_cases ha:a=p
 ·subst ha;rw[ag]at e;cases e;exact h
 ·rw[ak ha]at e;exact r.grow hp a x e
theorem RelM.write(r:RelM K M H){p:Addr}{o w:HO}{u:DO}(hp:H p=some w)(h1:∀xs,w≠.tup xs)(h2:∀ob v,w≠.frz ob v)(h:OD K (upd H p o) p u):RelM K (put M p u) (upd H p o):=fun a x e=>by
 by_cases ha:a=p
 ·subst ha;rw[ag]at e;cases e;exact h
 ·rw[ak ha]at e
  exact (r a x e).stay (.put hp h1 h2) (ah ha)
noncomputable def Sub(M' M:MH):Prop:=∀a o,M' a=some o->M a=some o
theorem Sub.put{p:Addr}{u:DO}(s:Sub M' M)(h:M' p=none):Sub M' (put M p u):=fun a o e=>by
 rw[ak fun z=>by rw[z,h]at e;cases e]
 exact s a o e
theorem RelM.sub(r:RelM K M H)(s:Sub M' M):RelM K M' H:=fun a o e=>r a o (s a o e)
theorem DenS.mono{σ3:St3}{σ:St}(t:TM K H H')(h:DenS K H σ3 σ):DenS K H' σ3 σ:=⟨h.1,fun i d e=>let ⟨v,e1,e2⟩:=h.2 i d e;⟨v,e1,e2.mono t⟩⟩
theorem DenS.set{σ3:St3}{σ:St}{i:Nat}{d:D}{v:V}(h:DenS K H σ3 σ)(e:Den K H d v):DenS K H (σ3.set i (some d)) (σ.set i (some v)):=by
 refine⟨by rw[List.length_set,List.length_set];exact h.1,fun j d' q=>?_⟩
 by_cases hj:i=j
 ·subst hj
  rw[List.getElem?_set]at q ⊢
  rw[if_pos rfl]at q ⊢
  rw[<-h.1]
  split at q
  next hl=>
   cases q
   exact⟨v,if_pos hl,e⟩
  next=>cases q
 ·rw[List.getElem?_set_ne hj]at q ⊢
  exact h.2 j d' q
theorem DenS.drop{σ3:St3}{σ:St}{i:Nat}(h:DenS K H σ3 σ):DenS K H (σ3.set i none) (σ.set i none):=by
 refine⟨by rw[List.length_set,List.length_set];exact h.1,fun j d' q=>?_⟩
 by_cases hj:i=j
 ·subst hj
  rw[List.getElem?_set,if_pos rfl]at q
  split at q<;>cases q
 ·rw[List.getElem?_set_ne hj]at q ⊢
  exact h.2 j d' q
theorem lv{N:List Str}{ds:List D}{vs:List V}(h:DenL K H ds vs):DenS K H (ds.map some++List.replicate (N.length - ds.length) none) (start N vs):=by
 have hl:=h.length
 refine⟨by unfold start;simp[hl],fun i d e=>?_⟩
 by_cases hi:i < ds.length
 ·rw[List.getElem?_append_left (by simpa using hi),List.getElem?_map]at e
  have e':ds[i]?=some d:=by
   cases q:ds[i]? with
   |none=>rw[q]at e;cases e
   |some x=>rw[q]at e;cases e;rfl
  obtain⟨v,e1,e2⟩:=h.get e'
  refine⟨v,?_,e2⟩
  unfold start
  rw[List.getElem?_append_left (by simpa [<-hl] using hi),List.getElem?_map,e1]
  rfl
 ·rw[List.getElem?_append_right (by simpa using hi),List.getElem?_replicate]at e
  split at e<;>cases e
end
noncomputable abbrev VK3:=D->MH->Prop
noncomputable abbrev TE3:=St3->MH->VK3->Prop
noncomputable abbrev TT3:=St3->MH->(Bool->MH->Prop)->Prop
noncomputable abbrev TA3:=St3->MH->(List D->MH->Prop)->Prop
structure Ends3 where
 nx:St3->MH->Prop
 rt:VK3
 bk:St3->MH->Prop:=fun _ _=>False
 ct:St3->MH->Prop:=fun _ _=>False
noncomputable abbrev TS3:=Ends3->St3->MH->Prop
structure ER (K:PySem.W.Frag) (H:Hp) (D3:Ends3) (D2:Ends):Prop where
 nx:∀σ' H' σ3' M',RelM K M' H'->DenS K H' σ3' σ'->TM K H H'->D3.nx σ3' M'->D2.nx σ' H'
 rt:∀v H' d M',Den K H' d v->RelM K M' H'->TM K H H'->D3.rt d M'->D2.rt v H'
 bk:∀σ' H' σ3' M',RelM K M' H'->DenS K H' σ3' σ'->TM K H H'->D3.bk σ3' M'->D2.bk σ' H'
 ct:∀σ' H' σ3' M',RelM K M' H'->DenS K H' σ3' σ'->TM K H H'->D3.ct σ3' M'->D2.ct σ' H'
theorem ER.mono{K:PySem.W.Frag}{H H1:Hp}{D3:Ends3}{D2:Ends}(r:ER K H D3 D2)(t:TM K H H1):ER K H1 D3 D2:=
 ⟨fun a b c d h1 h2 h3 h4=>r.nx a b c d h1 h2 (t.trans h3) h4,fun a b c d h1 h2 h3 h4=>r.rt a b c d h1 h2 (t.trans h3) h4,fun a b c d h1 h2 h3 h4=>r.bk a b c d h1 h2 (t.trans h3) h4,fun a b c d h1 h2 h3 h4=>r.ct a b c d h1 h2 (t.trans h3) h4⟩
end L2
namespace L2
open PySem PySem.Spec PyProof.Rows
section
variable {K:PySem.W.Frag}{H:Hp}
theorem dn{i:Int}:Den K H (.int i) (.int i):=rfl
theorem aX{b:Bool}:Den K H (.bl b) (.bl b):=rfl
theorem f6{x:Str}:Den K H (.str x) (.str x):=rfl
theorem oh:Den K H .non .non:=rfl
theorem eP{a:Addr}:Den K H (.ref a) (.ref a):=rfl
theorem lQ{p:Addr}{ds:List D}{vs:List V}(h:SqT K H p vs)(l:DenL K H ds vs):Den K H (.tup ds) (.ref p):=⟨p,vs,rfl,h,l⟩
end
noncomputable abbrev R3:=D->D->MH->VK3->Prop
noncomputable abbrev Back(K:PySem.W.Frag)(H:Hp)(Q:VK3)(Q2:VK):Prop:=∀v H' d M',Den K H' d v->RelM K M' H'->TM K H H'->Q d M'->Q2 v H'
noncomputable def Op3(X:Cx)(f:Value->Value->Sem Value)(r3:R3):Prop:=∃r2,OpR X f r2/\∀(H:Hp) (x y:D) (v u:V) (M:MH) (Q:VK3) (Q2:VK),Den X.K H x v->Den X.K H y u->RelM X.K M H->r3 x y M Q->Back X.K H Q Q2->r2 v u H Q2
noncomputable def Un3(X:Cx)(f:Value->Sem Value)(r3:D->MH->VK3->Prop):Prop:=∃r2,UnR X f r2/\∀(H:Hp) (x:D) (v:V) (M:MH) (Q:VK3) (Q2:VK),Den X.K H x v->RelM X.K M H->r3 x M Q->Back X.K H Q Q2->r2 v H Q2
noncomputable def pN(X:Cx)(f:Value)(r3:List D->MH->VK3->Prop):Prop:=∃r2,CallR X f r2/\∀(H:Hp) (xs:List D) (vs:List V) (M:MH) (Q:VK3) (Q2:VK),DenL X.K H xs vs->RelM X.K M H->r3 xs M Q->Back X.K H Q Q2->r2 vs H Q2
noncomputable def rI3(C:Int->Int->Prop)(g:Int->Int->D):R3:=fun x y M Q=>∃i j,x=.int i/\y=.int j/\C i j/\Q (g i j) M
section
variable {X:Cx}{a b c e:Expr}{ta tb tc te:TE3}{pos:Pos}
noncomputable def q3(t:TE3):TT3:=fun σ M Q=>t σ M fun x M1=>∃k,x=.bl k/\Q k M1
variable {tA tB':TT3}{av:List Expr}
variable {es:List Expr}{t:TA3}
theorem qz{K:PySem.W.Frag}{H:Hp}{ds:List D}{vs:List V}{i:Int}{d:D}(h:DenL K H ds vs)(e:atI ds i=some d):∃v,atI vs i=some v/\Den K H d v:=by
 unfold atI at e ⊢
 rw[<-h.length]
 cases q:ixN ds.length i with
 |none=>rw[q]at e;cases e
 |some j=>
  rw[q]at e
  obtain⟨v,e1,e2⟩:=h.get (show ds[j]?=some d from e)
  exact⟨v,e1,e2⟩
noncomputable def Is(M:MH)(x:D)(ds:List D):Prop:=x=.rol ds\/∃a,x=.ref a/\M a=some (.lst ds)
theorem RelM.list{K:PySem.W.Frag}{M:MH}{H:Hp}{x:D}{v:V}{ds:List D}(rm:RelM K M H)(h:Is M x ds)(dv:Den K H x v):∃p vs,v=.ref p/\SqL K H p vs/\DenL K H ds vs:=by
 rcases h with rfl|⟨a,rfl,h⟩
 ·obtain⟨p,vs,e,s,l⟩:=dv
  exact⟨p,vs,e,s.sq,l⟩
 ·obtain⟨vs,e,l⟩:=rm a _ h
  exact⟨a,vs,dv,.of e,l⟩
noncomputable def isIB:V->D->Prop:=fun v d=>(∃i,v=.int i/\d=.int i)\/(∃b,v=.bl b/\d=.bl b)
theorem isIB.den{K:PySem.W.Frag}{H:Hp}{v:V}{d:D}(h:isIB v d):Den K H d v:=by
 rcases h with ⟨i,rfl,rfl⟩|⟨b,rfl,rfl⟩<;>rfl
theorem gi{f:Value->Value->Sem Value}{C:Int->Int->Prop}{g:Int->Int->V}{g3:Int->Int->D}(h:OpR X f (rI C g))(hg:∀i j,isIB (g i j) (g3 i j)):Op3 X f (rI3 C g3):=
 ⟨_,h,fun H x y v u M Q Q2 dx dy rm ⟨i,j,e1,e2,hc,q⟩ k=>by
  subst e1;subst e2
  cases (show v=.int i from dx)
  cases (show u=.int j from dy)
  exact⟨i,j,rfl,rfl,hc,k _ H _ M (hg i j).den rm (.refl _) q⟩⟩
noncomputable def jG(g:Int->Int->D):R3:=fun x y M Q=>∃i j,x=.int i/\y=.int j/\Q (g i j) M
theorem cW{f:Value->Value->Sem Value}{g:Int->Int->V}{g3:Int->Int->D}(h:OpR X f (rI0 g))(hg:∀i j,isIB (g i j) (g3 i j)):Op3 X f (jG g3):=
 ⟨_,h,fun H x y v u M Q Q2 dx dy rm ⟨i,j,e1,e2,q⟩ k=>by
  subst e1;subst e2
  cases (show v=.int i from dx)
  cases (show u=.int j from dy)
  exact⟨i,j,rfl,rfl,k _ H _ M (hg i j).den rm (.refl _) q⟩⟩
noncomputable def big:Nat:=2 ^ 4096
theorem lc{n:Nat}(h:n < 10 ^ 250):n < big:=Nat.lt_of_lt_of_le h (by decide +kernel)
noncomputable def ig(i j:Int):Prop:=(i.natAbs < big/\j.natAbs < big)
theorem fF{k:Int}(h:k.natAbs < big):Builtin.Int.intBits k<=2 ^ 20:=by
 unfold Builtin.Int.intBits
 by_cases h0:k.natAbs=0
 ·have:k=0:=by omega
  subst this
  decide
 ·have h30:k.natAbs.log2 < 4096:=(Nat.log2_lt h0).mpr h
  split<;>omega
theorem qi:OpR X (binaryOp .Mult) (rI ig fun i j=>.int (i * j)):=opI fun _ _ _ _ _ _ _ hc q=>mul_int q (.of_bits (fF hc.1) (fF hc.2))
noncomputable def j7(_ j:Int):Prop:=0 < j/\j.toNat < big
theorem oq:OpR X (binaryOp .FloorDiv) (rI j7 fun i j=>.int (i / j)):=opI fun i j _ _ _ _ _ hc q=>by
 have h1:(0:Int) < j:=hc.1
 have h2:j.toNat < big:=hc.2
 refine floordiv_int (by omega) (by rw[Int.fdiv_eq_ediv_of_nonneg i (by omega)];exact q) (.inl (PyProof.noPylong_of_log2 ?_))
 have h3:j.natAbs < 2 ^ 4096:=by
  have e:j.natAbs=j.toNat:=by omega
  rw[e];exact h2
 have h0:j.natAbs≠0:=by omega
 have:=(Nat.log2_lt h0).mpr h3
 omega
theorem A2:Op3 X (binaryOp .Add) (jG fun i j=>.int (i+j)):=cW xq fun _ _=>.inl ⟨_,rfl,rfl⟩
theorem Bc:Op3 X (binaryOp .Sub) (jG fun i j=>.int (i - j)):=cW xr fun _ _=>.inl ⟨_,rfl,rfl⟩
theorem A7:Op3 X (binaryOp .Mult) (rI3 ig fun i j=>.int (i * j)):=gi qi fun _ _=>.inl ⟨_,rfl,rfl⟩
theorem vp:Op3 X (binaryOp .FloorDiv) (rI3 j7 fun i j=>.int (i / j)):=gi oq fun _ _=>.inl ⟨_,rfl,rfl⟩
theorem B2:Op3 X (binaryOp .Mod) (rI3 (fun _ j=>0 < j) fun i j=>.int (i % j)):=gi vF fun _ _=>.inl ⟨_,rfl,rfl⟩
theorem yP:Op3 X (binaryOp .Pow) (rI3 pQ fun i j=>.int (i ^ j.toNat)):=gi vE fun _ _=>.inl ⟨_,rfl,rfl⟩
theorem BQ:Op3 X (binaryOp .RShift) (rI3 (fun _ j=>0<=j) fun i j=>.int (i / 2 ^ j.toNat)):=gi t6 fun _ _=>.inl ⟨_,rfl,rfl⟩
theorem yN:Op3 X (binaryOp .BitAnd) (jG fun i j=>.int (Builtin.bitAnd i j)):=cW wj fun _ _=>.inl ⟨_,rfl,rfl⟩
theorem F1:Op3 X (compareOp .Lt) (jG fun i j=>.bl (decide (i < j))):=cW Am fun _ _=>.inr ⟨_,rfl,rfl⟩
theorem FZ:Op3 X (compareOp .LtE) (jG fun i j=>.bl (decide (i<=j))):=cW yu fun _ _=>.inr ⟨_,rfl,rfl⟩
theorem FO:Op3 X (compareOp .Gt) (jG fun i j=>.bl (decide (j < i))):=cW zS fun _ _=>.inr ⟨_,rfl,rfl⟩
theorem F8:Op3 X (compareOp .GtE) (jG fun i j=>.bl (decide (j<=i))):=cW A1 fun _ _=>.inr ⟨_,rfl,rfl⟩
noncomputable def rU3(g:Int->Int):D->MH->VK3->Prop:=fun x M Q=>∃i,x=.int i/\Q (.int (g i)) M
theorem Ah:Un3 X (unaryOp .USub) (rU3 fun i=>-i):=⟨_,xP,fun H x v M Q Q2 dx rm ⟨i,e,q⟩ k=>by
 subst e
 cases (show v=.int i from dx)
 exact⟨i,rfl,k _ H _ M dn rm (.refl _) q⟩⟩
noncomputable def D.isN:D->Bool
 |.non=>true
 |_=>false
theorem lX{K:PySem.W.Frag}{H:Hp}{d:D}{v:V}(h:Den K H d v):decide (v=.non)=d.isN:=by
 cases d with
 |non=>cases (show v=.non from h);rfl
 |bl b=>cases (show v=.bl b from h);rfl
 |int i=>cases (show v=.int i from h);rfl
 |str x=>cases (show v=.str x from h);rfl
 |tup ds=>obtain⟨p,vs,rfl,_⟩:=h;rfl
 |rol ds=>obtain⟨p,vs,rfl,_⟩:=h;rfl
 |ref a=>cases (show v=.ref a from h);rfl
 |obj i C ns ds=>obtain⟨p,vs,_,_,rfl,_⟩:=h;rfl
 |dik ks ds=>obtain⟨p,vs,_,rfl,_⟩:=h;rfl
 |dit ks ds=>obtain⟨p,vs,_,_,rfl,_⟩:=h;rfl
noncomputable def rIs3:R3:=fun x y M Q=>y=.non/\Q (.bl x.isN) M
noncomputable def rIsN3:R3:=fun x y M Q=>y=.non/\Q (.bl (!x.isN)) M
theorem EM:Op3 X (compareOp .Is) rIs3:=⟨_,tR,fun H x y v u M Q Q2 dx dy rm ⟨e,q⟩ k=>by
 subst e
 refine⟨dy,?_⟩
 rw[lX dx]
 exact k _ H _ M aX rm (.refl _) q⟩
theorem r8:Op3 X (compareOp .IsNot) rIsN3:=⟨_,qR,fun H x y v u M Q Q2 dx dy rm ⟨e,q⟩ k=>by
 subst e
 refine⟨dy,?_⟩
 rw[lX dx]
 exact k _ H _ M aX rm (.refl _) q⟩
variable {x:Str}{p:Pos}{id T:String}{r3:List D->MH->VK3->Prop}
noncomputable def rLen3:List D->MH->VK3->Prop:=fun xs M Q=>∃x ds,xs=[x]/\(Is M x ds\/x=.tup ds)/\Q (.int ds.length) M
theorem yA:pN X (.builtin "len") rLen3:=⟨_,ji,fun H xs vs M Q Q2 dl rm ⟨x,ds,e,h,q⟩ k=>by
 subst e
 obtain⟨v,r,rfl,dv,rfl⟩:=dl
 rcases h with h|rfl
 ·obtain⟨a,ys,rfl,sq,l⟩:=rm.list h dv
  exact⟨a,ys,rfl,.inl sq,by rw[<-l.length];exact k _ H _ M dn rm (.refl _) q⟩
 ·obtain⟨a,ys,rfl,sq,l⟩:=dv
  exact⟨a,ys,rfl,.inr sq,by rw[<-l.length];exact k _ H _ M dn rm (.refl _) q⟩⟩
noncomputable def rMax3:List D->MH->VK3->Prop:=fun xs M Q=>∃i j,xs=[.int i,.int j]/\Q (.int (if j > i then j else i)) M
theorem Ay(hc:X.calm=true):pN X (.builtin "max") rMax3:=⟨_,nu hc,fun H xs vs M Q Q2 dl rm ⟨i,j,e,q⟩ k=>by
 subst e
 obtain⟨v,r,rfl,dv,w,r',rfl,dw,rfl⟩:=dl
 cases (show v=.int i from dv)
 cases (show w=.int j from dw)
 exact⟨i,j,rfl,k _ H _ M dn rm (.refl _) q⟩⟩
end
end L2
namespace L2
open PySem PySem.Spec PyProof.Rows
noncomputable abbrev BackS(K:PySem.W.Frag)(H:Hp)(Q:St3->MH->Prop)(Q2:St->Hp->Prop):Prop:=∀σ' H' σ3' M',RelM K M' H'->DenS K H' σ3' σ'->TM K H H'->Q σ3' M'->Q2 σ' H'
section
variable {X:Cx}{st:Stmt}{av:List Stmt}{t u:TS3}{e:Expr}{te:TE3}{pos:Pos}
structure ItOk (K:PySem.W.Frag) (H0:Hp) (J:It) (ds:List D) (S:MH->Prop):Prop where
 go:∀(i:Nat) H M,TM K H0 H->RelM K M H->S M->i < ds.length->J.go i H
 yld:∀(i:Nat) H M x H',TM K H0 H->RelM K M H->S M->i < ds.length->J.yld i H x H'->TM K H H'/\RelM K M H'/\∃d,ds[i]?=some d/\Den K H' d x
 stop:∀H M,TM K H0 H->RelM K M H->S M->J.stop ds.length H
noncomputable def rng(lo:Int)(n:Nat):List D:=(List.range n).map fun (i:Nat)=>D.int (lo+i)
theorem jO(lo:Int)(n:Nat):(rng lo n).length=n:=by unfold rng;rw[List.length_map,List.length_range]
theorem uR{lo:Int}{n i:Nat}(h:i < n):(rng lo n)[i]?=some (.int (lo+i)):=by
 unfold rng
 rw[List.getElem?_map,List.getElem?_range h]
 rfl
theorem uu{K:PySem.W.Frag}{H0:Hp}{lo:Int}{n:Nat}:ItOk K H0 (Itr lo n) (rng lo n) (fun _=>True):=by
 refine⟨fun i H M _ _ _ hi=>?_,fun i H M x H' _ rm _ hi y=>?_,fun H M _ _ _=>?_⟩
 ·rw[jO]at hi;exact hi
 ·rw[jO]at hi
  obtain⟨e,y⟩:=y
  subst e;subst y
  exact⟨.refl _,rm,_,uR hi,rfl⟩
 ·rw[jO];exact Nat.le_refl _
end
noncomputable abbrev XK3:=Value->MH->Prop
noncomputable abbrev Sp3:=List D->MH->VK3->XK3->Prop
section
variable {P:Program}{w:World}{K:PySem.W.Frag}{mg:Str->Option Value}{base:Heap}
end
section
variable {X:Cx}{k:Nat}{f C:Addr}{fd:FuncData}{ps:List Str}{sp:Sp3}{E3:XK3}{E:XK}{x m:Str}{p pos apos:Pos}{e o:Expr}{es:List Expr}{ta:TE3}{t:TA3}
end
end L2
namespace L2
open PySem PySem.Spec PyProof.Rows
noncomputable abbrev XN:=XE->MH->Prop
noncomputable def del(M:MH)(a:Addr):MH:=fun b=>if b=a then none else M b
theorem dB{M:MH}{a:Addr}{o:DO}(h:M a=none):del (put M a o) a=M:=by
 funext b
 unfold del put
 by_cases e:b=a
 ·subst e;rw[if_pos rfl,h]
 ·rw[if_neg e,if_neg e]
theorem fY{M:MH}{a b:Addr}{o:DO}(h:del M a b=some o):b≠a/\M b=some o:=by
 unfold del at h
 split at h
 ·cases h
 ·exact⟨by assumption,h⟩
noncomputable def ae(M M':MH):MH:=fun a=>match M a with
 |some _=>M' a
 |none=>none
theorem jc{M M':MH}{a:Addr}{o:DO}(h:ae M M' a=some o):M' a=some o:=by
 unfold ae at h
 split at h
 ·exact h
 ·cases h
noncomputable def kp(b:Bool)(M M':MH):MH:=if b=true then ae M M' else M'
theorem on{b:Bool}{M M':MH}{a:Addr}{o:DO}(h:kp b M M' a=some o):M' a=some o:=by
 cases b with
 |true=>exact jc h
 |false=>exact h
inductive BI where
 |len  |max  |list (fz:Bool)  |all  |any
inductive BM where
 |get
inductive BT where
 |int|bool|str|tuple|list|dict
mutual
inductive IE where
 |var (i:Nat)
 |con (d:D)
 |bin (op:Operator) (a b:IE)
 |neg (a:IE)
 |cat (fz:Bool) (a b:IE)
 |cmp (op:CmpOp) (a b:IE)
 |chain (op op':CmpOp) (a b c:IE)
 |and (a b:IE)
 |or (a b:IE)
 |not (a:IE)
 |ifx (c:IT) (a b:IE)
 |tup (es:IA)
 |lst (fz:Bool) (es:IA)
 |frz (e:IE)
 |ix (a b:IE)
 |sl (fz:Bool) (a:IE) (lo hi:IO)
 |call (f:Nat) (es:IA)
 |bi (b:BI) (es:IA)
 |isB (e:IE) (t:BT)
 |isC (e:IE) (c:Nat)
 |comp (fz:Bool) (N:List Str) (js:List (Option Nat)) (tg:ITg) (it:II) (cond:ITO) (elt:IE)
 |fld (e:IE) (f:Nat)
 |make (fz:Bool) (i:Nat) (es:IA)
 |meth (e:IE) (m:Nat) (es:IA)
 |ini (i:Nat) (es:IA)
 |isK (e:IE) (j:Nat)
 |glo (k:Nat)
 |bm (b:BM) (o:IE) (es:IA)
 |rep (fz:Bool) (a b:IE)
 |dnew (tk:Bool)
 |lzip (fz:Bool) (a b:IE)
inductive IT where
 |val (e:IE)|cmp (op:CmpOp) (a b:IE)|chain (op op':CmpOp) (a b c:IE)|chain3 (op op' op'':CmpOp) (a b c d:IE)|and (a b:IT)|or (a b:IT)|not (a:IT)
inductive IA where
 |nil|cons (e:IE) (r:IA)
inductive IO where
 |no|yes (e:IE)
inductive ITO where
 |no|yes (e:IT)
inductive II where
 |seq (e:IE)
 |rng1 (a:IE)
 |enum (a:IE)
 |zip (a b:IE)
 |revd (a:IE)
inductive ITg where
 |name (i:Nat)|tup (is:List Nat)
end
mutual
inductive IS where
 |set (i:Nat) (e:IE)
 |expr (e:IE)
 |ret (e:IE)
 |ifs (c:IT) (a b:ISs)
 |for_ (tg:ITg) (it:II) (body:ISs)
 |raise (c:Nat) (es:IA)
 |try_ (body:ISs) (hs:IHs)
 |app (o e:IE)
 |del (i:Nat)
 |fset (o:IE) (f:Nat) (e:IE)
 |ixset (o i e:IE)
inductive ISs where
 |nil|cons (s:IS) (r:ISs)
inductive IHs where
 |nil|cons (c:Nat) (nm:Option Nat) (body:ISs) (r:IHs)
end
noncomputable def aj(M:MH):D->Option (List D)
 |.rol ds=>some ds
 |.ref a=>match M a with
  |some (.lst ds)=>some ds
  |_=>none
 |_=>none
noncomputable def aw(M:MH):D->Option (List D)
 |.tup ds=>some ds
 |x=>aj M x
noncomputable def res(M:MH)(x:D):D:=match aj M x with
 |some ds=>.rol ds
 |none=>x
noncomputable def be(fz:Bool)(ds:List D)(M:MH)(Q:VK3):Prop:=ds.length<=sizeLine/\if fz=true then Q (.rol ds) M else ∀p,M p=none->Q (.ref p) (put M p (.lst ds))
noncomputable def plN:Nat->D->Bool
 |_,.ref _=>false
 |n,.tup ds=>match n with
  |0=>false
  |m+1=>ds.all (plN m)
 |n,.rol ds=>match n with
  |0=>false
  |m+1=>ds.all (plN m)
 |_,.obj _ _ _ _=>false
 |_,.dik _ _=>false
 |_,.dit _ _=>false
 |_,_=>true
noncomputable abbrev pl(x:D):Bool:=plN 8 x
noncomputable abbrev pls(ds:List D):Bool:=ds.all (plN 8)
mutual
noncomputable def eqD:D->D->Bool
 |.non,y=>match y with
  |.non=>true
  |_=>false
 |.bl a,y=>match y with
  |.bl b=>a == b
  |.int b=>decide ((if a=true then (1:Int) else 0)=b)
  |_=>false
 |.int a,y=>match y with
  |.int b=>decide (a=b)
  |.bl b=>decide (a=if b=true then (1:Int) else 0)
  |_=>false
 |.str a,y=>match y with
  |.str b=>decide (a=b)
  |_=>false
 |.tup a,y=>match y with
  |.tup b=>cb a b
  |_=>false
 |.rol a,y=>match y with
  |.rol b=>cb a b
  |_=>false
 |.ref _,_=>false
 |.obj _ _ _ _,_=>false
 |.dik _ _,_=>false
 |.dit _ _,_=>false
noncomputable def cb:List D->List D->Bool
 |[],y=>match y with
  |[]=>true
  |_=>false
 |a::r,y=>match y with
  |b::t=>eqD a b&&cb r t
  |_=>false
end
noncomputable def rII(C:Int->Int->Prop)(g:Int->Int->D)(x y:D)(M:MH)(Q:VK3):Prop:=match x,y with
 |.int i,.int j=>C i j/\Q (g i j) M
 |_,_=>False
noncomputable def rI2(g:Int->Int->D)(x y:D)(M:MH)(Q:VK3):Prop:=match x,y with
 |.int i,.int j=>Q (g i j) M
 |_,_=>False
noncomputable def mr(x y:D)(M:MH)(Q:VK3):Prop:=match x,y with
 |.int i,.int j=>Q (.int (i+j)) M
 |.str a,.str b=>a.length+b.length<=sizeLine/\Q (.str (a++b)) M
 |.tup a,.tup b=>(a.isEmpty=false/\a.length+b.length<=sizeLine)/\Q (.tup (a++b)) M
 |_,_=>False
noncomputable def gW(z:Str)(n:Int):Str:=if n < 1 then Str.empty else if (n == 1||z.length == 0)=true then z else⟨(List.replicate n.toNat z.cps).foldl (·++·) #[]⟩
noncomputable def pT(x y:D)(M:MH)(Q:VK3):Prop:=match x,y with
 |.int i,.int j=>ig i j/\Q (.int (i * j)) M
 |.str z,.int n=>(0<=n/\n<=100000/\z.length<=10)/\Q (.str (gW z n)) M
 |_,_=>False
noncomputable def ed:Operator->D->D->MH->VK3->Prop
 |.Add=>mr
 |.Sub=>rI2 fun i j=>.int (i - j)
 |.Mult=>pT
 |.FloorDiv=>rII j7 fun i j=>.int (i / j)
 |.Mod=>rII (fun _ j=>0 < j) fun i j=>.int (i % j)
 |.Pow=>rII pQ fun i j=>.int (i ^ j.toNat)
 |.RShift=>rII (fun _ j=>0<=j) fun i j=>.int (i / 2 ^ j.toNat)
 |.BitAnd=>rI2 fun i j=>.int (Builtin.bitAnd i j)
 |_=>fun _ _ _ _=>False
noncomputable def rNeg(x:D)(M:MH)(Q:VK3):Prop:=match x with
 |.int i=>Q (.int (-i)) M
 |_=>False
noncomputable def cA(fz:Bool)(x y:D)(M:MH)(Q:VK3):Prop:=match aj M x,aj M y with
 |some a,some b=>be fz (a++b) M Q
 |_,_=>match x,y with
  |.tup a,.tup b=>(a.isEmpty=false/\a.length+b.length<=sizeLine)/\Q (.tup (a++b)) M
  |_,_=>False
noncomputable def eF(fz:Bool)(x y:D)(M:MH)(Q:VK3):Prop:=match aj M x,y with
 |some a,.int k=>(-(2 ^ 63)<=k/\k < 2 ^ 63/\a.length * k.toNat<=sizeLine)/\be fz (List.replicate k.toNat a).flatten M Q
 |_,_=>False
noncomputable def rs(M:MH)(x:D):D:=match aj M x with
 |some ds=>.rol (if pls ds=true then ds else ds.map (res M))
 |none=>x
noncomputable def cG(neg:Bool)(x y:D)(M:MH)(Q:VK3):Prop:=pl (rs M x)=true/\pl (rs M y)=true/\Q (.bl (neg ^^ eqD (rs M x) (rs M y))) M
noncomputable def kF(neg:Bool)(x y:D)(M:MH)(Q:VK3):Prop:=match y with
 |.non=>Q (.bl (neg ^^ x.isN)) M
 |.bl b=>match x with
  |.bl a=>Q (.bl (neg ^^ (a == b))) M
  |.non=>Q (.bl neg) M
  |_=>False
 |_=>False
noncomputable def mY:D->Option Key
 |.int i=>some (.inl i)
 |.str s=>some (.inr s)
 |_=>none
noncomputable def jd:List D->Option (List Int)
 |[]=>some []
 |.int i::r=>match jd r with
  |some ns=>some (i::ns)
  |none=>none
 |_::_=>none
noncomputable def pc:D->Option (List Int)
 |.tup es=>jd es
 |_=>none
noncomputable def getD{κ:Type}[DecidableEq κ]:List κ->List D->κ->Option D
 |k::ks,d::ds,x=>if k=x then some d else getD ks ds x
 |_,_,_=>none
noncomputable def ao{κ:Type}[DecidableEq κ]:List κ->κ->List κ
 |[],x=>[x]
 |k::ks,x=>if k=x then k::ks else k::ao ks x
noncomputable def az{κ:Type}[DecidableEq κ]:List κ->List D->κ->D->List D
 |k::ks,d::ds,x,y=>if k=x then y::ds else d::az ks ds x y
 |_,_,_,y=>[y]
noncomputable def gY(M:MH):D->Option (List Key×List D)
 |.dik ks ds=>some (ks,ds)
 |.ref a=>match M a with
  |some (.dk ks ds)=>some (ks,ds)
  |_=>none
 |_=>none
noncomputable def iA(M:MH):D->Option (List (List Int)×List D)
 |.dit ks ds=>some (ks,ds)
 |.ref a=>match M a with
  |some (.dt ks ds)=>some (ks,ds)
  |_=>none
 |_=>none
noncomputable def fP(M:MH)(x y:D):Option (Option D):=match gY M x with
 |some (ks,ds)=>match mY y with
  |some k=>some (getD ks ds k)
  |none=>none
 |none=>match iA M x with
  |some (ks,ds)=>match pc y with
   |some k=>some (getD ks ds k)
   |none=>none
  |none=>none
noncomputable def ot(a b:Str):Bool:=!(Builtin.Str.occurrences b a 0 b.length 1).isEmpty
noncomputable def pS(z:Str)(i:Nat):Str:=⟨#[z.cps.getD i 0]⟩
noncomputable def eO(z:Str):List D:=z.cps.toList.map fun c=>.str ⟨#[c]⟩
noncomputable def ka(neg:Bool)(x y:D)(M:MH)(Q:VK3):Prop:=match aw M y with
 |some ds=>pl (res M x)=true/\pls ds=true/\Q (.bl (neg ^^ ds.any fun d=>eqD d (res M x))) M
 |none=>match fP M y x with
  |some o=>Q (.bl (neg ^^ o.isSome)) M
  |none=>match x,y with
   |.str a,.str b=>Q (.bl (neg ^^ ot a b)) M
   |_,_=>False
noncomputable def am:CmpOp->D->D->MH->VK3->Prop
 |.Eq=>cG false
 |.NotEq=>cG true
 |.Lt=>rI2 fun i j=>.bl (decide (i < j))
 |.LtE=>rI2 fun i j=>.bl (decide (i<=j))
 |.Gt=>rI2 fun i j=>.bl (decide (j < i))
 |.GtE=>rI2 fun i j=>.bl (decide (j<=i))
 |.Is=>kF false
 |.IsNot=>kF true
 |.In=>ka false
 |.NotIn=>ka true
noncomputable def ax(x y:D)(M:MH)(Q:VK3):Prop:=match aw M x with
 |some ds=>match y with
  |.int i=>match atI ds i with
   |some d=>Q d M
   |none=>False
  |_=>False
 |none=>match fP M x y with
  |some (some d)=>Q d M
  |some none=>False
  |none=>match x,y with
   |.str z,.int i=>(0<=i/\i < z.length/\i < 2 ^ 63)/\Q (.str (pS z i.toNat)) M
   |_,_=>False
noncomputable def bj(xs:List D)(lo hi:Option Int):List D:=(xs.drop (HT.sIx xs.length 0 lo)).take (HT.sIx xs.length xs.length hi - HT.sIx xs.length 0 lo)
noncomputable def whole(n:Nat)(lo hi:Option Int):Bool:=HT.sIx n 0 lo == 0&&HT.sIx n n hi == n
noncomputable def fS(fz:Bool)(x:D)(lo hi:Option Int)(M:MH)(Q:VK3):Prop:=match x with
 |.tup ds=>whole ds.length lo hi=false/\Q (.tup (bj ds lo hi)) M
 |.str z=>z.length<=sizeLine/\Q (.str (Txt.slice z lo hi)) M
 |x=>match aj M x with
  |some ds=>be fz (bj ds lo hi) M Q
  |none=>False
noncomputable def dh:List D->Option (List Bool)
 |[]=>some []
 |.bl i::r=>match dh r with
  |some ns=>some (i::ns)
  |none=>none
 |_::_=>none
noncomputable def tyB:BM->D->MH->Bool
 |.get,x,M=>(gY M x).isSome||(iA M x).isSome
noncomputable def rBm:BM->D->List D->MH->VK3->Prop
 |.get,x,ys,M,Q=>match ys with
  |[y]=>match fP M x y with
   |some o=>Q (o.getD .non) M
   |none=>False
  |[y,z]=>match fP M x y with
   |some o=>Q (o.getD z) M
   |none=>False
  |_=>False
noncomputable def wR(k:List Int):D:=.tup (k.map D.int)
noncomputable def rBi:BI->List D->MH->VK3->Prop
 |.len,xs,M,Q=>match xs with
  |[x]=>match aw M x with
   |some ds=>Q (.int ds.length) M
   |none=>match iA M x with
    |some (ks,_)=>Q (.int ks.length) M
    |none=>match x with
     |.str z=>z.length<=sizeLine/\Q (.int z.length) M
     |_=>False
  |_=>False
 |.max,xs,M,Q=>match xs with
  |[.int i,.int j]=>Q (.int (if j > i then j else i)) M
  |_=>False
 |.list fz,xs,M,Q=>match xs with
  |[x]=>match aw M x with
   |some ds=>be fz ds M Q
   |none=>match iA M x with
    |some (ks,_)=>be fz (ks.map wR) M Q
    |none=>False
  |_=>False
 |.all,xs,M,Q=>match xs with
  |[x]=>match aj M x with
   |some ds=>match dh ds with
    |some bs=>Q (.bl (bs.all id)) M
    |none=>False
   |none=>False
  |_=>False
 |.any,xs,M,Q=>match xs with
  |[x]=>match aj M x with
   |some ds=>match dh ds with
    |some bs=>Q (.bl (bs.any id)) M
    |none=>False
   |none=>False
  |_=>False
noncomputable def eG(t:BT)(x:D)(M:MH)(Q:VK3):Prop:=match x with
 |.non=>Q (.bl false) M
 |.bl _=>Q (.bl (match t with|.int=>true|.bool=>true|_=>false)) M
 |.int _=>Q (.bl (match t with|.int=>true|_=>false)) M
 |.str _=>Q (.bl (match t with|.str=>true|_=>false)) M
 |.tup _=>Q (.bl (match t with|.tuple=>true|_=>false)) M
 |.rol _=>Q (.bl (match t with|.list=>true|_=>false)) M
 |.ref a=>match M a with
  |some (.lst _)=>Q (.bl (match t with|.list=>true|_=>false)) M
  |some (.dk _ _)=>Q (.bl (match t with|.dict=>true|_=>false)) M
  |some (.dt _ _)=>Q (.bl (match t with|.dict=>true|_=>false)) M
  |_=>False
 |.dik _ _=>Q (.bl (match t with|.dict=>true|_=>false)) M
 |.dit _ _=>Q (.bl (match t with|.dict=>true|_=>false)) M
 |.obj _ _ _ _=>False
noncomputable def ke(ne:Nat)(cls:Nat->Addr)(r:Nat->Bool)(x:D)(M:MH)(Q:VK3):Prop:=match x with
 |.ref a=>match M a with
  |some (.exc i v)=>i.c < ne/\v=.ref (cls i.c)/\Q (.bl (r i.c)) M
  |_=>False
 |_=>False
noncomputable def n9:List D->Option (List Int)
 |[]=>some []
 |.int i::r=>match n9 r with
  |some ns=>some (i::ns)
  |none=>none
 |_::_=>none
noncomputable def mmI(mx:Bool)(a b:Int):Int:=if mx=true then (if b > a then b else a) else (if b < a then b else a)
noncomputable def rMM(mx dflt:Bool)(x:D)(M:MH)(Q:VK3):Prop:=match aj M x with
 |some ds=>match n9 ds with
  |some []=>dflt=true/\Q .non M
  |some (n::ns)=>Q (.int (ns.foldl (mmI mx) n)) M
  |none=>False
 |none=>False
noncomputable def ED(fz:Bool)(x:D)(M:MH)(Q:VK3):Prop:=match aj M x with
 |some ds=>be fz ds.reverse M Q
 |none=>False
noncomputable def zm(p:Addr)(x y:D)(M:MH)(Q:VK3):Prop:=match x with
 |.int i=>M p=some (.dk [] [])/\Q (.ref p) (put M p (.dk [.inl i] [y]))
 |_=>False
structure WB where
 ne:Nat
 cls:Nat->Addr
 sub:Nat->Nat->Bool
 nk:Nat
 kls:Nat->Addr
 ksub:Nat->Nat->Bool
 fok:Nat->Nat->Bool
 mth:Nat->Nat->Option Nat
 ini:Nat->Option Nat
 xin:Nat->Option Nat
 glo:Nat->D
 fad:Nat->Addr
structure WC extends WB where
 call:Nat->List D->MH->VK3->XN->Prop
noncomputable def bx(f:Nat):List Nat->List D->Option D
 |n::ns,d::ds=>if n=f then some d else bx f ns ds
 |_,_=>none
noncomputable def bT(f:Nat):List Nat->List Nat
 |n::ns=>if n=f then n::ns else n::bT f ns
 |[]=>[f]
noncomputable def bS(f:Nat)(y:D):List Nat->List D->List D
 |n::ns,d::ds=>if n=f then y::ds else d::bS f y ns ds
 |_,_=>[y]
noncomputable def gj(f:Nat)(ns:List Nat)(ds:List D)(M:MH)(Q:VK3):Prop:=match bx f ns ds with
 |some d=>Q d M
 |none=>False
noncomputable def dE(B:WB)(f:Nat)(x:D)(M:MH)(Q:VK3):Prop:=match x with
 |.obj i C ns ds=>(C=B.kls i/\i < B.nk/\B.fok i f=true)/\gj f ns ds M Q
 |.ref a=>match M a with
  |some (.ins i C ns ds)=>(C=B.kls i/\i < B.nk/\B.fok i f=true)/\gj f ns ds M Q
  |_=>False
 |_=>False
noncomputable def rXf(B:WB)(f:Nat)(x:D)(M:MH)(Q:VK3):Prop:=match x with
 |.ref a=>match M a with
  |some (.exc i v)=>(v=.ref (B.cls i.c)/\i.c < B.ne/\B.xin i.c=some f)/\(match i.pl with
   |some (g,y)=>g=f/\Q y M
   |none=>False)
  |_=>False
 |_=>False
noncomputable def dF(o:Option Nat)(R:Nat->Prop):Prop:=match o with
 |some f=>R f
 |none=>False
noncomputable def dX(B:WB)(m:Nat)(x:D)(M:MH)(R:Nat->Prop):Prop:=match x with
 |.obj i C ns ds=>(C=B.kls i/\i < B.nk/\bx m ns ds=none)/\dF (B.mth i m) R
 |.ref a=>match M a with
  |some (.ins i C ns ds)=>(C=B.kls i/\i < B.nk/\bx m ns ds=none)/\dF (B.mth i m) R
  |_=>False
 |_=>False
noncomputable def kN(B:WB)(j:Nat)(x:D)(M:MH)(Q:VK3):Prop:=match x with
 |.obj i C _ _=>(C=B.kls i/\i < B.nk/\j < B.nk)/\Q (.bl (B.ksub i j)) M
 |.ref a=>match M a with
  |some (.ins i C _ _)=>(C=B.kls i/\i < B.nk/\j < B.nk)/\Q (.bl (B.ksub i j)) M
  |_=>False
 |_=>False
noncomputable def dR(Q:VK3):VK3:=fun x M=>match x with
 |.ref a=>match M a with
  |some (.lst ds)=>Q (.rol ds) (del M a)
  |_=>False
 |_=>False
noncomputable def bM:List D->MH->(List D->MH->Prop)->Prop
 |[],M,R=>R [] M
 |d::ds,M,R=>match d with
  |.ref a=>match M a with
   |some (.lst es)=>bM ds (del M a) fun r M'=>R (.rol es::r) M'
   |some (.dk ks es)=>bM ds (del M a) fun r M'=>R (.dik ks es::r) M'
   |some (.dt ks es)=>bM ds (del M a) fun r M'=>R (.dit ks es::r) M'
   |_=>bM ds M fun r M'=>R (.ref a::r) M'
  |d=>bM ds M fun r M'=>R (d::r) M'
noncomputable def aW(Q:VK3):VK3:=fun x M=>match x with
 |.ref a=>match M a with
  |some (.lst ds)=>Q (.rol ds) (del M a)
  |some (.dk ks ds)=>Q (.dik ks ds) (del M a)
  |some (.dt ks ds)=>Q (.dit ks ds) (del M a)
  |some (.ins i C ns ds)=>bM ds (del M a) fun r M'=>Q (.obj i C ns r) M'
  |_=>False
 |_=>False
noncomputable def wpG:ITg->D->St3->MH->(St3->MH->Prop)->Prop
 |.name i,d,σ,M,Q=>Q (σ.set i (some d)) M
 |.tup is,d,σ,M,Q=>match d with
  |.tup ds=>ds.length=is.length/\Q ((is.zip ds).foldl (fun σ p=>σ.set p.1 (some p.2)) σ) M
  |_=>False
noncomputable def aP(js:List (Option Nat))(σ:St3):St3:=js.map fun o=>o.bind fun j=>(σ[j]?).bind id
noncomputable def cS(g:D->St3->MH->(St3->MH->Prop)->Prop)(tt:St3->MH->(Bool->MH->Prop)->Prop)(te:St3->MH->VK3->Prop)(S:MH->Prop)(p:Addr)(Q:VK3):List D->List D->St3->MH->Prop
 |[],_,_,M=>S M/\Q (.ref p) M
 |d::r,ys,σ,M=>S M/\ys.length < sizeLine/\g d σ M fun σ2 M2=>tt σ2 M2 fun b M3=>if b=true then te σ2 M3 fun y M4=>M4 p=some (.lst ys)/\cS g tt te S p Q r (ys++[y]) σ2 (put M4 p (.lst (ys++[y]))) else cS g tt te S p Q r ys σ2 M3
noncomputable def bD(x k y:D)(M:MH)(R:MH->Prop):Prop:=match x with
 |.ref a=>match M a,k with
  |some (.lst ds),.int i=>(match ixN ds.length i with
   |some j=>R (put M a (.lst (ds.set j y)))
   |none=>False)
  |some (.dk ks ds),k=>(match mY k with
   |some q=>ks.length < sizeLine/\R (put M a (.dk (ao ks q) (az ks ds q y)))
   |none=>False)
  |some (.dt ks ds),k=>(match pc k with
   |some q=>ks.length < sizeLine/\R (put M a (.dt (ao ks q) (az ks ds q y)))
   |none=>False)
  |_,_=>False
 |_=>False
noncomputable def ck:Nat->List D->List D
 |_,[]=>[]
 |k,d::r=>.tup [.int k,d]::ck (k+1) r
noncomputable def dY(xs ys:List D):List D:=(xs.zip ys).map fun p=>.tup [p.1,p.2]
noncomputable def rLz(fz:Bool)(x y:D)(M:MH)(Q:VK3):Prop:=match x,y with
 |.rol xs,.rol ys=>be fz (dY xs ys) M Q
 |_,_=>False
section
variable (W:WC)
mutual
noncomputable def wpE:IE->St3->MH->VK3->XN->Prop
 |.var i,σ,M,Q,_=>match σ[i]? with
  |some (some d)=>Q d M
  |_=>False
 |.con d,_,M,Q,_=>Q d M
 |.bin op a b,σ,M,Q,E=>wpE a σ M (fun x M1=>wpE b σ M1 (fun y M2=>ed op x y M2 Q) E) E
 |.neg a,σ,M,Q,E=>wpE a σ M (fun x M1=>rNeg x M1 Q) E
 |.cat fz a b,σ,M,Q,E=>wpE a σ M (fun x M1=>wpE b σ M1 (fun y M2=>cA fz x y M2 Q) E) E
 |.cmp op a b,σ,M,Q,E=>wpE a σ M (fun x M1=>wpE b σ M1 (fun y M2=>am op x y M2 Q) E) E
 |.chain op op' a b c,σ,M,Q,E=>wpE a σ M (fun x M1=>wpE b σ M1 (fun y M2=>am op x y M2 fun r M3=>match r with
  |.bl k=>if k=true then wpE c σ M3 (fun z M4=>am op' y z M4 Q) E else Q (.bl false) M3
  |_=>False) E) E
 |.and a b,σ,M,Q,E=>wpE a σ M (fun x M1=>match x with
  |.bl c=>if c=true then wpE b σ M1 Q E else Q (.bl false) M1
  |_=>False) E
 |.or a b,σ,M,Q,E=>wpE a σ M (fun x M1=>match x with
  |.bl c=>if c=true then Q (.bl true) M1 else wpE b σ M1 Q E
  |_=>False) E
 |.not a,σ,M,Q,E=>wpE a σ M (fun x M1=>match x with
  |.bl c=>Q (.bl (!c)) M1
  |_=>False) E
 |.ifx c a b,σ,M,Q,E=>wpT c σ M (fun k M1=>if k=true then wpE a σ M1 Q E else wpE b σ M1 Q E) E
 |.tup es,σ,M,Q,E=>wpA es σ M (fun xs M1=>xs.length<=sizeLine/\Q (.tup xs) M1) E
 |.lst fz es,σ,M,Q,E=>wpA es σ M (fun xs M1=>be fz xs M1 Q) E
 |.frz e,σ,M,Q,E=>wpE e σ M (aW Q) E
 |.ix a b,σ,M,Q,E=>wpE a σ M (fun x M1=>wpE b σ M1 (fun y M2=>ax x y M2 Q) E) E
 |.sl fz a lo hi,σ,M,Q,E=>wpE a σ M (fun x M1=>wpO lo σ M1 (fun l M2=>wpO hi σ M2 (fun h M3=>fS fz x l h M3 Q) E) E) E
 |.call f es,σ,M,Q,E=>wpA es σ M (fun xs M1=>W.call f xs M1 Q E) E
 |.bi b es,σ,M,Q,E=>wpA es σ M (fun xs M1=>rBi b xs M1 Q) E
 |.isB e t,σ,M,Q,E=>wpE e σ M (fun x M1=>eG t x M1 Q) E
 |.isC e c,σ,M,Q,E=>wpE e σ M (fun x M1=>ke W.ne W.cls (fun i=>W.sub i c) x M1 Q) E
 |.comp fz _ js tg it cond elt,σ,M,Q,E=>wpI it σ M (fun ds S M1=>∀p,M1 p=none->
   cS (wpG tg) (fun σ M Q=>iD cond σ M Q (fun _ _=>False)) (fun σ M Q=>wpE elt σ M Q (fun _ _=>False)) S p (if fz=true then dR Q else Q) ds [] (aP js σ) (put M1 p (.lst []))) E
 |.fld e f,σ,M,Q,E=>wpE e σ M (fun x M1=>dE W.toWB f x M1 Q) E
 |.make fz i es,σ,M,Q,E=>wpA es σ M (fun xs M1=>i < W.nk/\dF (W.ini i) fun f=>∀p,M1 p=none->
   W.call f (.ref p::xs) (put M1 p (.ins i (W.kls i) [] [])) (fun v M2=>v=.non/\if fz=true then aW Q (.ref p) M2 else Q (.ref p) M2) (fun i M'=>E i (del M' p))) E
 |.meth e m es,σ,M,Q,E=>wpE e σ M (fun x M1=>dX W.toWB m x M1 fun f=>wpA es σ M1 (fun xs M2=>W.call f (x::xs) M2 Q E) E) E
 |.ini i es,σ,M,Q,E=>wpA es σ M (fun xs M1=>i < W.nk/\dF (W.ini i) fun f=>W.call f xs M1 Q E) E
 |.isK e j,σ,M,Q,E=>wpE e σ M (fun x M1=>kN W.toWB j x M1 Q) E
 |.glo k,_,M,Q,_=>Q (W.glo k) M
 |.bm b o es,σ,M,Q,E=>wpE o σ M (fun x M1=>tyB b x M1=true/\wpA es σ M1 (fun xs M2=>rBm b x xs M2 Q) E) E
 |.dnew tk,_,M,Q,_=>∀p,M p=none->Q (.ref p) (put M p (if tk=true then .dt [] [] else .dk [] []))
 |.rep fz a b,σ,M,Q,E=>wpE a σ M (fun x M1=>wpE b σ M1 (fun y M2=>eF fz x y M2 Q) E) E
 |.lzip fz a b,σ,M,Q,E=>wpE a σ M (fun x M1=>wpE b σ M1 (fun y M2=>rLz fz x y M2 Q) E) E
noncomputable def wpT:IT->St3->MH->(Bool->MH->Prop)->XN->Prop
 |.val e,σ,M,Q,E=>wpE e σ M (fun x M1=>match x with
  |.bl k=>Q k M1
  |_=>False) E
 |.cmp op a b,σ,M,Q,E=>wpE a σ M (fun x M1=>wpE b σ M1 (fun y M2=>am op x y M2 fun r M3=>match r with
  |.bl k=>Q k M3
  |_=>False) E) E
 |.chain op op' a b c,σ,M,Q,E=>wpE a σ M (fun x M1=>wpE b σ M1 (fun y M2=>am op x y M2 fun r M3=>match r with
  |.bl k=>if k=true then wpE c σ M3 (fun z M4=>am op' y z M4 fun r M5=>match r with
   |.bl k=>Q k M5
   |_=>False) E else Q false M3
  |_=>False) E) E
 |.chain3 op op' op'' a b c d,σ,M,Q,E=>wpE a σ M (fun x M1=>wpE b σ M1 (fun y M2=>am op x y M2 fun r M3=>match r with
  |.bl k=>if k=true then wpE c σ M3 (fun z M4=>am op' y z M4 fun r M5=>match r with
   |.bl k=>if k=true then wpE d σ M5 (fun u M6=>am op'' z u M6 fun r M7=>match r with
    |.bl k=>Q k M7
    |_=>False) E else Q false M5
   |_=>False) E else Q false M3
  |_=>False) E) E
 |.and a b,σ,M,Q,E=>wpT a σ M (fun c M1=>if c=true then wpT b σ M1 Q E else Q false M1) E
 |.or a b,σ,M,Q,E=>wpT a σ M (fun c M1=>if c=true then Q true M1 else wpT b σ M1 Q E) E
 |.not a,σ,M,Q,E=>wpT a σ M (fun c M1=>Q (!c) M1) E
noncomputable def wpA:IA->St3->MH->(List D->MH->Prop)->XN->Prop
 |.nil,_,M,Q,_=>Q [] M
 |.cons e r,σ,M,Q,E=>wpE e σ M (fun x M1=>wpA r σ M1 (fun xs M2=>Q (x::xs) M2) E) E
noncomputable def wpO:IO->St3->MH->(Option Int->MH->Prop)->XN->Prop
 |.no,_,M,Q,_=>Q none M
 |.yes e,σ,M,Q,E=>wpE e σ M (fun x M1=>match x with
  |.int i=>Q (some i) M1
  |_=>False) E
noncomputable def iD:ITO->St3->MH->(Bool->MH->Prop)->XN->Prop
 |.no,_,M,Q,_=>Q true M
 |.yes e,σ,M,Q,E=>wpT e σ M Q E
noncomputable def wpI:II->St3->MH->(List D->(MH->Prop)->MH->Prop)->XN->Prop
 |.seq e,σ,M,R,E=>wpE e σ M (fun x M1=>match x with
  |.tup ds=>R ds (fun _=>True) M1
  |.rol ds=>R ds (fun _=>True) M1
  |.ref a=>match M1 a with
   |some (.lst ds)=>R ds (fun M=>M a=some (.lst ds)) M1
   |_=>False
  |.str z=>R (eO z) (fun _=>True) M1
  |_=>False) E
 |.enum a,σ,M,R,E=>wpE a σ M (fun x M1=>match x with
  |.rol ds=>R (ck 0 ds) (fun _=>True) M1
  |_=>False) E
 |.zip a b,σ,M,R,E=>wpE a σ M (fun x M1=>wpE b σ M1 (fun y M2=>match x,y with
  |.rol xs,.rol ys=>R (dY xs ys) (fun _=>True) M2
  |_,_=>False) E) E
 |.revd a,σ,M,R,E=>wpE a σ M (fun x M1=>match x with
  |.rol ds=>R ds.reverse (fun _=>True) M1
  |_=>False) E
 |.rng1 a,σ,M,R,E=>wpE a σ M (fun x M1=>match x with
  |.int j=>-(2 ^ 62)<=j/\j < 2 ^ 62/\R (rng 0 j.toNat) (fun _=>True) M1
  |_=>False) E
end
noncomputable def gI(g:D->St3->MH->(St3->MH->Prop)->Prop)(tb:Ends3->St3->MH->Prop)(S:MH->Prop)(D:Ends3):List L2.D->St3->MH->Prop
 |[],σ,M=>S M/\D.nx σ M
 |d::r,σ,M=>S M/\g d σ M fun σ2 M2=>tb {D with nx:=gI g tb S D r,ct:=gI g tb S D r,bk:=D.nx} σ2 M2
noncomputable def fB(D:Ends3)(i:Nat):Ends3:=⟨fun σ M=>D.nx (σ.set i none) M,D.rt,fun σ M=>D.bk (σ.set i none) M,fun σ M=>D.ct (σ.set i none) M⟩
mutual
noncomputable def wpS:IS->Ends3->(St3->XN)->St3->MH->Prop
 |.set i e,D,E,σ,M=>wpE W e σ M (fun x M1=>D.nx (σ.set i (some x)) M1) (E σ)
 |.expr e,D,E,σ,M=>wpE W e σ M (fun _ M1=>D.nx σ M1) (E σ)
 |.ret e,D,E,σ,M=>wpE W e σ M D.rt (E σ)
 |.ifs c a b,D,E,σ,M=>wpT W c σ M (fun k M1=>if k=true then ar a D E σ M1 else ar b D E σ M1) (E σ)
 |.for_ tg it body,D,E,σ,M=>wpI W it σ M (fun ds S M1=>gI (wpG tg) (fun D σ M=>ar body D E σ M) S D ds σ M1) (E σ)
 |.raise c es,_,E,σ,M=>wpA W es σ M (fun xs M1=>xs.length<=sizeLine/\E σ ⟨c,none⟩ M1) (E σ)
 |.try_ body hs,D,E,σ,M=>ar body D (fun σ' i M'=>wpH hs i D σ' M') σ M
 |.app o e,D,E,σ,M=>wpE W o σ M (fun x M1=>match x with
  |.ref a=>match M1 a with
   |some (.lst _)=>wpE W e σ M1 (fun y M2=>match M2 a with
    |some (.lst ds)=>ds.length < sizeLine/\D.nx σ (put M2 a (.lst (ds++[y])))
    |_=>False) (E σ)
   |_=>False
  |_=>False) (E σ)
 |.del i,D,_,σ,M=>match σ[i]? with
  |some (some (.ref a))=>D.nx σ (L2.del M a)
  |_=>False
 |.fset o f e,D,E,σ,M=>wpE W e σ M (fun y M1=>wpE W o σ M1 (fun x M2=>match x with
  |.ref a=>match M2 a with
   |some (.ins i C ns ds)=>(C=W.kls i/\i < W.nk/\W.fok i f=true/\ns.length < 1000)/\D.nx σ (put M2 a (.ins i C (bT f ns) (bS f y ns ds)))
   |_=>False
  |_=>False) (E σ)) (E σ)
 |.ixset o i e,D,E,σ,M=>wpE W e σ M (fun y M1=>wpE W o σ M1 (fun x M2=>wpE W i σ M2 (fun k M3=>bD x k y M3 fun M4=>D.nx σ M4) (E σ)) (E σ)) (E σ)
noncomputable def ar:ISs->Ends3->(St3->XN)->St3->MH->Prop
 |.nil,D,_,σ,M=>D.nx σ M
 |.cons s r,D,E,σ,M=>wpS s {D with nx:=fun σ' M'=>ar r D E σ' M'} E σ M
noncomputable def wpH:IHs->XE->Ends3->St3->MH->Prop
 |.nil,_,_,_,_=>False
 |.cons c nm body r,i,D,σ,M=>i.c < W.ne/\if W.sub i.c c=true then (match nm with
  |none=>ar body D (fun _ _ _=>False) σ M
  |some j=>∀a,M a=none->ar body (fB D j) (fun _ _ _=>False) (σ.set j (some (.ref a))) (put M a (.exc i (.ref (W.cls i.c))))) else wpH r i D σ M
end
end
end L2
namespace L2
open PySem PySem.Spec PyProof.Rows
noncomputable def LkE(K:PySem.W.Frag)(cls:Nat->Addr)(H:Hp)(E3:XN)(E:XK):Prop:=∀i M' H',TM K H H'->RelM K M' H'->E3 i M'->∀dx,XD K H' i dx->E (.ref (cls i.c)) dx H'
noncomputable def LkS(K:PySem.W.Frag)(cls:Nat->Addr)(H:Hp)(E3:St3->XN)(E2:St->XK):Prop:=∀σ3 σ i M' H',TM K H H'->DenS K H' σ3 σ->RelM K M' H'->E3 σ3 i M'->∀dx,XD K H' i dx->E2 σ (.ref (cls i.c)) dx H'
section
variable {K:PySem.W.Frag}{cls:Nat->Addr}{H H1:Hp}
theorem LkE.mono{E3:XN}{E:XK}(h:LkE K cls H E3 E)(t:TM K H H1):LkE K cls H1 E3 E:=fun i M' H' t' r q=>h i M' H' (t.trans t') r q
theorem LkS.mono{E3:St3->XN}{E2:St->XK}(h:LkS K cls H E3 E2)(t:TM K H H1):LkS K cls H1 E3 E2:=fun σ3 σ i M' H' t' d r q=>h σ3 σ i M' H' (t.trans t') d r q
theorem LkS.at{E3:St3->XN}{E2:St->XK}{σ3:St3}{σ:St}(h:LkS K cls H E3 E2)(ds:DenS K H σ3 σ):LkE K cls H (E3 σ3) (E2 σ):=fun i M' H' t r q=>h σ3 σ i M' H' t (ds.mono t) r q
theorem LkE.no{E:XK}:LkE K cls H (fun _ _=>False) E:=fun _ _ _ _ _ h=>h.elim
theorem Back.mono{Q:VK3}{Q2:VK}(h:Back K H Q Q2)(t:TM K H H1):Back K H1 Q Q2:=fun v H' d M' a b c e=>h v H' d M' a b (t.trans c) e
end
section
variable (K:PySem.W.Frag) (cls:Nat->Addr) (E2:St->XK)
noncomputable def low(t:St3->MH->VK3->XN->Prop):TE:=fun σ H Q2=>∃σ3 M Q E3,RelM K M H/\DenS K H σ3 σ/\LkE K cls H E3 (E2 σ)/\t σ3 M Q E3/\Back K H Q Q2
noncomputable def bW(t:St3->MH->(Bool->MH->Prop)->XN->Prop):TT:=fun σ H Q2=>∃σ3 M Q E3,RelM K M H/\DenS K H σ3 σ/\LkE K cls H E3 (E2 σ)/\t σ3 M Q E3/\∀b H' M',RelM K M' H'->TM K H H'->Q b M'->Q2 b H'
noncomputable def cU(t:St3->MH->(List D->MH->Prop)->XN->Prop):TA:=fun σ H Q2=>∃σ3 M Q E3,RelM K M H/\DenS K H σ3 σ/\LkE K cls H E3 (E2 σ)/\t σ3 M Q E3/\∀vs H' ds M',DenL K H' ds vs->RelM K M' H'->TM K H H'->Q ds M'->Q2 vs H'
noncomputable def m7(t:St3->MH->(Option Int->MH->Prop)->XN->Prop):TO:=fun σ H Q2=>∃σ3 M Q E3,RelM K M H/\DenS K H σ3 σ/\LkE K cls H E3 (E2 σ)/\t σ3 M Q E3/\∀o H' M',RelM K M' H'->TM K H H'->Q o M'->Q2 o H'
noncomputable def jk(t:St3->MH->(List D->(MH->Prop)->MH->Prop)->XN->Prop):TI:=fun σ H R2=>∃σ3 M R E3,RelM K M H/\DenS K H σ3 σ/\LkE K cls H E3 (E2 σ)/\t σ3 M R E3/\∀J H' ds S M',ItOk K H' J ds S->RelM K M' H'->TM K H H'->R ds S M'->R2 J H'
noncomputable def bO(t:Ends3->(St3->XN)->St3->MH->Prop):TS:=fun D2 σ H=>∃σ3 M D3 E3,RelM K M H/\DenS K H σ3 σ/\LkS K cls H E3 E2/\t D3 E3 σ3 M/\ER K H D3 D2
noncomputable def mF(t:D->St3->MH->(St3->MH->Prop)->Prop):TG:=fun v σ H Q2=>∃d σ3 M Q,Den K H d v/\RelM K M H/\DenS K H σ3 σ/\t d σ3 M Q/\BackS K H Q Q2
end
section
variable {X:Cx}{e:Expr}{st:Stmt}{sts:List Stmt}
theorem PE.imp{t t':TE}(h:PE X e t)(f:∀σ H Q,t' σ H Q->t σ H Q):PE X e t':=fun pins s σ H Q I q=>h pins s σ H Q I (f σ H Q q)
theorem PT.imp{t t':TT}(h:PT X e t)(f:∀σ H Q,t' σ H Q->t σ H Q):PT X e t':=fun pins s σ H Q I q=>h pins s σ H Q I (f σ H Q q)
theorem PW.imp{t t':TT}(h:PW X e t)(f:∀σ H Q,t' σ H Q->t σ H Q):PW X e t':=fun whole pins s σ H Q I q=>h whole pins s σ H Q I (f σ H Q q)
theorem PA.imp{es:List Expr}{t t':TA}(h:PA X es t)(f:∀σ H Q,t' σ H Q->t σ H Q):PA X es t':=fun pos pins s σ H Q I q=>h pos pins s σ H Q I (f σ H Q q)
theorem PO.imp{o:Option Expr}{t t':TO}(h:PO X o t)(f:∀σ H Q,t' σ H Q->t σ H Q):PO X o t':=fun pins s σ H Q I q=>h pins s σ H Q I (f σ H Q q)
theorem PI.imp{tg:Expr}{t t':TI}(h:PI X tg e t)(f:∀σ H Q,t' σ H Q->t σ H Q):PI X tg e t':=fun pins s σ H Q I q=>h pins s σ H Q I (f σ H Q q)
theorem PS.imp{t t':TS}(h:PS X st t)(f:∀D σ H,t' D σ H->t D σ H):PS X st t':=fun pins s σ H D I q=>h pins s σ H D I (f D σ H q)
theorem PSs.imp{t t':TS}(h:PSs X sts t)(f:∀D σ H,t' D σ H->t D σ H):PSs X sts t':=fun pins s σ H D I q=>h pins s σ H D I (f D σ H q)
theorem PG.imp{t t':TG}(h:PG X e t)(f:∀v σ H Q,t' v σ H Q->t v σ H Q):PG X e t':=fun pins s σ H v u Q I r q=>h pins s σ H v u Q I r (f v σ H Q q)
end
section
variable {X:Cx}{pins:List (Addr×Obj)}{σ:St}{H:Hp}{s:Shared}
theorem HOk.freeze{P:Program}{w:World}{h:Heap}{a:Addr}{xs:List V}(x:HOk P w H h)(e:H a=some (.lst xs)):∃o,HOk P w (upd H a (.frz o (.lst xs))) h:=by
 obtain⟨o,ho⟩:=(x a _ e).isAt
 refine⟨o,fun b u q=>?_⟩
 have own:∀c y,H c=some (.own y)->(upd H a (.frz o (.lst xs))) c=some (.own y):=fun c y z=>by
  rw[ah (cC z e (fun w=>nomatch w))];exact z
 have tup:∀c ys,H c=some (.tup ys)->(upd H a (.frz o (.lst xs))) c=some (.tup ys):=fun c ys z=>by
  rw[ah (cC z e (fun w=>nomatch w))];exact z
 by_cases hb:b=a
 ·subst hb
  rw[ai]at q
  cases q
  exact⟨ho,(x b _ e).stay (fun _ _ _ q=>q) (fun c z=>own c _ z) fun c ys z=>tup c ys z⟩
 ·rw[ah hb]at q
  exact (x b u q).stay (fun _ _ _ q=>q) (fun c z=>own c _ z) fun c ys z=>tup c ys z
theorem Inv.freeze{a:Addr}{xs:List V}(I:Inv X pins σ H s)(e:H a=some (.lst xs)):∃o,Inv X pins σ (upd H a (.frz o (.lst xs))) s:=by
 obtain⟨o,ok⟩:=I.hok.freeze e
 have ne:∀b,H b=none->b≠a:=fun b z=>fun q=>by rw[q,e]at z;cases z
 refine⟨o,⟨I.ok,I.os,I.bare,⟨I.base.keep,I.base.slot,fun b ob q n hx=>?_,I.base.there,fun b ys q=>?_,fun b ob u q=>?_,fun b ps q=>?_⟩,I.loc,I.cell,?_,fun x c z=>?_,fun p hp=>?_,ok,I.len⟩⟩
 ·have z:=I.base.free b ob q n hx
  rw[ah (ne b z)];exact z
 ·have z:=I.base.tups b ys q
  rw[ah (cC z e (fun w=>nomatch w))];exact z
 ·have z:=I.base.frzs b ob u q
  rw[ah (cC z e (fun w=>nomatch w))];exact z
 ·obtain⟨more,z⟩:=I.base.tbls b ps q
  exact⟨more,by rw[ah (cC z e (fun w=>nomatch w))];exact z⟩
 ·rw[ah (ne _ I.free)];exact I.free
 ·rw[ah (ne _ (I.freeC x c z))];exact I.freeC x c z
 ·obtain⟨p1,p2,p3⟩:=I.pin p hp
  exact⟨p1,by rw[ah (ne _ p2)];exact p2,p3⟩
end
section
variable {K:PySem.W.Frag}{H:Hp}{M:MH}{a:Addr}{xs:List V}{o:Obj}
theorem TM.freeze(e:H a=some (.lst xs)):TM K H (upd H a (.frz o (.lst xs))):=
 .put e (fun _=>fun z=>nomatch z) fun _ _=>fun z=>nomatch z
theorem RelM.freeze(r:RelM K M H)(e:H a=some (.lst xs)):RelM K (del M a) (upd H a (.frz o (.lst xs))):=fun b u q=>by
 obtain⟨ne,q⟩:=fY q
 exact (r b u q).stay (.freeze e) (ah ne)
theorem dZ{ds:List D}(h:DenL K H ds xs)(e:H a=some (.lst xs)):Den K (upd H a (.frz o (.lst xs))) (.rol ds) (.ref a):=⟨a,xs,rfl,.inl ⟨o,ai⟩,h.mono (.freeze e)⟩
end
theorem bA{X:Cx}{pins:List (Addr×Obj)}{σ:St}{H0 H:Hp}{s:Shared}{fz:Bool}{ds:List D}{vs:List V}{M:MH}{Q:VK3}{Q2:VK}{p:Addr}
  (I:Inv X pins σ (upd H p (.lst vs)) s) (hp:H p=none) (dl:DenL X.K H ds vs) (rm:RelM X.K M H) (tm:TM X.K H0 H) (h:be fz ds M Q) (back:Back X.K H0 Q Q2):EP X pins σ Q2 (.ref p) s:=by
 obtain⟨_,h⟩:=h
 cases fz with
 |true=>
  rw[if_pos rfl]at h
  obtain⟨o,I2⟩:=I.freeze ai
  refine⟨.ref p,_,I2,rfl,back _ _ _ _ (dZ (o:=o) (dl.mono (.new hp)) ai) ?_ (tm.trans ((TM.new hp).trans (.freeze ai))) h⟩
  have r2:RelM X.K (put M p (.lst ds)) (upd H p (.lst vs)):=rm.lay hp ⟨vs,ai,dl.mono (.new hp)⟩
  have r3:=r2.freeze (o:=o) (xs:=vs) ai
  rw[dB (rm.fresh hp)]at r3
  exact r3
 |false=>
  rw[if_neg Bool.false_ne_true]at h
  exact⟨.ref p,_,I,rfl,back _ _ _ _ eP (rm.lay (u:=.lst ds) hp ⟨vs,ai,dl.mono (.new hp)⟩) (tm.trans (.new hp)) (h p (rm.fresh hp))⟩
noncomputable def RdL(K:PySem.W.Frag)(H:Hp)(p:Addr)(vs:List V):Prop:=Rd H p (.lst vs)\/SqM K p vs
theorem RdL.sq{K:PySem.W.Frag}{H:Hp}{p:Addr}{vs:List V}(h:RdL K H p vs):SqL K H p vs:=by
 rcases h with h|h
 ·exact .inl h
 ·exact h.sq
theorem SqF.rd{K:PySem.W.Frag}{H:Hp}{p:Addr}{vs:List V}(h:SqF K H p vs):RdL K H p vs:=by
 rcases h with h|h
 ·exact .inl (.inr h)
 ·exact .inr h
theorem bB{K:PySem.W.Frag}{M:MH}{H:Hp}{x:D}{v:V}{ds:List D}(rm:RelM K M H)(h:aj M x=some ds)(dv:Den K H x v):∃p vs,v=.ref p/\RdL K H p vs/\DenL K H ds vs:=by
 cases x with
 |rol es=>
  cases (show es=ds from Option.some.inj h)
  obtain⟨p,vs,e,s,l⟩:=dv
  exact⟨p,vs,e,s.rd,l⟩
 |ref a=>
  have h:(match M a with|some (.lst ds)=>some ds|_=>none)=some ds:=h
  split at h
  next es q=>
   cases h
   obtain⟨vs,e,l⟩:=rm a _ q
   exact⟨a,vs,dv,.inl (.inl e),l⟩
  next=>cases h
 |_=>cases h
theorem eY{K:PySem.W.Frag}{M:MH}{H:Hp}{x:D}{v:V}{ds:List D}(rm:RelM K M H)(h:aw M x=some ds)(dv:Den K H x v):∃p vs,v=.ref p/\(SqL K H p vs\/SqT K H p vs)/\DenL K H ds vs:=by
 cases x with
 |tup es=>
  cases (show es=ds from Option.some.inj h)
  obtain⟨p,vs,e,s,l⟩:=dv
  exact⟨p,vs,e,.inr s,l⟩
 |rol es=>obtain⟨p,vs,e,s,l⟩:=bB rm (show aj M (.rol es)=some ds from h) dv;exact⟨p,vs,e,.inl s.sq,l⟩
 |ref a=>obtain⟨p,vs,e,s,l⟩:=bB rm (show aj M (.ref a)=some ds from h) dv;exact⟨p,vs,e,.inl s.sq,l⟩
 |_=>cases h
theorem Inv.rdL{X:Cx}{pins:List (Addr×Obj)}{σ:St}{H:Hp}{s:Shared}{l:Addr}{xs:List V}(I:Inv X pins σ H s)(h:RdL X.K H l xs):xs.length<=sizeLine/\∃(its:List Value) (n:Nat),Vals xs its/\xs.length=its.length/\s.heap.get? l=some {cls:=.type "list",data:=.seq its.toArray n}:=by
 rcases h with h|⟨its,n,e,z,r⟩
 ·obtain⟨z,its,n,r,e⟩:=h.ok I.hok
  exact⟨z,its,n,r,r.length,e⟩
 ·exact⟨by rw[r.length];exact z,its,n,r,r.length,I.kIn _ _ e⟩
noncomputable def oR:HO->Bool
 |.lst _=>true
 |.dK _=>true
 |.dT _=>true
 |.ins _ _ _=>true
 |.ext _=>true
 |_=>false
theorem jj{u:HO}(h:oR u=true):(∀y,HO.own y≠u)/\(∀xs,HO.tup xs≠u)/\(∀o v,HO.frz o v≠u)/\∀ps,HO.tbl ps≠u:=by
 cases u<;>first
  |(cases h;done)
  |exact⟨fun _ z=>(by cases z),fun _ z=>(by cases z),fun _ _ z=>(by cases z),fun _ z=>(by cases z)⟩
section
variable {X:Cx}{pins:List (Addr×Obj)}{σ:St}{H:Hp}{s:Shared}
theorem HOk.frzU{P:Program}{w:World}{h:Heap}{a:Addr}{u:HO}(x:HOk P w H h)(e:H a=some u)(hu:oR u=true):∃o,HOk P w (upd H a (.frz o u)) h:=by
 obtain⟨n1,n2,_,_⟩:=jj hu
 obtain⟨o,ho⟩:=(x a _ e).isAt
 refine⟨o,fun b v q=>?_⟩
 have own:∀c y,H c=some (.own y)->(upd H a (.frz o u)) c=some (.own y):=fun c y z=>by
  rw[ah (cC z e (n1 y))];exact z
 have tup:∀c ys,H c=some (.tup ys)->(upd H a (.frz o u)) c=some (.tup ys):=fun c ys z=>by
  rw[ah (cC z e (n2 ys))];exact z
 by_cases hb:b=a
 ·subst hb
  rw[ai]at q
  cases q
  exact⟨ho,(x b _ e).stay (fun _ _ _ q=>q) (fun c z=>own c _ z) fun c ys z=>tup c ys z⟩
 ·rw[ah hb]at q
  exact (x b v q).stay (fun _ _ _ q=>q) (fun c z=>own c _ z) fun c ys z=>tup c ys z
theorem Inv.frzU{a:Addr}{u:HO}(I:Inv X pins σ H s)(e:H a=some u)(hu:oR u=true):∃o,Inv X pins σ (upd H a (.frz o u)) s:=by
 obtain⟨n1,n2,n3,n4⟩:=jj hu
 obtain⟨o,ok⟩:=I.hok.frzU e hu
 have ne:∀b,H b=none->b≠a:=fun b z=>fun q=>by rw[q,e]at z;cases z
 refine⟨o,⟨I.ok,I.os,I.bare,⟨I.base.keep,I.base.slot,fun b ob q n hx=>?_,I.base.there,fun b ys q=>?_,fun b ob u q=>?_,fun b ps q=>?_⟩,I.loc,I.cell,?_,fun x c z=>?_,fun p hp=>?_,ok,I.len⟩⟩
 ·have z:=I.base.free b ob q n hx
  rw[ah (ne b z)];exact z
 ·have z:=I.base.tups b ys q
  rw[ah (cC z e (n2 _))];exact z
 ·have z:=I.base.frzs b ob u q
  rw[ah (cC z e (n3 _ _))];exact z
 ·obtain⟨more,z⟩:=I.base.tbls b ps q
  exact⟨more,by rw[ah (cC z e (n4 _))];exact z⟩
 ·rw[ah (ne _ I.free)];exact I.free
 ·rw[ah (ne _ (I.freeC x c z))];exact I.freeC x c z
 ·obtain⟨p1,p2,p3⟩:=I.pin p hp
  exact⟨p1,by rw[ah (ne _ p2)];exact p2,p3⟩
end
section
variable {K:PySem.W.Frag}{H:Hp}{M:MH}{a:Addr}{u:HO}{o:Obj}
theorem TM.frzU(e:H a=some u)(hu:oR u=true):TM K H (upd H a (.frz o u)):=by
 obtain⟨_,n2,n3,_⟩:=jj hu
 exact .put e (fun xs z=>n2 xs z.symm) fun ob v z=>n3 ob v z.symm
theorem RelM.frzU(r:RelM K M H)(e:H a=some u)(hu:oR u=true):RelM K (del M a) (upd H a (.frz o u)):=fun b v q=>by
 obtain⟨ne,q⟩:=fY q
 exact (r b v q).stay (.frzU e hu) (ah ne)
end
noncomputable def fzD:DO->D
 |.lst ds=>.rol ds
 |.dk ks ds=>.dik ks ds
 |.dt ks ds=>.dit ks ds
 |.ins i C ns ds=>.obj i C ns ds
 |.exc _ _=>.non
 |.stl _=>.non
theorem db{X:Cx}{pins:List (Addr×Obj)}{σ:St}{H:Hp}{s:Shared}{M:MH}{a:Addr}{o:DO}(I:Inv X pins σ H s)(rm:RelM X.K M H)(e:M a=some o)(ho:(∀i c,o≠.exc i c)/\∀φ,o≠.stl φ) :
  ∃H',Inv X pins σ H' s/\TM X.K H H'/\RelM X.K (del M a) H'/\Den X.K H' (fzD o) (.ref a):=by
 cases o with
 |lst ds=>
  obtain⟨vs,e1,dl⟩:=rm a _ e
  obtain⟨ob,I2⟩:=I.frzU e1 rfl
  exact⟨_,I2,.frzU e1 rfl,rm.frzU e1 rfl,a,vs,rfl,.inl ⟨ob,ai⟩,dl.mono (.frzU e1 rfl)⟩
 |dk ks ds=>
  obtain⟨vs,e1,hl,dl⟩:=rm a _ e
  obtain⟨ob,I2⟩:=I.frzU e1 rfl
  exact⟨_,I2,.frzU e1 rfl,rm.frzU e1 rfl,a,vs,ob,rfl,ai,hl,dl.mono (.frzU e1 rfl)⟩
 |dt ks ds=>
  obtain⟨vs,xs,e1,z,dl⟩:=rm a _ e
  obtain⟨ob,I2⟩:=I.frzU e1 rfl
  have t:TM X.K H (upd H a (.frz ob (.ext (cN a xs)))):=.frzU e1 rfl
  exact⟨_,I2,t,rm.frzU e1 rfl,a,vs,ob,xs,rfl,ai,⟨z.kx,z.nd,z.sz,z.no,z.vx,fun x hx=>t.t _ _ (z.at_ x hx)⟩,dl.mono t⟩
 |ins i C ns ds=>
  obtain⟨dx,vs,e1,hl,dl⟩:=rm a _ e
  obtain⟨ob,I2⟩:=I.frzU e1 rfl
  exact⟨_,I2,.frzU e1 rfl,rm.frzU e1 rfl,a,vs,ob,dx,rfl,ai,hl,dl.mono (.frzU e1 rfl)⟩
 |exc i c=>exact absurd rfl (ho.1 i c)
 |stl φ=>exact absurd rfl (ho.2 φ)
theorem eg{X:Cx}{pins:List (Addr×Obj)}{σ:St}{s:Shared}:∀{ds:List D}{vs:List V}{H:Hp}{M:MH}{R:List D->MH->Prop},Inv X pins σ H s->RelM X.K M H->DenL X.K H ds vs->bM ds M R->
  ∃H' M' r,Inv X pins σ H' s/\TM X.K H H'/\RelM X.K M' H'/\DenL X.K H' r vs/\R r M'
 |[],vs,H,M,R,I,rm,dl,h=>⟨H,M,[],I,.refl _,rm,dl,h⟩
 |d::ds,_,H,M,R,I,rm,dl,h=>by
  obtain⟨v,r,rfl,dv,dl⟩:=dl
  have keep:∀(d:D),Den X.K H d v->bM ds M (fun r M'=>R (d::r) M')->∃H' M' r',Inv X pins σ H' s/\TM X.K H H'/\RelM X.K M' H'/\DenL X.K H' r' (v::r)/\R r' M':=fun d dv h=>by
   obtain⟨H',M',r',I',t,rm',dl',q⟩:=eg I rm dl h
   exact⟨H',M',d::r',I',t,rm',.cons (dv.mono t) dl',q⟩
  have fz:∀(a:Addr) (o:DO),v=.ref a->M a=some o->((∀i c,o≠.exc i c)/\∀φ,o≠.stl φ)->bM ds (del M a) (fun r M'=>R (fzD o::r) M')->∃H' M' r',Inv X pins σ H' s/\TM X.K H H'/\RelM X.K M' H'/\DenL X.K H' r' (v::r)/\R r' M':=fun a o e eM ne h=>by
   subst e
   obtain⟨H1,I1,t1,rm1,d1⟩:=db I rm eM ne
   obtain⟨H',M',r',I',t,rm',dl',q⟩:=eg I1 rm1 (dl.mono t1) h
   exact⟨H',M',_::r',I',t1.trans t,rm',.cons (d1.mono t) dl',q⟩
  cases d with
  |ref a=>
   simp only[bM]at h
   have e:v=.ref a:=dv
   split at h
   ·rename_i es q;exact fz a (.lst es) e q ⟨(fun _ _ z=>nomatch z),(fun _ z=>nomatch z)⟩ h
   ·rename_i ks es q;exact fz a (.dk ks es) e q ⟨(fun _ _ z=>nomatch z),(fun _ z=>nomatch z)⟩ h
   ·rename_i ks es q;exact fz a (.dt ks es) e q ⟨(fun _ _ z=>nomatch z),(fun _ z=>nomatch z)⟩ h
   ·exact keep _ dv h
  |_=>exact keep _ dv (by simpa only[bM] using h)
theorem jA{X:Cx}{pins:List (Addr×Obj)}{σ:St}{s:Shared}{H:Hp}{M:MH}{Q:VK3}{x:D}{v:V}(I:Inv X pins σ H s)(rm:RelM X.K M H)(dx:Den X.K H x v)(h:aW Q x M) :
  ∃H' M' d,Inv X pins σ H' s/\TM X.K H H'/\RelM X.K M' H'/\Den X.K H' d v/\Q d M':=by
 unfold aW at h
 split at h
 ·rename_i a
  cases (show v=.ref a from dx)
  split at h
  ·rename_i es q
   obtain⟨H1,I1,t1,rm1,d1⟩:=db (o:=.lst es) I rm q ⟨(fun _ _ z=>nomatch z),(fun _ z=>nomatch z)⟩
   exact⟨H1,_,_,I1,t1,rm1,d1,h⟩
  ·rename_i ks es q
   obtain⟨H1,I1,t1,rm1,d1⟩:=db (o:=.dk ks es) I rm q ⟨(fun _ _ z=>nomatch z),(fun _ z=>nomatch z)⟩
   exact⟨H1,_,_,I1,t1,rm1,d1,h⟩
  ·rename_i ks es q
   obtain⟨H1,I1,t1,rm1,d1⟩:=db (o:=.dt ks es) I rm q ⟨(fun _ _ z=>nomatch z),(fun _ z=>nomatch z)⟩
   exact⟨H1,_,_,I1,t1,rm1,d1,h⟩
  ·rename_i i C ns es q
   obtain⟨H1,I1,t1,rm1,d1⟩:=db (o:=.ins i C ns es) I rm q ⟨(fun _ _ z=>nomatch z),(fun _ z=>nomatch z)⟩
   obtain⟨a',vs,ob,dx',e',he,hl,dl⟩:=d1
   cases e'
   obtain⟨H2,M2,r,I2,t2,rm2,dl2,q2⟩:=eg I1 rm1 dl h
   refine⟨H2,M2,.obj i C ns r,I2,t1.trans t2,rm2,?_,q2⟩
   exact⟨a,vs,ob,dx',rfl,t2.g _ _ _ he,hl,dl2⟩
  ·exact h.elim
 ·exact h.elim
end L2
namespace L2
open PySem PySem.Spec PyProof.Rows
section
variable {X:Cx}{pins:List (Addr×Obj)}{σ:St}{H:Hp}{s:Shared}
theorem g4:∀{xs ys:List D},cb xs ys=true->xs.length=ys.length
 |[],[],_=>rfl
 |[],_::_,h=>by simp[cb]at h
 |_::_,[],h=>by simp[cb]at h
 |x::xs,y::ys,h=>by
  simp only[cb,Bool.and_eq_true]at h
  rw[List.length_cons,List.length_cons,g4 h.2]
theorem dS:∀{xs ys:List D},xs.length=ys.length->cb xs ys=(List.range xs.length).all fun j=>eqD (xs.getD j .non) (ys.getD j .non)
 |[],[],_=>by simp[cb]
 |[],_::_,h=>by simp at h
 |_::_,[],h=>by simp at h
 |x::xs,y::ys,h=>by
  have ih:=dS (xs:=xs) (ys:=ys) (by simpa using h)
  simp only[cb,List.length_cons,List.range_succ_eq_map,List.all_cons,List.all_map,ih]
  rfl
theorem nV{xs ys:List D}:cb xs ys=((List.range (min xs.length ys.length)).all (fun j=>eqD (xs.getD j .non) (ys.getD j .non))&&(xs.length == ys.length)):=by
 by_cases h:xs.length=ys.length
 ·rw[dS h,h,Nat.min_self,beq_self_eq_true,Bool.and_true]
 ·have e1:(xs.length == ys.length)=false:=beq_eq_false_iff_ne.mpr h
  rw[e1,Bool.and_false]
  cases q:cb xs ys with
  |false=>rfl
  |true=>exact absurd (g4 q) h
theorem mf{K:PySem.W.Frag}(I:Inv X pins σ H s)(hK:K=X.K):∀(n:Nat) {x y:D}{v:V},plN n x=true->plN n y=true->Den K H x v->Den K H y v->x=y:=by
 subst hK
 have lists:∀(n:Nat),(∀{x y:D}{v:V},plN n x=true->plN n y=true->Den X.K H x v->Den X.K H y v->x=y)->∀{xs ys:List D}{vs:List V},xs.all (plN n)=true->ys.all (plN n)=true->DenL X.K H xs vs->DenL X.K H ys vs->xs=ys:=by
  intro n ih xs
  induction xs with
  |nil=>
   intro ys vs _ _ h1 h2
   cases (show vs=[] from h1)
   cases ys with
   |nil=>rfl
   |cons y ys=>obtain⟨_,_,e,_⟩:=h2;cases e
  |cons x xs iht=>
   intro ys vs p1 p2 h1 h2
   obtain⟨v,r,rfl,d1,l1⟩:=h1
   cases ys with
   |nil=>cases (show v::r=[] from h2)
   |cons y ys=>
    obtain⟨v',r',e,d2,l2⟩:=h2
    cases e
    simp only[List.all_cons,Bool.and_eq_true]at p1 p2
    rw[ih p1.1 p2.1 d1 d2,iht p1.2 p2.2 l1 l2]
 have clash:∀{p:Addr}{vs ws:List V},SqT X.K H p vs->SqF X.K H p ws->False:=fun {p vs ws} h1 h2=>by
  obtain⟨its,_,t1,_⟩:=I.tuple h1
  obtain⟨z,its2,n2,_,_,e2⟩:=I.rdL h2.rd
  obtain⟨o,e1,c1,_⟩:=(show s.heap.IsTuple p its.toArray from t1)
  rw[e2]at e1;cases e1
  injection c1 with z;exact absurd z (by decide)
 intro n
 induction n with
 |zero=>
  intro x y v p1 p2 d1 d2
  cases x with
  |non=>
   cases (show v=.non from d1)
   cases y with
   |non=>rfl
   |bl b=>cases (show V.non=.bl b from d2)
   |int b=>cases (show V.non=.int b from d2)
   |str b=>cases (show V.non=.str b from d2)
   |tup es=>cases p2
   |rol es=>cases p2
   |ref a=>cases p2
   |obj _ _ _ _=>cases p2
   |dik _ _=>cases p2
   |dit _ _=>cases p2
  |bl a=>
   cases (show v=.bl a from d1)
   cases y with
   |non=>cases (show V.bl a=.non from d2)
   |bl b=>cases (show V.bl a=.bl b from d2);rfl
   |int b=>cases (show V.bl a=.int b from d2)
   |str b=>cases (show V.bl a=.str b from d2)
   |tup es=>cases p2
   |rol es=>cases p2
   |ref a=>cases p2
   |obj _ _ _ _=>cases p2
   |dik _ _=>cases p2
   |dit _ _=>cases p2
  |int a=>
   cases (show v=.int a from d1)
   cases y with
   |non=>cases (show V.int a=.non from d2)
   |bl b=>cases (show V.int a=.bl b from d2)
   |int b=>cases (show V.int a=.int b from d2);rfl
   |str b=>cases (show V.int a=.str b from d2)
   |tup es=>cases p2
   |rol es=>cases p2
   |ref a=>cases p2
   |obj _ _ _ _=>cases p2
   |dik _ _=>cases p2
   |dit _ _=>cases p2
  |str a=>
   cases (show v=.str a from d1)
   cases y with
   |non=>cases (show V.str a=.non from d2)
   |bl b=>cases (show V.str a=.bl b from d2)
   |int b=>cases (show V.str a=.int b from d2)
   |str b=>cases (show V.str a=.str b from d2);rfl
   |tup es=>cases p2
   |rol es=>cases p2
   |ref a=>cases p2
   |obj _ _ _ _=>cases p2
   |dik _ _=>cases p2
   |dit _ _=>cases p2
  |tup es=>cases p1
  |rol es=>cases p1
  |ref a=>cases p1
  |obj _ _ _ _=>cases p1
  |dik _ _=>cases p1
  |dit _ _=>cases p1
 |succ n ih=>
  intro x y v p1 p2 d1 d2
  cases x with
  |non=>
   cases (show v=.non from d1)
   cases y with
   |non=>rfl
   |bl b=>cases (show V.non=.bl b from d2)
   |int b=>cases (show V.non=.int b from d2)
   |str b=>cases (show V.non=.str b from d2)
   |tup es=>obtain⟨p,vs,e,_⟩:=d2;cases e
   |rol es=>obtain⟨p,vs,e,_⟩:=d2;cases e
   |ref a=>cases p2
   |obj _ _ _ _=>cases p2
   |dik _ _=>cases p2
   |dit _ _=>cases p2
  |bl a=>
   cases (show v=.bl a from d1)
   cases y with
   |non=>cases (show V.bl a=.non from d2)
   |bl b=>cases (show V.bl a=.bl b from d2);rfl
   |int b=>cases (show V.bl a=.int b from d2)
   |str b=>cases (show V.bl a=.str b from d2)
   |tup es=>obtain⟨p,vs,e,_⟩:=d2;cases e
   |rol es=>obtain⟨p,vs,e,_⟩:=d2;cases e
   |ref a=>cases p2
   |obj _ _ _ _=>cases p2
   |dik _ _=>cases p2
   |dit _ _=>cases p2
  |int a=>
   cases (show v=.int a from d1)
   cases y with
   |non=>cases (show V.int a=.non from d2)
   |bl b=>cases (show V.int a=.bl b from d2)
   |int b=>cases (show V.int a=.int b from d2);rfl
   |str b=>cases (show V.int a=.str b from d2)
   |tup es=>obtain⟨p,vs,e,_⟩:=d2;cases e
   |rol es=>obtain⟨p,vs,e,_⟩:=d2;cases e
   |ref a=>cases p2
   |obj _ _ _ _=>cases p2
   |dik _ _=>cases p2
   |dit _ _=>cases p2
  |str a=>
   cases (show v=.str a from d1)
   cases y with
   |non=>cases (show V.str a=.non from d2)
   |bl b=>cases (show V.str a=.bl b from d2)
   |int b=>cases (show V.str a=.int b from d2)
   |str b=>cases (show V.str a=.str b from d2);rfl
   |tup es=>obtain⟨p,vs,e,_⟩:=d2;cases e
   |rol es=>obtain⟨p,vs,e,_⟩:=d2;cases e
   |ref a=>cases p2
   |obj _ _ _ _=>cases p2
   |dik _ _=>cases p2
   |dit _ _=>cases p2
  |tup ds=>
   obtain⟨p,vs,rfl,q1,l1⟩:=d1
   cases y with
   |tup es=>
    obtain⟨p',vs',e,q2,l2⟩:=d2
    cases e
    have e:vs=vs':=by
     obtain⟨its,r1,t1,_⟩:=I.tuple q1
     obtain⟨its2,r2,t2,_⟩:=I.tuple q2
     obtain⟨o1,e1,c1,n1,f1⟩:=(show s.heap.IsTuple p its.toArray from t1)
     obtain⟨o2,e2,c2,n2,f2⟩:=(show s.heap.IsTuple p its2.toArray from t2)
     rw[e1]at e2;cases e2
     rw[f1]at f2
     have:its=its2:=by injection f2 with z;simpa using z
     subst this
     exact r1.inj r2
    subst e
    rw[lists n ih (by simpa [plN] using p1) (by simpa [plN] using p2) l1 l2]
   |rol es=>obtain⟨p',vs',e,q2,l2⟩:=d2;cases e;exact (clash q1 q2).elim
   |non=>cases (show V.ref p=.non from d2)
   |bl b=>cases (show V.ref p=.bl b from d2)
   |int b=>cases (show V.ref p=.int b from d2)
   |str b=>cases (show V.ref p=.str b from d2)
   |ref a=>cases p2
   |obj _ _ _ _=>cases p2
   |dik _ _=>cases p2
   |dit _ _=>cases p2
  |rol ds=>
   obtain⟨p,vs,rfl,q1,l1⟩:=d1
   cases y with
   |rol es=>
    obtain⟨p',vs',e,q2,l2⟩:=d2
    cases e
    have e:vs=vs':=by
     obtain⟨_,its,n1,r1,_,e1⟩:=I.rdL q1.rd
     obtain⟨_,its2,n2,r2,_,e2⟩:=I.rdL q2.rd
     rw[e1]at e2
     have:its=its2:=by
      have z:=Option.some.inj e2
      injection z with z1 z2 z3 z4
      injection z3 with z5 z6
      simpa using z5
     subst this
     exact r1.inj r2
    subst e
    rw[lists n ih (by simpa [plN] using p1) (by simpa [plN] using p2) l1 l2]
   |tup es=>obtain⟨p',vs',e,q2,l2⟩:=d2;cases e;exact (clash q2 q1).elim
   |non=>cases (show V.ref p=.non from d2)
   |bl b=>cases (show V.ref p=.bl b from d2)
   |int b=>cases (show V.ref p=.int b from d2)
   |str b=>cases (show V.ref p=.str b from d2)
   |ref a=>cases p2
   |obj _ _ _ _=>cases p2
   |dik _ _=>cases p2
   |dit _ _=>cases p2
  |ref a=>cases p1
  |obj _ _ _ _=>cases p1
  |dik _ _=>cases p1
  |dit _ _=>cases p1
theorem kf:∀(n:Nat) {x:D},plN n x=true->eqD x x=true:=by
 have lists:∀(n:Nat),(∀{x:D},plN n x=true->eqD x x=true)->∀{xs:List D},xs.all (plN n)=true->cb xs xs=true:=by
  intro n ih xs
  induction xs with
  |nil=>intro _;rfl
  |cons x xs iht=>
   intro h
   simp only[List.all_cons,Bool.and_eq_true]at h
   simp only[cb,Bool.and_eq_true]
   exact⟨ih h.1,iht h.2⟩
 intro n
 induction n with
 |zero=>
  intro x h
  cases x with
  |tup es=>cases h
  |rol es=>cases h
  |ref a=>cases h
  |obj _ _ _ _=>cases h
  |dik _ _=>cases h
  |dit _ _=>cases h
  |_=>simp[eqD]
 |succ n ih=>
  intro x h
  cases x with
  |tup es=>simp only[eqD];exact lists n ih (by simpa [plN] using h)
  |rol es=>simp only[eqD];exact lists n ih (by simpa [plN] using h)
  |ref a=>cases h
  |obj _ _ _ _=>cases h
  |dik _ _=>cases h
  |dit _ _=>cases h
  |_=>simp[eqD]
theorem kA{K:PySem.W.Frag}(I:Inv X pins σ H s)(hK:K=X.K)(n:Nat){x y:D}{v:V}(p1:plN n x=true)(p2:plN n y=true)(d1:Den K H x v)(d2:Den K H y v):eqD x y=true:=by
 rw[mf I hK n p1 p2 d1 d2];exact kf n p2
theorem vI(a b:Bool):eqD (.bl a) (.bl b)=(a == b):=by simp[eqD]
theorem yf(a:Bool)(b:Int):eqD (.bl a) (.int b)=((if a then 1 else 0) == b):=by simp[eqD];rfl
theorem xX(a:Int)(b:Bool):eqD (.int a) (.bl b)=(a == (if b then 1 else 0)):=by simp[eqD];rfl
theorem wa(a b:Int):eqD (.int a) (.int b)=(a == b):=by simp[eqD];rfl
theorem uW(a b:Str):eqD (.str a) (.str b)=(a == b):=by simp[eqD];rfl
noncomputable abbrev Eq3(A:Around)(s:Shared)(v u:Value)(k:Bool):Prop:=SeqAt.RcAt A s v u k/\SeqAt.RcNeAt A s v u (!k)/\SeqAt.EqAt A s v u k
inductive Seen (s:Shared):D->Value->Prop where
 |non:Seen s .non .none
 |bl (b:Bool):Seen s (.bl b) (.bool b)
 |int (i:Int) (t:Tok):Seen s (.int i) (.int i t)
 |str (x:Str) (t:Tok):Seen s (.str x) (.str x t)
 |tup {ds:List D}{p:Addr}{its:List Value} (h:s.heap.IsTuple p its.toArray):Seen s (.tup ds) (.ref p)
 |rol {ds:List D}{p:Addr}{its:List Value} (h:s.heap.IsList p its.toArray):Seen s (.rol ds) (.ref p)
theorem fX{X:Cx}{pins:List (Addr×Obj)}{σ:St}{H:Hp}{s:Shared}(I:Inv X pins σ H s){n:Nat}{x:D}{v:V}{v2:Value}(p:plN n x=true)(d:Den X.K H x v)(r:RelV v v2):Seen s x v2:=by
 cases x with
 |non=>cases (show v=.non from d);cases r;exact .non
 |bl b=>cases (show v=.bl b from d);cases r;exact .bl b
 |int i=>cases (show v=.int i from d);obtain⟨t,rfl⟩:=r;exact .int i t
 |str i=>cases (show v=.str i from d);obtain⟨t,rfl⟩:=r;exact .str i t
 |tup ds=>
  obtain⟨q,vs,rfl,sq,_⟩:=d
  cases r
  obtain⟨its,_,t,_⟩:=I.tuple sq
  exact .tup (its:=its) t
 |rol ds=>
  obtain⟨q,vs,rfl,sq,_⟩:=d
  cases r
  obtain⟨its,_,t,_⟩:=I.list sq.sq
  exact .rol (its:=its) t.isList
 |ref a=>simp[plN]at p
 |obj _ _ _ _=>simp[plN]at p
 |dik _ _=>simp[plN]at p
 |dit _ _=>simp[plN]at p
theorem oo{A:Around}{s:Shared}{x y:D}{v u:Value}(hx:Seen s x v)(hy:Seen s y u)(hu:A.units < cLine)(seq:∀ds es,(x=.tup ds/\y=.tup es)\/(x=.rol ds/\y=.rol es)->Eq3 A s v u (eqD x y)):Eq3 A s v u (eqD x y):=by
 cases hx with
 |non=>
  cases hy with
  |non=>exact⟨.none_none,.none_none,.same _⟩
  |bl b=>rw[show eqD (.non) (.bl b)=false by simp[eqD]];exact⟨.none_bool b,.none_bool b,.none_bool b⟩
  |int b tb=>rw[show eqD (.non) (.int b)=false by simp[eqD]];exact⟨.none_int b tb,.none_int b tb,.none_int b tb⟩
  |str b tb=>rw[show eqD (.non) (.str b)=false by simp[eqD]];exact⟨.none_str b tb,.none_str b tb,.none_str b tb⟩
  |@tup es p2 its2 h2=>rw[show eqD (.non) (.tup es)=false by simp[eqD]];exact⟨.none_tuple h2 hu,.none_tuple h2 hu,.none_tuple h2 hu⟩
  |@rol es p2 its2 h2=>rw[show eqD (.non) (.rol es)=false by simp[eqD]];exact⟨.none_list h2 hu,.none_list h2 hu,.none_list h2 hu⟩
 |bl a=>
  cases hy with
  |non=>rw[show eqD (.bl a) (.non)=false by simp[eqD]];exact⟨.bool_none a,.bool_none a,.bool_none a⟩
  |bl b=>rw[vI];exact⟨.bool_bool a b,.bool_bool a b,.bool_bool a b⟩
  |int b tb=>rw[yf];exact⟨.bool_int a b tb,.bool_int a b tb,.bool_int a b tb⟩
  |str b tb=>rw[show eqD (.bl a) (.str b)=false by simp[eqD]];exact⟨.bool_str a b tb,.bool_str a b tb,.bool_str a b tb⟩
  |@tup es p2 its2 h2=>rw[show eqD (.bl a) (.tup es)=false by simp[eqD]];exact⟨.bool_tuple a h2 hu,.bool_tuple a h2 hu,.bool_tuple a h2 hu⟩
  |@rol es p2 its2 h2=>rw[show eqD (.bl a) (.rol es)=false by simp[eqD]];exact⟨.bool_list a h2 hu,.bool_list a h2 hu,.bool_list a h2 hu⟩
 |int a ta=>
  cases hy with
  |non=>rw[show eqD (.int a) (.non)=false by simp[eqD]];exact⟨.int_none a ta,.int_none a ta,.int_none a ta⟩
  |bl b=>rw[xX];exact⟨.int_bool a ta b,.int_bool a ta b,.int_bool a ta b⟩
  |int b tb=>rw[wa];exact⟨.int_int a ta b tb,.int_int a ta b tb,.int_int a ta b tb⟩
  |str b tb=>rw[show eqD (.int a) (.str b)=false by simp[eqD]];exact⟨.int_str a ta b tb,.int_str a ta b tb,.int_str a ta b tb⟩
  |@tup es p2 its2 h2=>rw[show eqD (.int a) (.tup es)=false by simp[eqD]];exact⟨.int_tuple a ta h2 hu,.int_tuple a ta h2 hu,.int_tuple a ta h2 hu⟩
  |@rol es p2 its2 h2=>rw[show eqD (.int a) (.rol es)=false by simp[eqD]];exact⟨.int_list a ta h2 hu,.int_list a ta h2 hu,.int_list a ta h2 hu⟩
 |str a ta=>
  cases hy with
  |non=>rw[show eqD (.str a) (.non)=false by simp[eqD]];exact⟨.str_none a ta,.str_none a ta,.str_none a ta⟩
  |bl b=>rw[show eqD (.str a) (.bl b)=false by simp[eqD]];exact⟨.str_bool a ta b,.str_bool a ta b,.str_bool a ta b⟩
  |int b tb=>rw[show eqD (.str a) (.int b)=false by simp[eqD]];exact⟨.str_int a ta b tb,.str_int a ta b tb,.str_int a ta b tb⟩
  |str b tb=>rw[uW];exact⟨.str_str a ta b tb,.str_str a ta b tb,.str_str a ta b tb⟩
  |@tup es p2 its2 h2=>rw[show eqD (.str a) (.tup es)=false by simp[eqD]];exact⟨.str_tuple a ta h2 hu,.str_tuple a ta h2 hu,.str_tuple a ta h2 hu⟩
  |@rol es p2 its2 h2=>rw[show eqD (.str a) (.rol es)=false by simp[eqD]];exact⟨.str_list a ta h2 hu,.str_list a ta h2 hu,.str_list a ta h2 hu⟩
 |@tup ds p its h=>
  cases hy with
  |non=>rw[show eqD (.tup ds) (.non)=false by simp[eqD]];exact⟨.tuple_none h hu,.tuple_none h hu,.tuple_none h hu⟩
  |bl b=>rw[show eqD (.tup ds) (.bl b)=false by simp[eqD]];exact⟨.tuple_bool b h hu,.tuple_bool b h hu,.tuple_bool b h hu⟩
  |int b tb=>rw[show eqD (.tup ds) (.int b)=false by simp[eqD]];exact⟨.tuple_int b tb h hu,.tuple_int b tb h hu,.tuple_int b tb h hu⟩
  |str b tb=>rw[show eqD (.tup ds) (.str b)=false by simp[eqD]];exact⟨.tuple_str b tb h hu,.tuple_str b tb h hu,.tuple_str b tb h hu⟩
  |@tup es p2 its2 h2=>exact seq ds es (.inl ⟨rfl,rfl⟩)
  |@rol es p2 its2 h2=>rw[show eqD (.tup ds) (.rol es)=false by simp[eqD]];exact⟨.tuple_list h h2 hu,.tuple_list h h2 hu,.tuple_list h h2 hu⟩
 |@rol ds p its h=>
  cases hy with
  |non=>rw[show eqD (.rol ds) (.non)=false by simp[eqD]];exact⟨.list_none h hu,.list_none h hu,.list_none h hu⟩
  |bl b=>rw[show eqD (.rol ds) (.bl b)=false by simp[eqD]];exact⟨.list_bool b h hu,.list_bool b h hu,.list_bool b h hu⟩
  |int b tb=>rw[show eqD (.rol ds) (.int b)=false by simp[eqD]];exact⟨.list_int b tb h hu,.list_int b tb h hu,.list_int b tb h hu⟩
  |str b tb=>rw[show eqD (.rol ds) (.str b)=false by simp[eqD]];exact⟨.list_str b tb h hu,.list_str b tb h hu,.list_str b tb h hu⟩
  |@tup es p2 its2 h2=>rw[show eqD (.rol ds) (.tup es)=false by simp[eqD]];exact⟨.list_tuple h h2 hu,.list_tuple h h2 hu,.list_tuple h h2 hu⟩
  |@rol es p2 its2 h2=>exact seq ds es (.inr ⟨rfl,rfl⟩)
theorem Bi{K:PySem.W.Frag}(I:Inv X pins σ H s)(hK:K=X.K):∀(n:Nat) {A:Around}{x y:D}{v u:V}{v2 u2:Value},plN n x=true->plN n y=true->Den K H x v->Den K H y u->RelV v v2->RelV u u2->A.units+n < cLine->
  SeqAt.RcAt A s v2 u2 (eqD x y)/\SeqAt.RcNeAt A s v2 u2 (!eqD x y)/\SeqAt.EqAt A s v2 u2 (eqD x y):=by
 subst hK
 have items:∀(n:Nat),(∀{A:Around}{x y:D}{v u:V}{v2 u2:Value},plN n x=true->plN n y=true->Den X.K H x v->Den X.K H y u->RelV v v2->RelV u u2->A.units+n < cLine->
   SeqAt.RcAt A s v2 u2 (eqD x y)/\SeqAt.RcNeAt A s v2 u2 (!eqD x y)/\SeqAt.EqAt A s v2 u2 (eqD x y))->∀{A:Around}{xs ys:List D}{vs us:List V}{its its2:List Value},xs.all (plN n)=true->ys.all (plN n)=true->DenL X.K H xs vs->DenL X.K H ys us->Vals vs its->Vals us its2->A.units+(n+1) < cLine->
   ∀j (h1:j < its.toArray.size) (h2:j < its2.toArray.size),SeqAt.EqAt A.in1 s its.toArray[j] its2.toArray[j] (eqD (xs.getD j .non) (ys.getD j .non)):=by
  intro n ih A xs ys vs us its its2 p1 p2 l1 l2 r1 r2 hu j h1 h2
  have h1:j < its.length:=by simpa using h1
  have h2:j < its2.length:=by simpa using h2
  have hx:j < xs.length:=by rw[l1.length,r1.length];exact h1
  have hy:j < ys.length:=by rw[l2.length,r2.length];exact h2
  obtain⟨v,e1,d1⟩:=l1.get (i:=j) (d:=xs[j]) (by simp[hx])
  obtain⟨u,e2,d2⟩:=l2.get (i:=j) (d:=ys[j]) (by simp[hy])
  obtain⟨v2,e3,rv⟩:=r1.get e1
  obtain⟨u2,e4,ru⟩:=r2.get e2
  have f1:its.toArray[j]=v2:=by
   have:=e3
   rw[List.getElem?_eq_getElem h1]at this
   simpa using this
  have f2:its2.toArray[j]=u2:=by
   have:=e4
   rw[List.getElem?_eq_getElem h2]at this
   simpa using this
  rw[f1,f2]
  have g1:xs.getD j .non=xs[j]:=by simp[List.getD,hx]
  have g2:ys.getD j .non=ys[j]:=by simp[List.getD,hy]
  rw[g1,g2]
  exact (ih (List.all_eq_true.mp p1 _ (List.getElem_mem hx)) (List.all_eq_true.mp p2 _ (List.getElem_mem hy)) d1 d2 rv ru (by show A.units+1+n < cLine;omega)).2.2
 intro n
 induction n with
 |zero=>
  intro A x y v u v2 u2 p1 p2 d1 d2 r1 r2 hu
  refine oo (fX I p1 d1 r1) (fX I p2 d2 r2) (by omega) fun ds es z=>?_
  rcases z with ⟨rfl,rfl⟩|⟨rfl,rfl⟩<;>cases p1
 |succ n ih=>
  intro A x y v u v2 u2 p1 p2 d1 d2 r1 r2 hu
  refine oo (fX I p1 d1 r1) (fX I p2 d2 r2) (by omega) fun ds es z=>?_
  rcases z with ⟨rfl,rfl⟩|⟨rfl,rfl⟩
  ·obtain⟨p,vs,rfl,q1,l1⟩:=id d1
   obtain⟨p',us,rfl,q2,l2⟩:=id d2
   cases r1;cases r2
   obtain⟨its,v1,t1,_⟩:=I.tuple q1
   obtain⟨its2,v2,t2,_⟩:=I.tuple q2
   have he:=items n ih (A:=A) (by simpa [plN] using p1) (by simpa [plN] using p2) l1 l2 v1 v2 hu
   have ee:eqD (.tup ds) (.tup es)=((List.range (min its.toArray.size its2.toArray.size)).all (fun j=>eqD (ds.getD j .non) (es.getD j .non))&&its.toArray.size == its2.toArray.size):=by
    simp only[eqD]
    rw[nV,l1.length,v1.length,l2.length,v2.length]
    rfl
   have rc:=SeqAt.RcAt.tuples (A:=A) t1 t2 (by omega) he
   rw[<-ee]at rc
   have rn:=SeqAt.RcNeAt.tuples (A:=A) t1 t2 (by omega) he
   rw[<-ee]at rn
   refine⟨rc,rn,?_⟩
   by_cases hp:p=p'
   ·subst hp
    rw[kA I rfl (n+1) p1 p2 d1 d2]
    exact .same _
   ·exact .of_refs hp rc
  ·obtain⟨p,vs,rfl,q1,l1⟩:=id d1
   obtain⟨p',us,rfl,q2,l2⟩:=id d2
   cases r1;cases r2
   obtain⟨its,v1,t1,_⟩:=I.list q1.sq
   obtain⟨its2,v2,t2,_⟩:=I.list q2.sq
   have he:=items n ih (A:=A) (by simpa [plN] using p1) (by simpa [plN] using p2) l1 l2 v1 v2 hu
   have rcn:SeqAt.RcAt A s (.ref p) (.ref p') (eqD (.rol ds) (.rol es))/\SeqAt.RcNeAt A s (.ref p) (.ref p') (!eqD (.rol ds) (.rol es)):=by
    by_cases hl:its.toArray.size=its2.toArray.size
    ·have ee:eqD (.rol ds) (.rol es)=(List.range its.toArray.size).all fun j=>eqD (ds.getD j .non) (es.getD j .non):=by
      have e1:ds.length=es.length:=by rw[l1.length,v1.length,l2.length,v2.length];simpa using hl
      simp only[eqD]
      rw[dS e1,l1.length,v1.length]
      rfl
     rw[ee]
     exact⟨.lists t1.isList t2.isList hl (by omega) he,.lists t1.isList t2.isList hl (by omega) he⟩
    ·have ee:eqD (.rol ds) (.rol es)=false:=by
      simp only[eqD]
      cases q:cb ds es with
      |false=>rfl
      |true=>
       have:=g4 q
       rw[l1.length,v1.length,l2.length,v2.length]at this
       exact absurd (by simpa using this) hl
     rw[ee]
     exact⟨.lists_lengths t1.isList t2.isList (by simpa using hl) (by omega),.lists_lengths t1.isList t2.isList (by simpa using hl) (by omega)⟩
   refine⟨rcn.1,rcn.2,?_⟩
   by_cases hp:p=p'
   ·subst hp
    rw[kA I rfl (n+1) p1 p2 d1 d2]
    exact .same _
   ·exact .of_refs hp rcn.1
end
end L2
namespace L2
open PySem PySem.Spec PyProof.Rows
noncomputable def VO(X:Cx)(f:Value->Value->Sem Value)(r:D->D->MH->VK3->Prop):Prop:=
 ∀(pins:List (Addr×Obj)) (s:Shared) (σ:St) (H:Hp) (x y:D) (v u:V) (v2 u2:Value) (M:MH) (Q:VK3) (Q2:VK),Inv X pins σ H s->RelV v v2->RelV u u2->Den X.K H x v->Den X.K H y u->RelM X.K M H->r x y M Q->Back X.K H Q Q2->
  wpAny (model X.prog X.w) X.A (f v2 u2) (EP X pins σ Q2) X.xe s
noncomputable def VU(X:Cx)(f:Value->Sem Value)(r:D->MH->VK3->Prop):Prop:=
 ∀(pins:List (Addr×Obj)) (s:Shared) (σ:St) (H:Hp) (x:D) (v:V) (v2:Value) (M:MH) (Q:VK3) (Q2:VK),Inv X pins σ H s->RelV v v2->Den X.K H x v->RelM X.K M H->r x M Q->Back X.K H Q Q2->
  wpAny (model X.prog X.w) X.A (f v2) (EP X pins σ Q2) X.xe s
noncomputable def VC(X:Cx)(f:Value)(r:List D->MH->VK3->Prop):Prop:=
 ∀(pins:List (Addr×Obj)) (s:Shared) (σ:St) (H:Hp) (xs:List D) (vs:List V) (us:List Value) (M:MH) (Q:VK3) (Q2:VK),Inv X pins σ H s->Vals vs us->DenL X.K H xs vs->RelM X.K M H->r xs M Q->Back X.K H Q Q2->
  wpAny (model X.prog X.w) X.A (call f us) (EP X pins σ Q2) X.xe s
section
variable {X:Cx}
theorem VO.of3{f:Value->Value->Sem Value}{r:D->D->MH->VK3->Prop}(h:Op3 X f r):VO X f r:=by
 obtain⟨r2,h2,hl⟩:=h
 exact fun pins s σ H x y v u v2 u2 M Q Q2 I rv ru dx dy rm q back=>h2 pins s σ H v u v2 u2 Q2 I rv ru (hl H x y v u M Q Q2 dx dy rm q back)
theorem VU.of3{f:Value->Sem Value}{r:D->MH->VK3->Prop}(h:Un3 X f r):VU X f r:=by
 obtain⟨r2,h2,hl⟩:=h
 exact fun pins s σ H x v v2 M Q Q2 I rv dx rm q back=>h2 pins s σ H v v2 Q2 I rv (hl H x v M Q Q2 dx rm q back)
theorem VC.of3{f:Value}{r:List D->MH->VK3->Prop}(h:pN X f r):VC X f r:=by
 obtain⟨r2,h2,hl⟩:=h
 exact fun pins s σ H xs vs us M Q Q2 I rv dx rm q back=>h2 pins s σ H vs us Q2 I rv (hl H xs vs M Q Q2 dx rm q back)
theorem VO.imp{f:Value->Value->Sem Value}{r r':D->D->MH->VK3->Prop}(h:VO X f r)(g:∀x y M Q,r' x y M Q->r x y M Q):VO X f r':=
 fun pins s σ H x y v u v2 u2 M Q Q2 I rv ru dx dy rm q back=>h pins s σ H x y v u v2 u2 M Q Q2 I rv ru dx dy rm (g x y M Q q) back
theorem VU.imp{f:Value->Sem Value}{r r':D->MH->VK3->Prop}(h:VU X f r)(g:∀x M Q,r' x M Q->r x M Q):VU X f r':=
 fun pins s σ H x v v2 M Q Q2 I rv dx rm q back=>h pins s σ H x v v2 M Q Q2 I rv dx rm (g x M Q q) back
theorem VC.imp{f:Value}{r r':List D->MH->VK3->Prop}(h:VC X f r)(g:∀x M Q,r' x M Q->r x M Q):VC X f r':=
 fun pins s σ H x v v2 M Q Q2 I rv dx rm q back=>h pins s σ H x v v2 M Q Q2 I rv dx rm (g x M Q q) back
theorem fg{g:Int->Int->D}{x y:D}{M:MH}{Q:VK3}(h:rI2 g x y M Q):jG g x y M Q:=by
 unfold rI2 at h
 split at h
 ·exact⟨_,_,rfl,rfl,h⟩
 ·exact h.elim
theorem jN{C:Int->Int->Prop}{g:Int->Int->D}{x y:D}{M:MH}{Q:VK3}(h:rII C g x y M Q):rI3 C g x y M Q:=by
 unfold rII at h
 split at h
 ·exact⟨_,_,rfl,rfl,h⟩
 ·exact h.elim
theorem ma{pins:List (Addr×Obj)}{s:Shared}{σ:St}{H:Hp}{a b:List D}{v u:V}{v2 u2:Value}{M:MH}{Q:VK3}{Q2:VK}(I:Inv X pins σ H s)(rv:RelV v v2)(ru:RelV u u2)(dx:Den X.K H (.tup a) v)(dy:Den X.K H (.tup b) u)(rm:RelM X.K M H)
  (q:(a.isEmpty=false/\a.length+b.length<=sizeLine)/\Q (.tup (a++b)) M) (back:Back X.K H Q Q2):wpAny (model X.prog X.w) X.A (binaryOp .Add v2 u2) (EP X pins σ Q2) X.xe s:=by
 obtain⟨p1,vs,rfl,sq1,dl1⟩:=dx
 obtain⟨p2,us,rfl,sq2,dl2⟩:=dy
 obtain⟨⟨h1,h2⟩,q⟩:=q
 refine rJ pins s σ H _ _ v2 u2 Q2 I rv ru ⟨p1,p2,vs,us,rfl,rfl,sq1,sq2,fun z=>?_,by rw[<-dl1.length,<-dl2.length];exact h2,fun z=>?_,fun _ p hp=>?_⟩
 ·have:=dl1.length
  rw[z]at this
  cases a with
  |nil=>cases h1
  |cons _ _=>cases this
 ·have hb:b=[]:=List.length_eq_zero_iff.mp (by rw[dl2.length,z];rfl)
  subst hb
  rw[List.append_nil]at q
  exact back _ _ (.tup a) _ ⟨p1,vs,rfl,sq1,dl1⟩ rm (.refl _) q
 ·exact back _ _ (.tup (a++b)) _ ⟨p,_,rfl,.of ai,(dl1.append dl2).mono (.new hp)⟩ (rm.grow hp) (.new hp) q
theorem jX{α:Type}(a:Array α):∀(k:Nat) (b:Array α),((List.replicate k a).foldl (·++·) b).size=b.size+k * a.size
 |0,b=>by simp
 |k+1,b=>by
  rw[List.replicate_succ,List.foldl_cons,jX a k,Array.size_append,Nat.succ_mul]
  omega
theorem pK{prog:Program}{w:World}{A:Around}{E:Value->Shared->Prop}{s:Shared}{z:Str}{n:Int}{t u:Tok}{Q:Value->Shared->Prop}(n0:0<=n)(n1:n<=100000)(hz:z.length<=10)
  (h:∀t' tk,Q (.str (gW z n) t') {s with toks:=tk}):wpAny (model prog w) A (binaryOp .Mult (.str z t) (.int n u)) Q E s:=by
 have e1:decide (n < -(2 ^ 63:Int))=false:=decide_eq_false (by omega)
 have e2:decide (n>=2 ^ 63)=false:=decide_eq_false (by omega)
 refine PySem.P.mul_str (by rw[e1,e2];rfl) (fun h1 h2=>?_) (fun h1 h2=>?_) ?_
 ·have:(2 ^ 63 - 1) / n>=10:=by
   rw[ge_iff_le,Int.le_ediv_iff_mul_le (by omega)]
   omega
  omega
 ·have hl:z.length * n.toNat<=10 * 100000:=Nat.mul_le_mul hz (by omega)
  unfold Builtin.Str.tooLong
  exact decide_eq_false (by rw[sizeLine_eq];omega)
 ·unfold gW at h
  split
  ·rename_i hn
   rw[if_pos hn]at h
   exact⟨by decide,h _ _⟩
  ·rename_i hn
   rw[if_neg hn]at h
   split
   ·rename_i hb
    rw[if_pos hb]at h
    exact h _ _
   ·rename_i hb
    rw[if_neg hb]at h
    refine⟨?_,h _ _⟩
    show ((List.replicate n.toNat z.cps).foldl (·++·) #[]).size<=sizeLine
    rw[jX]
    have hl:n.toNat * z.cps.size<=100000 * 10:=Nat.mul_le_mul (by omega) hz
    rw[sizeLine_eq]
    simp
    omega
theorem xZ(op:Operator):VO X (binaryOp op) (ed op):=by
 cases op with
 |Add=>
  intro pins s σ H x y v u v2 u2 M Q Q2 I rv ru dx dy rm q back
  have q':mr x y M Q:=q
  clear q
  unfold mr at q'
  split at q'
  ·exact VO.of3 A2 pins s σ H _ _ v u v2 u2 M Q Q2 I rv ru dx dy rm ⟨_,_,rfl,rfl,q'⟩ back
  ·rename_i a b
   cases (show v=.str a from dx)
   cases (show u=.str b from dy)
   exact kX pins s σ H _ _ v2 u2 Q2 I rv ru ⟨a,b,rfl,rfl,q'.1,back _ _ _ _ f6 rm (.refl _) q'.2⟩
  ·exact ma I rv ru dx dy rm q' back
  ·exact q'.elim
 |Sub=>exact (VO.of3 Bc).imp fun _ _ _ _ h=>fg h
 |Mult=>
  intro pins s σ H x y v u v2 u2 M Q Q2 I rv ru dx dy rm q back
  have q':pT x y M Q:=q
  clear q
  unfold pT at q'
  split at q'
  ·exact VO.of3 A7 pins s σ H _ _ v u v2 u2 M Q Q2 I rv ru dx dy rm ⟨_,_,rfl,rfl,q'⟩ back
  ·rename_i z n
   cases (show v=.str z from dx)
   cases (show u=.int n from dy)
   obtain⟨t,rfl⟩:=rv
   obtain⟨t',rfl⟩:=ru
   obtain⟨⟨n0,n1,hz⟩,q'⟩:=q'
   exact pK n0 n1 hz fun t2 tk=>⟨.str (gW z n),H,I.tok _,⟨_,rfl⟩,back _ _ _ _ f6 rm (.refl _) q'⟩
  ·exact q'.elim
 |FloorDiv=>exact (VO.of3 vp).imp fun _ _ _ _ h=>jN h
 |Mod=>exact (VO.of3 B2).imp fun _ _ _ _ h=>jN h
 |Pow=>exact (VO.of3 yP).imp fun _ _ _ _ h=>jN h
 |RShift=>exact (VO.of3 BQ).imp fun _ _ _ _ h=>jN h
 |BitAnd=>exact (VO.of3 yN).imp fun _ _ _ _ h=>fg h
 |_=>exact fun pins s σ H x y v u v2 u2 M Q Q2 I rv ru dx dy rm q back=>False.elim q
theorem uE:VU X (unaryOp .USub) rNeg:=(VU.of3 Ah).imp fun x M Q h=>by
 unfold rNeg at h
 split at h
 ·exact⟨_,rfl,h⟩
 ·exact h.elim
theorem uJ(fz:Bool):VO X (binaryOp .Add) (cA fz):=by
 intro pins s σ H x y v u v2 u2 M Q Q2 I rv ru dx dy rm q back
 unfold cA at q
 split at q
 next a b ea eb=>
  obtain⟨l,xs,rfl,hH,dl⟩:=bB rm ea dx
  obtain⟨b',zs,rfl,hB,dl2⟩:=bB rm eb dy
  cases rv
  cases ru
  obtain⟨z,its,n,r,hl,e⟩:=I.rdL hH
  obtain⟨z2,its2,n2,r2,hl2,e2⟩:=I.rdL hB
  have hlen:xs.length+zs.length<=sizeLine:=by
   have:=q.1
   rw[List.length_append,dl.length,dl2.length]at this
   exact this
  refine PySem.P.add_list e e2 ?_ (by rw[List.size_toArray,List.size_toArray];omega)
  have ea:its.toArray++its2.toArray=(its++its2).toArray:=by simp
  rw[ea]
  exact bA (I.lnew (t':=s.toks) (r.append r2) (by rw[List.length_append];omega)) I.fresh (dl.append dl2) rm (.refl _) q back
 next=>
  split at q
  ·exact ma I rv ru dx dy rm q back
  ·exact q.elim
theorem qp{K:PySem.W.Frag}{M:MH}{H:Hp}{x:D}{v:V}(rm:RelM K M H)(dx:Den K H x v)(hp:pl (res M x)=true) :
  (∃a ds,x=.ref a/\M a=some (.lst ds)/\res M x=.rol ds)\/(res M x=x):=by
 cases x with
 |ref a=>
  cases e:M a with
  |none=>
   have:res M (.ref a)=.ref a:=by simp[res,aj,e]
   rw[this]at hp;simp[plN]at hp
  |some o=>
   cases o with
   |lst ds=>exact .inl ⟨a,ds,rfl,e,by simp[res,aj,e]⟩
   |_=>
    have:res M (.ref a)=.ref a:=by simp[res,aj,e]
    rw[this]at hp;simp[plN]at hp
 |rol ds=>exact .inr rfl
 |_=>exact .inr rfl
theorem pR{pins:List (Addr×Obj)}{σ:St}{H:Hp}{s:Shared}{M:MH}{x:D}{v:V}(I:Inv X pins σ H s)(rm:RelM X.K M H)(dx:Den X.K H x v)(hp:pl (res M x)=true) :
  ∃H',Inv X pins σ H' s/\TM X.K H H'/\Den X.K H' (res M x) v:=by
 rcases qp rm dx hp with ⟨a,ds,rfl,q,e⟩|e
 ·obtain⟨vs,e1,l⟩:=rm a _ q
  obtain⟨o,I2⟩:=I.freeze e1
  refine⟨_,I2,.freeze e1,?_⟩
  rw[e]
  cases (show v=.ref a from dx)
  exact dZ l e1
 ·rw[e];exact⟨H,I,.refl _,dx⟩
theorem TM.rd{K:PySem.W.Frag}{H H':Hp}{d:D}{v:V}(t:TM K H H')(h:Den K H d v):Den K H' d v:=h.mono t
noncomputable def jC(K:PySem.W.Frag)(M:MH)(H:Hp):Prop:=∀a ds,M a=some (.lst ds)->∃vs,(H a=some (.lst vs)\/∃o,H a=some (.frz o (.lst vs)))/\DenL K H ds vs
theorem RelM.z{K:PySem.W.Frag}{M:MH}{H:Hp}(rm:RelM K M H):jC K M H:=fun a ds q=>by
 obtain⟨vs,e,l⟩:=rm a _ q
 exact⟨vs,.inl e,l⟩
theorem BD{pins:List (Addr×Obj)}{σ:St}{H:Hp}{s:Shared}{M:MH}{a:Addr}{ds:List D}(I:Inv X pins σ H s)(rz:jC X.K M H)(q:M a=some (.lst ds)) :
  ∃H',Inv X pins σ H' s/\TM X.K H H'/\jC X.K M H'/\∃vs,SqF X.K H' a vs/\DenL X.K H' ds vs/\DenL X.K H ds vs:=by
 obtain⟨vs,e|⟨o,e⟩,l⟩:=rz a ds q
 ·obtain⟨o,I2⟩:=I.freeze e
  have t:TM X.K H (upd H a (.frz o (.lst vs))):=.freeze e
  refine⟨_,I2,t,fun b es qb=>?_,vs,.inl ⟨o,ai⟩,l.mono t,l⟩
  obtain⟨us,e2,l2⟩:=rz b es qb
  by_cases hb:b=a
  ·subst hb
   rw[q]at qb;cases qb
   exact⟨vs,.inr ⟨o,ai⟩,l.mono t⟩
  ·refine⟨us,?_,l2.mono t⟩
   rw[ah hb]
   exact e2
 ·exact⟨H,I,.refl _,rz,vs,.inl ⟨o,e⟩,l,l⟩
theorem B4{pins:List (Addr×Obj)}{σ:St}{H:Hp}{s:Shared}{M:MH}{x:D}{v:V}(I:Inv X pins σ H s)(rz:jC X.K M H)(dx:Den X.K H x v) :
  ∃H',Inv X pins σ H' s/\TM X.K H H'/\jC X.K M H'/\Den X.K H' (res M x) v:=by
 cases x with
 |ref a=>
  cases e:M a with
  |none=>
   have:res M (.ref a)=.ref a:=by simp[res,aj,e]
   rw[this];exact⟨H,I,.refl _,rz,dx⟩
  |some o=>
   cases o with
   |lst ds=>
    obtain⟨H',I2,t,rz2,vs,sq,l,_⟩:=BD I rz e
    have:res M (.ref a)=.rol ds:=by simp[res,aj,e]
    rw[this]
    exact⟨H',I2,t,rz2,a,vs,dx,sq,l⟩
   |_=>
    have:res M (.ref a)=.ref a:=by simp[res,aj,e]
    rw[this];exact⟨H,I,.refl _,rz,dx⟩
 |rol ds=>exact⟨H,I,.refl _,rz,dx⟩
 |_=>exact⟨H,I,.refl _,rz,dx⟩
theorem pB{pins:List (Addr×Obj)}{σ:St}{s:Shared}{M:MH}:∀{ds:List D}{vs:List V}{H:Hp},Inv X pins σ H s->jC X.K M H->DenL X.K H ds vs->
  ∃H',Inv X pins σ H' s/\TM X.K H H'/\jC X.K M H'/\DenL X.K H' (ds.map (res M)) vs
 |[],vs,H,I,rz,dl=>⟨H,I,.refl _,rz,dl⟩
 |d::ds,vs,H,I,rz,dl=>by
  obtain⟨v,r,rfl,dv,dr⟩:=dl
  obtain⟨H1,I1,t1,rz1,d1⟩:=B4 I rz dv
  obtain⟨H2,I2,t2,rz2,d2⟩:=pB I1 rz1 (dr.mono t1)
  exact⟨H2,I2,t1.trans t2,rz2,v,r,rfl,d1.mono t2,d2⟩
theorem su{pins:List (Addr×Obj)}{σ:St}{H:Hp}{s:Shared}{M:MH}{x:D}{v:V}(I:Inv X pins σ H s)(rz:jC X.K M H)(dx:Den X.K H x v) :
  ∃H',Inv X pins σ H' s/\TM X.K H H'/\jC X.K M H'/\Den X.K H' (rs M x) v:=by
 cases x with
 |ref a=>
  cases e:M a with
  |none=>
   have:rs M (.ref a)=.ref a:=by simp[rs,aj,e]
   rw[this];exact⟨H,I,.refl _,rz,dx⟩
  |some o=>
   cases o with
   |lst ds=>
    have:rs M (.ref a)=.rol (if pls ds=true then ds else ds.map (res M)):=by simp[rs,aj,e]
    rw[this]
    obtain⟨H',I2,t,rz2,vs,sq,l,_⟩:=BD I rz e
    split
    ·exact⟨H',I2,t,rz2,a,vs,dx,sq,l⟩
    ·obtain⟨H3,I3,t3,rz3,l3⟩:=pB I2 rz2 l
     exact⟨H3,I3,t.trans t3,rz3,a,vs,dx,t3.f _ _ sq,l3⟩
   |_=>
    have:rs M (.ref a)=.ref a:=by simp[rs,aj,e]
    rw[this];exact⟨H,I,.refl _,rz,dx⟩
 |rol ds=>
  have:rs M (.rol ds)=.rol (if pls ds=true then ds else ds.map (res M)):=by simp[rs,aj]
  rw[this]
  split
  ·exact⟨H,I,.refl _,rz,dx⟩
  ·obtain⟨p,vs,e,sq,l⟩:=dx
   obtain⟨H3,I3,t3,rz3,l3⟩:=pB I rz l
   exact⟨H3,I3,t3,rz3,p,vs,e,t3.f _ _ sq,l3⟩
 |_=>exact⟨H,I,.refl _,rz,dx⟩
theorem zT{pins:List (Addr×Obj)}{σ:St}{H:Hp}{s:Shared}{M:MH}{x y:D}{v u:V}(I:Inv X pins σ H s)(rm:RelM X.K M H)(dx:Den X.K H x v)(dy:Den X.K H y u) :
  ∃H',Inv X pins σ H' s/\Den X.K H' (rs M x) v/\Den X.K H' (rs M y) u:=by
 obtain⟨H1,I1,t1,rz1,d1⟩:=su I rm.z dx
 obtain⟨H2,I2,t2,rz2,d2⟩:=su I1 rz1 (dy.mono t1)
 exact⟨H2,I2,d1.mono t2,d2⟩
theorem so(hu:X.A.units+64 < cLine)(neg:Bool):VO X (compareOp (if neg=true then .NotEq else .Eq)) (cG neg):=by
 intro pins s σ H x y v u v2 u2 M Q Q2 I rv ru dx dy rm q back
 obtain⟨h1,h2,q⟩:=q
 obtain⟨H',I',d1,d2⟩:=zT I rm dx dy
 obtain⟨rc,rn,_⟩:=Bi I' rfl 8 (A:=X.A) h1 h2 d1 d2 rv ru (by omega)
 have fin:=back _ _ _ _ (aX (K:=X.K) (H:=H)) rm (.refl _) q
 cases neg with
 |true=>
  refine rn _ _ _ _ ⟨.bl _,H,I,rfl,?_⟩
  rw[Bool.true_xor]at fin;exact fin
 |false=>
  refine rc _ _ _ _ ⟨.bl _,H,I,rfl,?_⟩
  rw[Bool.false_xor]at fin;exact fin
end
end L2
namespace L2
open PySem PySem.Spec PyProof.Rows
section
variable {K:PySem.W.Frag}{H:Hp}{M:MH}
theorem gy{κ:Type}[DecidableEq κ]:∀{ks:List κ}{ds:List D}{vs:List V}{k:κ},DenL K H ds vs->ks.length=vs.length->
  (∀d,getD ks ds k=some d->∃v,c6 (ks.zip vs) k=some v/\Den K H d v)/\(getD ks ds k=none->c6 (ks.zip vs) k=none)
 |[],_,vs,k,_,_=>⟨fun d e=>by simp[getD]at e,fun _=>by simp[c6]⟩
 |q::ks,[],vs,k,dl,hl=>by cases (show vs=[] from dl);cases hl
 |q::ks,d0::ds,_,k,dl,hl=>by
  obtain⟨v,r,rfl,dv,dl⟩:=dl
  have ih:=gy (ks:=ks) (k:=k) dl (by simpa using hl)
  by_cases z:q=k
  ·refine⟨fun d e=>?_,fun e=>?_⟩
   ·simp only[getD,if_pos z]at e
    cases e
    exact⟨v,c9 (p:=(q,v)) z,dv⟩
   ·simp only[getD,if_pos z]at e;cases e
  ·refine⟨fun d e=>?_,fun e=>?_⟩
   ·simp only[getD,if_neg z]at e
    obtain⟨w,h1,h2⟩:=ih.1 d e
    exact⟨w,(cz (p:=(q,v)) z).trans h1,h2⟩
   ·simp only[getD,if_neg z]at e
    exact (cz (p:=(q,v)) z).trans (ih.2 e)
theorem kd{y:D}{u:V}{k:Key}(h:mY y=some k)(d:Den K H y u):u=kV k:=by
 cases y with
 |int i=>cases (show some (Sum.inl i)=some k from h);exact d
 |str x=>cases (show some (Sum.inr x)=some k from h);exact d
 |_=>cases h
theorem iN:∀{es:List D}{vs:List V}{k:List Int},jd es=some k->DenL K H es vs->vs=k.map V.int
 |[],vs,k,h,dl=>by cases (show some []=some k from h);exact dl
 |d::es,_,k,h,dl=>by
  obtain⟨v,r,rfl,dv,dl⟩:=dl
  cases d with
  |int i=>
   simp only[jd]at h
   split at h
   ·rename_i ns q
    cases h
    rw[iN q dl]
    cases (show v=.int i from dv)
    rfl
   ·cases h
  |_=>cases h
theorem j8{y:D}{u:V}{k:List Int}(h:pc y=some k)(d:Den K H y u):∃b,u=.ref b/\SqT K H b (k.map V.int):=by
 cases y with
 |tup es=>
  obtain⟨b,vs,e,sq,dl⟩:=d
  refine⟨b,e,?_⟩
  rw[<-iN h dl];exact sq
 |_=>cases h
theorem jV{x:D}{v:V}{ks:List Key}{ds:List D}(h:gY M x=some (ks,ds))(rm:RelM K M H)(d:Den K H x v):∃p vs,v=.ref p/\Rd H p (.dK (ks.zip vs))/\ks.length=vs.length/\DenL K H ds vs:=by
 cases x with
 |dik ks' ds'=>
  cases h
  obtain⟨p,vs,o,rfl,e,hl,dl⟩:=d
  exact⟨p,vs,rfl,.inr ⟨o,e⟩,hl,dl⟩
 |ref a=>
  simp only[gY]at h
  split at h
  ·rename_i q
   cases h
   obtain⟨vs,e,hl,dl⟩:=rm a _ q
   exact⟨a,vs,d,.inl e,hl,dl⟩
  ·cases h
 |_=>cases h
theorem eD{x:D}{v:V}{ks:List (List Int)}{ds:List D}(h:iA M x=some (ks,ds))(rm:RelM K M H)(d:Den K H x v):∃p vs xs,v=.ref p/\Rd H p (.ext (cN p xs))/\TabOk K H p ks xs vs/\DenL K H ds vs:=by
 cases x with
 |dit ks' ds'=>
  cases h
  obtain⟨p,vs,o,xs,rfl,e,z,dl⟩:=d
  exact⟨p,vs,xs,rfl,.inr ⟨o,e⟩,z,dl⟩
 |ref a=>
  simp only[iA]at h
  split at h
  ·rename_i q
   cases h
   obtain⟨vs,xs,e,z,dl⟩:=rm a _ q
   exact⟨a,vs,xs,d,.inl e,z,dl⟩
  ·cases h
 |_=>cases h
theorem TabOk.len{a:Addr}{ks:List (List Int)}{xs:List (List Int×Addr×Value)}{vs:List V}(z:TabOk K H a ks xs vs):ks.length=vs.length:=by
 rw[<-z.kx,List.length_map,z.vx.length,List.length_map]
theorem TabOk.mono{H':Hp}{a:Addr}{ks:List (List Int)}{xs:List (List Int×Addr×Value)}{vs:List V}(z:TabOk K H a ks xs vs)(t:TM K H H'):TabOk K H' a ks xs vs:=⟨z.kx,z.nd,z.sz,z.no,z.vx,fun x hx=>t.t _ _ (z.at_ x hx)⟩
theorem cF:∀{xs:List (List Int×Addr×Value)}{vs:List V} (k:List Int),Vals vs (xs.map (·.2.2))->RelO (c6 ((xs.map (·.1)).zip vs) k) ((atKey xs k).map (·.2))
 |[],vs,k,r=>by cases r;exact True.intro
 |x::xs,vs,k,r=>by
  rw[List.map_cons]at r
  cases r with
  |@cons v _ vs _ h t=>
   have ih:=cF k t
   by_cases e:x.1=k
   ·have b:atKey (x::xs) k=some x.2:=by simp[atKey,List.find?_cons,e]
    rw[List.map_cons,List.zip_cons_cons,c9 (p:=(x.1,v)) e,b];exact h
   ·have b:atKey (x::xs) k=atKey xs k:=by simp[atKey,List.find?_cons,e]
    rw[List.map_cons,List.zip_cons_cons,cz (p:=(x.1,v)) e,b];exact ih
end
inductive DRd (X:Cx) (H:Hp) (a:Addr) (u:V):Option V->Prop where
 |k {kvs:List (Key×V)}{k:Key} (e:Rd H a (.dK kvs)) (hu:u=kV k):DRd X H a u (c6 kvs k)
 |t {ks:List (List Int)}{xs:List (List Int×Addr×Value)}{vs:List V}{k:List Int}{b:Addr} (e:Rd H a (.ext (cN a xs))) (z:TabOk X.K H a ks xs vs) (hu:u=.ref b) (sq:SqT X.K H b (k.map V.int)):DRd X H a u (c6 (ks.zip vs) k)
noncomputable def OptDen(K:PySem.W.Frag)(H:Hp):Option D->Option V->Prop
 |some d,some v=>Den K H d v
 |none,none=>True
 |_,_=>False
theorem eQ{X:Cx}{H:Hp}{M:MH}{x y:D}{v u:V}{o:Option D}(h:fP M x y=some o)(rm:RelM X.K M H)(dx:Den X.K H x v)(dy:Den X.K H y u):∃a ov,v=.ref a/\DRd X H a u ov/\OptDen X.K H o ov:=by
 unfold fP at h
 split at h
 ·rename_i ks ds e
  split at h
  ·rename_i k ek
   cases h
   obtain⟨p,vs,rfl,rd,hl,dl⟩:=jV e rm dx
   refine⟨p,_,rfl,.k rd (kd ek dy),?_⟩
   have g:=gy (k:=k) dl hl
   cases q:getD ks ds k with
   |none=>rw[g.2 q];exact True.intro
   |some d=>obtain⟨w,h1,h2⟩:=g.1 d q;rw[h1];exact h2
  ·cases h
 ·split at h
  ·rename_i ks ds e
   split at h
   ·rename_i k ek
    cases h
    obtain⟨p,vs,xs,rfl,rd,z,dl⟩:=eD e rm dx
    obtain⟨b,hb,sq⟩:=j8 ek dy
    refine⟨p,_,rfl,.t rd z hb sq,?_⟩
    have g:=gy (k:=k) dl z.len
    cases q:getD ks ds k with
    |none=>rw[g.2 q];exact True.intro
    |some d=>obtain⟨w,h1,h2⟩:=g.1 d q;rw[h1];exact h2
   ·cases h
  ·cases h
section
variable {X:Cx}{pins:List (Addr×Obj)}{σ:St}{H:Hp}{s:Shared}{a:Addr}{y v:V}{u r:Value}{o:Option V}{A:Around}{E:Value->Shared->Prop}
theorem im{P:Program}{w:World}:∀{ks:List Int}{us:List Value},Vals (ks.map V.int) us->ItemsAre (intKind P w) ks us
 |[],_,r=>by rw[List.map_nil]at r;cases r;exact .nil
 |k::ks,_,r=>by
  rw[List.map_cons]at r
  cases r with
  |cons h t=>
   obtain⟨tk,rfl⟩:=h
   exact .cons (by show Value.isInt k (.int k tk)=true;simp[Value.isInt]) (im t)
theorem dU{b:Addr}{k:List Int}(I:Inv X pins σ H s)(sq:SqT X.K H b (k.map V.int)):(tupleKind (intKind X.prog X.w)).is s.heap k b:=by
 obtain⟨its,r,⟨o,e,c,n,d⟩,_⟩:=I.tuple sq
 exact⟨o,its.toArray,n,e,c,d,by simpa using im r⟩
theorem b9{ks:List (List Int)}{xs:List (List Int×Addr×Value)}{vs:List V}(I:Inv X pins σ H s)(e:Rd H a (.ext (cN a xs)))(z:TabOk X.K H a ks xs vs):s.heap.DictOfH (tupleKind (intKind X.prog X.w)) a xs:=by
 obtain⟨⟨ob,es,ep,h1,h2,h3,h4⟩,_⟩:=(show ObjOk X.prog X.w H s.heap a (.ext (cN a xs)) from e.ok I.hok)
 exact⟨ob,es,ep,h1,h2,h3,h4,fun x hx=>dU I (z.at_ x hx),by rw[z.kx];exact z.nd⟩
theorem DRd.isDict(I:Inv X pins σ H s)(g:DRd X H a y o):s.TypeIs (.ref a) "dict":=by
 cases g with
 |k e _=>obtain⟨_,_,vs,_,dd⟩:=fH I.hok e;exact dd.typeIs
 |t e z _ _=>exact (b9 I e z).typeIs
theorem nn{Q:Value->Shared->Prop}(hu:A.units+1 < cLine)(I:Inv X pins σ H s)(g:DRd X H a y o)(ho:o=some v)(ry:RelV y u)(h:∀w' s',Inv X pins σ H s'->RelV v w'->Q w' s') :
  wpAny (model X.prog X.w) A (getItem (.ref a) u) Q E s:=by
 cases g with
 |k e hk=>exact mC hu I (.inl ⟨_,_,e,hk,ho.symm⟩) ry h
 |@t ks xs vs k b e z hb sq=>
  subst hb
  cases (show u=Value.ref b from ry)
  have dd:=b9 I e z
  have rel:=cF (vs:=vs) k z.vx
  rw[z.kx]at rel
  obtain⟨w',hw,rw'⟩:=RelO.some_of (v:=v) (o:=(atKey xs k).map (·.2)) (by rw[<-ho];exact rel)
  obtain⟨p,hp,hp2⟩:=Option.map_eq_some_iff.mp hw
  refine wpAny_getItem_heap (tupleKind_room_in1 hu) (dU I sq) dd hp ?_
  rw[hp2]
  exact h w' _ (I.tok _) rw'
theorem Fw{Q:Value->Shared->Prop}(neg:Bool)(hu:A.units+1 < cLine)(I:Inv X pins σ H s)(g:DRd X H a y o)(ry:RelV y u)(h:∀s',Inv X pins σ H s'->Q (.bool (neg ^^ o.isSome)) s') :
  wpAny (model X.prog X.w) A (compareOp (if neg=true then .NotIn else .In) u (.ref a)) Q E s:=by
 cases g with
 |k e hk=>
  cases neg with
  |true=>exact qt hu I (.inl ⟨_,_,e,hk,rfl⟩) ry fun s' I'=>by have:=h s' I';rw[Bool.true_xor]at this;exact this
  |false=>exact Ff hu I (.inl ⟨_,_,e,hk,rfl⟩) ry fun s' I'=>by have:=h s' I';rw[Bool.false_xor]at this;exact this
 |@t ks xs vs k b e z hb sq=>
  subst hb
  cases (show u=Value.ref b from ry)
  have dd:=b9 I e z
  have rel:=cF (vs:=vs) k z.vx
  rw[z.kx]at rel
  have q:=rel.isSome_eq
  rw[Option.isSome_map]at q
  rw[q]at h
  cases neg with
  |true=>
   refine wpAny_notIn_heap (tupleKind_room_in1 hu) (dU I sq) z.no dd ?_
   have:=h _ (I.tok (s.toks+(tupleKind (intKind X.prog X.w)).draws k))
   rw[Bool.true_xor]at this;exact this
  |false=>
   refine wpAny_in_heap (tupleKind_room_in1 hu) (dU I sq) z.no dd ?_
   have:=h _ (I.tok (s.toks+(tupleKind (intKind X.prog X.w)).draws k))
   rw[Bool.false_xor]at this;exact this
theorem wB{Q:Value->Shared->Prop}(hu:A.units+1 < cLine)(I:Inv X pins σ H s)(g:DRd X H a y o)(ry:RelV y u)(h:∀w' s',Inv X pins σ H s'->RelV (o.getD .non) w'->Q w' s') :
  wpAny (model X.prog X.w) A (call (.builtin "dict.get") [.ref a,u]) Q E s:=by
 cases g with
 |k e hk=>exact xp hu I (.inl ⟨_,_,e,hk,rfl⟩) ry h
 |@t ks xs vs k b e z hb sq=>
  subst hb
  cases (show u=Value.ref b from ry)
  have dd:=b9 I e z
  have rel:=cF (vs:=vs) k z.vx
  rw[z.kx]at rel
  exact call_meetsIn PySem.F.slot_dict_get dd.typeIs PySem.F.entry_dict_get (PySem.F.args_dict_get_2 _ _) (meetsH_dict_get (tupleKind (intKind X.prog X.w)) a b z.no) ⟨tupleKind_room_in1 hu,k,xs,dU I sq,dd,h _ _ (I.tok _) (rel.getD rfl)⟩
theorem tF{d:V}{Q:Value->Shared->Prop}(hu:A.units+1 < cLine)(I:Inv X pins σ H s)(g:DRd X H a y o)(ry:RelV y u)(rd:RelV d r)(h:∀w' s',Inv X pins σ H s'->RelV (o.getD d) w'->Q w' s') :
  wpAny (model X.prog X.w) A (call (.builtin "dict.get") [.ref a,u,r]) Q E s:=by
 cases g with
 |k e hk=>exact uy hu I (.inl ⟨_,_,e,hk,rfl⟩) ry rd h
 |@t ks xs vs k b e z hb sq=>
  subst hb
  cases (show u=Value.ref b from ry)
  have dd:=b9 I e z
  have rel:=cF (vs:=vs) k z.vx
  rw[z.kx]at rel
  exact call_meetsIn PySem.F.slot_dict_get dd.typeIs PySem.F.entry_dict_get (PySem.F.args_dict_get_3 _ _ _) (meetsH_dict_get_default (tupleKind (intKind X.prog X.w)) a b z.no r) ⟨tupleKind_room_in1 hu,k,xs,dU I sq,dd,h _ _ (I.tok _) (rel.getD rd)⟩
end
section
variable {K:PySem.W.Frag}{H:Hp}
theorem mU{κ:Type}[DecidableEq κ]{q k:κ}{w v:V}{l:List (κ×V)}:de ((q,w)::l) k v=if q=k then (q,v)::l.map (fun kv=>if kv.1=k then (kv.1,v) else kv) else (q,w)::de l k v:=by
 unfold de
 by_cases e:q=k
 ·simp[e]
 ·by_cases g:(l.any fun kv=>decide (kv.1=k))=true
  ·simp[e,g]
  ·simp[e,g]
theorem j0{κ:Type}[DecidableEq κ]{k:κ}{v:V}:∀{ks:List κ}{vs:List V},¬ k∈ks->(ks.zip vs).map (fun kv=>if kv.1=k then (kv.1,v) else kv)=ks.zip vs
 |[],_,_=>by simp
 |q::ks,[],_=>by simp
 |q::ks,w::vs,h=>by
  have hq:¬ q=k:=fun z=>h (by simp[z])
  have ih:=j0 (k:=k) (v:=v) (ks:=ks) (vs:=vs) fun m=>h (List.mem_cons_of_mem _ m)
  simp only[List.zip_cons_cons,List.map_cons,if_neg hq,ih]
theorem kD{κ:Type}[DecidableEq κ]:∀{ks:List κ}{ds:List D}{vs:List V}{k:κ}{y:D}{v:V},ks.Nodup->DenL K H ds vs->ks.length=vs.length->Den K H y v->
  ∃vs',de (ks.zip vs) k v=(ao ks k).zip vs'/\(ao ks k).length=vs'.length/\DenL K H (az ks ds k y) vs'
 |[],ds,vs,k,y,v,_,dl,hl,dy=>by
  cases vs with
  |nil=>exact⟨[v],rfl,rfl,by unfold az;exact .one dy⟩
  |cons _ _=>cases hl
 |q::ks,[],vs,k,y,v,_,dl,hl,dy=>by cases (show vs=[] from dl);cases hl
 |q::ks,d::ds,_,k,y,v,nd,dl,hl,dy=>by
  obtain⟨w,r,rfl,dw,dl⟩:=dl
  obtain⟨n1,n2⟩:=List.nodup_cons.mp nd
  rw[List.zip_cons_cons,mU]
  by_cases e:q=k
  ·subst e
   rw[if_pos rfl,j0 n1]
   refine⟨v::r,?_,?_,?_⟩
   ·simp[ao]
   ·simpa [ao] using hl
   ·simp only[az,if_pos];exact .cons dy dl
  ·rw[if_neg e]
   obtain⟨vs',h1,h2,h3⟩:=kD (k:=k) (v:=v) n2 dl (by simpa using hl) dy
   refine⟨w::vs',?_,?_,?_⟩
   ·simp[ao,if_neg e,h1]
   ·simp[ao,if_neg e,h2]
   ·simp only[az,if_neg e];exact .cons dw h3
theorem jW{x:List Int×Addr×Value}{xs:List (List Int×Addr×Value)}{k:List Int}{b:Addr}{r:Value}:storedH (x::xs) k b r=if x.1=k then (x.1,x.2.1,r)::xs.map (putAt k r) else x::storedH xs k b r:=by
 unfold storedH
 by_cases e:x.1=k
 ·have b':atKey (x::xs) k=some x.2:=by simp[atKey,List.find?_cons,e]
  rw[b',if_pos e]
  simp[putAt,e]
 ·have b':atKey (x::xs) k=atKey xs k:=by simp[atKey,List.find?_cons,e]
  rw[b',if_neg e]
  by_cases g:(atKey xs k).isSome=true
  ·rw[if_pos g,if_pos g];simp[putAt,e]
  ·rw[if_neg g,if_neg g];rfl
theorem gv{k:List Int}{r:Value}:∀{xs:List (List Int×Addr×Value)},¬ k∈xs.map (·.1)->xs.map (putAt k r)=xs
 |[],_=>rfl
 |x::xs,h=>by
  have hq:¬ x.1=k:=fun z=>h (by simp[z])
  rw[List.map_cons,gv fun m=>h (List.mem_cons_of_mem _ m)]
  simp[putAt,hq]
theorem gU:∀{xs:List (List Int×Addr×Value)}{ds:List D}{vs:List V}{k:List Int}{b:Addr}{r:Value}{y:D}{v:V},(xs.map (·.1)).Nodup->Vals vs (xs.map (·.2.2))->RelV v r->DenL K H ds vs->Den K H y v->
  ∃vs',(storedH xs k b r).map (·.1)=ao (xs.map (·.1)) k/\Vals vs' ((storedH xs k b r).map (·.2.2))/\DenL K H (az (xs.map (·.1)) ds k y) vs'/\∀x∈storedH xs k b r,(x.1=k/\x.2.1=b)\/∃x'∈xs,x'.1=x.1/\x'.2.1=x.2.1
 |[],ds,vs,k,b,r,y,v,_,vr,rv,dl,dy=>by
  cases vr
  cases ds with
  |cons _ _=>obtain⟨_,_,z,_⟩:=dl;cases z
  |nil=>exact⟨[v],rfl,.cons rv .nil,by unfold az;exact .one dy,fun x hx=>.inl (by simp[storedH,atKey]at hx;simp[hx])⟩
 |x::xs,ds,vs,k,b,r,y,v,nd,vr,rv,dl,dy=>by
  rw[List.map_cons]at vr nd
  cases vr with
  |@cons w _ vs _ h t=>
   cases ds with
   |nil=>cases (show w::vs=[] from dl)
   |cons d ds=>
    obtain⟨w',r',e',dw,dl⟩:=dl
    cases e'
    obtain⟨n1,n2⟩:=List.nodup_cons.mp nd
    rw[jW]
    by_cases e:x.1=k
    ·rw[if_pos e,gv (by rw[<-e];exact n1)]
     refine⟨v::vs,?_,.cons rv t,?_,fun z hz=>?_⟩
     ·simp[ao,e]
     ·simp only[List.map_cons,az,if_pos e];exact .cons dy dl
     ·rcases List.mem_cons.mp hz with rfl|hz
      ·exact .inr ⟨x,List.mem_cons_self,rfl,rfl⟩
      ·exact .inr ⟨z,List.mem_cons_of_mem _ hz,rfl,rfl⟩
    ·rw[if_neg e]
     obtain⟨vs',h1,h2,h3,h4⟩:=gU (k:=k) (b:=b) n2 t rv dl dy
     refine⟨w::vs',?_,.cons h h2,?_,fun z hz=>?_⟩
     ·simp only[List.map_cons,ao,if_neg e,h1]
     ·simp only[List.map_cons,az,if_neg e];exact .cons dw h3
     ·rcases List.mem_cons.mp hz with rfl|hz
      ·exact .inr ⟨z,List.mem_cons_self,rfl,rfl⟩
      ·rcases h4 z hz with q|⟨x',hx',q⟩
       ·exact .inl q
       ·exact .inr ⟨x',List.mem_cons_of_mem _ hx',q⟩
theorem dD{κ:Type}[DecidableEq κ]:∀{ks:List κ}{k:κ},(ao ks k).length<=ks.length+1
 |[],_=>by simp[ao]
 |q::ks,k=>by
  unfold ao
  split
  ·simp
  ·have:=dD (ks:=ks) (k:=k)
   simp only[List.length_cons];omega
theorem putD1_mem{κ:Type}[DecidableEq κ]:∀{ks:List κ}{k x:κ},x∈ao ks k<->x∈ks\/x=k
 |[],k,x=>by simp[ao]
 |q::ks,k,x=>by
  unfold ao
  split
  ·rename_i e;subst e;simp;intro z;exact .inl z
  ·rw[List.mem_cons,putD1_mem,List.mem_cons,or_assoc]
theorem fK{κ:Type}[DecidableEq κ]:∀{ks:List κ}{k:κ},ks.Nodup->(ao ks k).Nodup
 |[],k,_=>by simp[ao]
 |q::ks,k,h=>by
  obtain⟨n1,n2⟩:=List.nodup_cons.mp h
  unfold ao
  split
  ·exact h
  ·rename_i e
   refine List.nodup_cons.mpr ⟨fun m=>?_,fK n2⟩
   rcases putD1_mem.mp m with z|z
   ·exact n1 z
   ·exact e z
end
section
variable {X:Cx}{pins:List (Addr×Obj)}{σ:St}{H:Hp}{s:Shared}{a:Addr}{u r:Value}{A:Around}{E:Value->Shared->Prop}{M:MH}{ks:List Key}{ds:List D}
theorem jQ{κ:Type}:∀{ks:List κ}{vs:List V},ks.length=vs.length->(ks.zip vs).map (·.1)=ks
 |[],_,_=>by simp
 |q::ks,[],h=>by cases h
 |q::ks,v::vs,h=>by simp[jQ (ks:=ks) (vs:=vs) (by simpa using h)]
theorem oY{vs:List V}(I:Inv X pins σ H s)(e:H a=some (.dK (ks.zip vs)))(hl:ks.length=vs.length):ks.Nodup:=by
 obtain⟨_,_,ws,rel,_,_,_,_,_,_,_,_,nd⟩:=sD I.hok e
 rw[<-rel.keys,jQ hl]at nd
 exact nd
theorem uo{k:Key}{y:D}{v w:V}{R:MH->Prop}{R2:Hp->Prop}(hu:A.units+1 < cLine)(I:Inv X pins σ H s)(rm:RelM X.K M H)(q:M a=some (.dk ks ds))(hk:w=kV k)(rw':RelV w u)(dy:Den X.K H y v)(rv:RelV v r)(hz:ks.length < sizeLine)
  (h:R (put M a (.dk (ao ks k) (az ks ds k y)))) (back:∀H' M',RelM X.K M' H'->TM X.K H H'->R M'->R2 H'):wpAny (model X.prog X.w) A (setItem (.ref a) u r) (fun _ s'=>∃H',Inv X pins σ H' s'/\R2 H') E s:=by
 obtain⟨vs,e,hl,dl⟩:=rm a _ q
 subst hk
 obtain⟨vs',h1,h2,h3⟩:=kD (k:=k) (v:=v) (oY I e hl) dl hl dy
 refine mM hu I (.inl ⟨_,k,e,rfl,?_,rfl⟩) rw' rv fun s' I'=>⟨_,I',?_⟩
 ·rw[List.length_zip,hl,Nat.min_self,<-hl];exact hz
 ·have tw:TM X.K H (upd H a (.dK (de (ks.zip vs) k v))):=.put e (fun _ z=>by cases z) fun _ _ z=>by cases z
  exact back _ _ (rm.write (u:=.dk (ao ks k) (az ks ds k y)) e (fun _ z=>by cases z) (fun _ _ z=>by cases z) ⟨vs',by rw[ai,h1],h2,h3.mono tw⟩) tw h
theorem xm{kt:List (List Int)}{k:List Int}{y:D}{v:V}{b:Addr}{R:MH->Prop}{R2:Hp->Prop}(hu:A.units+1 < cLine)(I:Inv X pins σ H s)(rm:RelM X.K M H)(q:M a=some (.dt kt ds))(sq:SqT X.K H b (k.map V.int))(dy:Den X.K H y v)(rv:RelV v r)(hz:kt.length < sizeLine)
  (h:R (put M a (.dt (ao kt k) (az kt ds k y)))) (back:∀H' M',RelM X.K M' H'->TM X.K H H'->R M'->R2 H'):wpAny (model X.prog X.w) A (setItem (.ref a) (.ref b) r) (fun _ s'=>∃H',Inv X pins σ H' s'/\R2 H') E s:=by
 obtain⟨vs,xs,e,z,dl⟩:=rm a _ q
 have dd:=b9 I (.inl e) z
 have nd:(xs.map (·.1)).Nodup:=by rw[z.kx];exact z.nd
 obtain⟨vs',h1,h2,h3,h4⟩:=gU (k:=k) (b:=b) nd z.vx rv dl dy
 rw[z.kx]at h1 h3
 have hsz:xs.length<=sizeLine:=by
  have:=congrArg List.length z.kx
  rw[List.length_map]at this
  omega
 refine wpAny_setItem_heap (hsz:=hsz) (tupleKind_room_in1 hu) (dU I sq) dd fun h' dd' hs=>?_
 obtain⟨ob,es,ep,hq,hx,hd,he,_,_⟩:=dd'
 have tw:TM X.K H (upd H a (.ext (cN a (storedH xs k b r)))):=.put e (fun _ z=>by cases z) fun _ _ z=>by cases z
 have tb:cN a (storedH xs k b r) h':=⟨ob,es,ep,hq,hx,hd,he⟩
 have I':Inv X pins σ (upd H a (.ext (cN a (storedH xs k b r)))) {s with heap:=h',toks:=s.toks+(tupleKind (intKind X.prog X.w)).draws k}:=
  jL I (by rw[e];exact True.intro) hs ⟨ob,hq⟩ ⟨tb,⟨ob,hq⟩,fun g1 g2 ⟨o1,es1,ep1,a1,a2,a3,a4⟩ kk=>⟨o1,es1,ep1,kk _ a1,a2,a3,a4⟩⟩
 refine⟨_,I',back _ _ (rm.write (u:=.dt (ao kt k) (az kt ds k y)) e (fun _ z=>by cases z) (fun _ _ z=>by cases z) ⟨vs',_,ai,⟨h1,fK z.nd,Nat.le_trans dD hz,z.no,h2,fun x hx'=>?_⟩,h3.mono tw⟩) tw h⟩
 rcases h4 x hx' with ⟨q1,q2⟩|⟨x',m,q1,q2⟩
 ·rw[q1,q2];exact tw.t _ _ sq
 ·rw[<-q1,<-q2];exact tw.t _ _ (z.at_ x' m)
end
end L2
namespace L2
open PySem PySem.Spec PyProof.Rows PySem.W
section
variable {prog:Program}{w:World}{A:Around}{E:Value->Shared->Prop}{s:Shared}{d it r:Addr}{ob:Obj}{es:Array DictEntry}{ep i:Nat}{e:DictEntry}
theorem mP(hn:(d == sysModules)=false):MeetsIn prog w (Builtin.«dict.__len__» ⟨[.ref d],[]⟩) (fun _ R s=>∃ob es ep,s.heap.get? d=some ob/\ob.data=.dict es ep/\R (.ok (.ret (.int es.size s.toks))) {s with toks:=s.toks+1}):=
 .of_wp fun A R s ⟨ob,es,ep,ho,hd,q⟩=>by
  show wpAny _ _ (dictSize d >>=_) _ _ s
  unfold dictSize
  refine wpAny_bind (wpAny_bind (wpAny_dictEntries ho hd (wpAny_pure ?_)))
  show wpAny _ _ (Builtin.Dict.pendingCount d >>=_) _ _ s
  exact wpAny_bind (wpAny_pendingCount_other hn (wpAny_ret_mkInt q))
theorem EJ{Q:Value->Shared->Prop}(hn:(d == sysModules)=false)(ho:s.heap.get? d=some ob)(hx:ob.ExactDict)(hd:ob.data=.dict es ep)(hz:(es.size:Int) < 2 ^ 63)(q:Q (.int es.size (s.toks+1)) {s with toks:=s.toks+1+1}) :
  wpAny (model prog w) A (call (.builtin "len") [.ref d]) Q E s:=by
 have hT:s.TypeIs (.ref d) "dict":=⟨_,ho,hx.1⟩
 refine Calls.call_function_entry kind_len plain_len entry_len (args_len1 _) ?_
 unfold Builtin.«len»
 refine wpAny_bind (m:=oneArg "len" _) (wpAny_pure ?_)
 refine wpAny_bind (m:=callSpecial? (.ref d) (Str.ofString "__len__")) (wpAny_callSpecial?_slot (name:=Str.ofString "__len__") hT F.slot_dict_len
  (call_meetsIn F.slot_dict_len hT F.entry_dict_len (F.args_dict_len_1 _) (mP hn) ⟨ob,es,ep,ho,hd,?_⟩))
 show wpAny _ _ _ _ _ {s with toks:=s.toks+1}
 refine wpAny_bind (wpAny_holding (wpAny_pure ?_))
 refine wpAny_bind (wpAny_letGo ?_)
 show wpAny _ _ (if ((es.size:Nat):Int) < 0 then _ else _) _ _ _
 rw[if_neg (by omega)]
 show wpAny _ _ (if ((es.size:Nat):Int)>=2 ^ 63 then _ else _) _ _ _
 rw[if_neg (by omega)]
 exact wpAny_bind (wpAny_mkInt (wpAny_pure ⟨_,rfl,q⟩))
theorem Bf{Q:Value->Shared->Prop}(hn:(d == sysModules)=false)(ho:s.heap.get? d=some ob)(hx:ob.ExactDict)(hd:ob.data=.dict es ep)
  (hQ:Q (.ref s.heap.objs.size) {s with heap:=s.heap.push {cls:=.type "dict_keyiterator",data:=.fields #[.ref d,.int 0 0,.int es.size 0,.int ep 0]}}):wpAny (model prog w) A (pyIter (.ref d)) Q E s:=by
 have hT:s.TypeIs (.ref d) "dict":=⟨_,ho,hx.1⟩
 refine wpAny_pyIter_slot hT F.slot_dict_iter (wpAny_call_entry F.slot_dict_iter hT F.entry_dict_iter ?_ (F.args_dict_iter_1 _))
 unfold Builtin.«dict.__iter__»
 refine wpAny_bind ?_
 unfold Builtin.Dict.dictSlotNone
 refine wpAny_bind (wpAny_notOrdered_dict hT ?_)
 show wpAny _ _ (pure (Value.ref d)) _ _ s
 refine wpAny_pure ?_
 show wpAny _ _ (Builtin.Dict.showsAll d >>=_) _ _ s
 unfold Builtin.Dict.showsAll
 rw[if_neg (by rw[hn];exact Bool.false_ne_true)]
 refine wpAny_bind (wpAny_pure (wpAny_bind (wpAny_dictEntries ho hd (wpAny_bind (wpAny_dictEpoch ho hd ?_)))))
 refine wpAny_bind (wpAny_newObj_type (wpAny_pure ⟨_,rfl,"dict_keyiterator",_,⟨_,Heap.get?_push_size _ rfl,rfl⟩,F.slot_dict_keyiterator_next.lookup,?_⟩))
 simpa [rawInt] using hQ
theorem pX{Q:Option Value->Shared->Prop}(hit:s.heap.IsKeyIter it d i es.size ep)(hod:s.heap.get? d=some ob)(hdd:ob.data=.dict es ep)(he:es[i]?=some e)
  (hQ:∀h',h'.IsKeyIter it d (i+1) es.size ep->Heap.SameBut it s.heap h'->Q (some e.key) {s with heap:=h'}):wpAny (model prog w) A (pyNext (.ref it)) Q E s:=by
 obtain⟨o,ho,hc,hd⟩:=id hit
 unfold pyNext
 refine wpAny_bind (wpAny_attempt (wpAny_callSpecial?_slot (name:=Str.ofString "__next__") hit.typeIs F.slot_dict_keyiterator_next
  (wpAny_call_entry F.slot_dict_keyiterator_next hit.typeIs F.entry_dict_keyiterator_next ?_ (F.args_dict_keyiterator_next_1 _))))
 refine wpAny_bind (wpAny_pure (wpAny_bind (wpAny_bind ?_)))
 first|refine wpAny_bind (wpAny_typeNameOfWhole_keyiter hit.typeIs (wpAny_pure ?_))|refine wpAny_bind (wpAny_typeNameOf_keyiter hit.typeIs (wpAny_pure ?_))
 refine wpAny_bind (wpAny_fieldsOf ho hd ?_)
 simp only[show Builtin.Dict_items.ownsTuple "dict_keyiterator"=false by decide,Bool.false_eq_true,if_false]
 show wpAny _ _ (if (Value.ref d == Value.none)=true then _ else _) _ _ s
 rw[if_neg (show ¬ ((Value.ref d == Value.none)=true) from Bool.false_ne_true)]
 refine wpAny_bind (wpAny_pure (wpAny_bind (wpAny_dictEntries hod hdd ?_)))
 rw[if_neg (by simp)]
 refine wpAny_bind (wpAny_pure (wpAny_bind (wpAny_dictEpoch hod hdd ?_)))
 rw[if_neg (by simp)]
 refine wpAny_pure ?_
 simp only[show ¬ ((i:Int) < 0) from by omega,if_false,Int.toNat_natCast,he]
 refine wpAny_bind ?_
 first|refine wpAny_bind (wpAny_typeNameOfWhole_keyiter hit.typeIs (wpAny_pure ?_))|refine wpAny_bind (wpAny_typeNameOf_keyiter hit.typeIs (wpAny_pure ?_))
 refine wpAny_bind (wpAny_isOneOf_keyiter hit.typeIs ?_)
 show wpAny _ _ (setField (.ref it) 1 (rawInt ((i:Int)+1)) >>=_) _ _ s
 refine wpAny_bind (wpAny_setField ho hd (by simp) ?_)
 have hit':(s.heap.update it (Obj.mapFields (·.setIfInBounds 1 (rawInt ((i:Int)+1))))).IsKeyIter it d (i+1) es.size ep:=
  ⟨_,Heap.get?_update_self _ ho (Obj.isFreed_of_fields (Obj.data_mapFields hd _)),(Obj.cls_mapFields ..).trans hc,by rw[Obj.data_mapFields hd];simp[rawInt]⟩
 refine wpAny_bind (wpAny_holding ?_)
 refine wpAny_bind (wpAny_isOneOf_keyiter (s:={s with heap:=s.heap.update it (Obj.mapFields (·.setIfInBounds 1 (rawInt ((i:Int)+1))))}) hit'.typeIs ?_)
 show wpAny _ _ (pure e.key) _ _ _
 exact wpAny_pure (wpAny_pure ⟨_,rfl,wpAny_pure (hQ _ hit' (Heap.SameBut.update ..))⟩)
theorem oU{Q:Option Value->Shared->Prop}(hh:A.handled=none)(hit:s.heap.IsKeyIter it d i es.size ep)(hod:s.heap.get? d=some ob)(hdd:ob.data=.dict es ep)(he:es.size<=i)
  (hQ:∀h',Heap.ExtBut it s.heap h'->Q none {s with heap:=h'}):wpAny (model prog w) A (pyNext (.ref it)) Q E s:=by
 obtain⟨o,ho,hc,hd⟩:=id hit
 unfold pyNext
 refine wpAny_bind (wpAny_attempt (wpAny_callSpecial?_slot (name:=Str.ofString "__next__") hit.typeIs F.slot_dict_keyiterator_next
  (wpAny_call_entry F.slot_dict_keyiterator_next hit.typeIs F.entry_dict_keyiterator_next ?_ (F.args_dict_keyiterator_next_1 _))))
 refine wpAny_bind (wpAny_pure (wpAny_bind (wpAny_bind ?_)))
 first|refine wpAny_bind (wpAny_typeNameOfWhole_keyiter hit.typeIs (wpAny_pure ?_))|refine wpAny_bind (wpAny_typeNameOf_keyiter hit.typeIs (wpAny_pure ?_))
 refine wpAny_bind (wpAny_fieldsOf ho hd ?_)
 simp only[show Builtin.Dict_items.ownsTuple "dict_keyiterator"=false by decide,Bool.false_eq_true,if_false]
 show wpAny _ _ (if (Value.ref d == Value.none)=true then _ else _) _ _ s
 rw[if_neg (show ¬ ((Value.ref d == Value.none)=true) from Bool.false_ne_true)]
 refine wpAny_bind (wpAny_pure (wpAny_bind (wpAny_dictEntries hod hdd ?_)))
 rw[if_neg (by simp)]
 refine wpAny_bind (wpAny_pure (wpAny_bind (wpAny_dictEpoch hod hdd ?_)))
 rw[if_neg (by simp)]
 refine wpAny_pure ?_
 simp only[show ¬ ((i:Int) < 0) from by omega,if_false,Int.toNat_natCast,Array.getElem?_eq_none he]
 refine wpAny_bind ?_
 first|refine wpAny_bind (wpAny_typeNameOfWhole_keyiter hit.typeIs (wpAny_pure ?_))|refine wpAny_bind (wpAny_typeNameOf_keyiter hit.typeIs (wpAny_pure ?_))
 show wpAny _ _ (setField (.ref it) 0 .none >>=_) _ _ s
 refine wpAny_bind (wpAny_setField ho hd (by simp) ?_)
 show wpAny _ _ (newExc (.type "StopIteration") [] >>=_) _ _ _
 refine wpAny_bind ?_
 simp only[newExc,newTuple]
 refine wpAny_bind (wpAny_newObj_type ?_ (by size_fits))
 refine wpAny_bind (m:=firstArgMember _ _) (wpAny_of_eq (a:=Value.none) (by first|rfl|(simp only[firstArgMember];rfl)) ?_)
 refine wpAny_newObj_type ?_ (by size_fits)
 simp only[raiseNew]
 refine wpAny_bind (wpAny_handled ?_)
 rw[show A.in1.handled=none from hh]
 refine wpAny_bind (wpAny_pure (wpAny_throw ?_))
 refine wpAny_bind (wpAny_isInstance (T:="StopIteration") (b:=true) ⟨_,Heap.get?_push_size _ rfl,rfl⟩ isSubtype_stop ?_)
 exact wpAny_pure (hQ _ (((Heap.SameBut.update ..).extBut.push _).push _))
theorem ny(hh:A.handled=none)(I d:Addr)(hne:d≠I)(hd:ob.data=.dict es ep) :
  Walks prog w A I [I,d] [I] es.size (fun i v=>∃e,es[i]?=some e/\v=e.key) (fun i h=>h.IsKeyIter I d i es.size ep/\h.get? d=some ob) where
 sub:=fun b hb=>by simp at hb;simp[hb]
 frame:=fun _ _ _ st hk=>⟨st.1.at fun o e=>hk I (by simp) o e,hk d (by simp) _ st.2⟩
 item:=fun i s Q E hi st hQ=>by
  have he:es[i]?=some es[i]:=by simp[hi]
  refine pX st.1 st.2 hd he fun h' hit' hs'=>?_
  exact hQ _ h' s.toks ⟨_,he,rfl⟩ ⟨hit',hs'.extBut d ob hne st.2⟩ fun b o hb e=>hs'.extBut b o (fun h=>hb (by simp[h])) e
 done:=fun s Q E st hQ=>oU hh st.1 st.2 hd (Nat.le_refl _) fun h' he'=>hQ h' s.toks fun b o hb e=>he' b o (fun h=>hb (by simp[h])) e
 self:=fun _ _ _ _ st hQ=>wpAny_pyIter_keyiter st.1 hQ
theorem nK(lo:(d == sysModules)=false)(hx:ob.ExactDict)(hd:ob.data=.dict es ep):KdlSrc prog w "dict" d d es.size (fun i v=>∃e,es[i]?=some e/\v=e.key) (fun h=>h.get? d=some ob) where
 type:=fun _ hm=>⟨_,hm,hx.1⟩
 there:=fun _ hm=>⟨Heap.lt_size hm,Heap.lt_size hm⟩
 keep:=fun _ _ hm hk=>hk d (.inl rfl) _ hm
 notList:=by decide
 notTuple:=by decide
 hint:=fun _ _ _ _ hm hq=>kdl_hint_dict ⟨_,hm,hx.1⟩ hq
 iter:=fun _ _ hh hm=>⟨_,_,(fun _ _ hq=>Bf lo hm hx hd hq),ny hh _ d (Nat.ne_of_lt (Heap.lt_size hm)) hd,⟨⟨_,Heap.get?_push_size _ rfl,rfl,rfl⟩,Heap.get?_push_of_some _ hm⟩⟩
end
end L2
namespace L2
open PySem PySem.Spec PyProof.Rows
section
variable {X:Cx}
theorem sj(neg:Bool):VO X (compareOp (if neg=true then .IsNot else .Is)) (kF neg):=by
 intro pins s σ H x y v u v2 u2 M Q Q2 I rv ru dx dy rm q back
 unfold kF at q
 split at q
 ·cases (show u=.non from dy)
  cases neg with
  |true=>exact VO.of3 r8 pins s σ H x .non v .non v2 u2 M Q Q2 I rv ru dx dy rm ⟨rfl,by rw[Bool.true_xor]at q;exact q⟩ back
  |false=>exact VO.of3 EM pins s σ H x .non v .non v2 u2 M Q Q2 I rv ru dx dy rm ⟨rfl,by rw[Bool.false_xor]at q;exact q⟩ back
 ·rename_i b
  cases (show u=.bl b from dy)
  cases ru
  have fin:∀k,Q (.bl k) M->EP X pins σ Q2 (.bool k) s:=fun k q=>⟨.bl k,H,I,rfl,back _ _ _ _ aX rm (.refl _) q⟩
  split at q
  ·rename_i a
   cases (show v=.bl a from dx)
   cases rv
   have e:((Value.bool a == Value.bool b):Bool)=(a == b):=by cases a<;>cases b<;>rfl
   cases neg with
   |true=>exact wpAny_isNot_plain rfl (by rw[e];rw[Bool.true_xor]at q;exact fin _ q)
   |false=>exact wpAny_is_plain rfl (by rw[e];rw[Bool.false_xor]at q;exact fin _ q)
  ·cases (show v=.non from dx)
   cases rv
   cases neg with
   |true=>exact wpAny_isNot_other rfl (fun z=>nomatch z) (fin _ q)
   |false=>exact wpAny_is_other rfl (fun z=>nomatch z) (fin _ q)
  ·exact q.elim
 ·exact q.elim
theorem nP{β:Type}{R:D->β->Prop}{e:β->Bool}{f:D->Bool}:∀{ds:List D}{us:List β},Paired R ds us->(∀d u,d∈ds->R d u->e u=f d)->us.any e=ds.any f
 |_,_,.nil,_=>rfl
 |d::ds,u::us,.cons r t,h=>by
  rw[List.any_cons,List.any_cons,h d u List.mem_cons_self r,nP t fun d u hd=>h d u (List.mem_cons_of_mem _ hd)]
theorem iQ{K:PySem.W.Frag}{H:Hp}:∀{ds:List D}{vs:List V}{us:List Value},DenL K H ds vs->Vals vs us->Paired (fun d u=>∃v,Den K H d v/\RelV v u) ds us
 |[],_,_,h,r=>by cases (show _=[] from h);cases r;exact .nil
 |d::ds,_,_,h,r=>by
  obtain⟨v,r',rfl,dv,dl⟩:=h
  cases r with
  |cons r1 r2=>exact .cons ⟨v,dv,r1⟩ (iQ dl r2)
theorem Paired.mem_right{α β:Type}{R:α->β->Prop}:∀{l:List α}{m:List β},Paired R l m->∀b∈m,∃a∈l,R a b
 |_,_,.nil,b,hb=>by cases hb
 |a::l,c::m,.cons r t,b,hb=>by
  rcases List.mem_cons.mp hb with rfl|hb
  ·exact⟨a,List.mem_cons_self,r⟩
  ·obtain⟨a',h1,h2⟩:=Paired.mem_right t b hb
   exact⟨a',List.mem_cons_of_mem _ h1,h2⟩
theorem sL(hu:X.A.units+64 < cLine)(neg:Bool):VO X (compareOp (if neg=true then .NotIn else .In)) (ka neg):=by
 intro pins s σ H x y v u v2 u2 M Q Q2 I rv ru dx dy rm q back
 unfold ka at q
 split at q
 ·rename_i ds eds
  obtain⟨p1,p2,q⟩:=q
  obtain⟨p,vs,rfl,hq,dl⟩:=eY rm eds dy
  cases ru
  obtain⟨H',I',t',d1⟩:=pR I rm dx p1
  have dl':=dl.mono t'
  have fin:EP X pins σ Q2 (.bool (neg ^^ ds.any fun d=>eqD d (res M x))) s:=⟨.bl _,H,I,rfl,back _ _ _ _ aX rm (.refl _) q⟩
  classical
  have key:∀{its:List Value},Vals vs its->∃e:Value->Bool,its.any e=(ds.any fun d=>eqD d (res M x))/\∀w∈its,SeqAt.EqAt X.A.in1 s w v2 (e w):=fun {its} r=>by
   have pd:=iQ dl' r
   let e:Value->Bool:=fun w=>if h:∃d∈ds,∃v,Den X.K H' d v/\RelV v w then eqD h.choose (res M x) else false
   have he:∀d w,d∈ds->(∃v,Den X.K H' d v/\RelV v w)->e w=eqD d (res M x):=fun d w hd ⟨v',dv,rw'⟩=>by
    have h:∃d∈ds,∃v,Den X.K H' d v/\RelV v w:=⟨d,hd,v',dv,rw'⟩
    obtain⟨hm,v'',dv2,rw2⟩:=h.choose_spec
    have:v''=v':=rw2.inj rw'
    subst this
    have e1:h.choose=d:=mf I' rfl 8 (List.all_eq_true.mp p2 _ hm) (List.all_eq_true.mp p2 _ hd) dv2 dv
    show (if h:∃d∈ds,∃v,Den X.K H' d v/\RelV v w then eqD h.choose (res M x) else false)=_
    rw[dif_pos h,e1]
   refine⟨e,nP pd he,fun w hw=>?_⟩
   obtain⟨d,hd,v',dv,rw'⟩:=Paired.mem_right pd w hw
   rw[he d w hd ⟨v',dv,rw'⟩]
   exact (Bi I' rfl 8 (A:=X.A.in1) (List.all_eq_true.mp p2 _ hd) p1 dv d1 rw' rv (by show X.A.units+1+8 < cLine;omega)).2.2
  rcases hq with hq|hq
  ·obtain⟨its,r,pl',hz⟩:=I.list hq
   obtain⟨e,e1,e2⟩:=key r
   have ea:its.toArray.any e=ds.any fun d=>eqD d (res M x):=by rw[<-e1];simp
   cases neg with
   |true=>exact SeqAt.notIn_listAt e pl'.isList (fun w hw=>e2 w (by simpa using hw)) (by rw[ea];rw[Bool.true_xor]at fin;exact fin)
   |false=>exact SeqAt.in_listAt e pl'.isList (fun w hw=>e2 w (by simpa using hw)) (by rw[ea];rw[Bool.false_xor]at fin;exact fin)
  ·obtain⟨its,r,pl',hz⟩:=I.tuple hq
   obtain⟨e,e1,e2⟩:=key r
   have ea:its.toArray.any e=ds.any fun d=>eqD d (res M x):=by rw[<-e1];simp
   cases neg with
   |true=>exact SeqAt.notIn_tupleAt e pl' (fun w hw=>e2 w (by simpa using hw)) (by rw[ea];rw[Bool.true_xor]at fin;exact fin)
   |false=>exact SeqAt.in_tupleAt e pl' (fun w hw=>e2 w (by simpa using hw)) (by rw[ea];rw[Bool.false_xor]at fin;exact fin)
 ·split at q
  ·rename_i o e
   obtain⟨a,ov,rfl,g,od⟩:=eQ (X:=X) e rm dy dx
   cases ru
   refine Fw neg (by omega) I g rv fun s' I'=>⟨.bl (neg ^^ ov.isSome),H,I',rfl,back _ _ (.bl _) _ aX rm (.refl _) ?_⟩
   have:o.isSome=ov.isSome:=by
    cases o<;>cases ov<;>first|rfl|exact od.elim
   rw[<-this];exact q
  ·split at q
   ·rename_i i j _ _
    cases (show v=.str i from dx)
    cases (show u=.str j from dy)
    cases neg with
    |false=>exact mE pins s σ H _ _ v2 u2 Q2 I rv ru ⟨i,j,rfl,rfl,back _ _ (.bl _) _ aX rm (.refl _) (by rw[Bool.false_xor]at q;exact q)⟩
    |true=>exact jM pins s σ H _ _ v2 u2 Q2 I rv ru ⟨i,j,rfl,rfl,back _ _ (.bl _) _ aX rm (.refl _) (by rw[Bool.true_xor]at q;exact q)⟩
   ·exact q.elim
theorem cX(hu:X.A.units+64 < cLine)(op:CmpOp):VO X (compareOp op) (am op):=by
 cases op with
 |Eq=>exact so hu false
 |NotEq=>exact so hu true
 |Lt=>exact (VO.of3 F1).imp fun _ _ _ _ h=>fg h
 |LtE=>exact (VO.of3 FZ).imp fun _ _ _ _ h=>fg h
 |Gt=>exact (VO.of3 FO).imp fun _ _ _ _ h=>fg h
 |GtE=>exact (VO.of3 F8).imp fun _ _ _ _ h=>fg h
 |Is=>exact sj false
 |IsNot=>exact sj true
 |In=>exact sL hu false
 |NotIn=>exact sL hu true
theorem g7{K:PySem.W.Frag}{H:Hp}{d:D}{vs:List V}(h:DenL K H [d] vs):∃v,vs=[v]/\Den K H d v:=by
 obtain⟨v,r,rfl,dv,rfl⟩:=h;exact⟨v,rfl,dv⟩
noncomputable def rLen0(xs:List D)(M:MH)(Q:VK3):Prop:=match xs with
  |[x]=>match aw M x with
   |some ds=>Q (.int ds.length) M
   |none=>False
  |_=>False
theorem se:VC X (.builtin "len") rLen0:=(VC.of3 yA).imp fun xs M Q h=>by
 simp only[rLen0]at h
 split at h
 ·rename_i x
  split at h
  ·rename_i ds e
   refine⟨x,ds,rfl,?_,h⟩
   cases x with
   |tup es=>exact .inr (by rw[show es=ds from Option.some.inj e])
   |rol es=>exact .inl (.inl (by rw[show es=ds from Option.some.inj e]))
   |ref a=>
    cases q:M a with
    |none=>simp[aw,aj,q]at e
    |some o=>
     cases o with
     |lst es=>exact .inl (.inr ⟨a,rfl,by rw[q];simp[aw,aj,q]at e;rw[e]⟩)
     |_=>simp[aw,aj,q]at e
   |_=>cases e
  ·exact h.elim
 ·exact h.elim
theorem l9{pins:List (Addr×Obj)}{σ:St}{H:Hp}{s:Shared}{p:Addr}{ks:List (List Int)}{xs:List (List Int×Addr×Value)}{vs:List V}(I:Inv X pins σ H s)(e:Rd H p (.ext (cN p xs)))(z:TabOk X.K H p ks xs vs) :
  ∃ob es ep,s.heap.get? p=some ob/\ob.ExactDict/\ob.data=.dict es ep/\es.toList=(xs.map fun x=>(⟨tH x.1,.ref x.2.1,x.2.2⟩:DictEntry))/\es.size=ks.length:=by
 obtain⟨⟨ob,es,ep,h1,h2,h3,h4⟩,_⟩:=(show ObjOk X.prog X.w H s.heap p (.ext (cN p xs)) from e.ok I.hok)
 refine⟨ob,es,ep,h1,h2,h3,h4,?_⟩
 have:=congrArg List.length h4
 have l3:xs.length=ks.length:=by rw[<-z.kx];simp
 simp at this
 omega
theorem vy:VC X (.builtin "len") (rBi .len):=by
 intro pins s σ H xs vs us M Q Q2 I rs dl rm q back
 by_cases h:rLen0 xs M Q
 ·exact se pins s σ H xs vs us M Q Q2 I rs dl rm h back
 ·simp only[rBi]at q
  split at q
  ·rename_i x
   split at q
   ·rename_i ds e
    exact absurd (by simp only[rLen0,e];exact q) h
   ·split at q
    ·rename_i ks ds e
     obtain⟨v,rfl,dv⟩:=g7 dl
     obtain⟨p,ws,ts,rfl,rd,z,_⟩:=eD e rm dv
     obtain⟨ob,es,ep,h1,h2,h3,h4,h5⟩:=l9 I rd z
     obtain⟨u,rfl,rx⟩:=fM rs
     cases rx
     refine EJ z.no h1 h2 h3 (by have:=z.sz;have:=sizeLine_eq;omega) ⟨.int es.size,H,I.tok _,⟨_,rfl⟩,?_⟩
     rw[h5]
     exact back _ _ _ _ dn rm (.refl _) q
    ·split at q
     ·rename_i z _ _
      obtain⟨v,rfl,dv⟩:=g7 dl
      cases (show v=.str z from dv)
      exact jh pins s σ H _ us Q2 I rs ⟨z,rfl,q.1,back _ _ _ _ dn rm (.refl _) q.2⟩
     ·exact q.elim
  ·exact q.elim
theorem tS(hc:X.calm=true):VC X (.builtin "max") (rBi .max):=(VC.of3 (Ay hc)).imp fun xs M Q h=>by
 simp only[rBi]at h
 split at h
 ·exact⟨_,_,rfl,h⟩
 ·exact h.elim
theorem iO{K:PySem.W.Frag}{H:Hp}:∀ks:List Int,DenL K H (ks.map D.int) (ks.map V.int)
 |[]=>rfl
 |k::r=>⟨_,_,rfl,rfl,iO r⟩
theorem kE{K:PySem.W.Frag}{H:Hp}:∀{ts:List (List Int×Addr×Value)},(∀x∈ts,SqT K H x.2.1 (x.1.map V.int))->DenL K H ((ts.map (·.1)).map wR) (ts.map fun x=>V.ref x.2.1)
 |[],_=>rfl
 |x::r,h=>⟨_,_,rfl,lQ (h x List.mem_cons_self) (iO _),kE fun y hy=>h y (List.mem_cons_of_mem _ hy)⟩
theorem iR:∀ts:List (List Int×Addr×Value),Vals (ts.map fun x=>V.ref x.2.1) (ts.map fun x=>Value.ref x.2.1)
 |[]=>.nil
 |x::r=>.cons rfl (iR r)
theorem qM(fz:Bool)(hc:X.calm=true):VC X (.type "list") (rBi (.list fz)):=by
 intro pins s σ H xs vs us M Q Q2 I r dl rm q back
 simp only[rBi]at q
 split at q
 ·rename_i x
  split at q
  ·rename_i ds e
   obtain⟨v,rfl,dv⟩:=g7 dl
   obtain⟨p,vs,rfl,hq,dl2⟩:=eY rm e dv
   refine thn (jz pins s σ H _ us (fun w H'=>∃l,w=.ref l/\H l=none/\H'=upd H l (.lst vs)) I r ⟨p,vs,rfl,hq,fun l hl=>⟨l,rfl,hl,rfl⟩⟩) fun u s1 ⟨w,H1,I1,r1,l,e1,hl,e2⟩=>?_
   subst e1;subst e2
   cases r1
   exact bA I1 hl dl2 rm (.refl _) q back
  ·split at q
   ·rename_i ks ds e
    obtain⟨v,rfl,dv⟩:=g7 dl
    obtain⟨p,ws,ts,rfl,rd,z,_⟩:=eD e rm dv
    obtain⟨ob,es,ep,h1,h2,h3,h4,h5⟩:=l9 I rd z
    obtain⟨u,rfl,rx⟩:=fM r
    cases rx
    have hz:es.size<=sizeLine:=by have:=z.sz;omega
    refine PySem.W.kdl_call (nK z.no h2 h3) (I.ok.hd hc) h1 hz fun h' tk acc' c' kp e hi=>?_
    have hp:H s.heap.objs.size=none:=I.hok.fresh (Nat.le_refl _)
    have ea:acc'.toList=ts.map fun x=>Value.ref x.2.1:=by
     refine List.ext_getElem? fun j=>?_
     by_cases hj:j < acc'.size
     ·have e1:acc'[j]?=some acc'[j]:=by simp[hj]
      obtain⟨en,e2,e3⟩:=hi.2 j _ e1
      have e4:es.toList[j]?=some en:=by simpa using e2
      rw[h4,List.getElem?_map]at e4
      cases hx:ts[j]? with
      |none=>rw[hx]at e4;cases e4
      |some x=>
       rw[hx]at e4
       cases e4
       rw[Array.getElem?_toList,e1,e3,List.getElem?_map,hx]
       rfl
     ·have h6:=hi.1
      have h7:ts.length=es.size:=by
       have:=congrArg List.length h4
       simpa using this.symm
      rw[List.getElem?_eq_none (by simpa using hj),List.getElem?_eq_none (by rw[List.length_map];omega)]
    have hv:Vals (ts.map fun x=>V.ref x.2.1) acc'.toList:=by rw[ea];exact iR ts
    have I1:=I.laid (a:=s.heap.objs.size) (o:=.lst (ts.map fun x=>V.ref x.2.1)) (t':=tk) kp (Nat.le_refl _) ⟨by rw[hv.length,ea,List.length_map];have:=z.sz;rw[<-z.kx,List.length_map]at this;exact this,acc'.toList,c',hv,by simpa using e⟩
    exact bA I1 hp (by rw[<-z.kx];exact kE z.at_) rm (.refl _) q back
   ·exact q.elim
 ·exact q.elim
end
end L2
namespace L2
open PySem PySem.Spec PyProof.Rows PySem.W
theorem Lv.at{h:Heap}:∀{vs:List Value}{ps:List (List Int)},Lv h vs ps->∀v∈vs,∃t o,v=.ref t/\h.get? t=some o
 |[],_,_,v,m=>nomatch m
 |v::vs,_,e,u,m=>by
  obtain⟨p,r,rfl,⟨t,n,ws,rfl,g,c⟩,z⟩:=e
  rcases List.mem_cons.mp m with rfl|m
  ·exact⟨t,_,rfl,g⟩
  ·exact z.at u m
end L2
namespace L2
open PySem PySem.Spec PyProof.Rows
theorem ex9{α β γ δ:Sort _}{P1 P2 P3 P4 P5:α->β->γ->δ->Prop}{R:Prop}(h:∃a b c d,P1 a b c d/\P2 a b c d/\P3 a b c d/\P4 a b c d/\P5 a b c d)(k:∀a b c d,P1 a b c d->P2 a b c d->P3 a b c d->P4 a b c d->P5 a b c d->R):R:=
 h.elim fun a h=>h.elim fun b h=>h.elim fun c h=>h.elim fun d h=>k a b c d h.1 h.2.1 h.2.2.1 h.2.2.2.1 h.2.2.2.2
noncomputable def Eo(K:PySem.W.Frag)(r:D->D->MH->VK3->Prop):R2:=fun v u H Q2=>∃x y M Q,Den K H x v/\Den K H y u/\RelM K M H/\r x y M Q/\Back K H Q Q2
noncomputable def E8(K:PySem.W.Frag)(r:D->MH->VK3->Prop):V->Hp->VK->Prop:=fun v H Q2=>∃x M Q,Den K H x v/\RelM K M H/\r x M Q/\Back K H Q Q2
noncomputable def Fx(K:PySem.W.Frag)(r:List D->MH->VK3->Prop):List V->Hp->VK->Prop:=fun vs H Q2=>∃xs M Q,DenL K H xs vs/\RelM K M H/\r xs M Q/\Back K H Q Q2
section
variable {X:Cx}
theorem VO.op{f:Value->Value->Sem Value}{r:D->D->MH->VK3->Prop}(h:VO X f r):OpR X f (Eo X.K r):=fun pins s σ H v u v2 u2 Q2 I rv ru ⟨x,y,M,Q,dx,dy,rm,q,back⟩=>h pins s σ H x y v u v2 u2 M Q Q2 I rv ru dx dy rm q back
theorem VU.op{f:Value->Sem Value}{r:D->MH->VK3->Prop}(h:VU X f r):UnR X f (E8 X.K r):=fun pins s σ H v v2 Q2 I rv ⟨x,M,Q,dx,rm,q,back⟩=>h pins s σ H x v v2 M Q Q2 I rv dx rm q back
theorem VC.op{f:Value}{r:List D->MH->VK3->Prop}(h:VC X f r):CallR X f (Fx X.K r):=fun pins s σ H vs us Q2 I rv ⟨xs,M,Q,dx,rm,q,back⟩=>h pins s σ H xs vs us M Q Q2 I rv dx rm q back
end
section
variable {K:PySem.W.Frag}{cls:Nat->Addr}{E2:St->XK}{σ:St}{H:Hp}{σ3:St3}{M:MH}{E3:XN}
theorem jg{ta tb:St3->MH->VK3->XN->Prop}{R3:D->D->MH->Prop}{R2:V->V->Hp->Prop}(rm:RelM K M H)(ds:DenS K H σ3 σ)(lk:LkE K cls H E3 (E2 σ))
  (h:ta σ3 M (fun x M1=>tb σ3 M1 (fun y M2=>R3 x y M2) E3) E3) (k:∀v u H' x y M',Den K H' x v->Den K H' y u->RelM K M' H'->TM K H H'->R3 x y M'->R2 v u H') :
  low K cls E2 ta σ H fun v H1=>low K cls E2 tb σ H1 fun u H2=>R2 v u H2:=
 ⟨σ3,M,_,E3,rm,ds,lk,h,fun v H1 x M1 dv rm1 t1 h1=>⟨σ3,M1,_,E3,rm1,ds.mono t1,lk.mono t1,h1,fun u H2 y M2 du rm2 t2 h2=>k v u H2 x y M2 (dv.mono t2) du rm2 (t1.trans t2) h2⟩⟩
theorem aS{ta:St3->MH->VK3->XN->Prop}{R3:VK3}{R2:VK}(rm:RelM K M H)(ds:DenS K H σ3 σ)(lk:LkE K cls H E3 (E2 σ))(h:ta σ3 M R3 E3)(k:∀v H' x M',Den K H' x v->RelM K M' H'->TM K H H'->R3 x M'->R2 v H') :
  low K cls E2 ta σ H R2:=⟨σ3,M,R3,E3,rm,ds,lk,h,k⟩
end
section
variable {X:Cx}{cls:Nat->Addr}{E2:St->XK}{a b c e:Expr}{ta tb tc te:St3->MH->VK3->XN->Prop}{pos:Pos}
theorem yB{i:Nat}{x:Str}(hN:X.N[i]?=some x)(hv:Vis X.env.scope x)(hd:(x == ("__debug__" : Str))=false)(hcd:(x == ("__classdict__" : Str))=false) :
  PE X (.Name x pos) (low X.K cls E2 fun σ M Q _=>match σ[i]? with|some (some d)=>Q d M|_=>False):=
 (uC hN hv hd hcd).imp fun σ H Q2 hl_=>ex9 hl_ fun σ3 M Q E3 rm ds lk h back=>by
  try dsimp only at h
  split at h
  ·rename_i d e
   obtain⟨v,e1,e2⟩:=ds.2 i d e
   exact⟨v,e1,back _ _ _ _ e2 rm (.refl _) h⟩
  ·exact h.elim
theorem kJ{v:V}{d:D}(h:PE X e (tC v))(hd:∀H,Den X.K H d v):PE X e (low X.K cls E2 fun _ M Q _=>Q d M):=
 h.imp fun σ H Q2 hl_=>ex9 hl_ fun σ3 M Q E3 rm ds lk h back=>back _ _ _ _ (hd H) rm (.refl _) h
theorem xx{op:Operator}{r:D->D->MH->VK3->Prop}(ho:VO X (binaryOp op) r)(ha:PE X a (low X.K cls E2 ta))(hb:PE X b (low X.K cls E2 tb)) :
  PE X (.BinOp a op b pos) (low X.K cls E2 fun σ M Q E=>ta σ M (fun x M1=>tb σ M1 (fun y M2=>r x y M2 Q) E) E):=
 (AD ho.op ha hb).imp fun σ H Q2 hl_=>ex9 hl_ fun σ3 M Q E3 rm ds lk h back=>jg rm ds lk h fun v u H' x y M' dx dy rm' t q=>⟨x,y,M',Q,dx,dy,rm',q,back.mono t⟩
theorem EY{op:UnaryOp}{r:D->MH->VK3->Prop}(ho:VU X (unaryOp op) r)(ha:PE X a (low X.K cls E2 ta)) :
  PE X (.UnaryOp op a pos) (low X.K cls E2 fun σ M Q E=>ta σ M (fun x M1=>r x M1 Q) E):=
 (yE ho.op ha).imp fun σ H Q2 hl_=>ex9 hl_ fun σ3 M Q E3 rm ds lk h back=>aS rm ds lk h fun v H' x M' dx rm' t q=>⟨x,M',Q,dx,rm',q,back.mono t⟩
theorem Bw{op:CmpOp}{r:D->D->MH->VK3->Prop}(ho:VO X (compareOp op) r)(ha:PE X a (low X.K cls E2 ta))(hb:PE X b (low X.K cls E2 tb))(hm:behindInMarks op b=false) :
  PE X (.Compare a [op] [b] pos) (low X.K cls E2 fun σ M Q E=>ta σ M (fun x M1=>tb σ M1 (fun y M2=>r x y M2 Q) E) E):=
 (qV ho.op ha hb hm).imp fun σ H Q2 hl_=>ex9 hl_ fun σ3 M Q E3 rm ds lk h back=>jg rm ds lk h fun v u H' x y M' dx dy rm' t q=>⟨x,y,M',Q,dx,dy,rm',q,back.mono t⟩
noncomputable abbrev boolQ(Q:Bool->MH->Prop):VK3:=fun r M=>match r with
 |.bl k=>Q k M
 |_=>False
theorem dj{K:PySem.W.Frag}{H:Hp}{Q:Bool->MH->Prop}{Q2:Bool->Hp->Prop}(k:∀b H' M',RelM K M' H'->TM K H H'->Q b M'->Q2 b H'):Back K H (boolQ Q) fun x H1=>∃k,x=.bl k/\Q2 k H1:=fun v H' d M' dv rm t q=>by
 unfold boolQ at q
 split at q
 ·exact⟨_,dv,k _ _ _ rm t q⟩
 ·exact q.elim
theorem yD{op:CmpOp}{r:D->D->MH->VK3->Prop}(ho:VO X (compareOp op) r)(ha:PE X a (low X.K cls E2 ta))(hb:PE X b (low X.K cls E2 tb))(hm:behindInMarks op b=false) :
  PT X (.Compare a [op] [b] pos) (bW X.K cls E2 fun σ M Q E=>ta σ M (fun x M1=>tb σ M1 (fun y M2=>r x y M2 (boolQ Q)) E) E):=
 (qa ho.op ha hb hm).imp fun σ H Q2 hl_=>ex9 hl_ fun σ3 M Q E3 rm ds lk h back=>jg rm ds lk h fun v u H' x y M' dx dy rm' t q=>⟨x,y,M',_,dx,dy,rm',q,(dj back).mono t⟩
theorem zU(ha:PE X a (low X.K cls E2 ta))(he:∀whole,isTrue a X.env whole=(do let v<-whole;standAt a.pos;holding [v] (truthy v))):PT X a (bW X.K cls E2 fun σ M Q E=>ta σ M (boolQ Q) E):=
 (u5 ha he).imp fun σ H Q2 hl_=>ex9 hl_ fun σ3 M Q E3 rm ds lk h back=>aS rm ds lk h fun v H' x M' dx rm' t q=>dj back v H' x M' dx rm' t q
variable {tA tB:St3->MH->(Bool->MH->Prop)->XN->Prop}{av:List Expr}
theorem gK{K:PySem.W.Frag}{σ:St}{H:Hp}{σ3:St3}{M:MH}{E3:XN}{R3:Bool->MH->Prop}{R2:Bool->Hp->Prop}(rm:RelM K M H)(ds:DenS K H σ3 σ)(lk:LkE K cls H E3 (E2 σ))(h:tA σ3 M R3 E3)(k:∀b H' M',RelM K M' H'->TM K H H'->R3 b M'->R2 b H') :
  bW K cls E2 tA σ H R2:=⟨σ3,M,R3,E3,rm,ds,lk,h,k⟩
theorem l5(ha:PT X a (bW X.K cls E2 tA)):PW X (.BoolOp .And [a] pos) (bW X.K cls E2 tA):=rj ha
theorem pe(ha:PT X a (bW X.K cls E2 tA)):PW X (.BoolOp .Or [a] pos) (bW X.K cls E2 tA):=um ha
theorem lO(ha:PT X a (bW X.K cls E2 tA))(hb:PW X (.BoolOp .And (b::av) pos) (bW X.K cls E2 tB)) :
  PW X (.BoolOp .And (a::b::av) pos) (bW X.K cls E2 fun σ M Q E=>tA σ M (fun c M1=>if c=true then tB σ M1 Q E else Q false M1) E):=
 (vm ha hb).imp fun σ H Q2 hl_=>ex9 hl_ fun σ3 M Q E3 rm ds lk h back=>gK rm ds lk h fun c H' M' rm' t q=>by
  cases c with
  |true=>rw[if_pos rfl]at q ⊢;exact gK rm' (ds.mono t) (lk.mono t) q fun b H2 M2 r2 t2 q2=>back b H2 M2 r2 (t.trans t2) q2
  |false=>rw[if_neg Bool.false_ne_true]at q ⊢;exact back _ _ _ rm' t q
theorem qE(ha:PT X a (bW X.K cls E2 tA))(hb:PW X (.BoolOp .Or (b::av) pos) (bW X.K cls E2 tB)) :
  PW X (.BoolOp .Or (a::b::av) pos) (bW X.K cls E2 fun σ M Q E=>tA σ M (fun c M1=>if c=true then Q true M1 else tB σ M1 Q E) E):=
 (zG ha hb).imp fun σ H Q2 hl_=>ex9 hl_ fun σ3 M Q E3 rm ds lk h back=>gK rm ds lk h fun c H' M' rm' t q=>by
  cases c with
  |true=>rw[if_pos rfl]at q ⊢;exact back _ _ _ rm' t q
  |false=>rw[if_neg Bool.false_ne_true]at q ⊢;exact gK rm' (ds.mono t) (lk.mono t) q fun b H2 M2 r2 t2 q2=>back b H2 M2 r2 (t.trans t2) q2
theorem yT(ha:PT X a (bW X.K cls E2 tA)):PT X (.UnaryOp .Not a pos) (bW X.K cls E2 fun σ M Q E=>tA σ M (fun c M1=>Q (!c) M1) E):=
 (vY ha).imp fun σ H Q2 hl_=>ex9 hl_ fun σ3 M Q E3 rm ds lk h back=>gK rm ds lk h fun c H' M' rm' t q=>back _ _ _ rm' t q
theorem sw(ha:PE X a (low X.K cls E2 ta))(hb:PE X (.BoolOp .And (b::av) pos) (low X.K cls E2 tb)) :
  PE X (.BoolOp .And (a::b::av) pos) (low X.K cls E2 fun σ M Q E=>ta σ M (fun x M1=>match x with|.bl c=>if c=true then tb σ M1 Q E else Q (.bl false) M1|_=>False) E):=
 (t7 ha hb).imp fun σ H Q2 hl_=>ex9 hl_ fun σ3 M Q E3 rm ds lk h back=>aS rm ds lk h fun v H' x M' dx rm' t q=>by
  split at q
  ·rename_i c
   cases (show v=.bl c from dx)
   refine⟨c,rfl,?_⟩
   cases c with
   |true=>rw[if_pos rfl]at q ⊢;exact aS rm' (ds.mono t) (lk.mono t) q fun v2 H2 x2 M2 d2 r2 t2 q2=>back v2 H2 x2 M2 d2 r2 (t.trans t2) q2
   |false=>rw[if_neg Bool.false_ne_true]at q ⊢;exact back _ _ _ _ aX rm' t q
  ·exact q.elim
theorem yJ(ha:PE X a (low X.K cls E2 ta))(hb:PE X (.BoolOp .Or (b::av) pos) (low X.K cls E2 tb)) :
  PE X (.BoolOp .Or (a::b::av) pos) (low X.K cls E2 fun σ M Q E=>ta σ M (fun x M1=>match x with|.bl c=>if c=true then Q (.bl true) M1 else tb σ M1 Q E|_=>False) E):=
 (An ha hb).imp fun σ H Q2 hl_=>ex9 hl_ fun σ3 M Q E3 rm ds lk h back=>aS rm ds lk h fun v H' x M' dx rm' t q=>by
  split at q
  ·rename_i c
   cases (show v=.bl c from dx)
   refine⟨c,rfl,?_⟩
   cases c with
   |true=>rw[if_pos rfl]at q ⊢;exact back _ _ _ _ aX rm' t q
   |false=>rw[if_neg Bool.false_ne_true]at q ⊢;exact aS rm' (ds.mono t) (lk.mono t) q fun v2 H2 x2 M2 d2 r2 t2 q2=>back v2 H2 x2 M2 d2 r2 (t.trans t2) q2
  ·exact q.elim
theorem Ba(ha:PE X a (low X.K cls E2 ta)):PE X (.UnaryOp .Not a pos) (low X.K cls E2 fun σ M Q E=>ta σ M (fun x M1=>match x with|.bl c=>Q (.bl (!c)) M1|_=>False) E):=
 (wl ha).imp fun σ H Q2 hl_=>ex9 hl_ fun σ3 M Q E3 rm ds lk h back=>aS rm ds lk h fun v H' x M' dx rm' t q=>by
  split at q
  ·rename_i c
   cases (show v=.bl c from dx)
   exact⟨c,rfl,back _ _ _ _ aX rm' t q⟩
  ·exact q.elim
theorem F9(hc:PT X c (bW X.K cls E2 tA))(ha:PE X a (low X.K cls E2 ta))(hb:PE X b (low X.K cls E2 tb)) :
  PE X (.IfExp c a b pos) (low X.K cls E2 fun σ M Q E=>tA σ M (fun k M1=>if k=true then ta σ M1 Q E else tb σ M1 Q E) E):=
 (oX hc ha hb).imp fun σ H Q2 hl_=>ex9 hl_ fun σ3 M Q E3 rm ds lk h back=>gK rm ds lk h fun k H' M' rm' t q=>by
  cases k with
  |true=>rw[if_pos rfl]at q ⊢;exact aS rm' (ds.mono t) (lk.mono t) q fun v2 H2 x2 M2 d2 r2 t2 q2=>back v2 H2 x2 M2 d2 r2 (t.trans t2) q2
  |false=>rw[if_neg Bool.false_ne_true]at q ⊢;exact aS rm' (ds.mono t) (lk.mono t) q fun v2 H2 x2 M2 d2 r2 t2 q2=>back v2 H2 x2 M2 d2 r2 (t.trans t2) q2
theorem rf{op op':CmpOp}{r r':D->D->MH->VK3->Prop}(ho:VO X (compareOp op) r)(ho':VO X (compareOp op') r')(ha:PE X a (low X.K cls E2 ta))(hb:PE X b (low X.K cls E2 tb))(hc:PE X c (low X.K cls E2 tc))(hm:lastMarks [op,op'] [b,c]=false) :
  PE X (.Compare a [op,op'] [b,c] pos) (low X.K cls E2 fun σ M Q E=>ta σ M (fun x M1=>tb σ M1 (fun y M2=>r x y M2 fun z M3=>match z with
   |.bl k=>if k=true then tc σ M3 (fun z M4=>r' y z M4 Q) E else Q (.bl false) M3
   |_=>False) E) E):=
 (oP ho.op ho'.op ha hb hc hm).imp fun σ H Q2 hl_=>ex9 hl_ fun σ3 M Q E3 rm ds lk h back=>jg rm ds lk h fun v u H' x y M' dx dy rm' t q=>⟨x,y,M',_,dx,dy,rm',q,fun w H1 z M1 dz rm1 t1 q1=>by
  split at q1
  ·rename_i k
   refine⟨k,dz,?_⟩
   cases k with
   |true=>rw[if_pos rfl]at q1 ⊢;exact aS rm1 ((ds.mono t).mono t1) ((lk.mono t).mono t1) q1 fun v2 H2 x2 M2 d2 r2 t2 q2=>⟨y,x2,M2,Q,(dy.mono t1).mono t2,d2,r2,q2,(back.mono t).mono (t1.trans t2)⟩
   |false=>rw[if_neg Bool.false_ne_true]at q1 ⊢;exact back _ _ _ _ aX rm1 (t.trans t1) q1
  ·exact q1.elim⟩
theorem qT{op op':CmpOp}{r r':D->D->MH->VK3->Prop}(ho:VO X (compareOp op) r)(ho':VO X (compareOp op') r')(ha:PE X a (low X.K cls E2 ta))(hb:PE X b (low X.K cls E2 tb))(hc:PE X c (low X.K cls E2 tc))(hm:lastMarks [op,op'] [b,c]=false) :
  PT X (.Compare a [op,op'] [b,c] pos) (bW X.K cls E2 fun σ M Q E=>ta σ M (fun x M1=>tb σ M1 (fun y M2=>r x y M2 fun z M3=>match z with
   |.bl k=>if k=true then tc σ M3 (fun z M4=>r' y z M4 (boolQ Q)) E else Q false M3
   |_=>False) E) E):=
 (oS ho.op ho'.op ha hb hc hm).imp fun σ H Q2 hl_=>ex9 hl_ fun σ3 M Q E3 rm ds lk h back=>jg rm ds lk h fun v u H' x y M' dx dy rm' t q=>⟨x,y,M',_,dx,dy,rm',q,fun w H1 z M1 dz rm1 t1 q1=>by
  split at q1
  ·rename_i k
   refine⟨k,dz,?_⟩
   cases k with
   |true=>rw[if_pos rfl]at q1 ⊢;exact aS rm1 ((ds.mono t).mono t1) ((lk.mono t).mono t1) q1 fun v2 H2 x2 M2 d2 r2 t2 q2=>⟨y,x2,M2,_,(dy.mono t1).mono t2,d2,r2,q2,((dj back).mono t).mono (t1.trans t2)⟩
   |false=>rw[if_neg Bool.false_ne_true]at q1 ⊢;exact⟨false,rfl,back _ _ _ rm1 (t.trans t1) q1⟩
  ·exact q1.elim⟩
noncomputable def qH(r r' r'':R2)(ta tb tc td:TE):TE:=fun σ H Q=>ta σ H fun x H1=>tb σ H1 fun y H2=>r x y H2 fun z H3=>∃k,z=.bl k/\
 (if k=true then tc σ H3 (fun w H4=>r' y w H4 fun z2 H5=>∃k2,z2=.bl k2/\(if k2=true then td σ H5 fun u H6=>r'' w u H6 Q else Q (.bl false) H5)) else Q (.bl false) H3)
theorem mV{a b c d:Expr}{ta tb tc td:TE}{op op' op'':CmpOp}{r r' r'':R2}(ho:OpR X (compareOp op) r)(ho':OpR X (compareOp op') r')(ho'':OpR X (compareOp op'') r'')(ha:PE X a ta)(hb:PE X b tb)(hc:PE X c tc)(hd:PE X d td)
  (hm:lastMarks [op,op',op''] [b,c,d]=false):PT X (.Compare a [op,op',op''] [b,c,d] pos) (pk (qH r r' r'' ta tb tc td)):=by
 intro pins s σ H Q I h
 refine isTrue_chain (thn (ha pins s σ H _ I h) fun v s1 ⟨x,H1,I1,r1,q1⟩=>test_link (thn (hb pins s1 σ H1 _ I1 q1) fun u s2 ⟨y,H2,I2,r2,q2⟩=>
  thn (ho pins s2 σ H2 x y v u _ I2 r1 r2 q2) fun d s3 ⟨z,H3,I3,r3,k,e,q3⟩=>?_)) hm
 subst e
 cases r3
 refine wpAny_truthy_bool ?_
 cases k with
 |false=>
  obtain⟨k',e',q'⟩:=q3
  cases e'
  exact ite_ff ⟨H3,I3,q'⟩
 |true=>
  refine ite_tt (test_link (thn (hc pins s3 σ H3 _ I3 q3) fun w' s4 ⟨z',H4,I4,r4,q4⟩=>thn (ho' pins s4 σ H4 y z' u w' _ I4 r2 r4 q4) fun d' s5 ⟨z2,H5,I5,r5,k2,e2,q5⟩=>?_))
  subst e2
  cases r5
  refine wpAny_truthy_bool ?_
  cases k2 with
  |false=>
   obtain⟨k',e',q'⟩:=q5
   cases e'
   exact ite_ff ⟨H5,I5,q'⟩
  |true=>
   refine ite_tt (test_last (thn (hd pins s5 σ H5 _ I5 q5) fun w2 s6 ⟨z3,H6,I6,r6,q6⟩=>thn (ho'' pins s6 σ H6 z' z3 w' w2 _ I6 r4 r6 q6) fun d2 s7 ⟨z4,H7,I7,r7,k3,e3,q7⟩=>?_))
   subst e3
   cases r7
   exact wpAny_truthy_bool ⟨H7,I7,q7⟩
theorem pO{d:Expr}{td:St3->MH->VK3->XN->Prop}{op op' op'':CmpOp}{r r' r'':D->D->MH->VK3->Prop}(ho:VO X (compareOp op) r)(ho':VO X (compareOp op') r')(ho'':VO X (compareOp op'') r'')(ha:PE X a (low X.K cls E2 ta))(hb:PE X b (low X.K cls E2 tb))(hc:PE X c (low X.K cls E2 tc))(hd:PE X d (low X.K cls E2 td))(hm:lastMarks [op,op',op''] [b,c,d]=false) :
  PT X (.Compare a [op,op',op''] [b,c,d] pos) (bW X.K cls E2 fun σ M Q E=>ta σ M (fun x M1=>tb σ M1 (fun y M2=>r x y M2 fun z M3=>match z with
   |.bl k=>if k=true then tc σ M3 (fun z M4=>r' y z M4 fun o M5=>match o with
    |.bl k=>if k=true then td σ M5 (fun u M6=>r'' z u M6 (boolQ Q)) E else Q false M5
    |_=>False) E else Q false M3
   |_=>False) E) E):=
 (mV ho.op ho'.op ho''.op ha hb hc hd hm).imp fun σ H Q2 hl_=>ex9 hl_ fun σ3 M Q E3 rm ds lk h back=>jg rm ds lk h fun v u H' x y M' dx dy rm' t q=>⟨x,y,M',_,dx,dy,rm',q,fun w H1 z M1 dz rm1 t1 q1=>by
  split at q1
  ·rename_i k
   refine⟨k,dz,?_⟩
   cases k with
   |true=>
    rw[if_pos rfl]at q1 ⊢
    refine aS rm1 ((ds.mono t).mono t1) ((lk.mono t).mono t1) q1 fun v2 H2 x2 M2 d2 r2 t2 q2=>⟨y,x2,M2,_,(dy.mono t1).mono t2,d2,r2,q2,fun w3 H3 z3 M3 dz3 rm3 t3 q3=>?_⟩
    split at q3
    ·rename_i k
     refine⟨k,dz3,?_⟩
     cases k with
     |true=>
      rw[if_pos rfl]at q3 ⊢
      exact aS rm3 ((((ds.mono t).mono t1).mono t2).mono t3) ((((lk.mono t).mono t1).mono t2).mono t3) q3 fun v4 H4 x4 M4 d4 r4 t4 q4=>⟨x2,x4,M4,_,(d2.mono t3).mono t4,d4,r4,q4,(((dj back).mono t).mono (t1.trans t2)).mono (t3.trans t4)⟩
     |false=>rw[if_neg Bool.false_ne_true]at q3 ⊢;exact⟨false,rfl,back _ _ _ rm3 (((t.trans t1).trans t2).trans t3) q3⟩
    ·exact q3.elim
   |false=>rw[if_neg Bool.false_ne_true]at q1 ⊢;exact⟨false,rfl,back _ _ _ rm1 (t.trans t1) q1⟩
  ·exact q1.elim⟩
variable {es:List Expr}{tr:St3->MH->(List D->MH->Prop)->XN->Prop}
theorem da{K:PySem.W.Frag}{σ:St}{H:Hp}{σ3:St3}{M:MH}{E3:XN}{R3:List D->MH->Prop}{R2:List V->Hp->Prop}(rm:RelM K M H)(ds:DenS K H σ3 σ)(lk:LkE K cls H E3 (E2 σ))(h:tr σ3 M R3 E3)(k:∀vs H' xs M',DenL K H' xs vs->RelM K M' H'->TM K H H'->R3 xs M'->R2 vs H') :
  cU K cls E2 tr σ H R2:=⟨σ3,M,R3,E3,rm,ds,lk,h,k⟩
theorem BH:PA X [] (cU X.K cls E2 fun _ M Q _=>Q [] M):=pa_nil.imp fun σ H Q2 hl_=>ex9 hl_ fun σ3 M Q E3 rm ds lk h back=>back _ _ _ _ .nil rm (.refl _) h
theorem u0(ha:PE X e (low X.K cls E2 te))(hr:PA X es (cU X.K cls E2 tr))(hs:starEach (e::es) X.env=(false,eval e X.env)::starEach es X.env) :
  PA X (e::es) (cU X.K cls E2 fun σ M Q E=>te σ M (fun x M1=>tr σ M1 (fun xs M2=>Q (x::xs) M2) E) E):=
 (aK ha hr hs).imp fun σ H Q2 hl_=>ex9 hl_ fun σ3 M Q E3 rm ds lk h back=>aS rm ds lk h fun v H1 x M1 dx rm1 t1 q1=>da rm1 (ds.mono t1) (lk.mono t1) q1 fun vs H2 xs M2 dl rm2 t2 q2=>back _ _ _ _ (.cons (dx.mono t2) dl) rm2 (t1.trans t2) q2
theorem zQ{x1}(h:PA X es (cU X.K cls E2 tr)):PE X (.Tuple es x1 pos) (low X.K cls E2 fun σ M Q E=>tr σ M (fun xs M1=>xs.length<=sizeLine/\Q (.tup xs) M1) E):=
 (wE h).imp fun σ H Q2 hl_=>ex9 hl_ fun σ3 M Q E3 rm ds lk h back=>da rm ds lk h fun vs H' xs M' dl rm' t ⟨z,q⟩=>⟨by rw[<-dl.length];exact z,fun p hp=>
  back _ _ _ _ (lQ (.of ai) (dl.mono (.new hp))) (rm'.grow hp) (t.trans (.new hp)) q⟩
theorem AJ{t2:TE}(h:PE X e t2){t:St3->MH->VK3->XN->Prop}{fz:Bool}
  (f:∀σ H σ3 M Q E3 (R2:VK),RelM X.K M H->DenS X.K H σ3 σ->LkE X.K cls H E3 (E2 σ)->t σ3 M Q E3->(∀H' vs ds M' p,H' p=none->DenL X.K H' ds vs->RelM X.K M' H'->TM X.K H H'->be fz ds M' Q->R2 (.ref p) (upd H' p (.lst vs)))->t2 σ H R2):PE X e (low X.K cls E2 t):=by
 refine fun pins s σ H Q2 I hl_=>ex9 hl_ fun σ3 M Q E3 rm ds lk q back=>?_
 refine thn (h pins s σ H (fun v H1=>∃p H' vs ds M',v=.ref p/\H1=upd H' p (.lst vs)/\H' p=none/\DenL X.K H' ds vs/\RelM X.K M' H'/\TM X.K H H'/\be fz ds M' Q) I
  (f σ H σ3 M Q E3 _ rm ds lk q fun H' vs ds M' p hp dl rm' t' n=>⟨p,H',vs,ds,M',rfl,rfl,hp,dl,rm',t',n⟩)) fun u s1 ⟨v,H1,I1,r1,p,H',vs,ds',M',e1,e2,hp,dl,rm',t',n⟩=>?_
 subst e1;subst e2
 cases r1
 exact bA I1 hp dl rm' t' n back
theorem Ac{fz:Bool}(h:PA X es (cU X.K cls E2 tr)):PE X (.List es pos) (low X.K cls E2 fun σ M Q E=>tr σ M (fun xs M1=>be fz xs M1 Q) E):=
 AJ (fz:=fz) (wb h) fun σ H σ3 M Q E3 R2 rm ds lk q k=>da rm ds lk q fun vs H' xs M' dl rm' t n=>⟨by rw[<-dl.length];exact n.1,fun p hp=>k H' vs xs M' p hp dl rm' t n⟩
theorem vz(hu:X.A.units+64 < cLine):IxR X (fun v u H Q2=>∃x y M Q,Den X.K H x v/\Den X.K H y u/\RelM X.K M H/\ax x y M Q/\Back X.K H Q Q2):=by
 intro value slice pins s σ H v u v2 u2 Q2 I rv ru ⟨x,y,M,Q,dx,dy,rm,q,back⟩ hs
 unfold ax at q
 split at q
 ·rename_i es e
  split at q
  ·rename_i i
   cases (show u=.int i from dy)
   split at q
   ·rename_i d e2
    obtain⟨p,vs,rfl,hq,dl⟩:=eY rm e dx
    obtain⟨w,e4,e5⟩:=qz dl e2
    refine wW value slice pins s σ H _ _ v2 u2 Q2 I rv ru ?_ hs
    rcases hq with hq|hq
    ·exact .inl ⟨p,vs,i,w,rfl,rfl,hq,e4,back _ _ _ _ e5 rm (.refl _) q⟩
    ·exact .inr (.inl ⟨p,vs,i,w,rfl,rfl,hq,e4,back _ _ _ _ e5 rm (.refl _) q⟩)
   ·exact q.elim
  ·exact q.elim
 ·split at q
  ·rename_i d e
   obtain⟨a,ov,rfl,g,od⟩:=eQ (X:=X) e rm dx dy
   cases rv
   cases ov with
   |none=>exact od.elim
   |some w=>exact tail_any (g.isDict I) PySem.F.slot_dict_getitem.lookup (nn (by omega) I g rfl ru fun w' s' I' rw'=>⟨w,H,I',rw',back _ _ _ _ od rm (.refl _) q⟩) hs
  ·exact q.elim
  ·split at q
   ·rename_i z i _ _
    cases (show v=.str z from dx)
    cases (show u=.int i from dy)
    obtain⟨t,rfl⟩:=rv
    obtain⟨t',rfl⟩:=ru
    obtain⟨⟨h0,h1,h63⟩,q⟩:=q
    have e:seqIndex? i z.length=some i.toNat:=PySem.StrLaws.seqIndex_nonneg h0 h1
    have hz:i.toNat < z.cps.size:=by
     have:(i:Int) < (z.cps.size:Int):=h1
     omega
    have hc:z.cps[i.toNat]?=some (z.cps.getD i.toNat 0):=by simp[hz]
    exact tail_any (typeIs_str s z t) slot_str_getitem.lookup (getItem_str (c:=z.cps.getD i.toNat 0) (by
     rw[decide_eq_false (by omega:¬ i < -(2 ^ 63:Int)),decide_eq_false (by omega:¬ i>=2 ^ 63)];rfl) (by rw[e];exact hc) ⟨.str (pS z i.toNat),H,I.tok _,⟨_,rfl⟩,back _ _ _ _ f6 rm (.refl _) q⟩) hs
   ·exact q.elim
theorem Es(hu:X.A.units+64 < cLine)(ha:PE X a (low X.K cls E2 ta))(hb:PE X b (low X.K cls E2 tb))(hs:jx b):PE X (.Subscript a b pos) (low X.K cls E2 fun σ M Q E=>ta σ M (fun x M1=>tb σ M1 (fun y M2=>ax x y M2 Q) E) E):=
 (B6 (vz hu) ha hb hs).imp fun σ H Q2 hl_=>ex9 hl_ fun σ3 M Q E3 rm ds lk h back=>jg rm ds lk h fun v u H' x y M' dx dy rm' t q=>⟨x,y,M',Q,dx,dy,rm',q,back.mono t⟩
variable {lo hi:Option Expr}{tl th:St3->MH->(Option Int->MH->Prop)->XN->Prop}{p2:Pos}
theorem Fn:PO X none (m7 X.K cls E2 fun _ M Q _=>Q none M):=po_none.imp fun σ H Q2 hl_=>ex9 hl_ fun σ3 M Q E3 rm ds lk h back=>back _ _ _ rm (.refl _) h
theorem zx(h:PE X e (low X.K cls E2 te)):PO X (some e) (m7 X.K cls E2 fun σ M Q E=>te σ M (fun x M1=>match x with|.int i=>Q (some i) M1|_=>False) E):=
 (rE h).imp fun σ H Q2 hl_=>ex9 hl_ fun σ3 M Q E3 rm ds lk h back=>aS rm ds lk h fun v H1 x M1 dx rm1 t1 q1=>by
  split at q1
  ·exact⟨_,dx,back _ _ _ rm1 t1 q1⟩
  ·exact q1.elim
theorem sg{t:St3->MH->(Option Int->MH->Prop)->XN->Prop}{K:PySem.W.Frag}{σ:St}{H:Hp}{σ3:St3}{M:MH}{E3:XN}{R3:Option Int->MH->Prop}{R2:Option Int->Hp->Prop}(rm:RelM K M H)(ds:DenS K H σ3 σ)(lk:LkE K cls H E3 (E2 σ))(h:t σ3 M R3 E3)(k:∀o H' M',RelM K M' H'->TM K H H'->R3 o M'->R2 o H') :
  m7 K cls E2 t σ H R2:=⟨σ3,M,R3,E3,rm,ds,lk,h,k⟩
theorem zj{fz:Bool}(ha:PE X a (low X.K cls E2 ta))(hb:PE X b (low X.K cls E2 tb)) :
  PE X (.BinOp a .Add b pos) (low X.K cls E2 fun σ M Q E=>ta σ M (fun x M1=>tb σ M1 (fun y M2=>cA fz x y M2 Q) E) E):=xx (uJ fz) ha hb
theorem BX(h:PE X e (low X.K cls E2 te)):PE X e (low X.K cls E2 fun σ M Q E=>te σ M (aW Q) E):=by
 refine fun pins s σ H Q2 I hl_=>ex9 hl_ fun σ3 M Q E3 rm ds lk q back=>?_
 refine thn (h pins s σ H (fun v H1=>∃d M1,Den X.K H1 d v/\RelM X.K M1 H1/\TM X.K H H1/\aW Q d M1) I ⟨σ3,M,_,E3,rm,ds,lk,q,fun v H' d M' a b c e=>⟨d,M',a,b,c,e⟩⟩) fun u s1 ⟨v,H1,I1,r1,d,M1,dv,rm1,t1,q1⟩=>?_
 obtain⟨H2,M2,d2,I2,t2,rm2,dv2,q2⟩:=jA I1 rm1 dv q1
 exact⟨v,H2,I2,r1,back _ _ _ _ dv2 rm2 (t1.trans t2) q2⟩
theorem uL(h:PE X e (low X.K cls E2 te)):PE X e (low X.K cls E2 fun σ M Q E=>te σ M (dR Q) E):=by
 refine fun pins s σ H Q2 I hl_=>ex9 hl_ fun σ3 M Q E3 rm ds lk q back=>?_
 refine thn (h pins s σ H (fun v H1=>∃d M1,Den X.K H1 d v/\RelM X.K M1 H1/\TM X.K H H1/\dR Q d M1) I ⟨σ3,M,_,E3,rm,ds,lk,q,fun v H' d M' a b c e=>⟨d,M',a,b,c,e⟩⟩) fun u s1 ⟨v,H1,I1,r1,d,M1,dv,rm1,t1,q1⟩=>?_
 have q1:aW Q d M1:=by
  unfold dR at q1
  split at q1
  ·split at q1
   ·rename_i a ds' e
    simp only[aW,e];exact q1
   ·exact q1.elim
  ·exact q1.elim
 obtain⟨H2,M2,d2,I2,t2,rm2,dv2,q2⟩:=jA I1 rm1 dv q1
 exact⟨v,H2,I2,r1,back _ _ _ _ dv2 rm2 (t1.trans t2) q2⟩
end
end L2
namespace L2
open PySem PySem.Spec PyProof.Rows
theorem pH{P:Program}{w:World}{K:PySem.W.Frag}{outer:List Env}{H:Hp}{s:Shared}{E:XK}{e:Value}{s':Shared}(h:CX1 P w outer H s (fun c d H'=>TM K H H'->E c d H') e s'):CX1 P w outer H s E e s':=by
 obtain⟨a,cls,B,H',dx,h1,h2,h3,un,hok,fl,ha,inc,he⟩:=h
 exact⟨a,cls,B,H',dx,h1,h2,h3,un,hok,fl,ha,inc,he (.un un.tups un.frzs)⟩
section
variable {X:Cx}{cls:Nat->Addr}{E2:St->XK}{k:Nat}{f:Addr}{fd:FuncData}{ps:List Str}{x:Str}{p pos:Pos}{e:Expr}{es:List Expr}{tr:St3->MH->(List D->MH->Prop)->XN->Prop}{t3:List D->MH->VK3->XN->Prop}
noncomputable def spX(K:PySem.W.Frag)(cls:Nat->Addr)(t3:List D->MH->VK3->XN->Prop):Sp:=fun vs H Q E=>∃ds M Q3 E3,DenL K H ds vs/\RelM K M H/\t3 ds M Q3 E3/\Back K H Q3 Q/\LkE K cls H E3 E
theorem eU{sp:Sp}{pins:List (Addr×Obj)}{σ:St}{H:Hp}{s:Shared}{Q:VK}{us:List Value}{vs:List V}(F:FnOk X.prog X.w X.K X.mg X.base (CX1 X.prog X.w) k f fd ps sp)(hr:Room k X.A)(hb:Binds X.K fd ps [])(hx:aL (CX1 X.prog X.w) X E2)
  (I:Inv X pins σ H s) (r:Vals vs us) (h:sp vs H Q (fun c d H'=>TM X.K H H'->E2 σ c d H')):wpAny (model X.prog X.w) X.A (call (.ref f) us) (EP X pins σ Q) X.xe s:=by
 have hl:(us++([]:List Value)).length=ps.length:=by rw[List.append_nil];exact r.length.symm.trans (F.len _ _ _ _ h)
 have hb':=hb s us I.kIn hl
 rw[List.append_nil]at hb'
 refine wpAny_call (codeAny_mono (F.run X.A X.stack s H ⟨us,[]⟩ us vs Q _ hr I.env0 hb' r h) fun z s' hq=>?_)
 match z,hq with
 |.error e,hq=>exact hx pins σ H s e s' I (pH hq)
 |.ok (.ret u),hq=>exact I.after hq
 |.ok .next,hq=>exact hq.elim
 |.ok .brk,hq=>exact hq.elim
 |.ok .cont,hq=>exact hq.elim
theorem g8{σ:St}{H:Hp}{xs:List D}{vs:List V}{M:MH}{Q:VK3}{Q2:VK}{E3:XN}(dl:DenL X.K H xs vs)(rm:RelM X.K M H)(lk:LkE X.K cls H E3 (E2 σ))(q:t3 xs M Q E3)(back:Back X.K H Q Q2) :
  spX X.K cls t3 vs H Q2 (fun c d H'=>TM X.K H H'->E2 σ c d H'):=
 ⟨xs,M,Q,E3,dl,rm,q,back,fun i M' H' t rm' q dx xd _=>lk i M' H' t rm' q dx xd⟩
theorem yc(F:FnOk X.prog X.w X.K X.mg X.base (CX1 X.prog X.w) k f fd ps (spX X.K cls t3))(hr:Room k X.A)(hg:Gl X x)(hm:X.mg x=some (.ref f))(hk:PySem.W.keepIn X.K (.ref f)=true)(hb:Binds X.K fd ps [])(hx:aL (CX1 X.prog X.w) X E2)
  (ha:PA X (e::es) (cU X.K cls E2 tr)) (hdb:(x == ("__debug__" : Str))=false) (he:starEach (e::es) X.env=(false,eval e X.env)::starEach es X.env) (hpl:(backTo pos (starEach es X.env)).any (·.1)=false) :
  PE X (.Call (.Name x p) (e::es) [] pos) (low X.K cls E2 fun σ M Q E=>tr σ M (fun xs M1=>t3 xs M1 Q E) E):=fun pins s σ H Q2 I hl_=>ex9 hl_ fun σ3 M Q E3 rm ds lk h back=>
 wpAny_Call_Name_kw (bF I hg hm (PySem.W.callWith_K (h₀:=X.base) I.ok.mod.kin hk (thn (ha pos pins s σ H _ I (da (R2:=fun vs H1=>spX X.K cls t3 vs H1 Q2 (fun c d H'=>TM X.K H1 H'->E2 σ c d H')) rm ds lk h
  fun vs H1 xs M1 dl rm1 t1 q1=>g8 dl rm1 (lk.mono t1) q1 (back.mono t1))) fun us s1 ⟨vs,H1,I1,r,q⟩=>⟨I1.kIn,eU F hr hb hx I1 r q⟩) he hpl) hdb)
theorem qq(F:FnOk X.prog X.w X.K X.mg X.base (CX1 X.prog X.w) k f fd ps (spX X.K cls t3))(hr:Room k X.A)(hg:Gl X x)(hm:X.mg x=some (.ref f))(hk:PySem.W.keepIn X.K (.ref f)=true)(hb:Binds X.K fd ps [])(hx:aL (CX1 X.prog X.w) X E2)(hdb:(x == ("__debug__" : Str))=false) :
  PE X (.Call (.Name x p) [] [] pos) (low X.K cls E2 fun σ M Q E=>t3 [] M Q E):=fun pins s σ H Q2 I hl_=>ex9 hl_ fun σ3 M Q E3 rm ds lk h back=>
 wpAny_Call_Name_kw (bF I hg hm (PySem.W.callWith_K0 I.kIn hk (eU (us:=[]) F hr hb hx I .nil (g8 (xs:=[]) .nil rm lk h back))) hdb)
theorem fV{id:String}{r:List D->MH->VK3->Prop}(hc:VC X (.builtin id) r)(hg:Gl X x)(hm:X.mg x=none)(hv:bootBuiltins x=some (.builtin id))(ha:PA X (e::es) (cU X.K cls E2 tr))(hn:x≠"__name__")(hdb:(x == ("__debug__" : Str))=false)
  (he:starEach (e::es) X.env=(false,eval e X.env)::starEach es X.env) (hpl:(backTo pos (starEach es X.env)).any (·.1)=false):PE X (.Call (.Name x p) (e::es) [] pos) (low X.K cls E2 fun σ M Q E=>tr σ M (fun xs M1=>r xs M1 Q) E):=
 (eL hc.op hg hm hv ha hn hdb he hpl).imp fun σ H Q2 hl_=>ex9 hl_ fun σ3 M Q E3 rm ds lk h back=>da rm ds lk h fun vs H1 xs M1 dl rm1 t1 q1=>⟨xs,M1,Q,dl,rm1,q1,back.mono t1⟩
theorem rq{T:String}{r:List D->MH->VK3->Prop}(hc:VC X (.type T) r)(hg:Gl X x)(hm:X.mg x=none)(hv:bootBuiltins x=some (.type T))(ha:PA X (e::es) (cU X.K cls E2 tr))(hn:x≠"__name__")(hdb:(x == ("__debug__" : Str))=false)
  (he:starEach (e::es) X.env=(false,eval e X.env)::starEach es X.env) (hpl:(backTo pos (starEach es X.env)).any (·.1)=false):PE X (.Call (.Name x p) (e::es) [] pos) (low X.K cls E2 fun σ M Q E=>tr σ M (fun xs M1=>r xs M1 Q) E):=
 (mZ hc.op hg hm hv ha hn hdb he hpl).imp fun σ H Q2 hl_=>ex9 hl_ fun σ3 M Q E3 rm ds lk h back=>da rm ds lk h fun vs H1 xs M1 dl rm1 t1 q1=>⟨xs,M1,Q,dl,rm1,q1,back.mono t1⟩
noncomputable def bQ:BT->String
 |.int=>"int"|.bool=>"bool"|.str=>"str"|.tuple=>"tuple"|.list=>"list"|.dict=>"dict"
theorem wN{pins:List (Addr×Obj)}{σ:St}{H:Hp}{s:Shared}{A:Around}{Ex:Value->Shared->Prop}{t:BT}{x:D}{v:V}{v2:Value}{M:MH}{Q:VK3}{Q2:VK}(I:Inv X pins σ H s)(rv:RelV v v2)(dx:Den X.K H x v)(rm:RelM X.K M H)(q:eG t x M Q)(back:Back X.K H Q Q2) :
  wpAny (model X.prog X.w) A (call (.builtin "isinstance") [v2,.type (bQ t)]) (EP X pins σ Q2) Ex s:=by
 have fin:∀b,Q (.bl b) M->∀tk,EP X pins σ Q2 (.bool b) {s with toks:=tk}:=fun b q tk=>⟨.bl b,H,I.tok _,rfl,back _ _ _ _ aX rm (.refl _) q⟩
 cases x with
 |non=>cases (show v=.non from dx);cases rv;cases t<;>exact PySem.W.kia_one PySem.W.kitx_none I.kIn True.intro rfl (fun z=>nomatch z) (fin _ q)
 |bl b=>cases (show v=.bl b from dx);cases rv;cases t<;>exact PySem.W.kia_one PySem.W.kitx_bool I.kIn True.intro rfl (fun z=>nomatch z) (fin _ q)
 |int i=>cases (show v=.int i from dx);obtain⟨tk,rfl⟩:=rv;cases t<;>exact PySem.W.kia_one PySem.W.kitx_int I.kIn True.intro rfl (fun z=>nomatch z) (fin _ q)
 |str i=>cases (show v=.str i from dx);obtain⟨tk,rfl⟩:=rv;cases t<;>exact PySem.W.kia_one PySem.W.kitx_str I.kIn True.intro rfl (fun z=>nomatch z) (fin _ q)
 |tup ds=>
  obtain⟨a,vs,rfl,sq,_⟩:=dx
  cases rv
  obtain⟨its,_,tt,_⟩:=I.tuple sq
  obtain⟨o,h1,h2,_⟩:=(show s.heap.IsTuple a its.toArray from tt)
  cases t<;>exact PySem.W.kia_one PySem.W.kitx_tuple I.kIn ⟨o,h1,h2⟩ rfl (fun z=>nomatch z) (fin _ q)
 |rol ds=>
  obtain⟨a,vs,rfl,sq,_⟩:=dx
  cases rv
  obtain⟨_,its,n,_,_,h1⟩:=I.rdL sq.rd
  cases t<;>exact PySem.W.kia_one PySem.W.kitx_list I.kIn ⟨_,h1,rfl⟩ rfl (fun z=>nomatch z) (fin _ q)
 |ref a=>
  cases (show v=.ref a from dx)
  cases rv
  simp only[eG]at q
  split at q
  ·rename_i ds e
   obtain⟨vs,e1,_⟩:=rm a _ e
   obtain⟨_,its,n,_,_,h1⟩:=I.rdL (.inl (.inl e1))
   cases t<;>exact PySem.W.kia_one PySem.W.kitx_list I.kIn ⟨_,h1,rfl⟩ rfl (fun z=>nomatch z) (fin _ q)
  ·rename_i ks ds e
   obtain⟨vs,e1,_,_⟩:=rm a _ e
   obtain⟨_,_,_,_,o,_,_,h1,h2,_⟩:=I.hok a _ e1
   cases t<;>exact PySem.W.kia_one PySem.W.kitx_dict I.kIn ⟨o,h1,h2.1⟩ rfl (fun z=>nomatch z) (fin _ q)
  ·rename_i ks ds e
   obtain⟨vs,xs,e1,_⟩:=rm a _ e
   obtain⟨⟨o,es,ep,h1,h2,_⟩,_⟩:=(show ObjOk X.prog X.w H s.heap a (.ext (cN a xs)) from I.hok a _ e1)
   cases t<;>exact PySem.W.kia_one PySem.W.kitx_dict I.kIn ⟨o,h1,h2.1⟩ rfl (fun z=>nomatch z) (fin _ q)
  ·exact q.elim
 |dik ks ds=>
  obtain⟨a,vs,ob,rfl,e1,_⟩:=dx
  cases rv
  obtain⟨_,_,_,ws,_,p⟩:=(show ObjOk X.prog X.w H s.heap a (.frz ob (.dK (ks.zip vs))) from I.hok a _ e1)
  obtain⟨o,es,ep,h1,h2,_⟩:=p
  cases t<;>exact PySem.W.kia_one PySem.W.kitx_dict I.kIn ⟨o,h1,h2.1⟩ rfl (fun z=>nomatch z) (fin _ q)
 |dit ks ds=>
  obtain⟨a,vs,ob,xs,rfl,e1,_⟩:=dx
  cases rv
  obtain⟨_,⟨o,es,ep,h1,h2,_⟩,_⟩:=(show ObjOk X.prog X.w H s.heap a (.frz ob (.ext (cN a xs))) from I.hok a _ e1)
  cases t<;>exact PySem.W.kia_one PySem.W.kitx_dict I.kIn ⟨o,h1,h2.1⟩ rfl (fun z=>nomatch z) (fin _ q)
 |obj i C ns ds=>exact (show False from q).elim
theorem Ch{te:St3->MH->VK3->XN->Prop}{t:BT}{p2:Pos}(ha:PE X e (low X.K cls E2 te))(hg:Gl X "isinstance")(hm:X.mg "isinstance"=none)(hg2:Gl X (bQ t))(hm2:X.mg (bQ t)=none)(hs:starEach (e::[.Name (bQ t) p2]) X.env=(false,eval e X.env)::starEach [.Name (bQ t) p2] X.env) :
  PE X (.Call (.Name "isinstance" p) [e,.Name (bQ t) p2] [] pos) (low X.K cls E2 fun σ M Q E=>te σ M (fun x M1=>eG t x M1 Q) E):=by
 have hT:PE X (.Name (bQ t) p2) (tC (.ty (bQ t))):=by
  cases t<;>exact rg hg2 hm2 (by decide +kernel) rfl
 have hc:CallR X (.builtin "isinstance") (fun vs H Q2=>∃x v M Q,vs=[v,.ty (bQ t)]/\Den X.K H x v/\RelM X.K M H/\eG t x M Q/\Back X.K H Q Q2):=by
  refine fun pins s σ H vs us Q2 I r hl_=>ex9 hl_ fun x v M Q e dx rm q back=>?_
  subst e
  obtain⟨u,w,rfl,ru,rw⟩:=Vals.two r
  cases (show w=Value.type (bQ t) from rw)
  exact wN I ru dx rm q back
 refine (eL hc hg hm (by decide +kernel) (aK ha (aK hT pa_nil (by rfl)) hs) (by decide +kernel) (by decide +kernel) hs (by rfl)).imp fun σ H Q2 hl_=>ex9 hl_ fun σ3 M Q E3 rm ds lk h back=>?_
 exact aS rm ds lk h fun v H1 x M1 dx rm1 t1 q1=>⟨x,v,M1,Q,rfl,dx,rm1,q1,back.mono t1⟩
end
section
variable {X:Cx}{cls:Nat->Addr}{E2:St->XK}{tg a b c e l:Expr}{ta tb tc te:St3->MH->VK3->XN->Prop}{pos p:Pos}
theorem uF{K:PySem.W.Frag}{H0:Hp}{p:Addr}{vs:List V}{ds:List D}(sq:SqT K H0 p vs)(dl:DenL K H0 ds vs):ItOk K H0 (Itt K p) ds (fun _=>True):=by
 refine⟨fun i H M t rm s hi=>?_,fun i H M x H' t rm s hi y=>?_,fun H M t rm s=>?_⟩
 ·have hi':i < vs.length:=by rw[<-dl.length];exact hi
  exact⟨vs,vs[i],t.t _ _ sq,by simp[hi']⟩
 ·obtain⟨e,y⟩:=y
  subst e
  obtain⟨d,e1,e2⟩:=(dl.mono t).get' (y vs (t.t _ _ sq))
  exact⟨.refl _,rm,d,e1,e2⟩
 ·exact⟨vs,t.t _ _ sq,by rw[dl.length];exact Nat.le_refl _⟩
theorem vg{K:PySem.W.Frag}{H0:Hp}{p:Addr}{vs:List V}{ds:List D}(sq:SqF K H0 p vs)(dl:DenL K H0 ds vs):ItOk K H0 (Itl K p) ds (fun _=>True):=by
 refine⟨fun i H M t rm s hi=>?_,fun i H M x H' t rm s hi y=>?_,fun H M t rm s=>?_⟩
 ·have hi':i < vs.length:=by rw[<-dl.length];exact hi
  exact⟨vs,vs[i],(t.f _ _ sq).sq,by simp[hi']⟩
 ·obtain⟨e,y⟩:=y
  subst e
  obtain⟨d,e1,e2⟩:=(dl.mono t).get' (y vs (t.f _ _ sq).sq)
  exact⟨.refl _,rm,d,e1,e2⟩
 ·exact⟨vs,(t.f _ _ sq).sq,by rw[dl.length];exact Nat.le_refl _⟩
theorem tK{K:PySem.W.Frag}{H0:Hp}{p:Addr}{ds:List D}:ItOk K H0 (Itl K p) ds (fun M=>M p=some (.lst ds)):=by
 refine⟨fun i H M t rm s hi=>?_,fun i H M x H' t rm s hi y=>?_,fun H M t rm s=>?_⟩
 ·obtain⟨vs,e,dl⟩:=rm p _ s
  have hi':i < vs.length:=by rw[<-dl.length];exact hi
  exact⟨vs,vs[i],.of e,by simp[hi']⟩
 ·obtain⟨vs,e,dl⟩:=rm p _ s
  obtain⟨e',y⟩:=y
  subst e'
  obtain⟨d,e1,e2⟩:=dl.get' (y vs (.of e))
  exact⟨.refl _,rm,d,e1,e2⟩
 ·obtain⟨vs,e,dl⟩:=rm p _ s
  exact⟨vs,.of e,by rw[dl.length];exact Nat.le_refl _⟩
theorem i3{pins:List (Addr×Obj)}{σ:St}{H:Hp}{s:Shared}{R:It->Hp->Prop}{Ex:Value->Shared->Prop}{a:Addr}{xs:List V}(I:Inv X pins σ H s)(hq:SqL X.K H a xs)(q:R (Itl X.K a) H):wpAny (model X.prog X.w) X.A (pyIter (.ref a)) (PIE X pins σ tg R) Ex s:=by
 obtain⟨its,rv,p,hz⟩:=I.list hq
 refine wpAny_pyIter_list p.isList ?_
 refine⟨s.heap.objs.size,[s.heap.objs.size],_,_,H,rfl,I.kept (t':=s.toks) fun b o e=>Heap.get?_push_of_some _ e,nr a _,⟨_,Heap.get?_push_size _ rfl,rfl,rfl⟩,fun b hb=>?_,q⟩
 have e:b=s.heap.objs.size:=by simpa using hb
 subst e
 exact I.fpOk (Nat.le_refl _) (I.hok.fresh (Nat.le_refl _))
theorem nM{pins:List (Addr×Obj)}{σ:St}{H:Hp}{s:Shared}{R:It->Hp->Prop}{Ex:Value->Shared->Prop}{a:Addr}{xs:List V}(I:Inv X pins σ H s)(hq:SqT X.K H a xs)(q:R (Itt X.K a) H):wpAny (model X.prog X.w) X.A (pyIter (.ref a)) (PIE X pins σ tg R) Ex s:=by
 obtain⟨its,rv,p,hz⟩:=I.tuple hq
 refine wpAny_pyIter_tuple (show s.heap.IsTuple a its.toArray from p) ?_
 refine⟨s.heap.objs.size,[s.heap.objs.size],_,_,H,rfl,I.kept (t':=s.toks) fun b o e=>Heap.get?_push_of_some _ e,lq a _,⟨_,Heap.get?_push_size _ rfl,rfl,rfl⟩,fun b hb=>?_,q⟩
 have e:b=s.heap.objs.size:=by simpa using hb
 subst e
 exact I.fpOk (Nat.le_refl _) (I.hok.fresh (Nat.le_refl _))
noncomputable def rL(z:Str):It:=⟨fun i _=>i < z.cps.size,fun i H x H'=>H'=H/\∃c,z.cps[i]?=some c/\x=.str ⟨#[c]⟩,fun i _=>z.cps.size<=i⟩
theorem oV{P:Program}{w:World}{K:PySem.W.Frag}{tg:Expr}(it:Addr)(z:Str)(t:Tok)(ty:String)(hty:ty = "str_ascii_iterator"\/ty = "str_iterator"):Turn P w K tg (rL z) [it] it (fun i h=>h.IsStrIter it ty z t i) where
 mem:=by simp
 obj:=fun i h st b hb=>by
  have e:b=it:=by simpa using hb
  subst e
  obtain⟨o,e,c,d⟩:=st
  exact⟨o,e,fun v z=>by rw[d]at z;cases z⟩
 keep:=fun i h h' st k=>let ⟨o,e,r⟩:=st;⟨o,k it (by simp) o e,r⟩
 item:=by
  intro X hP hw hK hc i pins s σ H E I hf st hg
  subst hP hw hK
  have hi:i < z.cps.size:=hg
  obtain⟨f0,f1,f2,f3,f4,f5⟩:=hf it (by simp)
  have hx:z.cps[i]?=some z.cps[i]:=by simp[hi]
  have fin:∀h':Heap,h'.IsStrIter it ty z t (i+1)->Heap.SameBut it s.heap h'->∃u,some (Value.str ⟨#[z.cps[i]]⟩ s.toks)=some u/\wpAny (model X.prog X.w) X.A (letOwnedTupleGo tg (.ref it) u) (fun _ s2=>∃x H',Inv X pins σ H' s2/\RelV x u/\(rL z).yld i H x H'/\s2.heap.IsStrIter it ty z t (i+1)/\∀b∈[it],H' b=none) E {s with heap:=h',toks:=s.toks+1}:=fun h' st' sb=>by
   have I1:Inv X pins σ H {s with heap:=h',toks:=s.toks+1}:=I.turned (t':=s.toks+1) (fun b o hb e=>(sb.2 b hb).trans e) f0 f1 f3 f4 f5
   obtain⟨o,e,c,d⟩:=id st'
   exact⟨_,rfl,kl (s:={s with heap:=h',toks:=s.toks+1}) e c d (by rcases hty with rfl|rfl<;>decide) ⟨.str ⟨#[z.cps[i]]⟩,H,I1,⟨_,rfl⟩,⟨rfl,_,hx,rfl⟩,st',fun b hb=>(hf b hb).1⟩⟩
  rcases hty with rfl|rfl
  ·exact wpAny_pyNext_ascii_item st hx fin
  ·exact wpAny_pyNext_wide_item st hx fin
 done:=by
  intro X hP hw hK hc i pins s σ H E I hf st hg
  subst hP hw hK
  obtain⟨f0,f1,f2,f3,f4,f5⟩:=hf it (by simp)
  have hx:z.cps[i]?=none:=by simpa using (show z.cps.size<=i from hg)
  rcases hty with rfl|rfl
  ·exact wpAny_pyNext_ascii_end (I.ok.hd hc) st hx fun h' eb=>⟨rfl,I.turned (t':=s.toks) (fun b o hb e=>eb b o hb e) f0 f1 f3 f4 f5⟩
  ·exact wpAny_pyNext_wide_end (I.ok.hd hc) st hx fun h' eb=>⟨rfl,I.turned (t':=s.toks) (fun b o hb e=>eb b o hb e) f0 f1 f3 f4 f5⟩
 self:=fun _ _ _ _ _ st h=>by
  rcases hty with rfl|rfl
  ·exact wpAny_pyIter_striter_ascii st h
  ·exact wpAny_pyIter_striter_wide st h
theorem xA{K:PySem.W.Frag}{H0:Hp}{z:Str}:ItOk K H0 (rL z) (eO z) (fun _=>True):=by
 have hl:(eO z).length=z.cps.size:=by simp[eO]
 refine⟨fun i H M t rm s hi=>by rw[hl]at hi;exact hi,fun i H M x H' t rm s hi y=>?_,fun H M t rm s=>by show z.cps.size<=_;rw[hl];exact Nat.le_refl _⟩
 obtain⟨rfl,c,hc,rfl⟩:=y
 exact⟨.refl _,rm,.str ⟨#[c]⟩,by simp[eO,hc],rfl⟩
theorem ol{X:Cx}{pins:List (Addr×Obj)}{σ:St}{H:Hp}{s:Shared}{tg:Expr}{z:Str}{t:Tok}{R:It->Hp->Prop}(I:Inv X pins σ H s)(q:R (rL z) H):wpAny (model X.prog X.w) X.A (pyIter (.str z t)) (PIE X pins σ tg R) X.xe s:=by
 have go:∀ty:String,(ty = "str_ascii_iterator"\/ty = "str_iterator")->PIE X pins σ tg R (.ref s.heap.objs.size) {s with heap:=s.heap.push {cls:=.type ty,data:=.fields #[.str z t,.int 0 0]}}:=fun ty hty=>
  ⟨s.heap.objs.size,[s.heap.objs.size],_,_,H,rfl,I.kept (t':=s.toks) (fun b o e=>Heap.get?_push_of_some _ e),oV s.heap.objs.size z t ty hty,⟨_,Heap.get?_push_size _ rfl,rfl,rfl⟩,fun b hb=>by
   have e':b=s.heap.objs.size:=by simpa using hb
   subst e'
   exact I.fpOk (Nat.le_refl _) (I.hok.fresh (Nat.le_refl _)),q⟩
 cases ha:z.cps.all (· < 128)
 ·exact wpAny_pyIter_wide ha (go _ (.inr rfl))
 ·exact wpAny_pyIter_ascii ha (go _ (.inl rfl))
theorem BE(hl:PE X l (low X.K cls E2 te)):PI X tg l (jk X.K cls E2 fun σ M R E=>te σ M (fun x M1=>match x with
  |.tup ds=>R ds (fun _=>True) M1
  |.rol ds=>R ds (fun _=>True) M1
  |.ref a=>match M1 a with
   |some (.lst ds)=>R ds (fun M=>M a=some (.lst ds)) M1
   |_=>False
  |.str z=>R (eO z) (fun _=>True) M1
  |_=>False) E):=by
 refine fun pins s σ H R2 I hl_=>ex9 hl_ fun σ3 M R E3 rm ds lk h k=>?_
 refine thn (hl pins s σ H _ I ⟨σ3,M,_,E3,rm,ds,lk,h,fun v H' d M' a b c e=>(⟨d,M',a,b,c,e⟩:(fun v H'=>∃d M',Den X.K H' d v/\RelM X.K M' H'/\TM X.K H H'/\(match d with
  |.tup ds=>R ds (fun _=>True) M'
  |.rol ds=>R ds (fun _=>True) M'
  |.ref a=>match M' a with
   |some (.lst ds)=>R ds (fun M=>M a=some (.lst ds)) M'
   |_=>False
  |.str z=>R (eO z) (fun _=>True) M'
  |_=>False)) v H')⟩) fun u s1 ⟨v,H1,I1,r1,d,M1,dv,rm1,t1,q1⟩=>?_
 split at q1
 ·obtain⟨p,vs,rfl,sq,dl⟩:=dv
  cases r1
  exact nM I1 sq (k _ _ _ _ _ (uF sq dl) rm1 t1 q1)
 ·obtain⟨p,vs,rfl,sq,dl⟩:=dv
  cases r1
  exact i3 I1 sq.sq (k _ _ _ _ _ (vg sq dl) rm1 t1 q1)
 ·rename_i a
  cases (show v=.ref a from dv)
  cases r1
  split at q1
  ·rename_i ds' e
   obtain⟨vs,e1,dl⟩:=rm1 a _ e
   exact i3 I1 (.of e1) (k _ _ _ _ _ tK rm1 t1 q1)
  ·exact q1.elim
 ·rename_i z
  cases (show v=.str z from dv)
  obtain⟨tt,rfl⟩:=r1
  exact ol I1 (k _ _ _ _ _ xA rm1 t1 q1)
 ·exact q1.elim
theorem F0(hg:Gl X "range")(hm:X.mg "range"=none)(ha:PE X a (low X.K cls E2 ta))(hs:starEach [a] X.env=[(false,eval a X.env)]):PI X tg (.Call (.Name "range" p) [a] [] pos) (jk X.K cls E2 fun σ M R E=>ta σ M (fun x M1=>match x with
  |.int j=>-(2 ^ 62)<=j/\j < 2 ^ 62/\R (rng 0 j.toNat) (fun _=>True) M1
  |_=>False) E):=
 (mW hg hm (aK ha pa_nil hs) hs).imp fun σ H R2 hl_=>ex9 hl_ fun σ3 M R E3 rm ds lk h k=>aS rm ds lk h fun v H1 x M1 dx rm1 t1 q1=>by
  split at q1
  ·rename_i j
   cases (show v=.int j from dx)
   exact⟨j,rfl,q1.1,q1.2.1,k _ _ _ _ _ uu rm1 t1 q1.2.2⟩
  ·exact q1.elim
end
end L2
namespace L2
open PySem PySem.Spec PyProof.Rows
section
variable {X:Cx}{cls:Nat->Addr}{E2:St->XK}{e:Expr}{pos p:Pos}
theorem sX{pins:List (Addr×Obj)}{σ:St}{H:Hp}{s:Shared}{A:Around}{Ex:Value->Shared->Prop}{ne:Nat}{r:Nat->Bool}{cv:Value}{x:D}{v:V}{v2:Value}{M:MH}{Q:VK3}{Q2:VK}(hX:∀i,i < ne->ExcI X.K (cls i)/\PySem.W.kitOne X.K (.ref (cls i)) cv=some (r i))
  (I:Inv X pins σ H s) (rv:RelV v v2) (dx:Den X.K H x v) (rm:RelM X.K M H) (q:ke ne cls r x M Q) (back:Back X.K H Q Q2) :
  wpAny (model X.prog X.w) A (call (.builtin "isinstance") [v2,cv]) (EP X pins σ Q2) Ex s:=by
 unfold ke at q
 split at q
 ·rename_i a
  cases (show v=.ref a from dx)
  cases rv
  split at q
  ·rename_i i w e
   obtain⟨hi,rfl,q⟩:=q
   obtain⟨h1,h2⟩:=hX i.c hi
   obtain⟨dx0,e0,_⟩:=rm a _ e
   have ho:=I.hok _ _ e0
   obtain⟨⟨o,vs,g1,g2,_⟩,_,_⟩:=ho
   exact PySem.W.kia_one (pP h1) I.kIn ⟨o,g1,g2⟩ h2 (fun z=>nomatch z) fun tk=>⟨.bl _,H,I.tok _,rfl,back _ _ _ _ aX rm (.refl _) q⟩
  ·exact q.elim
 ·exact q.elim
theorem B0{te:St3->MH->VK3->XN->Prop}{ne j:Nat}{r:Nat->Bool}{x:Str}{p2:Pos}(ha:PE X e (low X.K cls E2 te))(hg:Gl X "isinstance")(hm:X.mg "isinstance"=none)(hg2:Gl X x)(hm2:X.mg x=some (.ref (cls j)))(hdb:(x == ("__debug__" : Str))=false)
  (hX:∀i,i < ne->ExcI X.K (cls i)/\PySem.W.kitOne X.K (.ref (cls i)) (.ref (cls j))=some (r i)) (hs:starEach (e::[.Name x p2]) X.env=(false,eval e X.env)::starEach [.Name x p2] X.env) :
  PE X (.Call (.Name "isinstance" p) [e,.Name x p2] [] pos) (low X.K cls E2 fun σ M Q E=>te σ M (fun x M1=>ke ne cls r x M1 Q) E):=by
 have hT:PE X (.Name x p2) (tC (.ref (cls j))):=gf hg2 hm2 rfl hdb
 have hc:CallR X (.builtin "isinstance") (fun vs H Q2=>∃x v M Q,vs=[v,.ref (cls j)]/\Den X.K H x v/\RelM X.K M H/\ke ne cls r x M Q/\Back X.K H Q Q2):=by
  intro pins s σ H vs us Q2 I r ⟨x,v,M,Q,e,dx,rm,q,back⟩
  subst e
  obtain⟨u,w,rfl,ru,rw⟩:=Vals.two r
  cases (show w=Value.ref (cls j) from rw)
  exact sX hX I ru dx rm q back
 refine (eL hc hg hm (by decide +kernel) (aK ha (aK hT pa_nil (by rfl)) hs) (by decide +kernel) (by decide +kernel) hs (by rfl)).imp fun σ H Q2 hl_=>ex9 hl_ fun σ3 M Q E3 rm ds lk h back=>?_
 exact aS rm ds lk h fun v H1 x M1 dx rm1 t1 q1=>⟨x,v,M1,Q,rfl,dx,rm1,q1,back.mono t1⟩
end
end L2
namespace L2
open PySem PySem.Spec PyProof.Rows
section
variable {K:PySem.W.Frag}{H:Hp}
theorem dP:∀{ns:List Nat}{ds:List D}{vs:List V}{f:Nat}{d:D},DenL K H ds vs->bx f ns ds=some d->∃v,((ns.map fnm).zip vs).lookup (fnm f)=some v/\Den K H d v
 |[],_,_,_,_,_,e=>by simp[bx]at e
 |n::ns,[],_,_,_,_,e=>by simp[bx]at e
 |n::ns,d0::ds,_,f,d,dl,e=>by
  obtain⟨v,r,rfl,dv,dl⟩:=dl
  simp only[bx]at e
  by_cases z:n=f
  ·rw[if_pos z]at e;cases e;subst z
   exact⟨v,by simp[List.lookup],dv⟩
  ·rw[if_neg z]at e
   obtain⟨u,h1,h2⟩:=dP dl e
   refine⟨u,?_,h2⟩
   have nb:(fnm f == fnm n)=false:=beq_eq_false_iff_ne.mpr fun q=>z (jq q).symm
   simp[List.lookup,nb,h1]
theorem d8:∀{ns:List Nat}{ds:List D}{vs:List V}{f:Nat},DenL K H ds vs->ns.length=vs.length->bx f ns ds=none->((ns.map fnm).zip vs).lookup (fnm f)=none
 |[],_,_,_,_,_,_=>by simp
 |n::ns,[],vs,_,dl,hl,_=>by cases (show vs=[] from dl);cases hl
 |n::ns,d0::ds,_,f,dl,hl,e=>by
  obtain⟨v,r,rfl,dv,dl⟩:=dl
  simp only[bx]at e
  by_cases z:n=f
  ·rw[if_pos z]at e;cases e
  ·rw[if_neg z]at e
   have h1:=d8 dl (by simpa using hl) e
   have nb:(fnm f == fnm n)=false:=beq_eq_false_iff_ne.mpr fun q=>z (jq q).symm
   simp[List.lookup,nb,h1]
theorem km:∀{ns:List Nat}{ds:List D}{vs:List V}{f:Nat}{y:D}{u:V},DenL K H ds vs->ns.length=vs.length->Den K H y u->
  ∃ws,cB (fnm f) u ((ns.map fnm).zip vs)=((bT f ns).map fnm).zip ws/\(bT f ns).length=ws.length/\DenL K H (bS f y ns ds) ws
 |[],ds,vs,f,y,u,dl,hl,dy=>by
  cases vs with
  |nil=>exact⟨[u],rfl,rfl,by unfold bS;exact .one dy⟩
  |cons _ _=>cases hl
 |n::ns,[],vs,f,y,u,dl,hl,dy=>by cases (show vs=[] from dl);cases hl
 |n::ns,d::ds,_,f,y,u,dl,hl,dy=>by
  obtain⟨v,r,rfl,dv,dl⟩:=dl
  have hl':ns.length=r.length:=by simpa using hl
  by_cases z:n=f
  ·subst z
   refine⟨u::r,?_,?_,?_⟩
   ·simp[cB,bT]
   ·simp[bT,hl']
   ·simp only[bS,if_pos];exact .cons dy dl
  ·obtain⟨ws,h1,h2,h3⟩:=km (f:=f) (u:=u) dl hl' dy
   have nf:¬ fnm n=fnm f:=fun q=>z (jq q)
   refine⟨v::ws,?_,?_,?_⟩
   ·simp only[List.map_cons,List.zip_cons_cons,cB,if_neg nf,bT,if_neg z]
    rw[h1]
   ·simp[bT,if_neg z,h2]
   ·simp only[bS,if_neg z];exact .cons dv h3
end
theorem ln{P:Program}{w:World}{H:Hp}{h:Heap}{a C dx:Addr}{fs:List (Str×V)}(hok:HOk P w H h)(e:Rd H a (.ins C dx fs)):∃mA,ObjM h a dx C mA/\(∀f,RelO (fs.lookup f) (mA f))/\H dx=some (.own a):=by
 obtain⟨d,z,ne,ob,mA,n,r,q⟩:=(show ObjOk P w H h a (.ins C dx fs) from e.ok hok)
 exact⟨mA,⟨ob,n,ne⟩,r,d⟩
section
variable {X:Cx}{pins:List (Addr×Obj)}{σ:St}{H:Hp}{s:Shared}{a C dx:Addr}{fs:List (Str×V)}{f:Str}{v:V}{A:Around}{E:Value->Shared->Prop}
theorem pY{b:Bool}{Q:Value->Shared->Prop}(I:Inv X pins σ H s)(e:Rd H a (.ins C dx fs))(c:Cls X.K C)(n:NoAttr X.K C f)(l:fs.lookup f=some v)
  (h:∀u s',Inv X pins σ H s'->RelV v u->Q u s'):wpAny (model X.prog X.w) A (getAttr (.ref a) f b) Q E s:=by
 obtain⟨mA,O,r,_⟩:=ln I.hok e
 obtain⟨u,hu,ru⟩:=RelO.some_of (v:=v) (o:=mA f) (by rw[<-l];exact r f)
 exact qK I.kIn O (c.get f) c.hd n hu (nE ru) (h u _ (I.tok _) ru)
theorem kL{m:Str}{g:Addr}{pl:Sem Bool}{Q:Value×List Value->Shared->Prop}(I:Inv X pins σ H s)(e:Rd H a (.ins C dx fs))(c:Cls X.K C)(k:Meth X.K C m g)(l:fs.lookup m=none)
  (h:Q (.ref g,[.ref a]) s):wpAny (model X.prog X.w) A (getMethod (.ref a) m pl) Q E s:=by
 obtain⟨mA,O,r,_⟩:=ln I.hok e
 have hn:mA m=none:=RelO.none_of (by rw[<-l];exact r m)
 exact oy I.kIn O (c.get m) k.at_ k.fn hn h
end
structure ClsI (K:PySem.W.Frag) (C f:Addr):Prop where
 ga:PySem.W.specialIn K (.ref C) "__getattribute__"=some (some (.builtin "type.__getattribute__"))
 rd:PySem.W.readsIn K C (.type "type")=true
 at_:PySem.W.findCls K (.ref C) (.type "type") "__init__"=some (.val (.ref f))
structure TyI (K:PySem.W.Frag) (C:Addr):Prop where
 ha:PySem.W.findIn K (.ref C) "__class__"=some (some (.builtin "object.__class__"))
 hn:PySem.W.specialIn K (.builtin "object.__class__") "__get__"=some (some (.builtin "getset_descriptor.__get__"))
 htk:PySem.W.takesIn K (.builtin "object.__class__")=some true
 hm:PySem.W.mroIn K C (.type "object")=some true
structure KOk (K:PySem.W.Frag) (B:WB) (fad:Nat->Addr) (i:Nat):Prop where
 cl:Cls K (B.kls i)
 na:∀f,B.fok i f=true->NoAttr K (B.kls i) (fnm f)
 mt:∀m f,B.mth i m=some f->Meth K (B.kls i) (fnm m) (fad f)
 mkr:∀f,B.ini i=some f->Mk K (B.kls i) (fad f)
 ci:∀f,B.ini i=some f->ClsI K (B.kls i) (fad f)
 ty:TyI K (B.kls i)
 is:∀j,j < B.nk->PySem.W.kitOne K (.ref (B.kls i)) (.ref (B.kls j))=some (B.ksub i j)
section
variable {X:Cx}{B:WB}{fad:Nat->Addr}{cls:Nat->Addr}{E2:St->XK}{o e:Expr}{es:List Expr}{to te:St3->MH->VK3->XN->Prop}{tr:St3->MH->(List D->MH->Prop)->XN->Prop}{pos apos p:Pos}{f m:Nat}
theorem rV{K:PySem.W.Frag}{H:Hp}{x:D}{v:V}{M:MH}{Q:VK3}(hk:∀i,i < B.nk->KOk K B fad i)(dx:Den K H x v)(rm:RelM K M H)(h:dE B f x M Q) :
  ∃a C dx fs u d,v=.ref a/\Rd H a (.ins C dx fs)/\Cls K C/\NoAttr K C (fnm f)/\fs.lookup (fnm f)=some u/\Den K H d u/\Q d M:=by
 unfold dE at h
 split at h
 ·rename_i i C ns ds
  obtain⟨p,vs,ob,dx',rfl,e,hl,dl⟩:=dx
  obtain⟨⟨rfl,hi,hf⟩,h⟩:=h
  unfold gj at h
  split at h
  ·rename_i d q
   obtain⟨u,h1,h2⟩:=dP dl q
   exact⟨p,_,dx',_,u,d,rfl,.inr ⟨ob,e⟩,(hk i hi).cl,(hk i hi).na f hf,h1,h2,h⟩
  ·exact h.elim
 ·rename_i a
  split at h
  ·rename_i i C ns ds q
   obtain⟨dx',vs,e,hl,dl⟩:=rm a _ q
   obtain⟨⟨rfl,hi,hf⟩,h⟩:=h
   unfold gj at h
   split at h
   ·rename_i d q
    obtain⟨u,h1,h2⟩:=dP dl q
    exact⟨a,_,dx',_,u,d,dx,.inl e,(hk i hi).cl,(hk i hi).na f hf,h1,h2,h⟩
   ·exact h.elim
  ·exact h.elim
 ·exact h.elim
theorem Bj(hk:∀i,i < B.nk->KOk X.K B fad i)(he:PE X e (low X.K cls E2 te))(hb:attributeBase e (fnm f) X.env (eval e X.env)=eval e X.env):PE X (.Attribute e (fnm f) pos) (low X.K cls E2 fun σ M Q E=>te σ M (fun x M1=>dE B f x M1 Q) E):=by
 refine fun pins s σ H Q2 I hl_=>ex9 hl_ fun σ3 M Q E3 rm ds lk h back=>?_
 refine qG hb (thn (he pins s σ H (fun v H1=>∃x M1,Den X.K H1 x v/\RelM X.K M1 H1/\TM X.K H H1/\dE B f x M1 Q) I ⟨σ3,M,_,E3,rm,ds,lk,h,fun v H' d M' a b c e=>⟨d,M',a,b,c,e⟩⟩) fun u s1 ⟨v,H1,I1,r1,x,M1,dx,rm1,t1,q1⟩=>?_)
 obtain⟨a,C,dx',fs,u',d,rfl,rd,c,n,l,du,q⟩:=rV hk dx rm1 q1
 obtain rfl:u=Value.ref a:=r1
 exact pY I1 rd c n l fun u'' s2 I2 ru=>⟨u',H1,I2,ru,back _ _ _ _ du rm1 t1 q⟩
theorem xY{K:PySem.W.Frag}{H:Hp}{x:D}{v:V}{M:MH}{Q:VK3}{j:Nat}(dx:Den K H x v)(rm:RelM K M H)(h:kN B j x M Q) :
  ∃a i dx fs,v=.ref a/\i < B.nk/\j < B.nk/\Rd H a (.ins (B.kls i) dx fs)/\Q (.bl (B.ksub i j)) M:=by
 unfold kN at h
 split at h
 ·rename_i i C ns ds
  obtain⟨p,vs,ob,dx',rfl,e,hl,dl⟩:=dx
  obtain⟨⟨rfl,hi,hj⟩,h⟩:=h
  exact⟨p,i,dx',_,rfl,hi,hj,.inr ⟨ob,e⟩,h⟩
 ·rename_i a
  split at h
  ·rename_i i C ns ds q
   obtain⟨dx',vs,e,hl,dl⟩:=rm a _ q
   obtain⟨⟨rfl,hi,hj⟩,h⟩:=h
   exact⟨a,i,dx',_,dx,hi,hj,.inl e,h⟩
  ·exact h.elim
 ·exact h.elim
theorem AQ{j:Nat}{x:Str}{p2:Pos}(hk:∀i,i < B.nk->KOk X.K B fad i)(ha:PE X e (low X.K cls E2 te))(hg:Gl X "isinstance")(hm:X.mg "isinstance"=none)(hg2:Gl X x)(hm2:X.mg x=some (.ref (B.kls j)))(hdb:(x == ("__debug__" : Str))=false)
  (hs:starEach (e::[.Name x p2]) X.env=(false,eval e X.env)::starEach [.Name x p2] X.env) :
  PE X (.Call (.Name "isinstance" p) [e,.Name x p2] [] pos) (low X.K cls E2 fun σ M Q E=>te σ M (fun x M1=>kN B j x M1 Q) E):=by
 have hT:PE X (.Name x p2) (tC (.ref (B.kls j))):=gf hg2 hm2 rfl hdb
 have hc:CallR X (.builtin "isinstance") (fun vs H Q2=>∃x v M Q,vs=[v,.ref (B.kls j)]/\Den X.K H x v/\RelM X.K M H/\kN B j x M Q/\Back X.K H Q Q2):=by
  refine fun pins s σ H vs us Q2 I r hl_=>ex9 hl_ fun x v M Q e dx rm q back=>?_
  subst e
  obtain⟨u,w,rfl,ru,rw⟩:=Vals.two r
  cases (show w=Value.ref (B.kls j) from rw)
  obtain⟨a,i,dx',fs,rfl,hi,hj,rd,q⟩:=xY dx rm q
  cases (show u=Value.ref a from ru)
  obtain⟨mA,O,_⟩:=ln I.hok rd
  obtain⟨od,J,_⟩:=O.look
  have k:=hk i hi
  exact PySem.W.kia_one (PySem.W.kitx_own (k.cl.get _) k.cl.hd k.ty.ha k.ty.hn k.ty.htk k.ty.hm) I.kIn J (k.is j hj) (fun z=>nomatch z) fun tk=>⟨.bl _,H,I.tok _,rfl,back _ _ _ _ aX rm (.refl _) q⟩
 refine (eL hc hg hm (by decide +kernel) (aK ha (aK hT pa_nil (by rfl)) hs) (by decide +kernel) (by decide +kernel) hs (by rfl)).imp fun σ H Q2 hl_=>ex9 hl_ fun σ3 M Q E3 rm ds lk h back=>?_
 exact aS rm ds lk h fun v H1 x M1 dx rm1 t1 q1=>⟨x,v,M1,Q,rfl,dx,rm1,q1,back.mono t1⟩
end
end L2
namespace L2
open PySem PySem.Spec PyProof.Rows
noncomputable def mL(X:Cx)(cls:Nat->Addr)(k:Nat)(a:Addr)(t3:List D->MH->VK3->XN->Prop):Prop:=∃fd ps,PySem.W.keepIn X.K (.ref a)=true/\Binds X.K fd ps []/\FnOk X.prog X.w X.K X.mg X.base (CX1 X.prog X.w) k a fd ps (spX X.K cls t3)
section
variable {X:Cx}{B:WB}{fad:Nat->Addr}{cls:Nat->Addr}{E2:St->XK}{o e:Expr}{es:List Expr}{to te:St3->MH->VK3->XN->Prop}{tr:St3->MH->(List D->MH->Prop)->XN->Prop}{pos apos p:Pos}{m k:Nat}
 {cl3:Nat->List D->MH->VK3->XN->Prop}
theorem lG{K:PySem.W.Frag}{H:Hp}{x:D}{v:V}{M:MH}{R:Nat->Prop}(hk:∀i,i < B.nk->KOk K B fad i)(dx:Den K H x v)(rm:RelM K M H)(h:dX B m x M R) :
  ∃a C dx fs f,v=.ref a/\Rd H a (.ins C dx fs)/\Cls K C/\Meth K C (fnm m) (fad f)/\fs.lookup (fnm m)=none/\(∃i,i < B.nk/\B.mth i m=some f)/\R f:=by
 unfold dX at h
 split at h
 ·rename_i i C ns ds
  obtain⟨p,vs,ob,dx',rfl,e,hl,dl⟩:=dx
  obtain⟨⟨rfl,hi,hf⟩,h⟩:=h
  unfold dF at h
  split at h
  ·rename_i f q
   exact⟨p,_,dx',_,f,rfl,.inr ⟨ob,e⟩,(hk i hi).cl,(hk i hi).mt m f q,d8 dl hl hf,⟨i,hi,q⟩,h⟩
  ·exact h.elim
 ·rename_i a
  split at h
  ·rename_i i C ns ds q
   obtain⟨dx',vs,e,hl,dl⟩:=rm a _ q
   obtain⟨⟨rfl,hi,hf⟩,h⟩:=h
   unfold dF at h
   split at h
   ·rename_i f q
    exact⟨a,_,dx',_,f,dx,.inl e,(hk i hi).cl,(hk i hi).mt m f q,d8 dl hl hf,⟨i,hi,q⟩,h⟩
   ·exact h.elim
  ·exact h.elim
 ·exact h.elim
theorem tN(hk:∀i,i < B.nk->KOk X.K B fad i)(hf:∀i m f,i < B.nk->B.mth i m=some f->mL X cls k (fad f) (cl3 f))(hr:Room k X.A)(hx:aL (CX1 X.prog X.w) X E2)
  (ho:PE X o (low X.K cls E2 to)) (ha:PA X (e::es) (cU X.K cls E2 tr)) (hb:attributeBase o (fnm m) X.env (eval o X.env)=eval o X.env) (hl:(apos.endLine == pos.line)=true) (hn:(e::es).length < 30)
  (he:starEach (e::es) X.env=(false,eval e X.env)::starEach es X.env) (hpl:(backTo pos (starEach es X.env)).any (·.1)=false) :
  PE X (.Call (.Attribute o (fnm m) apos) (e::es) [] pos) (low X.K cls E2 fun σ M Q E=>to σ M (fun x M1=>dX B m x M1 fun f=>tr σ M1 (fun xs M2=>cl3 f (x::xs) M2 Q E) E) E):=by
 refine fun pins s σ H Q2 I hl_=>ex9 hl_ fun σ3 M Q E3 rm ds lk h back=>?_
 have hst:(backTo pos (starEach (e::es) X.env)).any (·.1)=false:=by
  rw[he]
  show ((false,_)::backTo pos (starEach es X.env)).any (·.1)=false
  rw[List.any_cons,hpl];rfl
 refine PySem.W.methodCall_KW (thn (ho pins s σ H (fun v H1=>∃x M1,Den X.K H1 x v/\RelM X.K M1 H1/\TM X.K H H1/\dX B m x M1 fun f=>tr σ3 M1 (fun xs M2=>cl3 f (x::xs) M2 Q E3) E3) I ⟨σ3,M,_,E3,rm,ds,lk,h,fun v H' d M' a b c e=>⟨d,M',a,b,c,e⟩⟩) fun u s1 ⟨v,H1,I1,r1,x,M1,dx,rm1,t1,q1⟩=>?_) (fj hb (ge hst hn) hl)
 obtain⟨a,C,dx',fs,f,rfl,rd,c,mt,l,⟨i,hi,hfi⟩,q⟩:=lG hk dx rm1 q1
 obtain rfl:u=Value.ref a:=r1
 obtain⟨fd,ps,kp,bd,F⟩:=hf i m f hi hfi
 refine kL I1 rd c mt l ?_
 refine PySem.W.callWith_K (first:=[.ref a]) (h₀:=X.base) I.ok.mod.kin mt.kp (thn (ha pos pins s1 σ H1 _ I1 (da (R2:=fun vs H2=>spX X.K cls (cl3 f) (.ref a::vs) H2 Q2 (fun c d H'=>TM X.K H2 H'->E2 σ c d H')) rm1 (ds.mono t1) (lk.mono t1) q
  fun vs H2 xs M2 dl rm2 t2 q2=>g8 (.cons (dx.mono t2) dl) rm2 (lk.mono (t1.trans t2)) q2 (back.mono (t1.trans t2)))) fun us s2 ⟨vs,H2,I2,r,q2⟩=>⟨I2.kIn,?_⟩) he hpl
 exact eU (us:=.ref a::us) (vs:=.ref a::vs) F hr bd hx I2 (.cons rfl r) q2
theorem qN(hk:∀i,i < B.nk->KOk X.K B fad i)(hf:∀i m f,i < B.nk->B.mth i m=some f->mL X cls k (fad f) (cl3 f))(hr:Room k X.A)(hx:aL (CX1 X.prog X.w) X E2)
  (ho:PE X o (low X.K cls E2 to)) (hb:attributeBase o (fnm m) X.env (eval o X.env)=eval o X.env) (hl:(apos.endLine == pos.line)=true) :
  PE X (.Call (.Attribute o (fnm m) apos) [] [] pos) (low X.K cls E2 fun σ M Q E=>to σ M (fun x M1=>dX B m x M1 fun f=>cl3 f [x] M1 Q E) E):=by
 refine fun pins s σ H Q2 I hl_=>ex9 hl_ fun σ3 M Q E3 rm ds lk h back=>?_
 refine PySem.W.methodCall_KW (thn (ho pins s σ H (fun v H1=>∃x M1,Den X.K H1 x v/\RelM X.K M1 H1/\TM X.K H H1/\dX B m x M1 fun f=>cl3 f [x] M1 Q E3) I ⟨σ3,M,_,E3,rm,ds,lk,h,fun v H' d M' a b c e=>⟨d,M',a,b,c,e⟩⟩) fun u s1 ⟨v,H1,I1,r1,x,M1,dx,rm1,t1,q1⟩=>?_) (fj hb (ge (by rfl) (by decide)) hl)
 obtain⟨a,C,dx',fs,f,rfl,rd,c,mt,l,⟨i,hi,hfi⟩,q⟩:=lG hk dx rm1 q1
 obtain rfl:u=Value.ref a:=r1
 obtain⟨fd,ps,kp,bd,F⟩:=hf i m f hi hfi
 refine kL I1 rd c mt l ?_
 exact PySem.W.callWith_K0 (first:=[.ref a]) I1.kIn mt.kp (eU (us:=[.ref a]) (vs:=[.ref a]) F hr bd hx I1 (.cons rfl .nil) (g8 (.one dx) rm1 (lk.mono t1) q (back.mono t1)))
theorem Az{i f:Nat}{x:Str}{px:Pos}(hg:Gl X x)(hm:X.mg x=some (.ref (B.kls i)))(hdb:(x == ("__debug__" : Str))=false)(ci:ClsI X.K (B.kls i) (fad f))(hf:mL X cls k (fad f) (cl3 f))(hr:Room k X.A)(hx:aL (CX1 X.prog X.w) X E2)
  (ha:PA X (e::es) (cU X.K cls E2 tr)) (hl:(apos.endLine == pos.line)=true) (hn:(e::es).length < 30)
  (he:starEach (e::es) X.env=(false,eval e X.env)::starEach es X.env) (hpl:(backTo pos (starEach es X.env)).any (·.1)=false) :
  PE X (.Call (.Attribute (.Name x px) "__init__" apos) (e::es) [] pos) (low X.K cls E2 fun σ M Q E=>tr σ M (fun xs M1=>cl3 f xs M1 Q E) E):=by
 refine fun pins s σ H Q2 I hl_=>ex9 hl_ fun σ3 M Q E3 rm ds lk h back=>?_
 have hst:(backTo pos (starEach (e::es) X.env)).any (·.1)=false:=by
  rw[he]
  show ((false,_)::backTo pos (starEach es X.env)).any (·.1)=false
  rw[List.any_cons,hpl];rfl
 obtain⟨fd,ps,kp,bd,F⟩:=hf
 have hT:PE X (.Name x px) (tC (.ref (B.kls i))):=gf hg hm rfl hdb
 refine PySem.W.methodCall_KW (thn (hT pins s σ H (fun v H1=>v=.ref (B.kls i)/\H1=H) I ⟨rfl,rfl⟩) fun u s1 ⟨v,H1,I1,r1,e1,e2⟩=>?_) (fj (by rfl) (ge hst hn) hl)
 subst e1 e2
 obtain rfl:u=Value.ref (B.kls i):=r1
 refine PySem.W.method_cls I1.kIn ci.ga (PySem.W.cls_value I1.kIn ci.rd ci.at_ rfl ?_)
 have I2:=I1.tok (s1.toks+1)
 refine PySem.W.callWith_K (first:=[]) (h₀:=X.base) I.ok.mod.kin kp (thn (ha pos pins _ σ H1 _ I2 (da (R2:=fun vs H2=>spX X.K cls (cl3 f) vs H2 Q2 (fun c d H'=>TM X.K H2 H'->E2 σ c d H')) rm ds lk h
  fun vs H2 xs M2 dl rm2 t2 q2=>g8 dl rm2 (lk.mono t2) q2 (back.mono t2))) fun us s2 ⟨vs,H2,I3,r,q2⟩=>⟨I3.kIn,?_⟩) he hpl
 exact eU F hr bd hx I3 r q2
theorem i4{C f:Addr}{fd:FuncData}{ps:List Str}{sp:Sp}{pins:List (Addr×Obj)}{σ:St}{H:Hp}{s:Shared}{Q:VK}{us:List Value}{vs:List V}(M:Mk X.K C f)(F:FnOk X.prog X.w X.K X.mg X.base (CX1 X.prog X.w) k f fd ps sp)(hr:Room (k+1) X.A)(hb:Binds X.K fd ps [])
  (hx:aL (CX1 X.prog X.w) X E2) (I:Inv X pins σ H s) (r:Vals vs us)
  (h:∀x dx,H x=none->H dx=none->dx≠x->sp (.ref x::vs) (upd (upd H dx (.own x)) x (.ins C dx [])) (fun v H2=>v=.non/\Q (.ref x) H2) (fun c d H'=>TM X.K (upd (upd H dx (.own x)) x (.ins C dx [])) H'->E2 σ c d H')) :
  wpAny (model X.prog X.w) X.A (call (.ref C) us) (EP X pins σ Q) X.xe s:=by
 have hq:=h (s.heap.objs.size+1) s.heap.objs.size (I.hok.fresh (Nat.le_succ _)) (I.hok.fresh (Nat.le_refl _)) (Nat.ne_of_lt (Nat.lt_succ_self _))
 have I2:=Inv.made (C:=C) I
 have r2:Vals (V.ref (s.heap.objs.size+1)::vs) (Value.ref (s.heap.objs.size+1)::us):=.cons rfl r
 have hl:(Value.ref (s.heap.objs.size+1)::us++([]:List Value)).length=ps.length:=by
  have e:=r2.length
  rw[F.len _ _ _ _ hq]at e
  rw[List.append_nil]
  exact e.symm
 have hb':=hb _ (Value.ref (s.heap.objs.size+1)::us) I2.kIn hl
 rw[List.append_nil]at hb'
 refine wpAny_call (pi (f:=f) I.kIn M.makes M.init (beq_iff_eq.mp M.fn) (codeAny_mono (F.run _ X.stack _ _ ⟨Value.ref (s.heap.objs.size+1)::us,[]⟩ (Value.ref (s.heap.objs.size+1)::us) _ _ _ (hr.make C us [])
  (I2.env0.make C us []) hb' r2 hq) fun r s' hq'=>?_))
 match r,hq' with
 |.error e,hq'=>exact hx pins σ _ _ e s' I2 (pH hq')
 |.ok (.ret u),hq'=>
  obtain⟨v,H',I3,rv,ev,q3⟩:=I2.after hq'
  subst ev
  exact⟨rv,⟨V.ref (s.heap.objs.size+1),H',I3,rfl,q3⟩⟩
 |.ok .next,hq'=>exact hq'.elim
 |.ok .brk,hq'=>exact hq'.elim
 |.ok .cont,hq'=>exact hq'.elim
theorem TM.made{K:PySem.W.Frag}{H:Hp}{x dx C:Addr}(hx:H x=none)(hd:H dx=none)(ne:dx≠x):TM K H (upd (upd H dx (.own x)) x (.ins C dx [])):=
 (TM.new hd).trans (.new (by rw[ah (Ne.symm ne)];exact hx))
theorem lZ{σ:St}{H:Hp}{xs:List D}{vs:List V}{M:MH}{Q:VK3}{Q2:VK}{E3:XN}{i:Nat}{fz:Bool}{t3:List D->MH->VK3->XN->Prop}(dl:DenL X.K H xs vs)(rm:RelM X.K M H)(lk:LkE X.K cls H E3 (E2 σ))
  (q:∀p,M p=none->t3 (.ref p::xs) (put M p (.ins i (B.kls i) [] [])) (fun v M2=>v=.non/\if fz=true then aW Q (.ref p) M2 else Q (.ref p) M2) (fun j M'=>E3 j (del M' p))) :
  ∀x dx,H x=none->H dx=none->dx≠x->spX X.K cls t3 (.ref x::vs) (upd (upd H dx (.own x)) x (.ins (B.kls i) dx [])) (fun v H2=>v=.non/\∃M2,RelM X.K M2 H2/\TM X.K H H2/\if fz=true then aW Q (.ref x) M2 else Q (.ref x) M2)
   (fun c d H'=>TM X.K (upd (upd H dx (.own x)) x (.ins (B.kls i) dx [])) H'->E2 σ c d H'):=fun x dx hx hd ne=>by
 have t:=TM.made (K:=X.K) (C:=B.kls i) hx hd ne
 have hx':(upd H dx (.own x)) x=none:=by rw[ah (Ne.symm ne)];exact hx
 have rm2:RelM X.K (put M x (.ins i (B.kls i) [] [])) (upd (upd H dx (.own x)) x (.ins (B.kls i) dx [])):=(rm.grow hd).lay hx' ⟨dx,[],ai,rfl,rfl⟩
 refine⟨.ref x::xs,_,_,_,.cons rfl (dl.mono t),rm2,q x (rm.fresh hx),fun v H' d M' dv rm' t' ⟨e,q'⟩=>?_,fun j M' H' t' rm' q' dy xd _=>lk j (del M' x) H' (t.trans t') (rm'.sub fun b o z=>(fY z).2) q' dy xd⟩
 subst e
 exact⟨dv,M',rm',t.trans t',q'⟩
theorem kK{pins:List (Addr×Obj)}{σ:St}{H:Hp}{s':Shared}{Q:VK3}{Q2:VK}{fz:Bool}{u:Value}(back:Back X.K H Q Q2)
  (h:EP X pins σ (fun v H2=>∃x,v=.ref x/\∃M2,RelM X.K M2 H2/\TM X.K H H2/\if fz=true then aW Q (.ref x) M2 else Q (.ref x) M2) u s'):EP X pins σ Q2 u s':=by
 obtain⟨v,H2,I2,r,x,rfl,M2,rm2,t2,q⟩:=h
 cases fz with
 |true=>
  obtain⟨H3,M3,d,I3,t3,rm3,dv,q3⟩:=jA I2 rm2 eP (show aW Q (.ref x) M2 from q)
  exact⟨.ref x,H3,I3,r,back _ _ _ _ dv rm3 (t2.trans t3) q3⟩
 |false=>exact⟨.ref x,H2,I2,r,back _ _ _ _ eP rm2 t2 q⟩
theorem xL{i f:Nat}{fz:Bool}{x:Str}(hg:Gl X x)(hm:X.mg x=some (.ref (B.kls i)))(hdb:(x == ("__debug__" : Str))=false)(mk:Mk X.K (B.kls i) (fad f))(hf:mL X cls k (fad f) (cl3 f))(hr:Room (k+1) X.A)(hx:aL (CX1 X.prog X.w) X E2)
  (ha:PA X (e::es) (cU X.K cls E2 tr)) (he:starEach (e::es) X.env=(false,eval e X.env)::starEach es X.env) (hpl:(backTo pos (starEach es X.env)).any (·.1)=false) :
  PE X (.Call (.Name x p) (e::es) [] pos) (low X.K cls E2 fun σ M Q E=>tr σ M (fun xs M1=>∀p,M1 p=none->cl3 f (.ref p::xs) (put M1 p (.ins i (B.kls i) [] [])) (fun v M2=>v=.non/\if fz=true then aW Q (.ref p) M2 else Q (.ref p) M2) (fun i M'=>E i (del M' p))) E):=by
 refine fun pins s σ H Q2 I hl_=>ex9 hl_ fun σ3 M Q E3 rm ds lk h back=>?_
 obtain⟨fd,ps,kp,bd,F⟩:=hf
 refine wpAny_Call_Name_kw (bF I hg hm ?_ hdb)
 refine PySem.W.callWith_K (h₀:=X.base) I.ok.mod.kin mk.kp (thn (ha pos pins s σ H (fun vs H1=>TM X.K H H1/\∃xs M1,DenL X.K H1 xs vs/\RelM X.K M1 H1/\∀p,M1 p=none->cl3 f (.ref p::xs) (put M1 p (.ins i (B.kls i) [] [])) (fun v M2=>v=.non/\if fz=true then aW Q (.ref p) M2 else Q (.ref p) M2) (fun i M'=>E3 i (del M' p))) I
  (da rm ds lk h fun vs H1 xs M1 dl rm1 t1 q1=>⟨t1,xs,M1,dl,rm1,q1⟩)) fun us s1 ⟨vs,H1,I1,r,t1,xs,M1,dl,rm1,q1⟩=>⟨I1.kIn,?_⟩) he hpl
 refine thn (i4 (Q:=fun v H2=>∃x,v=.ref x/\∃M2,RelM X.K M2 H2/\TM X.K H1 H2/\if fz=true then aW Q (.ref x) M2 else Q (.ref x) M2) mk F hr bd hx I1 r fun x dx n1 n2 n3=>?_) fun u s2 q2=>kK (fz:=fz) (back.mono t1) q2
 obtain⟨a1,a2,a3,a4,b1,b2,b3,b4,b5⟩:=lZ (fz:=fz) (i:=i) (t3:=cl3 f) (Q2:=Q2) dl rm1 (lk.mono t1) q1 x dx n1 n2 n3
 exact⟨a1,a2,a3,a4,b1,b2,b3,fun v H' d M' dv rm' t' q'=>by
  obtain⟨e,w⟩:=b4 v H' d M' dv rm' t' q'
  exact⟨e,x,rfl,w⟩,b5⟩
theorem rA{i f:Nat}{fz:Bool}{x:Str}(hg:Gl X x)(hm:X.mg x=some (.ref (B.kls i)))(hdb:(x == ("__debug__" : Str))=false)(mk:Mk X.K (B.kls i) (fad f))(hf:mL X cls k (fad f) (cl3 f))(hr:Room (k+1) X.A)(hx:aL (CX1 X.prog X.w) X E2) :
  PE X (.Call (.Name x p) [] [] pos) (low X.K cls E2 fun σ M Q E=>∀p,M p=none->cl3 f [.ref p] (put M p (.ins i (B.kls i) [] [])) (fun v M2=>v=.non/\if fz=true then aW Q (.ref p) M2 else Q (.ref p) M2) (fun i M'=>E i (del M' p))):=by
 refine fun pins s σ H Q2 I hl_=>ex9 hl_ fun σ3 M Q E3 rm ds lk h back=>?_
 obtain⟨fd,ps,kp,bd,F⟩:=hf
 refine wpAny_Call_Name_kw (bF I hg hm ?_ hdb)
 refine PySem.W.callWith_K0 I.kIn mk.kp ?_
 refine thn (i4 (us:=[]) (vs:=[]) (Q:=fun v H2=>∃x,v=.ref x/\∃M2,RelM X.K M2 H2/\TM X.K H H2/\if fz=true then aW Q (.ref x) M2 else Q (.ref x) M2) mk F hr bd hx I .nil fun x dx n1 n2 n3=>?_) fun u s2 q2=>kK (fz:=fz) back q2
 obtain⟨a1,a2,a3,a4,b1,b2,b3,b4,b5⟩:=lZ (fz:=fz) (i:=i) (t3:=cl3 f) (xs:=[]) (vs:=[]) (Q2:=Q2) .nil rm lk h x dx n1 n2 n3
 exact⟨a1,a2,a3,a4,b1,b2,b3,fun v H' d M' dv rm' t' q'=>by
  obtain⟨e,w⟩:=b4 v H' d M' dv rm' t' q'
  exact⟨e,x,rfl,w⟩,b5⟩
theorem w6{f:Nat}{value:Expr}{tv:St3->MH->VK3->XN->Prop}{pos':Pos}(hk:∀i,i < B.nk->KOk X.K B fad i)(ho:PE X o (low X.K cls E2 to))(hv:PE X value (low X.K cls E2 tv))(hs:swapsWith value (some (.Attribute o (fnm f) pos')) pos.line X.env=pure false) :
  PS X (.Assign [.Attribute o (fnm f) pos'] value pos) (bO X.K cls E2 fun D E σ M=>tv σ M (fun y M1=>to σ M1 (fun x M2=>match x with
  |.ref a=>match M2 a with
   |some (.ins i C ns ds)=>(C=B.kls i/\i < B.nk/\B.fok i f=true/\ns.length < 1000)/\D.nx σ (put M2 a (.ins i C (bT f ns) (bS f y ns ds)))
   |_=>False
  |_=>False) (E σ)) (E σ)):=
 (ul ho hv hs).imp fun D2 σ H hl_=>ex9 hl_ fun σ3 M D3 E3 rm ds lk h er=>aS rm ds (lk.at ds) h fun v H1 y M1 dy rm1 t1 q1=>aS rm1 (ds.mono t1) ((lk.at ds).mono t1) q1 fun w H2 x M2 dx rm2 t2 q2=>by
  split at q2
  ·rename_i a
   split at q2
   ·rename_i i C ns es q
    obtain⟨dx',vs,e,hl,dl⟩:=rm2 a _ q
    obtain⟨⟨rfl,hi,hf,hz⟩,q2⟩:=q2
    obtain⟨ws,h1,h2,h3⟩:=km (f:=f) (u:=v) dl hl (dy.mono t2)
    refine⟨a,_,dx',_,dx,e,(hk i hi).cl,(hk i hi).na f hf,?_,?_⟩
    ·rw[List.length_zip,List.length_map,hl,Nat.min_self,<-hl];exact hz
    ·have tw:TM X.K H2 (upd H2 a (.ins (B.kls i) dx' (cB (fnm f) v ((ns.map fnm).zip vs)))):=.put e (fun _ z=>by cases z) fun _ _ z=>by cases z
     refine er.nx _ _ σ3 _ (rm2.write (u:=.ins i (B.kls i) (bT f ns) (bS f y ns es)) e (fun _ z=>by cases z) (fun _ _ z=>by cases z) ⟨dx',ws,by rw[ai,h1],h2,h3.mono tw⟩) (((ds.mono t1).mono t2).mono tw) ((t1.trans t2).trans tw) q2
   ·exact q2.elim
  ·exact q2.elim
theorem BN{x:Str}{u:Value}{v:V}{d:D}(hg:Gl X x)(hm:X.mg x=some u)(r:RelV v u)(hdb:(x == ("__debug__" : Str))=false)(hd:∀H,Den X.K H d v):PE X (.Name x pos) (low X.K cls E2 fun _ M Q _=>Q d M):=kJ (gf hg hm r hdb) hd
end
end L2
namespace L2
open PySem PySem.Spec PyProof.Rows
noncomputable def VS(X:Cx)(r:D->Option Int->Option Int->MH->VK3->Prop):Prop:=
 ∀(pins:List (Addr×Obj)) (s:Shared) (σ:St) (H:Hp) (x:D) (v:V) (v2 vl vu:Value) (lo hi:Option Int) (sl:Addr) (M:MH) (Q:VK3) (Q2:VK),Inv X pins σ H s->RelV v v2->Den X.K H x v->RelM X.K M H->s.heap.IsSliceOf sl vl vu .none->IsPart vl lo->IsPart vu hi->r x lo hi M Q->Back X.K H Q Q2->
  ∃T id,typeLookup (.type T) "__getitem__"=pure (some (.builtin id))/\s.TypeIs v2 T/\wpAny (model X.prog X.w) X.A (getItem v2 (.ref sl)) (EP X pins σ Q2) X.xe s
section
variable {X:Cx}{cls:Nat->Addr}{E2:St->XK}{a b e o:Expr}{es:List Expr}{ta tb te to:St3->MH->VK3->XN->Prop}{tl th:St3->MH->(Option Int->MH->Prop)->XN->Prop}{lo hi:Option Expr}{pos p2:Pos}
theorem VS.op{r:D->Option Int->Option Int->MH->VK3->Prop}(h:VS X r):SlR X (fun v lo hi H Q2=>∃x M Q,Den X.K H x v/\RelM X.K M H/\r x lo hi M Q/\Back X.K H Q Q2):=by
 intro pins s σ H v v2 vl vu lo hi sl Q2 I rv hs pl pu ⟨x,M,Q,dx,rm,q,back⟩
 exact h pins s σ H x v v2 vl vu lo hi sl M Q Q2 I rv dx rm hs pl pu q back
theorem kI{K:PySem.W.Frag}{H:Hp}{ds:List D}{vs:List V}{lo hi:Option Int}(dl:DenL K H ds vs):DenL K H (bj ds lo hi) (lx vs lo hi):=by
 unfold bj lx
 rw[dl.length]
 exact (dl.drop _).take _
theorem Cj(fz:Bool):VS X (fS fz):=by
 intro pins s σ H x v v2 vl vu lo hi sl M Q Q2 I rv dx rm hs pl pu q back
 unfold fS at q
 split at q
 ·rename_i ds
  obtain⟨p,vs,rfl,sq,dl⟩:=dx
  obtain⟨hw,q⟩:=q
  refine wG pins s σ H _ v2 vl vu lo hi sl Q2 I rv hs pl pu ⟨p,vs,rfl,sq,fun z=>?_,fun p' hp=>?_⟩
  ·unfold whole at hw
   rw[dl.length,z.1,z.2]at hw
   simp at hw
  ·exact back _ _ (.tup (bj ds lo hi)) _ ⟨p',_,rfl,.of ai,(kI dl).mono (.new hp)⟩ (rm.grow hp) (.new hp) q
 ·rename_i z
  cases (show v=.str z from dx)
  obtain⟨t,rfl⟩:=rv
  obtain⟨hz,q⟩:=q
  have fin:∀t' k,EP X pins σ Q2 (.str (Txt.slice z lo hi) t') {s with toks:=k}:=fun t' k=>⟨.str _,H,I.tok _,⟨_,rfl⟩,back _ _ _ _ f6 rm (.refl _) q⟩
  refine⟨"str",_,PySem.F.slot_str_getitem.lookup,typeIs_str _ _ _,?_⟩
  cases pl with
  |none=>
   cases pu with
   |none=>exact wpAny_getItem_str_slice (l:=none) (u:=none) (st:=none) hs rfl (post_val_or_str ⟨Nat.le_trans (Txt.slice_le z _ _) hz,fin⟩)
   |int j u=>exact wpAny_getItem_str_slice (l:=none) (u:=some (j,u)) (st:=none) hs rfl (post_val_or_str ⟨Nat.le_trans (Txt.slice_le z _ _) hz,fin⟩)
  |int i u'=>
   cases pu with
   |none=>exact wpAny_getItem_str_slice (l:=some (i,u')) (u:=none) (st:=none) hs rfl (post_val_or_str ⟨Nat.le_trans (Txt.slice_le z _ _) hz,fin⟩)
   |int j u=>exact wpAny_getItem_str_slice (l:=some (i,u')) (u:=some (j,u)) (st:=none) hs rfl (post_val_or_str ⟨Nat.le_trans (Txt.slice_le z _ _) hz,fin⟩)
 ·split at q
  ·rename_i ds e
   obtain⟨p,vs,rfl,hq,dl⟩:=bB rm e dx
   cases rv
   obtain⟨its,r,ht,hz⟩:=I.list hq.sq
   have hlen:=r.length
   refine⟨"list",_,slot_list_getitem.lookup,ht.isList.typeIs,?_⟩
   refine wpAny_getItem_list_slice ht.isList hs pl pu .none (by simp) ?_ (by rw[List.size_toArray]<;>omega)
   rw[iE,<-hlen]
   have I2:=I.laid (t':=s.toks) (o:=.lst (lx vs lo hi)) (h':=s.heap.push {cls:=.type "list",data:=.seq ((its.drop (HT.sIx vs.length 0 lo)).take (HT.sIx vs.length vs.length hi - HT.sIx vs.length 0 lo)).toArray 0}) (fun b ob q=>Heap.get?_push_of_some _ q) (Nat.le_refl _)
    ⟨Nat.le_trans (fG vs lo hi) hz,_,0,(r.drop (HT.sIx vs.length 0 lo)).take (HT.sIx vs.length vs.length hi - HT.sIx vs.length 0 lo),Heap.get?_push_size _ rfl⟩
   exact bA I2 (I.hok.fresh (Nat.le_refl _)) (kI dl) rm (.refl _) q back
  ·exact q.elim
theorem Fl{fz:Bool}(ha:PE X a (low X.K cls E2 ta))(hl:PO X lo (m7 X.K cls E2 tl))(hh:PO X hi (m7 X.K cls E2 th)) :
  PE X (.Subscript a (.Slice lo hi none p2) pos) (low X.K cls E2 fun σ M Q E=>ta σ M (fun x M1=>tl σ M1 (fun l M2=>th σ M2 (fun h M3=>fS fz x l h M3 Q) E) E) E):=
 (og (Cj fz).op ha hl hh).imp fun σ H Q2 hl_=>ex9 hl_ fun σ3 M Q E3 rm ds lk h back=>aS rm ds lk h fun v H1 x M1 dx rm1 t1 q1=>sg rm1 (ds.mono t1) (lk.mono t1) q1 fun l H2 M2 rm2 t2 q2=>sg rm2 ((ds.mono t1).mono t2) ((lk.mono t1).mono t2) q2 fun h H3 M3 rm3 t3 q3=>
  ⟨x,M3,Q,(dx.mono t2).mono t3,rm3,q3,back.mono ((t1.trans t2).trans t3)⟩
theorem lT{K:PySem.W.Frag}{H:Hp}{ds:List D}{vs:List V}(dl:DenL K H ds vs):∀n:Nat,DenL K H (List.replicate n ds).flatten (List.replicate n vs).flatten
 |0=>rfl
 |n+1=>by
  rw[List.replicate_succ,List.replicate_succ,List.flatten_cons,List.flatten_cons]
  exact dl.append (lT dl n)
theorem v3(fz:Bool):VO X (binaryOp .Mult) (eF fz):=by
 intro pins s σ H x y v u v2 u2 M Q Q2 I rv ru dx dy rm q back
 unfold eF at q
 split at q
 ·rename_i ds k e
  obtain⟨⟨h1,h2,hz⟩,q⟩:=q
  obtain⟨p,vs,rfl,hq,dl⟩:=bB rm e dx
  cases (show u=.int k from dy)
  obtain⟨t,rfl⟩:=ru
  cases rv
  obtain⟨z,its,n,r,hl,e⟩:=I.rdL hq
  have hlen:its.toArray.size * k.toNat<=sizeLine:=by rw[List.size_toArray,<-hl,<-dl.length];exact hz
  have hcap:¬ its.toArray.size * k.toNat > (2 ^ 63 - 1) / 8:=by
   have:(sizeLine:Nat)<=(2 ^ 63 - 1) / 8:=by decide
   omega
  have hfit:¬ (!Builtin.List.listFitsIndex k)=true:=by
   rw[fitsIndex_both h1 h2]
   exact Bool.false_ne_true
  have hlong:¬ Builtin.List.listTooLong (its.toArray.size * k.toNat)=true:=by
   rw[oI hlen]
   exact Bool.false_ne_true
  have hnew:List.foldl (fun x1 x2=>x1++x2) #[] (List.replicate (if its.toArray.isEmpty=true then 0 else k.toNat) its.toArray)=(List.replicate k.toNat its).flatten.toArray:=by
   have f0:∀m:Nat,List.foldl (fun x1 x2=>x1++x2) #[] (List.replicate m its.toArray)=(List.replicate m its).flatten.toArray:=fun m=>by
    have:=i0 its m []
    rw[List.nil_append]at this
    exact this
   rw[f0]
   cases its with
   |nil=>simp
   |cons a r'=>rw[if_neg (by simp)]
  refine wpAny_binaryOp_repeat_ref (T:="list") (U:="int") (by decide) ⟨_,e,rfl⟩ (fun s'=>typeIs_int s' k t) noFill_list_mul PySem.F.fills_int_mul PySem.F.slot_int_rmul repeat_list PySem.F.slot_int_index.lookup
   (call_meets PySem.F.slot_int_rmul (typeIs_int s k t) PySem.F.entry_int_rmul (PySem.F.args_int_rmul_2 _ _) (int___rmul___int_list k t p its.toArray n)
    ⟨e,rfl,⟨_,e,rfl⟩,call_meets PySem.F.slot_list_mul ⟨_,e,rfl⟩ PySem.F.entry_list_mul (PySem.F.args_list_mul_2 _ _) (AutoListH.list___mul___list_int_3 p its.toArray n k t hfit hcap hlong) ⟨e,?_⟩⟩)
  rw[hnew]
  exact bA (I.lnew (t':=s.toks) (r.rep k.toNat) (by rw[rN,Nat.mul_comm,<-dl.length];exact hz)) I.fresh (lT dl _) rm (.refl _) q back
 ·exact q.elim
theorem yz{fz:Bool}(ha:PE X a (low X.K cls E2 ta))(hb:PE X b (low X.K cls E2 tb)) :
  PE X (.BinOp a .Mult b pos) (low X.K cls E2 fun σ M Q E=>ta σ M (fun x M1=>tb σ M1 (fun y M2=>eF fz x y M2 Q) E) E):=xx (v3 fz) ha hb
theorem iW{K:PySem.W.Frag}{H:Hp}:∀{ds:List D}{bs:List Bool}{vs:List V}{us:List Value},dh ds=some bs->DenL K H ds vs->Vals vs us->LSm.BoolsAre us bs
 |[],bs,vs,us,e,dl,r=>by
  cases (show vs=[] from dl)
  cases r
  cases (show some []=some bs from e)
  exact .nil
 |d::ds,bs,_,us,e,dl,r=>by
  obtain⟨v,vs,rfl,dv,dl⟩:=dl
  cases r with
  |cons ru rt=>
   cases d with
   |bl b=>
    simp only[dh]at e
    split at e
    ·rename_i ns q
     cases e
     cases (show v=.bl b from dv)
     cases ru
     exact .cons b (iW q dl rt)
    ·cases e
   |_=>cases e
theorem sN(al:Bool)(hc:X.calm=true):VC X (.builtin (if al=true then "all" else "any")) (rBi (if al=true then .all else .any)):=by
 intro pins s σ H xs vs us M Q Q2 I r dl rm q back
 have hh:X.A.handled=none:=I.ok.hd hc
 have key:∃x ds bs,xs=[x]/\aj M x=some ds/\dh ds=some bs/\Q (.bl (if al=true then bs.all id else bs.any id)) M:=by
  cases al with
  |true=>
   simp only[if_true,rBi]at q
   split at q
   ·split at q
    ·split at q
     ·exact⟨_,_,_,rfl,by assumption,by assumption,q⟩
     ·exact q.elim
    ·exact q.elim
   ·exact q.elim
  |false=>
   simp only[Bool.false_eq_true,if_false,rBi]at q
   split at q
   ·split at q
    ·split at q
     ·exact⟨_,_,_,rfl,by assumption,by assumption,q⟩
     ·exact q.elim
    ·exact q.elim
   ·exact q.elim
 obtain⟨x,ds,bs,rfl,e1,e2,q⟩:=key
 obtain⟨v,rfl,dv⟩:=g7 dl
 obtain⟨u,rfl,ru⟩:=fM r
 obtain⟨p,ws,rfl,hq,dl2⟩:=bB rm e1 dv
 cases ru
 obtain⟨its,r2,pl',hz⟩:=I.list hq.sq
 have hb:=iW e2 dl2 r2
 have hl:=pl'.isList
 have hlt:p < s.heap.objs.size:=by obtain⟨_,e,_⟩:=hl;exact Heap.lt_size e
 have fin:∀h' tk,(∀b o,s.heap.get? b=some o->h'.get? b=some o)->EP X pins σ Q2 (.bool (if al=true then bs.all id else bs.any id)) {s with heap:=h',toks:=tk}:=fun h' tk hk=>
  ⟨.bl _,H,I.kept (t':=tk) hk,rfl,back _ _ _ _ aX rm (.refl _) q⟩
 cases al with
 |true=>
  refine call_all_walk (wpAny_pyIter_list hl ?_)
  refine⟨s.heap.objs.size,[s.heap.objs.size,p],[s.heap.objs.size],its.toArray.size,_,_,fun i=>(bs[i]?).getD true,rfl,Walks.list (A:=X.A.in1) hh _ p (Nat.ne_of_lt hlt) its.toArray,
   ⟨⟨_,Heap.get?_push_size _ rfl,rfl,rfl⟩,hl.push _⟩,fun i v s' Q' E' hP hQ=>?_,fun h' tk hk=>?_⟩
  ·obtain⟨b,e,rfl⟩:=hb.get i v (by simpa using hP)
   simp only[e,Option.getD_some]at hQ
   exact wpAny_truthy_bool hQ
  ·have e:((List.range its.toArray.size).all fun i=>(bs[i]?).getD true)=bs.all id:=by
    rw[List.size_toArray,hb.length];exact LSm.range_all bs
   rw[e]
   exact fin h' tk (LSm.kept_iter hk)
 |false=>
  refine call_any_walk (wpAny_pyIter_list hl ?_)
  refine⟨s.heap.objs.size,[s.heap.objs.size,p],[s.heap.objs.size],its.toArray.size,_,_,fun i=>(bs[i]?).getD false,rfl,Walks.list (A:=X.A.in1) hh _ p (Nat.ne_of_lt hlt) its.toArray,
   ⟨⟨_,Heap.get?_push_size _ rfl,rfl,rfl⟩,hl.push _⟩,fun i v s' Q' E' hP hQ=>?_,fun h' tk hk=>?_⟩
  ·obtain⟨b,e,rfl⟩:=hb.get i v (by simpa using hP)
   simp only[e,Option.getD_some]at hQ
   exact wpAny_truthy_bool hQ
  ·have e:((List.range its.toArray.size).any fun i=>(bs[i]?).getD false)=bs.any id:=by
    rw[List.size_toArray,hb.length];exact LSm.range_any bs
   rw[e]
   exact fin h' tk (LSm.kept_iter hk)
end
end L2
namespace L2
open PySem PySem.Spec PyProof.Rows
noncomputable def TyV(X:Cx)(T:String)(x:V)(H:Hp):Prop:=∀(pins:List (Addr×Obj)) (σ:St) (s:Shared) (v:Value),Inv X pins σ H s->RelV x v->s.TypeIs v T/\∀a,v=.ref a->∃ob,s.heap.get? a=some ob/\ob.dict=none
section
variable {X:Cx}{cls:Nat->Addr}{E2:St->XK}{o e:Expr}{es:List Expr}{to te:St3->MH->VK3->XN->Prop}{tr:St3->MH->(List D->MH->Prop)->XN->Prop}{name:Str}{apos cpos pos:Pos}{T id:String}
theorem ut{r:V->List V->Hp->VK->Prop}{t2:TE}{ta:TA}(pa:PlainAttrs T)(slot:Slot T name id)(hty:typeOf (.builtin id)=pure (.type "method_descriptor"))(hm:MtR X id r)(ho:PE X o t2)(ha:PA X (e::es) ta)
  (hbase:attributeBase o name X.env (eval o X.env)=eval o X.env)
  (hfew:((backTo cpos (starEach (e::es) X.env)).all (fun x=>!x.1)&&(backToKw cpos (keywordEach [] X.env)).all (fun x=>x.1.isSome)
   &&decide ((e::es).length+([]:List Keyword).length+(if ([]:List Keyword).isEmpty then 0 else 1) < 30))=true)
  (hline:(apos.endLine == cpos.line)=true) (hs:starEach (e::es) X.env=(false,eval e X.env)::starEach es X.env) (hplain:(backTo cpos (starEach es X.env)).any (·.1)=false) :
  PE X (.Call (.Attribute o name apos) (e::es) [] cpos) (fun σ H Q=>t2 σ H fun x H1=>TyV X T x H1/\ta σ H1 fun xs H2=>r x xs H2 Q):=by
 intro pins s σ H Q I h
 refine wpAny_Call_method_late hbase hfew hline rfl (thn (ho pins s σ H _ I h) fun v s1 ⟨x,H1,I1,r1,ty,q1⟩=>?_)
 obtain⟨h1,h2⟩:=ty pins σ s1 v I1 r1
 refine⟨T,id,pa,slot,hty,h1,h2,?_⟩
 have hA:=ha cpos pins s1 σ H1 _ I1 q1
 rw[hs]at hA ⊢
 refine Calls.callWith_builtin (by show (false||(backTo cpos (starEach es X.env)).any (·.1))=false;rw[hplain]<;>rfl) (Calls.evalArgs_plain ?_)
 exact thn hA fun us s2 ⟨vs,H2,I2,r2,q2⟩=>hm pins s2 σ H2 x vs v us Q I2 r1 r2 q2
theorem rY{r:V->List V->Hp->VK->Prop}{t2:TE}(pa:PlainAttrs T)(slot:Slot T name id)(hty:typeOf (.builtin id)=pure (.type "method_descriptor"))(hm:MtR X id r)(ho:PE X o t2)
  (hbase:attributeBase o name X.env (eval o X.env)=eval o X.env) (hline:(apos.endLine == cpos.line)=true):PE X (.Call (.Attribute o name apos) [] [] cpos) (fun σ H Q=>t2 σ H fun x H1=>TyV X T x H1/\r x [] H1 Q):=by
 intro pins s σ H Q I h
 refine wpAny_Call_method0_late hbase hline (thn (ho pins s σ H _ I h) fun v s1 ⟨x,H1,I1,r1,ty,q1⟩=>?_)
 obtain⟨h1,h2⟩:=ty pins σ s1 v I1 r1
 exact⟨T,id,pa,slot,hty,h1,h2,Calls.callWith_builtin rfl (PySem.evalArgs_none (hm pins s1 σ H1 x [] v [] Q I1 r1 .nil q1))⟩
noncomputable def VM(X:Cx)(id:String)(r:D->List D->MH->VK3->Prop):Prop:=
 ∀(pins:List (Addr×Obj)) (s:Shared) (σ:St) (H:Hp) (x:D) (xs:List D) (v:V) (vs:List V) (v2:Value) (us:List Value) (M:MH) (Q:VK3) (Q2:VK),Inv X pins σ H s->RelV v v2->Vals vs us->Den X.K H x v->DenL X.K H xs vs->RelM X.K M H->r x xs M Q->Back X.K H Q Q2->
  wpAny (model X.prog X.w) X.A (call (.builtin id) (v2::us)) (EP X pins σ Q2) X.xe s
theorem VM.op{r:D->List D->MH->VK3->Prop}(h:VM X id r):MtR X id (fun v vs H Q2=>∃x xs M Q,Den X.K H x v/\DenL X.K H xs vs/\RelM X.K M H/\r x xs M Q/\Back X.K H Q Q2):=by
 intro pins s σ H v vs v2 us Q2 I rv rs ⟨x,xs,M,Q,dx,dl,rm,q,back⟩
 exact h pins s σ H x xs v vs v2 us M Q Q2 I rv rs dx dl rm q back
noncomputable def TyD(X:Cx)(T:String)(tb:D->MH->Bool):Prop:=∀(x:D) (v:V) (M:MH) (H:Hp),Den X.K H x v->RelM X.K M H->tb x M=true->TyV X T v H
theorem F6{tb:D->MH->Bool}{r:D->List D->MH->VK3->Prop}(pa:PlainAttrs T)(slot:Slot T name id)(hty:typeOf (.builtin id)=pure (.type "method_descriptor"))(hm:VM X id r)(ht:TyD X T tb)(ho:PE X o (low X.K cls E2 to))(ha:PA X (e::es) (cU X.K cls E2 tr))
  (hbase:attributeBase o name X.env (eval o X.env)=eval o X.env) (hn:(e::es).length < 30)
  (hline:(apos.endLine == cpos.line)=true) (hs:starEach (e::es) X.env=(false,eval e X.env)::starEach es X.env) (hplain:(backTo cpos (starEach es X.env)).any (·.1)=false) :
  PE X (.Call (.Attribute o name apos) (e::es) [] cpos) (low X.K cls E2 fun σ M Q E=>to σ M (fun x M1=>tb x M1=true/\tr σ M1 (fun xs M2=>r x xs M2 Q) E) E):=by
 have hst:(backTo cpos (starEach (e::es) X.env)).any (·.1)=false:=by
  rw[hs]
  show ((false,_)::backTo cpos (starEach es X.env)).any (·.1)=false
  rw[List.any_cons,hplain];rfl
 refine (ut pa slot hty hm.op ho ha hbase (ge hst hn) hline hs hplain).imp fun σ H Q2 hl_=>ex9 hl_ fun σ3 M Q E3 rm ds lk h back=>aS rm ds lk h fun v H1 x M1 dx rm1 t1 q1=>?_
 exact⟨ht x v M1 H1 dx rm1 q1.1,da rm1 (ds.mono t1) (lk.mono t1) q1.2 fun vs H2 xs M2 dl rm2 t2 q2=>⟨x,xs,M2,Q,dx.mono t2,dl,rm2,q2,back.mono (t1.trans t2)⟩⟩
theorem AX{tb:D->MH->Bool}{r:D->List D->MH->VK3->Prop}(pa:PlainAttrs T)(slot:Slot T name id)(hty:typeOf (.builtin id)=pure (.type "method_descriptor"))(hm:VM X id r)(ht:TyD X T tb)(ho:PE X o (low X.K cls E2 to))
  (hbase:attributeBase o name X.env (eval o X.env)=eval o X.env) (hline:(apos.endLine == cpos.line)=true) :
  PE X (.Call (.Attribute o name apos) [] [] cpos) (low X.K cls E2 fun σ M Q E=>to σ M (fun x M1=>tb x M1=true/\r x [] M1 Q) E):=
 (rY pa slot hty hm.op ho hbase hline).imp fun σ H Q2 hl_=>ex9 hl_ fun σ3 M Q E3 rm ds lk h back=>aS rm ds lk h fun v H1 x M1 dx rm1 t1 q1=>⟨ht x v M1 H1 dx rm1 q1.1,x,[],M1,Q,dx,.nil,rm1,q1.2,back.mono t1⟩
theorem lY:TyD X "dict" (tyB .get):=fun x v M H dx rm h pins σ s v2 I rv=>by
 simp only[tyB,Bool.or_eq_true]at h
 rcases h with h|h
 ·obtain⟨⟨ks,ds⟩,e⟩:=Option.isSome_iff_exists.mp h
  obtain⟨p,vs,rfl,rd,_⟩:=jV e rm dx
  cases rv
  obtain⟨_,_,ws,_,dd⟩:=fH I.hok rd
  refine⟨dd.typeIs,fun b q=>?_⟩
  cases q
  obtain⟨ob,_,_,h1,h2,_⟩:=dd
  exact⟨ob,h1,h2.2.1⟩
 ·obtain⟨⟨ks,ds⟩,e⟩:=Option.isSome_iff_exists.mp h
  obtain⟨p,vs,xs,rfl,rd,z,_⟩:=eD e rm dx
  cases rv
  have dd:=b9 I rd z
  refine⟨dd.typeIs,fun b q=>?_⟩
  cases q
  obtain⟨ob,_,_,h1,h2,_⟩:=dd
  exact⟨ob,h1,h2.2.1⟩
theorem OptDen.getD{K:PySem.W.Frag}{H:Hp}{o:Option D}{ov:Option V}{d:D}{v:V}(h:OptDen K H o ov)(dv:Den K H d v):Den K H (o.getD d) (ov.getD v):=by
 cases o with
 |none=>cases ov with
  |none=>exact dv
  |some _=>exact h.elim
 |some d'=>cases ov with
  |none=>exact h.elim
  |some v'=>exact h
theorem ja{K:PySem.W.Frag}{H:Hp}{d:D}{ds:List D}{vs:List V}(h:DenL K H (d::ds) vs):∃v ws,vs=v::ws/\Den K H d v/\DenL K H ds ws:=by
 obtain⟨v,r,e,dv,dl⟩:=h;exact⟨v,r,e,dv,dl⟩
theorem oQ(hu:X.A.units+64 < cLine):VM X "dict.get" (rBm .get):=by
 intro pins s σ H x xs v vs v2 us M Q Q2 I rv rs dx dl rm q back
 simp only[rBm]at q
 split at q
 ·rename_i y
  split at q
  ·rename_i o e
   obtain⟨yv,rfl,dy⟩:=g7 dl
   obtain⟨u,rfl,ru⟩:=rs.one
   obtain⟨a,ov,rfl,g,od⟩:=eQ e rm dx dy
   cases rv
   exact wB (by omega) I g ru fun w' s' I' rw'=>⟨_,H,I',rw',back _ _ _ _ (od.getD (show Den X.K H .non .non from rfl)) rm (.refl _) q⟩
  ·exact q.elim
 ·rename_i y z
  split at q
  ·rename_i o e
   obtain⟨yv,wv,rfl,dy,dw⟩:=ja dl
   obtain⟨zv,rfl,dz⟩:=g7 dw
   obtain⟨u,w,rfl,ru,rw'⟩:=rs.two
   obtain⟨a,ov,rfl,g,od⟩:=eQ e rm dx dy
   cases rv
   exact tF (by omega) I g ru rw' fun w' s' I' rw'=>⟨_,H,I',rw',back _ _ _ _ (od.getD dz) rm (.refl _) q⟩
  ·exact q.elim
 ·exact q.elim
theorem uU(hu:X.A.units+64 < cLine):u7 X (fun o i v H R2=>∃x k y M R,Den X.K H x o/\Den X.K H k i/\Den X.K H y v/\RelM X.K M H/\bD x k y M R/\∀H' M',RelM X.K M' H'->TM X.K H H'->R M'->R2 H'):=by
 intro pins s σ H o i v ov iv u R2 I ro ri rv ⟨x,k,y,M,R,dx,dk,dy,rm,q,back⟩
 unfold bD at q
 split at q
 ·rename_i a
  cases (show o=.ref a from dx)
  split at q
  ·rename_i ds n e
   split at q
   ·rename_i j ej
    cases (show i=.int n from dk)
    obtain⟨vs,e1,dl⟩:=rm a _ e
    have tw:TM X.K H (upd H a (.lst (vs.set j v))):=.put e1 (fun _ z=>by cases z) fun _ _ z=>by cases z
    refine n8 pins s σ H _ _ v ov iv u R2 I ro ri rv ⟨a,vs,n,j,rfl,rfl,e1,by rw[<-dl.length];exact ej,?_⟩
    exact back _ _ (rm.write (u:=.lst (ds.set j y)) e1 (fun _ z=>by cases z) (fun _ _ z=>by cases z) ⟨_,ai,(dl.set dy j).mono tw⟩) tw q
   ·exact q.elim
  ·rename_i ks ds e
   split at q
   ·rename_i k' ek
    cases ro
    exact uo (by omega) I rm e (kd ek dk) ri dy rv q.1 q.2 back
   ·exact q.elim
  ·rename_i ks ds e
   split at q
   ·rename_i k' ek
    cases ro
    obtain⟨b,rfl,sq⟩:=j8 ek dk
    cases ri
    exact xm (by omega) I rm e sq dy rv q.1 q.2 back
   ·exact q.elim
  ·exact q.elim
 ·exact q.elim
theorem qB(hu:X.A.units+64 < cLine){value ixe:Expr}{tv ti:St3->MH->VK3->XN->Prop}{pos':Pos}(ho:PE X o (low X.K cls E2 to))(hi:PE X ixe (low X.K cls E2 ti))(hv:PE X value (low X.K cls E2 tv))
  (ha:∀v,assign (.Subscript o ixe pos') X.env v=(do
   let ov<-holding [v] (eval o X.env)
   let iv<-holding [v,ov] (eval ixe X.env)
   standAt pos'
   holding [v,ov,iv] (setItem ov iv v)
   release [v,ov,iv] [])) (hs:swapsWithSole [.Subscript o ixe pos'] value pos.line X.env=pure false) (hw:swappedStores [.Subscript o ixe pos'] value X.env=pure none) (h1:(assignEach [.Subscript o ixe pos'] X.env).map (·.2)=[assign (.Subscript o ixe pos') X.env]) :
  PS X (.Assign [.Subscript o ixe pos'] value pos) (bO X.K cls E2 fun D E σ M=>tv σ M (fun y M1=>to σ M1 (fun x M2=>ti σ M2 (fun k M3=>bD x k y M3 fun M4=>D.nx σ M4) (E σ)) (E σ)) (E σ)):=
 (uH hv (tf ho hi (uU hu) ha) hs hw h1).imp fun D2 σ H hl_=>ex9 hl_ fun σ3 M D3 E3 rm ds lk h er=>aS rm ds (lk.at ds) h fun v H1 y M1 dy rm1 t1 q1=>
  aS rm1 (ds.mono t1) ((lk.at ds).mono t1) q1 fun w H2 x M2 dx rm2 t2 q2=>aS rm2 ((ds.mono t1).mono t2) (((lk.at ds).mono t1).mono t2) q2 fun z H3 k M3 dk rm3 t3 q3=>
   ⟨x,k,y,M3,_,dx.mono t3,dk,(dy.mono t2).mono t3,rm3,q3,fun H' M' rm' t' q'=>er.nx _ _ σ3 M' rm' ((((ds.mono t1).mono t2).mono t3).mono t') (((t1.trans t2).trans t3).trans t') q'⟩
end
end L2
namespace L2
open PySem PySem.Spec PyProof.Rows PySem.W
section
variable {prog:Program}{w:World}{A:Around}{E:Value->Shared->Prop}{s:Shared}{κ:Type} [DecidableEq κ] {knd:HeapKind prog w κ}{d a:Addr}{xs:List (κ×Addr×Value)}{k:κ}{j:Nat}{p:Addr×Value}
end
section
variable {X:Cx}
end
end L2
namespace L2
open PySem PySem.Spec PyProof.Rows
section
variable {X:Cx}
theorem VM.of{id:String}{r3:D->List D->MH->VK3->Prop}{r:V->List V->Hp->VK->Prop}(h:MtM X id r)
  (hr:∀(H:Hp) (x:D) (xs:List D) (v:V) (vs:List V) (M:MH) (Q:VK3) (Q2:VK),Den X.K H x v->DenL X.K H xs vs->RelM X.K M H->r3 x xs M Q->Back X.K H Q Q2->r v vs H Q2):VM X id r3:=
 fun pins s σ H x xs v vs v2 us M Q Q2 I rv rs dx dl rm q back=>h pins s σ H v vs v2 us Q2 I rv rs (hr H x xs v vs M Q Q2 dx dl rm q back)
theorem DenL.app{K:PySem.W.Frag}{H:Hp}:∀{ds es:List D}{vs ws:List V},DenL K H ds vs->DenL K H es ws->DenL K H (ds++es) (vs++ws)
 |[],es,vs,ws,h,g=>by cases (show vs=[] from h);exact g
 |d::ds,es,vs,ws,h,g=>by
  obtain⟨v,us,rfl,dv,dw⟩:=ja h
  exact .cons dv (DenL.app dw g)
theorem DenL.at{K:PySem.W.Frag}{H:Hp}{ds:List D}{vs:List V}{k:Nat}{d:D}(h:DenL K H ds vs)(e:ds[k]?=some d):∃v,vs[k]?=some v/\Den K H d v:=h.get e
end
end L2
namespace L2
open PySem PySem.Spec PyProof.Rows PySem.Calls PySem.NumText PySem.W.KIN
end L2
namespace L2
open PySem PySem.Spec PyProof.Rows
noncomputable def vb(K:PySem.W.Frag):Prop:=PySem.W.nsIn K cStatics "sys.int_max_str_digits"=some none
section
variable {X:Cx}
end
end L2
namespace L2
open PySem PySem.Spec PyProof.Rows
section
variable {X:Cx}{pins:List (Addr×Obj)}{σ:St}{H:Hp}{s:Shared}{h':Heap}
theorem Inv.turned2{t':Nat}{it it':Addr}(I:Inv X pins σ H s)(k:∀b o,b≠it->b≠it'->s.heap.get? b=some o->h'.get? b=some o)(f:et X pins H it)(f':et X pins H it'):Inv X pins σ H {s with heap:=h',toks:=t'}:=by
 obtain⟨hn,hL,_,h1,h2,h3⟩:=f
 obtain⟨hn',hL',_,h1',h2',h3'⟩:=f'
 have nit:∀b u,H b=some u->b≠it:=fun b u e z=>by rw[z,hn]at e;cases e
 have nit':∀b u,H b=some u->b≠it':=fun b u e z=>by rw[z,hn']at e;cases e
 have kc:∀b o,b∉[it,it']->s.heap.get? b=some o->h'.get? b=some o:=fun b o hc e=>k b o (fun z=>hc (by simp[z])) (fun z=>hc (by simp[z])) e
 refine I.step (g':=s.gens) (d':=s.drawn) (ch:=[it,it']) (fun b hb=>?_) (fun b o _ _ hc e _=>kc b o hc e) (fun b o _ _ hc e _=>⟨o.slots,kc b o hc e⟩) (fun _ _ _ _ n=>n)
  (fun b o hc e=>⟨o,kc b o hc e⟩) (fun _ _ e=>e) (fun _ _ _ e=>e) (fun b ps e=>⟨#[],by rw[e];simp⟩) (fun m hm=>?_) (fun b u e=>?_) I.bare
 ·rcases List.mem_cons.mp hb with rfl|hb
  ·exact⟨h1,hL,h2,h3⟩
  ·have e:b=it':=by simpa using hb
   subst e
   exact⟨h1',hL',h2',h3'⟩
 ·obtain⟨o,es,ep,ho,r⟩:=hm
  exact⟨o,es,ep,k _ o (Ne.symm hL) (Ne.symm hL') ho,r⟩
 ·refine (I.hok b u e).stay (fun c v hc q=>k c v ?_ ?_ q) (fun _ q=>q) fun _ _ q=>q
  ·rcases hc with z|z
   ·rw[z];exact nit b u e
   ·exact nit c _ z
  ·rcases hc with z|z
   ·rw[z];exact nit' b u e
   ·exact nit' c _ z
noncomputable def Ite(K:PySem.W.Frag)(a:Addr):It:=
 ⟨fun i H=>∃xs x,SqL K H a xs/\xs[i]?=some x,fun i H v H'=>∃p,v=.ref p/\H p=none/\∃x,(∀xs,SqL K H a xs->xs[i]?=some x)/\H'=upd H p (.tup [.int i,x]),fun i H=>∃xs,SqL K H a xs/\xs.length<=i⟩
theorem mI{P:Program}{w:World}{K:PySem.W.Frag}{elts:List Expr}{x1:Nat}{pos:Pos}(a e it:Addr)(hne:e≠it):Turn P w K (.Tuple elts x1 pos) (Ite K a) [e,it] e (fun i h=>(∃old,IsEnum h e it i old)/\h.IsListIter it a i) where
 mem:=by simp
 obj:=fun i h st b hb=>by
  obtain⟨⟨old,h1⟩,h2⟩:=st
  rcases List.mem_cons.mp hb with rfl|hb
  ·exact⟨_,h1,fun v z=>by
    have z':Data.fields _=Data.cell v:=z
    cases z'⟩
  ·have e':b=it:=by simpa using hb
   subst e'
   obtain⟨o,e1,c,d⟩:=h2
   exact⟨o,e1,fun v z=>by rw[d]at z;cases z⟩
 keep:=fun i h h' st k=>⟨let ⟨old,h1⟩:=st.1;⟨old,k e (by simp) _ h1⟩,st.2.at fun o e1=>k it (by simp) o e1⟩
 item:=by
  intro X hP hw hK hc i pins s σ H E I hf st hg
  subst hP hw hK
  obtain⟨xs,x,hq,hx⟩:=hg
  obtain⟨its,rv,p,hz⟩:=I.list hq
  obtain⟨u,hu,ru⟩:=rv.get hx
  obtain⟨⟨old,he⟩,hit⟩:=st
  have fe:=hf e (by simp)
  have fi:=hf it (by simp)
  have hel:e < s.heap.objs.size:=Heap.lt_size he
  obtain⟨oi,hoi,_⟩:=id hit
  have hil:it < s.heap.objs.size:=Heap.lt_size hoi
  refine wpAny_pyNext_enum_item he hit p.isList (x:=u) (by simpa using hu) hne fun h' heo hit' ht hsz k=>?_
  have hp:H s.heap.objs.size=none:=I.hok.fresh (Nat.le_refl _)
  have I1:Inv X pins σ (upd H s.heap.objs.size (.tup [.int i,x])) {s with heap:=s.heap.push {cls:=.type "tuple",data:=.seq #[.int i s.toks,u]},toks:=s.toks+1}:=
   I.laid (fun b o e1=>Heap.get?_push_of_some _ e1) (Nat.le_refl _) ⟨by show 2<=sizeLine;decide,[.int i s.toks,u],.cons ⟨_,rfl⟩ (.cons ru .nil),⟨_,Heap.get?_push_size _ rfl,rfl,_,rfl⟩⟩
  have fe':et X pins (upd H s.heap.objs.size (.tup [.int i,x])) e:=⟨by rw[ah (Nat.ne_of_lt hel)];exact fe.1,fe.2⟩
  have fi':et X pins (upd H s.heap.objs.size (.tup [.int i,x])) it:=⟨by rw[ah (Nat.ne_of_lt hil)];exact fi.1,fi.2⟩
  have I2:Inv X pins σ (upd H s.heap.objs.size (.tup [.int i,x])) {s with heap:=h',toks:=s.toks+1}:=I1.turned2 (t':=s.toks+1) (fun b o h1 h2 e1=>by
   by_cases hb:b=s.heap.objs.size
   ·subst hb
    have e2:(s.heap.push {cls:=.type "tuple",data:=.seq #[.int i s.toks,u]}).get? s.heap.objs.size=some {cls:=.type "tuple",data:=.seq #[.int i s.toks,u]}:=Heap.get?_push_size _ rfl
    rw[e2]at e1
    cases e1
    exact ht
   ·exact k b o h1 h2 ((Heap.get?_push_ne _ _ _ hb).symm.trans e1)) fe' fi'
  refine⟨.ref s.heap.objs.size,rfl,wpAny_letOwnedTupleGo_enum (s:={s with heap:=h',toks:=s.toks+1}) heo fun h2 he2 hs2=>?_⟩
  obtain⟨f0,f1,f2,f3,f4,f5⟩:=fe'
  have I3:Inv X pins σ (upd H s.heap.objs.size (.tup [.int i,x])) {s with heap:=h2,toks:=s.toks+1}:=I2.turned (t':=s.toks+1) (fun b o hb e1=>(hs2.2 b hb).trans e1) f0 f1 f3 f4 f5
  refine⟨.ref s.heap.objs.size,_,I3,rfl,⟨_,rfl,hp,x,fun ys hy=>by rw[I.list_inj hy hq];exact hx,rfl⟩,⟨⟨_,he2⟩,?_⟩,fun b hb=>?_⟩
  ·exact hit'.at fun o e1=>(hs2.2 it (Ne.symm hne)).trans e1
  ·rcases List.mem_cons.mp hb with rfl|hb
   ·exact f0
   ·have e':b=it:=by simpa using hb
    subst e'
    exact fi'.1
 done:=by
  intro X hP hw hK hc i pins s σ H E I hf st hg
  subst hP hw hK
  obtain⟨xs,hq,hx⟩:=hg
  obtain⟨its,rv,p,hz⟩:=I.list hq
  obtain⟨⟨old,he⟩,hit⟩:=st
  obtain⟨f0,f1,f2,f3,f4,f5⟩:=hf it (by simp)
  have hl:=rv.length
  exact wpAny_pyNext_enum_end (I.ok.hd hc) he hit p.isList (by simp;omega) fun h' eb=>⟨rfl,I.turned (t':=s.toks) (fun b o hb e=>eb b o hb e) f0 f1 f3 f4 f5⟩
 self:=fun _ _ _ _ _ st h=>let ⟨⟨_,he⟩,_⟩:=st;wpAny_pyIter_enum he h
theorem iY:∀{ds:List D}{k i:Nat}{d:D},ds[i]?=some d->(ck k ds)[i]?=some (.tup [.int (k+i:Nat),d])
 |[],_,_,_,h=>by simp at h
 |x::r,k,0,d,h=>by
  have e:x=d:=by simpa using h
  subst e;rfl
 |x::r,k,i+1,d,h=>by
  have:=iY (ds:=r) (k:=k+1) (i:=i) (d:=d) (by simpa using h)
  rw[show k+1+i=k+(i+1) by omega]at this
  exact this
theorem fu:∀{ds:List D}{k:Nat},(ck k ds).length=ds.length
 |[],_=>rfl
 |x::r,k=>by
  show (ck (k+1) r).length+1=r.length+1
  rw[fu]
theorem qu{K:PySem.W.Frag}{H0:Hp}{p:Addr}{vs:List V}{ds:List D}(sq:SqF K H0 p vs)(dl:DenL K H0 ds vs):ItOk K H0 (Ite K p) (ck 0 ds) (fun _=>True):=by
 have hlen:=dl.length
 refine⟨fun i H M t rm s hi=>?_,fun i H M x H' t rm s hi y=>?_,fun H M t rm s=>?_⟩
 ·rw[fu]at hi
  have hi':i < vs.length:=by omega
  exact⟨vs,vs[i],(t.f _ _ sq).sq,by simp[hi']⟩
 ·obtain⟨q,rfl,hq,v,hv,rfl⟩:=y
  obtain⟨d,e1,e2⟩:=(dl.mono t).get' (hv vs (t.f _ _ sq).sq)
  refine⟨.new hq,rm.grow hq,.tup [.int i,d],?_,⟨q,[.int i,v],rfl,.inl (.inl ai),⟨_,_,rfl,rfl,_,_,rfl,e2.mono (.new hq),rfl⟩⟩⟩
  have:=iY (k:=0) e1
  simpa using this
 ·rw[fu]
  exact⟨vs,(t.f _ _ sq).sq,by omega⟩
noncomputable def zV(K:PySem.W.Frag)(ta:TA):TI:=fun σ H R=>ta σ H fun vs H1=>∃a,vs=[.ref a]/\(∃xs,SqL K H1 a xs)/\R (Ite K a) H1
theorem qv{a:Expr}{ta:TA}{p pos pt:Pos}{elts:List Expr}{x1:Nat}(hg:Gl X "enumerate")(hm:X.mg "enumerate"=none)(ha:PA X [a] ta)(hs:starEach [a] X.env=[(false,eval a X.env)]):PI X (.Tuple elts x1 pt) (.Call (.Name "enumerate" p) [a] [] pos) (zV X.K ta):=by
 intro pins s σ H R I h
 refine Call_ (cR I hg hm (u:=.type "enumerate") (by decide +kernel) (PyProof.Rows.callWith_type1 (thn (ha pos pins s σ H _ I h) fun us s1 ⟨vs,H1,I1,r1,q1⟩=>?_) hs rfl))
 obtain⟨b,e,⟨xs,hq⟩,q⟩:=q1
 subst e
 obtain⟨u,rfl,ru⟩:=fM r1
 cases ru
 obtain⟨its,rv,pl,hz⟩:=I1.list hq
 refine call_enumerate_list pl.isList fun h' he hit hsz k=>?_
 refine wpAny_pyIter_enum (s:={s1 with heap:=h'}) he ?_
 refine⟨s1.heap.objs.size+1,[s1.heap.objs.size+1,s1.heap.objs.size],_,_,H1,rfl,I1.kept (t':=s1.toks) k,mI b (s1.heap.objs.size+1) s1.heap.objs.size (Nat.succ_ne_self _),⟨⟨_,he⟩,hit⟩,fun c hc=>?_,q⟩
 have hle:s1.heap.objs.size<=c:=by
  rcases List.mem_cons.mp hc with rfl|hc
  ·exact Nat.le_succ _
  ·have e':c=s1.heap.objs.size:=by simpa using hc
   exact Nat.le_of_eq e'.symm
 exact I1.fpOk hle (I1.hok.fresh hle)
theorem u8{cls:Nat->Addr}{E2:St->XK}{a:Expr}{ta:St3->MH->VK3->XN->Prop}{p pos pt:Pos}{elts:List Expr}{x1:Nat}(hg:Gl X "enumerate")(hm:X.mg "enumerate"=none)(ha:PE X a (low X.K cls E2 ta))(hs:starEach [a] X.env=[(false,eval a X.env)]) :
  PI X (.Tuple elts x1 pt) (.Call (.Name "enumerate" p) [a] [] pos) (jk X.K cls E2 fun σ M R E=>ta σ M (fun x M1=>match x with
  |.rol ds=>R (ck 0 ds) (fun _=>True) M1
  |_=>False) E):=
 (qv hg hm (aK ha pa_nil hs) hs).imp fun σ H R2 hl_=>ex9 hl_ fun σ3 M R E3 rm ds lk h k=>aS rm ds lk h fun v H1 x M1 dx rm1 t1 q1=>by
  cases x with
  |rol es=>
   obtain⟨q,vs,rfl,sq,dl⟩:=dx
   exact⟨q,rfl,⟨vs,sq.sq⟩,k _ _ _ _ _ (qu sq dl) rm1 t1 q1⟩
  |_=>exact q1.elim
end
end L2
namespace L2
open PySem PySem.Spec PyProof.Rows
section
variable {X:Cx}{pins:List (Addr×Obj)}{σ:St}{H:Hp}{s:Shared}{h':Heap}
theorem Inv.turnedL{t':Nat}{ch:List Addr}(I:Inv X pins σ H s)(k:∀b o,b∉ch->s.heap.get? b=some o->h'.get? b=some o)(f:∀b∈ch,et X pins H b):Inv X pins σ H {s with heap:=h',toks:=t'}:=by
 have nit:∀b u,H b=some u->b∉ch:=fun b u e z=>by rw[(f b z).1]at e;cases e
 refine I.step (g':=s.gens) (d':=s.drawn) (ch:=ch) (fun b hb=>?_) (fun b o _ _ hc e _=>k b o hc e) (fun b o _ _ hc e _=>⟨o.slots,k b o hc e⟩) (fun _ _ _ _ n=>n)
  (fun b o hc e=>⟨o,k b o hc e⟩) (fun _ _ e=>e) (fun _ _ _ e=>e) (fun b ps e=>⟨#[],by rw[e];simp⟩) (fun m hm=>?_) (fun b u e=>?_) I.bare
 ·obtain⟨hn,hL,_,h1,h2,h3⟩:=f b hb
  exact⟨h1,hL,h2,h3⟩
 ·obtain⟨o,es,ep,ho,r⟩:=hm
  exact⟨o,es,ep,k _ o (fun z=>(f _ z).2.1 rfl) ho,r⟩
 ·refine (I.hok b u e).stay (fun c v hc q=>k c v ?_ q) (fun _ q=>q) fun _ _ q=>q
  rcases hc with z|z
  ·rw[z];exact nit b u e
  ·exact nit c _ z
noncomputable def Itz(K:PySem.W.Frag)(a b:Addr):It:=
 ⟨fun i H=>∃xs ys x y,SqL K H a xs/\SqL K H b ys/\xs[i]?=some x/\ys[i]?=some y,fun i H v H'=>∃p,v=.ref p/\H p=none/\∃x y,(∀xs,SqL K H a xs->xs[i]?=some x)/\(∀ys,SqL K H b ys->ys[i]?=some y)/\H'=upd H p (.tup [x,y]),fun i H=>∃xs ys,SqL K H a xs/\SqL K H b ys/\(xs.length<=i\/ys.length<=i)⟩
theorem oW{P:Program}{w:World}{K:PySem.W.Frag}{elts:List Expr}{x1:Nat}{pos:Pos}(a b z TI TO i1 i2:Addr)(D:ZipApart z TI TO i1 i2 a b):Turn P w K (.Tuple elts x1 pos) (Itz K a b) [z,TI,TO,i1,i2] z (fun i h=>IsZip h z TI TO .none/\IsPair h TI (.ref i1) (.ref i2)/\(∃c d,IsPair h TO c d)/\h.IsListIter i1 a i/\h.IsListIter i2 b i) where
 mem:=by simp
 obj:=fun i h st c hc=>by
  obtain⟨h1,h2,⟨_,_,h3⟩,h4,h5⟩:=st
  simp only[List.mem_cons,List.not_mem_nil,or_false]at hc
  rcases hc with rfl|rfl|rfl|rfl|rfl
  ·exact⟨_,h1,fun v q=>by have q':Data.fields _=Data.cell v:=q;cases q'⟩
  ·exact⟨_,h2,fun v q=>by have q':Data.seq _ _=Data.cell v:=q;cases q'⟩
  ·exact⟨_,h3,fun v q=>by have q':Data.seq _ _=Data.cell v:=q;cases q'⟩
  ·obtain⟨o,e1,c,d⟩:=h4
   exact⟨o,e1,fun v q=>by rw[d]at q;cases q⟩
  ·obtain⟨o,e1,c,d⟩:=h5
   exact⟨o,e1,fun v q=>by rw[d]at q;cases q⟩
 keep:=fun i h h' st k=>by
  obtain⟨h1,h2,⟨c,d,h3⟩,h4,h5⟩:=st
  exact⟨k z (by simp) _ h1,k TI (by simp) _ h2,⟨c,d,k TO (by simp) _ h3⟩,h4.at fun o e1=>k i1 (by simp) o e1,h5.at fun o e1=>k i2 (by simp) o e1⟩
 item:=by
  intro X hP hw hK hc i pins s σ H E I hf st hg
  subst hP hw hK
  obtain⟨xs,ys,x,y,hq,hq2,hx,hy⟩:=hg
  obtain⟨its,rv,p,hz⟩:=I.list hq
  obtain⟨its2,rv2,p2,hz2⟩:=I.list hq2
  obtain⟨u,hu,ru⟩:=rv.get hx
  obtain⟨u2,hu2,ru2⟩:=rv2.get hy
  obtain⟨h1,h2,⟨c,d,h3⟩,h4,h5⟩:=st
  have lt:∀{c o},s.heap.get? c=some o->c < s.heap.objs.size:=fun e=>Heap.lt_size e
  refine wpAny_pyNext_zip_item D h1 h2 h3 h4 h5 p.isList p2.isList (x:=u) (y:=u2) (by simpa using hu) (by simpa using hu2) fun h' a1 a2 a3 a4 a5 a6 k=>?_
  have hp:H s.heap.objs.size=none:=I.hok.fresh (Nat.le_refl _)
  have I1:Inv X pins σ (upd H s.heap.objs.size (.tup [x,y])) {s with heap:=s.heap.push {cls:=.type "tuple",data:=.seq #[u,u2]},toks:=s.toks}:=
   I.laid (fun b o e1=>Heap.get?_push_of_some _ e1) (Nat.le_refl _) ⟨by show 2<=sizeLine;decide,[u,u2],.cons ru (.cons ru2 .nil),⟨_,Heap.get?_push_size _ rfl,rfl,_,rfl⟩⟩
  have hlt:∀b∈[z,TI,TO,i1,i2],b < s.heap.objs.size:=fun b hb=>by
   simp only[List.mem_cons,List.not_mem_nil,or_false]at hb
   rcases hb with rfl|rfl|rfl|rfl|rfl
   ·exact lt h1
   ·exact lt h2
   ·exact lt h3
   ·obtain⟨_,e,_⟩:=h4;exact lt e
   ·obtain⟨_,e,_⟩:=h5;exact lt e
  have hf':∀b∈[z,TI,TO,i1,i2],et X pins (upd H s.heap.objs.size (.tup [x,y])) b:=fun b hb=>⟨by rw[ah (Nat.ne_of_lt (hlt b hb))];exact (hf b hb).1,(hf b hb).2⟩
  have I2:=I1.turnedL (t':=s.toks) (h':=h') (ch:=[z,TI,TO,i1,i2]) (fun b o hb e1=>by
   simp only[List.mem_cons,List.not_mem_nil,or_false,not_or]at hb
   obtain⟨n1,n2,n3,n4,n5⟩:=hb
   by_cases hb:b=s.heap.objs.size
   ·subst hb
    have e2:(s.heap.push {cls:=.type "tuple",data:=.seq #[u,u2]}).get? s.heap.objs.size=some {cls:=.type "tuple",data:=.seq #[u,u2]}:=Heap.get?_push_size _ rfl
    rw[e2]at e1
    cases e1
    exact a5
   ·exact k b o n1 n3 n4 n5 ((Heap.get?_push_ne _ _ _ hb).symm.trans e1)) hf'
  refine⟨.ref s.heap.objs.size,rfl,wpAny_letOwnedTupleGo_zip (s:={s with heap:=h',toks:=s.toks}) a1 fun h2' he2 hs2=>?_⟩
  have I3:=I2.turnedL (t':=s.toks) (h':=h2') (ch:=[z,TI,TO,i1,i2]) (fun b o hb e1=>(hs2.2 b (fun q=>hb (by simp[q]))).trans e1) hf'
  refine⟨.ref s.heap.objs.size,_,I3,rfl,⟨_,rfl,hp,x,y,fun ys' hy'=>by rw[I.list_inj hy' hq];exact hx,fun ys' hy'=>by rw[I.list_inj hy' hq2];exact hy,rfl⟩,⟨he2,?_,⟨u,u2,?_⟩,?_,?_⟩,fun b hb=>(hf' b hb).1⟩
  ·exact (hs2.2 TI D.TIz).trans (k _ _ D.TIz D.TITO D.TIi1 D.TIi2 h2)
  ·exact (hs2.2 TO D.TOz).trans a2
  ·exact a3.at fun o e1=>(hs2.2 i1 D.i1z).trans e1
  ·exact a4.at fun o e1=>(hs2.2 i2 D.i2z).trans e1
 done:=by
  intro X hP hw hK hc i pins s σ H E I hf st hg
  subst hP hw hK
  obtain⟨xs,ys,hq,hq2,hx⟩:=hg
  obtain⟨its,rv,p,hz⟩:=I.list hq
  obtain⟨its2,rv2,p2,hz2⟩:=I.list hq2
  obtain⟨h1,h2,⟨c,d,h3⟩,h4,h5⟩:=st
  have hl:=rv.length
  have hl2:=rv2.length
  refine wpAny_pyNext_zip_end (I.ok.hd hc) D h1 h2 h3 h4 h5 p.isList p2.isList ?_ fun h' eb=>⟨rfl,I.turnedL (t':=s.toks) (ch:=[z,TI,TO,i1,i2]) (fun b o hb e=>?_) hf⟩
  ·rcases hx with hx|hx
   ·exact .inl (by simp;omega)
   ·exact .inr (by simp;omega)
  ·simp only[List.mem_cons,List.not_mem_nil,or_false,not_or]at hb
   exact eb b o hb.1 hb.2.2.1 hb.2.2.2.1 hb.2.2.2.2 e
 self:=fun _ _ _ _ _ st h=>wpAny_pyIter_zip st.1 h
theorem uv{K:PySem.W.Frag}{H0:Hp}{p q:Addr}{vs ws:List V}{ds es:List D}(sq:SqF K H0 p vs)(dl:DenL K H0 ds vs)(sq2:SqF K H0 q ws)(dl2:DenL K H0 es ws):ItOk K H0 (Itz K p q) (dY ds es) (fun _=>True):=by
 have hlen:=dl.length
 have hlen2:=dl2.length
 refine⟨fun i H M t rm s hi=>?_,fun i H M x H' t rm s hi y=>?_,fun H M t rm s=>?_⟩
 ·simp only[dY,List.length_map,List.length_zip]at hi
  have hi':i < vs.length:=by omega
  have hi2:i < ws.length:=by omega
  exact⟨vs,ws,vs[i],ws[i],(t.f _ _ sq).sq,(t.f _ _ sq2).sq,by simp[hi'],by simp[hi2]⟩
 ·obtain⟨q,rfl,hq,v,w,hv,hw,rfl⟩:=y
  obtain⟨d,e1,e2⟩:=(dl.mono t).get' (hv vs (t.f _ _ sq).sq)
  obtain⟨d',e1',e2'⟩:=(dl2.mono t).get' (hw ws (t.f _ _ sq2).sq)
  refine⟨.new hq,rm.grow hq,.tup [d,d'],?_,⟨q,[v,w],rfl,.inl (.inl ai),⟨_,_,rfl,e2.mono (.new hq),_,_,rfl,e2'.mono (.new hq),rfl⟩⟩⟩
  have ez:(ds.zip es)[i]?=some (d,d'):=List.getElem?_zip_eq_some.mpr ⟨e1,e1'⟩
  simp[dY,ez]
 ·refine⟨vs,ws,(t.f _ _ sq).sq,(t.f _ _ sq2).sq,?_⟩
  simp only[dY,List.length_map,List.length_zip]
  omega
noncomputable def Fs(K:PySem.W.Frag)(ta:TA):TI:=fun σ H R=>ta σ H fun vs H1=>∃a b,vs=[.ref a,.ref b]/\(∃xs,SqL K H1 a xs)/\(∃ys,SqL K H1 b ys)/\R (Itz K a b) H1
theorem xW{a b:Expr}{ta:TA}{p pos pt:Pos}{elts:List Expr}{x1:Nat}(hg:Gl X "zip")(hm:X.mg "zip"=none)(ha:PA X [a,b] ta)(hs:starEach [a,b] X.env=[(false,eval a X.env),(false,eval b X.env)])(hs2:starEach [b] X.env=[(false,eval b X.env)]):PI X (.Tuple elts x1 pt) (.Call (.Name "zip" p) [a,b] [] pos) (Fs X.K ta):=by
 intro pins s σ H R I h
 refine Call_ (cR I hg hm (u:=.type "zip") (by decide +kernel) (PyProof.Rows.callWith_type1 (thn (ha pos pins s σ H _ I h) fun us s1 ⟨vs,H1,I1,r1,q1⟩=>?_) (by rw[hs,hs2]) (by rw[hs2];rfl)))
 obtain⟨c,d,e,⟨xs,hq⟩,⟨ys,hq2⟩,q⟩:=q1
 subst e
 obtain⟨u,w,rfl,ru,rw'⟩:=r1.two
 cases ru
 cases rw'
 obtain⟨its,rv,pl,hz⟩:=I1.list hq
 obtain⟨its2,rv2,pl2,hz2⟩:=I1.list hq2
 have a1:c < s1.heap.objs.size:=by obtain⟨_,_,e,_⟩:=pl;exact Heap.lt_size e
 have a2:d < s1.heap.objs.size:=by obtain⟨_,_,e,_⟩:=pl2;exact Heap.lt_size e
 refine call_zip_2 pl.isList pl2.isList fun h' h1 h2 h3 h4 h5 _ k=>?_
 refine wpAny_pyIter_zip (s:={s1 with heap:=h'}) h1 ?_
 refine⟨s1.heap.objs.size+4,[s1.heap.objs.size+4,s1.heap.objs.size+2,s1.heap.objs.size+3,s1.heap.objs.size,s1.heap.objs.size+1],_,_,H1,rfl,I1.kept (t':=s1.toks) k,oW c d _ _ _ _ _ (zipApart_new a1 a2),⟨h1,h2,⟨_,_,h3⟩,h4,h5⟩,fun b hb=>?_,q⟩
 have hle:s1.heap.objs.size<=b:=by
  simp only[List.mem_cons,List.not_mem_nil,or_false]at hb
  rcases hb with rfl|rfl|rfl|rfl|rfl<;>first|exact Nat.le_refl _|exact Nat.le_add_right _ _
 exact I1.fpOk hle (I1.hok.fresh hle)
theorem A6{cls:Nat->Addr}{E2:St->XK}{a b:Expr}{ta tb:St3->MH->VK3->XN->Prop}{p pos pt:Pos}{elts:List Expr}{x1:Nat}(hg:Gl X "zip")(hm:X.mg "zip"=none)(ha:PE X a (low X.K cls E2 ta))(hb:PE X b (low X.K cls E2 tb))(hs:starEach [a,b] X.env=[(false,eval a X.env),(false,eval b X.env)])(hs2:starEach [b] X.env=[(false,eval b X.env)]) :
  PI X (.Tuple elts x1 pt) (.Call (.Name "zip" p) [a,b] [] pos) (jk X.K cls E2 fun σ M R E=>ta σ M (fun x M1=>tb σ M1 (fun y M2=>match x,y with
  |.rol xs,.rol ys=>R (dY xs ys) (fun _=>True) M2
  |_,_=>False) E) E):=
 (xW hg hm (aK ha (aK hb pa_nil hs2) (by rw[hs,hs2])) hs hs2).imp fun σ H R2 hl_=>ex9 hl_ fun σ3 M R E3 rm ds lk h k=>jg rm ds lk h fun v w H2 x y M2 dx dy rm2 t2 q2=>by
  cases x with
  |rol es=>
   cases y with
   |rol fs=>
    obtain⟨q,vs,rfl,sq,dl⟩:=dx
    obtain⟨q',ws,rfl,sq2,dl2⟩:=dy
    exact⟨q,q',rfl,⟨vs,sq.sq⟩,⟨ws,sq2.sq⟩,k _ _ _ _ _ (uv sq dl sq2 dl2) rm2 t2 q2⟩
   |_=>exact q2.elim
  |_=>exact q2.elim
end
end L2
namespace L2
open PySem PySem.Spec PyProof.Rows
noncomputable abbrev ZipO(h:Heap)(z TI TO T:Addr)(f:Bool):Prop:=
 h.get? z=some {cls:=.type "zip",dict:=none,data:=.fields #[rawInt T,.bool f,.bool false,.ref TI,.ref TO],slots:=#[]}
section
variable {prog:Program}{w:World}{A:Around}{E:Value->Shared->Prop}{s:Shared}
theorem ox{z TI TO T:Addr}{f:Bool}{oa:Obj}{Q:Bool->Shared->Prop}(hz:ZipO s.heap z TI TO T f)(ha:s.heap.get? T=some oa)(h:∀h',ZipO h' z TI TO T true->Heap.SameBut z s.heap h'->Q false {s with heap:=h'}) :
  wpAny (model prog w) A (Builtin.SmallTypes.ownedTupleIsFree (.ref z)) Q E s:=by
 unfold Builtin.SmallTypes.ownedTupleIsFree
 refine wpAny_bind (wpAny_field hz rfl (x:=rawInt T) rfl ?_)
 show wpAny _ _ (loadIfAlive ((T:Int).toNat) >>=_) _ _ _
 rw[Int.toNat_natCast]
 refine wpAny_bind (PySem.W.kdx_alive ha ?_)
 simp only[Option.isNone_some,Bool.false_eq_true,if_false]
 refine wpAny_bind (wpAny_field hz rfl (x:=.bool f) rfl ?_)
 cases f with
 |true=>
  rw[if_neg (show ¬ ((Value.bool true != Value.bool true)=true) from Bool.false_ne_true)]
  exact wpAny_pure (h s.heap hz (Heap.SameBut.refl _ _))
 |false=>
  rw[if_pos (show (Value.bool false != Value.bool true)=true from rfl)]
  refine wpAny_bind (wpAny_setField_rec hz (by simp) fun h₃ he₃ hs₃=>?_)
  exact wpAny_pure (h h₃ he₃ hs₃)
theorem vA{z TI TO i1 i2 l1 l2 T:Addr}{f:Bool}{oa:Obj}{k1 k2:Nat}{xs ys:Array Value}{x y:Value}{Q:Option Value->Shared->Prop}(D:ZipApart z TI TO i1 i2 l1 l2)
  (hz:ZipO s.heap z TI TO T f) (ha:s.heap.get? T=some oa) (hTI:IsPair s.heap TI (.ref i1) (.ref i2))
  (h1:s.heap.IsListIter i1 l1 k1) (h2:s.heap.IsListIter i2 l2 k2) (hl1:s.heap.IsList l1 xs) (hl2:s.heap.IsList l2 ys) (hx:xs[k1]?=some x) (hy:ys[k2]?=some y)
  (hQ:∀h',ZipO h' z TI TO T true->h'.IsListIter i1 l1 (k1+1)->h'.IsListIter i2 l2 (k2+1)->IsPair h' s.heap.objs.size x y->h'.objs.size=s.heap.objs.size+1->
   (∀c o,c≠z->c≠i1->c≠i2->s.heap.get? c=some o->h'.get? c=some o)->Q (some (.ref s.heap.objs.size)) {s with heap:=h'}) :
  wpAny (model prog w) A (pyNext (.ref z)) Q E s:=by
 have hT:s.TypeIs (.ref z) "zip":=⟨_,hz,rfl⟩
 unfold pyNext
 refine wpAny_bind (wpAny_attempt (wpAny_callSpecial?_slot (name:=Str.ofString "__next__") hT PySem.F.slot_zip_next
  (wpAny_call_entry PySem.F.slot_zip_next hT PySem.F.entry_zip_next ?_ (PySem.F.args_zip_next_1 _))))
 show wpAny _ _ (field (.ref z) 2 >>=_) _ _ _
 refine wpAny_bind (wpAny_field hz rfl (x:=.bool false) rfl ?_)
 show wpAny _ _ (field (.ref z) 3 >>=_) _ _ _
 refine wpAny_bind (wpAny_field hz rfl (x:=.ref TI) rfl ?_)
 refine wpAny_bind (wpAny_seqItems hTI rfl ?_)
 show wpAny _ _ (Builtin.SmallTypes.ownedTupleIsFree (.ref z) >>=_) _ _ _
 refine wpAny_bind (ox hz ha fun h₁ hz₁ hs₁=>?_)
 simp only[Bool.false_eq_true,if_false]
 refine wpAny_bind ?_
 rw[<-Array.forIn_toList]
 simp only[List.forIn_cons,List.forIn_nil]
 refine wpAny_bind (wpAny_bind (wpAny_holding ?_))
 show wpAny _ _ (Builtin.SmallTypes.nextOf (.ref i1) >>=_) _ _ _
 refine wpAny_bind (wpAny_nextOf_list_item (h1.extBut hs₁.extBut D.i1z) (hl1.extBut hs₁.extBut D.l1z) hx fun h₂ h1₂ hs₂=>wpAny_pure ?_)
 refine wpAny_pure ?_
 refine wpAny_bind (wpAny_bind (wpAny_holding ?_))
 show wpAny _ _ (Builtin.SmallTypes.nextOf (.ref i2) >>=_) _ _ _
 refine wpAny_bind (wpAny_nextOf_list_item ((h2.extBut hs₁.extBut D.i2z).extBut hs₂.extBut D.i12.symm) ((hl2.extBut hs₁.extBut D.l2z).extBut hs₂.extBut D.l2i1) hy fun h₃ h2₃ hs₃=>wpAny_pure ?_)
 refine wpAny_pure (wpAny_pure ?_)
 refine wpAny_bind (wpAny_newTuple ?_ (by show 2<=sizeLine;decide))
 have hsz:h₃.objs.size=s.heap.objs.size:=by rw[hs₃.1,hs₂.1,hs₁.1]
 refine wpAny_pure ⟨_,rfl,wpAny_pure ?_⟩
 show Q (some (.ref h₃.objs.size)) _
 rw[hsz]
 refine hQ _ (Heap.get?_push_of_some _ (hs₃.extBut _ _ D.i2z.symm (hs₂.extBut _ _ D.i1z.symm hz₁))) ((h1₂.extBut hs₃.extBut D.i12).at fun o e=>Heap.get?_push_of_some _ e) (h2₃.at fun o e=>Heap.get?_push_of_some _ e) ?_ (by rw[Heap.size_push,hsz])
  fun c o c1 c2 c3 e=>Heap.get?_push_of_some _ (hs₃.extBut _ _ c3 (hs₂.extBut _ _ c2 (hs₁.extBut _ _ c1 e)))
 rw[<-hsz]
 exact Heap.get?_push_size _ rfl
theorem zf{z TI TO i1 i2 l1 l2 T:Addr}{f:Bool}{oa:Obj}{k1 k2:Nat}{xs ys:Array Value}{Q:Option Value->Shared->Prop}(hh:A.handled=none)(D:ZipApart z TI TO i1 i2 l1 l2)
  (hz:ZipO s.heap z TI TO T f) (ha:s.heap.get? T=some oa) (hTI:IsPair s.heap TI (.ref i1) (.ref i2))
  (h1:s.heap.IsListIter i1 l1 k1) (h2:s.heap.IsListIter i2 l2 k2) (hl1:s.heap.IsList l1 xs) (hl2:s.heap.IsList l2 ys) (hend:xs[k1]?=none\/ys[k2]?=none)
  (hQ:∀h',(∀c o,c≠z->c≠i1->c≠i2->s.heap.get? c=some o->h'.get? c=some o)->Q none {s with heap:=h'}):wpAny (model prog w) A (pyNext (.ref z)) Q E s:=by
 have hT:s.TypeIs (.ref z) "zip":=⟨_,hz,rfl⟩
 unfold pyNext
 refine wpAny_bind (wpAny_attempt (wpAny_callSpecial?_slot (name:=Str.ofString "__next__") hT PySem.F.slot_zip_next
  (wpAny_call_entry PySem.F.slot_zip_next hT PySem.F.entry_zip_next ?_ (PySem.F.args_zip_next_1 _))))
 show wpAny _ _ (field (.ref z) 2 >>=_) _ _ _
 refine wpAny_bind (wpAny_field hz rfl (x:=.bool false) rfl ?_)
 show wpAny _ _ (field (.ref z) 3 >>=_) _ _ _
 refine wpAny_bind (wpAny_field hz rfl (x:=.ref TI) rfl ?_)
 refine wpAny_bind (wpAny_seqItems hTI rfl ?_)
 show wpAny _ _ (Builtin.SmallTypes.ownedTupleIsFree (.ref z) >>=_) _ _ _
 refine wpAny_bind (ox hz ha fun h₁ hz₁ hs₁=>?_)
 simp only[Bool.false_eq_true,if_false]
 refine wpAny_bind ?_
 rw[<-Array.forIn_toList]
 simp only[List.forIn_cons,List.forIn_nil]
 refine wpAny_bind (wpAny_bind (wpAny_holding ?_))
 show wpAny _ _ (Builtin.SmallTypes.nextOf (.ref i1) >>=_) _ _ _
 cases hx:xs[k1]? with
 |none=>
  refine wpAny_bind (wpAny_nextOf_list_end hh (h1.extBut hs₁.extBut D.i1z) (hl1.extBut hs₁.extBut D.l1z) hx fun h₂ e hs₂ he=>?_)
  refine wpAny_bind (wpAny_isInstance (T:="StopIteration") (b:=true) he isSubtype_stop ?_)
  exact wpAny_pure (hQ _ fun c o c1 c2 _ x=>hs₂ _ _ c2 (hs₁.extBut _ _ c1 x))
 |some x=>
  have hy:ys[k2]?=none:=by rcases hend with h|h;rw[hx]at h;cases h;exact h
  refine wpAny_bind (wpAny_nextOf_list_item (h1.extBut hs₁.extBut D.i1z) (hl1.extBut hs₁.extBut D.l1z) hx fun h₂ h1₂ hs₂=>wpAny_pure ?_)
  refine wpAny_pure ?_
  refine wpAny_bind (wpAny_bind (wpAny_holding ?_))
  show wpAny _ _ (Builtin.SmallTypes.nextOf (.ref i2) >>=_) _ _ _
  refine wpAny_bind (wpAny_nextOf_list_end hh ((h2.extBut hs₁.extBut D.i2z).extBut hs₂.extBut D.i12.symm) ((hl2.extBut hs₁.extBut D.l2z).extBut hs₂.extBut D.l2i1) hy fun h₃ e hs₃ he=>?_)
  refine wpAny_bind (wpAny_isInstance (T:="StopIteration") (b:=true) he isSubtype_stop ?_)
  exact wpAny_pure (hQ _ fun c o c1 c2 c3 x=>hs₃ _ _ c3 (hs₂.extBut _ _ c2 (hs₁.extBut _ _ c1 x)))
end
theorem lg:typeLookup (.type "zip") "__len__"=pure none:=by rw[typeLookup_type,builtinLookup_eq_fast];kernel_rfl
theorem jU:typeLookup (.type "zip") "__length_hint__"=pure none:=by rw[typeLookup_type,builtinLookup_eq_fast];kernel_rfl
structure ZSt (h:Heap) (z TI TO i1 i2 l1 l2 S:Addr) (xs ys:Array Value) (i:Nat):Prop where
 ti:IsPair h TI (.ref i1) (.ref i2)
 a:h.IsListIter i1 l1 i
 b:h.IsListIter i2 l2 i
 la:h.IsList l1 xs
 lb:h.IsList l2 ys
 o:(i=0/\IsZip h z TI TO .none/\∃c d,IsPair h TO c d)\/∃T f oa,ZipO h z TI TO T f/\h.get? T=some oa/\T≠z/\T≠i1/\T≠i2/\T≠S
structure ZG (xs ys:Array Value) (lo:Addr) (h:Heap) (as:List Addr):Prop where
 rise:as.Pairwise (· < ·)
 above:∀a∈as,lo<=a
 pairs:∀(j:Nat) (a:Addr),as[j]?=some a->∃x y,xs[j]?=some x/\ys[j]?=some y/\IsPair h a x y
theorem ZG.there{xs ys:Array Value}{lo:Addr}{h:Heap}{as:List Addr}(g:ZG xs ys lo h as){a:Addr}(ha:a∈as):a < h.objs.size:=by
 obtain⟨j,hj⟩:=List.mem_iff_getElem?.mp ha
 obtain⟨_,_,_,_,e⟩:=g.pairs j a hj
 exact Heap.lt_size e
section
variable {prog:Program}{w:World}{A:Around}{E:Value->Shared->Prop}{s:Shared}{z TI TO i1 i2 l1 l2 S:Addr}{xs ys:Array Value}{i:Nat}
theorem ZSt.keep{h h':Heap}(x:ZSt h z TI TO i1 i2 l1 l2 S xs ys i)(D:ZipApart z TI TO i1 i2 l1 l2)(hk:∀b o,b≠S->h.get? b=some o->h'.get? b=some o)(hS:∀b∈[z,TI,TO,i1,i2,l1,l2],b≠S):ZSt h' z TI TO i1 i2 l1 l2 S xs ys i:=by
 have q:∀b∈[z,TI,TO,i1,i2,l1,l2],∀o,h.get? b=some o->h'.get? b=some o:=fun b hb o e=>hk b o (hS b hb) e
 refine⟨q TI (by simp) _ x.ti,x.a.at fun o e=>q i1 (by simp) o e,x.b.at fun o e=>q i2 (by simp) o e,x.la.at fun o e=>q l1 (by simp) o e,x.lb.at fun o e=>q l2 (by simp) o e,?_⟩
 rcases x.o with ⟨e,h1,c,d,h2⟩|⟨T,f,oa,h1,h2,h3,h4,h5,h6⟩
 ·exact .inl ⟨e,q z (by simp) _ h1,c,d,q TO (by simp) _ h2⟩
 ·exact .inr ⟨T,f,oa,q z (by simp) _ h1,hk T _ h6 h2,h3,h4,h5,h6⟩
theorem ZSt.item{x y:Value}{Q:Option Value->Shared->Prop}(st:ZSt s.heap z TI TO i1 i2 l1 l2 S xs ys i)(D:ZipApart z TI TO i1 i2 l1 l2)(hS:S < s.heap.objs.size)(hx:xs[i]?=some x)(hy:ys[i]?=some y)
  (hQ:∀h',ZSt h' z TI TO i1 i2 l1 l2 S xs ys (i+1)->IsPair h' s.heap.objs.size x y->h'.objs.size=s.heap.objs.size+1->(∀c o,c≠z->c≠TO->c≠i1->c≠i2->s.heap.get? c=some o->h'.get? c=some o)->Q (some (.ref s.heap.objs.size)) {s with heap:=h'}) :
  wpAny (model prog w) A (pyNext (.ref z)) Q E s:=by
 have lt:∀{c o},s.heap.get? c=some o->s.heap.objs.size≠c:=fun e=>Nat.ne_of_gt (Heap.lt_size e)
 have a1:s.heap.objs.size≠i1:=by obtain⟨_,e,_⟩:=st.a;exact lt e
 have a2:s.heap.objs.size≠i2:=by obtain⟨_,e,_⟩:=st.b;exact lt e
 rcases st.o with ⟨rfl,h1,c,d,h2⟩|⟨T,f,oa,h1,h2,h3,h4,h5,h6⟩
 ·refine wpAny_pyNext_zip_item D h1 st.ti h2 st.a st.b st.la st.lb hx hy fun h' b1 b2 b3 b4 b5 b6 k=>hQ h' ⟨k _ _ D.TIz D.TITO D.TIi1 D.TIi2 st.ti,b3,b4,st.la.at fun o e=>k _ o D.l1z D.l1TO D.l1i1 D.l1i2 e,st.lb.at fun o e=>k _ o D.l2z D.l2TO D.l2i1 D.l2i2 e,.inr ⟨_,false,_,b1,b5,lt h1,a1,a2,Nat.ne_of_gt hS⟩⟩ b5 b6 k
 ·refine vA D h1 h2 st.ti st.a st.b st.la st.lb hx hy fun h' b1 b3 b4 b5 b6 k=>hQ h' ⟨k _ _ D.TIz D.TIi1 D.TIi2 st.ti,b3,b4,st.la.at fun o e=>k _ o D.l1z D.l1i1 D.l1i2 e,st.lb.at fun o e=>k _ o D.l2z D.l2i1 D.l2i2 e,.inr ⟨T,true,oa,b1,k _ _ h3 h4 h5 h2,h3,h4,h5,h6⟩⟩ b5 b6 fun c o c1 _ c3 c4 e=>k c o c1 c3 c4 e
theorem ZSt.done{Q:Option Value->Shared->Prop}(hh:A.handled=none)(st:ZSt s.heap z TI TO i1 i2 l1 l2 S xs ys i)(D:ZipApart z TI TO i1 i2 l1 l2)(hend:xs[i]?=none\/ys[i]?=none)
  (hQ:∀h',(∀c o,c≠z->c≠TO->c≠i1->c≠i2->s.heap.get? c=some o->h'.get? c=some o)->Q none {s with heap:=h'}):wpAny (model prog w) A (pyNext (.ref z)) Q E s:=by
 rcases st.o with ⟨rfl,h1,c,d,h2⟩|⟨T,f,oa,h1,h2,h3,h4,h5,h6⟩
 ·exact wpAny_pyNext_zip_end hh D h1 st.ti h2 st.a st.b st.la st.lb hend hQ
 ·exact zf hh D h1 h2 st.ti st.a st.b st.la st.lb hend fun h' k=>hQ h' fun c o c1 _ c3 c4 e=>k c o c1 c3 c4 e
end
section
variable {prog:Program}{w:World}{A:Around}{s:Shared}{R:Result->Shared->Prop}{z TI TO i1 i2 l1 l2 S lo:Addr}{xs ys:Array Value}
theorem wd(hh:A.handled=none)(D:ZipApart z TI TO i1 i2 l1 l2)(hS:∀b∈[z,TI,TO,i1,i2,l1,l2],b≠S)(hlo:∀b∈[z,TO,i1,i2,S],b < lo)(n:Nat)(hn:n=min xs.size ys.size)(hz:n<=sizeLine)(res:Value){h₁:Heap}
  (hR:∀h' tk acc c as,(∀b o,b≠S->b∉[z,TO,i1,i2]->h₁.get? b=some o->h'.get? b=some o)->h'.get? S=some {cls:=.type "list",dict:=none,data:=.seq acc c,slots:=#[]}->as.length=n->ZG xs ys lo h' as->
   acc.toList=as.map Value.ref->R (.ok (.ret res)) {s with heap:=h',toks:=tk}) :
  ∀(k i:Nat) (h:Heap) (tk c:Nat) (acc:Array Value) (as:List Addr),n - i=k->i<=n->ZSt h z TI TO i1 i2 l1 l2 S xs ys i->(∀b o,b≠S->b∉[z,TO,i1,i2]->h₁.get? b=some o->h.get? b=some o)->
   h.get? S=some {cls:=.type "list",dict:=none,data:=.seq acc c,slots:=#[]}->acc.toList=as.map Value.ref->as.length=i->ZG xs ys lo h as->lo<=h.objs.size->
   codeAny (model prog w) A (.builtin "list.extend.loop" ⟨[.ref S,.ref z,res],[]⟩) R {s with heap:=h,toks:=tk}:=by
 have nS:∀b∈[z,TO,i1,i2],S≠b:=fun b hb=>Ne.symm (hS b (by simp only[List.mem_cons,List.not_mem_nil,or_false]at hb ⊢;rcases hb with rfl|rfl|rfl|rfl<;>simp))
 intro k
 induction k with
 |zero=>
  intro i h tk c acc as hk hi hst hkeep hL hacc hal hG hIs
  have hin:i=n:=by omega
  refine codeAny_builtin PySem.F.entry_extend_loop ?_
  rw[Around.under_plainId PySem.F.plain_extend_loop _]
  show wpAny _ A.in1 (pyNext (.ref z) >>=_) _ _ _
  refine wpAny_bind (ZSt.done (s:={s with heap:=h,toks:=tk}) (A:=A.in1) hh hst D (by
   have:xs.size<=i\/ys.size<=i:=by omega
   rcases this with q|q
   ·exact .inl (Array.getElem?_eq_none q)
   ·exact .inr (Array.getElem?_eq_none q)) fun h' he=>?_)
  have he':∀b o,b∉[z,TO,i1,i2]->h.get? b=some o->h'.get? b=some o:=fun b o hb e=>by
   simp only[List.mem_cons,List.not_mem_nil,or_false,not_or]at hb
   exact he b o hb.1 hb.2.1 hb.2.2.1 hb.2.2.2 e
  refine wpAny_pure (hR h' tk acc c as (fun b o h1 h2 e=>he' b o h2 (hkeep b o h1 h2 e)) (he' S _ (fun hb=>nS S hb rfl) hL) (by omega) ⟨hG.rise,hG.above,fun j a hj=>?_⟩ hacc)
  obtain⟨x,y,e1,e2,e3⟩:=hG.pairs j a hj
  have ha:=hG.above a (List.mem_of_getElem? hj)
  exact⟨x,y,e1,e2,he' a _ (fun hb=>absurd (hlo a (by simp only[List.mem_cons,List.not_mem_nil,or_false]at hb ⊢;rcases hb with rfl|rfl|rfl|rfl<;>simp)) (Nat.not_lt.mpr ha)) e3⟩
 |succ k ih=>
  intro i h tk c acc as hk hi hst hkeep hL hacc hal hG hIs
  have hx:xs[i]?=some (xs[i]'(by omega)):=Array.getElem?_eq_getElem _
  have hy:ys[i]?=some (ys[i]'(by omega)):=Array.getElem?_eq_getElem _
  have hsz:acc.size=i:=by rw[<-Array.length_toList,hacc,List.length_map,hal]
  refine codeAny_builtin PySem.F.entry_extend_loop ?_
  rw[Around.under_plainId PySem.F.plain_extend_loop _]
  show wpAny _ A.in1 (pyNext (.ref z) >>=_) _ _ _
  refine wpAny_bind (ZSt.item (s:={s with heap:=h,toks:=tk}) (S:=S) hst D (Heap.lt_size hL) hx hy fun h' hst' ht hzz hkp=>?_)
  dsimp only at ht hzz hkp ⊢
  have hkp':∀b o,b∉[z,TO,i1,i2]->h.get? b=some o->h'.get? b=some o:=fun b o hb e=>by
   simp only[List.mem_cons,List.not_mem_nil,or_false,not_or]at hb
   exact hkp b o hb.1 hb.2.1 hb.2.2.1 hb.2.2.2 e
  have hL':=hkp' S _ (fun hb=>nS S hb rfl) hL
  have up:∀b o,b≠S->h'.get? b=some o->(h'.update S (Obj.mapSeq (·.push (Value.ref h.objs.size)))).get? b=some o:=fun b o hb e=>(Heap.get?_update_other _ _ (Ne.symm hb)).trans e
  have hSl:S < h.objs.size:=Heap.lt_size hL
  show wpAny _ A.in1 (updateSeq S (·.push (Value.ref h.objs.size)) >>=_) _ _ _
  refine wpAny_bind ?_
  refine wpAny_updateSeq hL' rfl (wpAny_pure ⟨plainId_quiet PySem.F.plain_extend_loop _,ih (i+1) _ tk _ (acc.push (Value.ref h.objs.size)) (as++[h.objs.size]) (by omega) (by omega) (hst'.keep D up hS)
   (fun b o h1 h2 e=>up b o h1 (hkp' b o h2 (hkeep b o h1 h2 e))) (Heap.get?_update_self _ hL' rfl) (by rw[Array.toList_push,hacc,List.map_append];rfl) (by rw[List.length_append,hal];rfl) ⟨?_,?_,?_⟩ ?_⟩) (by rw[hsz];omega) (by show (acc.push (Value.ref h.objs.size)).size<=sizeLine+1;rw[Array.size_push,hsz];omega)
  ·refine List.pairwise_append.mpr ⟨hG.rise,List.pairwise_singleton _ _,fun a ha b hb=>?_⟩
   rw[List.mem_singleton.mp hb]
   exact hG.there ha
  ·intro a ha
   rcases List.mem_append.mp ha with ha|ha
   ·exact hG.above a ha
   ·rw[List.mem_singleton.mp ha];exact hIs
  ·intro j b hj
   rcases Nat.lt_trichotomy j as.length with h1|h1|h1
   ·rw[List.getElem?_append_left h1]at hj
    obtain⟨x',y',e1,e2,e3⟩:=hG.pairs j b hj
    have hb:=hG.above b (List.mem_of_getElem? hj)
    exact⟨x',y',e1,e2,up b _ (Nat.ne_of_gt (Nat.lt_of_lt_of_le (hlo S (by simp)) hb)) (hkp' b _ (fun hb'=>absurd (hlo b (by simp only[List.mem_cons,List.not_mem_nil,or_false]at hb' ⊢;rcases hb' with rfl|rfl|rfl|rfl<;>simp)) (Nat.not_lt.mpr hb)) e3)⟩
   ·subst h1
    have hb:h.objs.size=b:=by simpa using hj
    subst hb
    exact⟨_,_,by rw[hal];exact hx,by rw[hal];exact hy,up _ _ (Nat.ne_of_gt hSl) ht⟩
   ·have hnone:(as++[h.objs.size])[j]?=none:=List.getElem?_eq_none (by rw[List.length_append,List.length_singleton];omega)
    rw[hnone]at hj;cases hj
  ·have e:(h'.update S (Obj.mapSeq (·.push (Value.ref h.objs.size)))).get? h.objs.size=_:=up _ _ (Nat.ne_of_gt hSl) ht
   exact Nat.le_of_lt (Nat.lt_of_le_of_lt hIs (Heap.lt_size e))
end
section
variable {prog:Program}{w:World}{A:Around}{E:Value->Shared->Prop}{s:Shared}{R:Result->Shared->Prop}{z TI TO i1 i2 l1 l2 S lo:Addr}{xs ys:Array Value}
theorem oO(hh:A.handled=none)(D:ZipApart z TI TO i1 i2 l1 l2)(st:ZSt s.heap z TI TO i1 i2 l1 l2 S xs ys 0)(hS:∀b∈[z,TI,TO,i1,i2,l1,l2],b≠S)(hlo:∀b∈[z,TO,i1,i2,S],b < lo)(hl:lo<=s.heap.objs.size)(hz:min xs.size ys.size<=sizeLine)(res:Value)(c₀:Nat)(hL:s.heap.get? S=some {cls:=.type "list",data:=.seq #[] c₀})
  (hR:∀h' tk acc c as,(∀b o,b≠S->b∉[z,TO,i1,i2]->s.heap.get? b=some o->h'.get? b=some o)->h'.get? S=some {cls:=.type "list",dict:=none,data:=.seq acc c,slots:=#[]}->as.length=min xs.size ys.size->ZG xs ys lo h' as->
   acc.toList=as.map Value.ref->R (.ok (.ret res)) {s with heap:=h',toks:=tk}) :
  wpAny (model prog w) A.in1 (Builtin.List.listExtendWith (.ref S) (.ref z) res)
   (fun fin s'=>match fin with|.done f=>R (.ok f) s'|.again c'=>c'.quiet=true/\codeAny (model prog w) A c' R s') (fun e s'=>R (.error e) s') s:=by
 have hT:s.TypeIs (.ref z) "zip":=by
  rcases st.o with ⟨_,h1,_⟩|⟨_,_,_,h1,_⟩
  ·exact⟨_,h1,rfl⟩
  ·exact⟨_,h1,rfl⟩
 have hzs:∃f0 f1,s.heap.get? z=some {cls:=.type "zip",dict:=none,data:=.fields #[f0,f1,.bool false,.ref TI,.ref TO],slots:=#[]}:=by
  rcases st.o with ⟨_,h1,_⟩|⟨_,_,_,h1,_⟩
  ·exact⟨_,_,h1⟩
  ·exact⟨_,_,h1⟩
 have key:∀(h:Heap) (c₁ tk:Nat),(∀b o,b≠S->s.heap.get? b=some o->h.get? b=some o)->h.get? S=some {cls:=.type "list",data:=.seq #[] c₁}->lo<=h.objs.size->
   codeAny (model prog w) A (.builtin "list.extend.loop" ⟨[.ref S,.ref z,res],[]⟩) R {s with heap:=h,toks:=tk}:=by
  intro h c₁ tk hk hS₁ hlz
  exact wd (h₁:=s.heap) hh D hS hlo _ rfl hz res hR _ 0 h tk c₁ #[] [] (Nat.sub_zero _) (Nat.zero_le _) (st.keep D hk hS) (fun b o hb _ e=>hk b o hb e) hS₁ rfl rfl ⟨List.Pairwise.nil,(fun _ ha=>nomatch ha),(fun j a hj=>by simp at hj)⟩ hlz
 unfold Builtin.List.listExtendWith
 refine wpAny_bind (wpAny_typeOf hT ?_)
 have h1:Builtin.List.listSameRef (.ref S) (.ref z)=false:=by simp[Builtin.List.listSameRef,Ne.symm (hS z (by simp))]
 have h2:(Value.type "zip" == Value.type "list")=false:=by decide
 have h3:(Value.type "zip" == Value.type "tuple")=false:=by decide
 simp only[h1,h2,h3,Bool.or_false,Bool.false_eq_true,if_false]
 have hself:∀{Q:Value->Shared->Prop}{E:Value->Shared->Prop},Q (.ref z) s->wpAny (model prog w) A.in1 (pyIter (.ref z)) Q E s:=fun {Q E} h=>by
  refine wpAny_pyIter_slot hT PySem.F.slot_zip_iter (wpAny_call_entry PySem.F.slot_zip_iter hT PySem.F.entry_zip_iter ?_ (PySem.F.args_zip_iter_1 _))
  show wpAny _ _ (ret (.ref z)) _ _ s
  exact wpAny_pure ⟨_,rfl,"zip",_,hT,PySem.F.slot_zip_next.lookup,h⟩
 refine wpAny_bind (hself ?_)
 refine wpAny_bind (wpAny_holding ?_)
 unfold Builtin.List.listLengthHint
 refine wpAny_bind (wpAny_specialOf hT lg ?_)
 show wpAny _ A.in1 (specialOf (Value.ref z) (Str.ofString "__length_hint__") >>=_) _ _ _
 refine wpAny_bind (wpAny_specialOf hT jU ?_)
 refine wpAny_pure ?_
 show wpAny _ A.in1 (rule "list.extend.makes-room" >>=fun _=>Builtin.List.listTouch (.ref S) >>=fun _=>
  again (.builtin "list.extend.loop" ⟨[.ref S,.ref z,res],[]⟩)) _ _ _
 refine wpAny_bind (wpAny_rule ?_)
 refine wpAny_bind ?_
 show wpAny _ A.in1 (updateSeq S (·.push .none) >>=fun _=>updateSeq S (·.pop)) _ _ _
 refine wpAny_bind (wpAny_updateSeq hL rfl ?_)
 have hS₂:=Heap.get?_update_self (Obj.mapSeq (·.push Value.none)) hL rfl
 refine wpAny_updateSeq (hz:=by seq_fits) hS₂ rfl ?_
 have hS₃:=Heap.get?_update_self (Obj.mapSeq (·.pop)) hS₂ rfl
 refine wpAny_pure ⟨plainId_quiet PySem.F.plain_extend_loop _,key _ _ _ (fun b o hb e=>?_) hS₃ ?_⟩
 ·exact (Heap.get?_update_other _ _ (Ne.symm hb)).trans ((Heap.get?_update_other _ _ (Ne.symm hb)).trans e)
 ·rw[Heap.size_update,Heap.size_update];exact hl
theorem uM{Q:Value->Shared->Prop}(hh:A.handled=none)(D:ZipApart z TI TO i1 i2 l1 l2)(hz:IsZip s.heap z TI TO .none)(hTI:IsPair s.heap TI (.ref i1) (.ref i2))(hTO:∃c d,IsPair s.heap TO c d)
  (h1:s.heap.IsListIter i1 l1 0) (h2:s.heap.IsListIter i2 l2 0) (hl1:s.heap.IsList l1 xs) (hl2:s.heap.IsList l2 ys) (hn:min xs.size ys.size<=sizeLine)
  (hQ:∀h' tk acc c as,(∀b o,b∉[z,TO,i1,i2]->s.heap.get? b=some o->h'.get? b=some o)->h'.get? s.heap.objs.size=some {cls:=.type "list",dict:=none,data:=.seq acc c,slots:=#[]}->as.length=min xs.size ys.size->ZG xs ys (s.heap.objs.size+1) h' as->
   acc.toList=as.map Value.ref->Q (.ref s.heap.objs.size) {s with heap:=h',toks:=tk}) :
  wpAny (model prog w) A (call (.type "list") [.ref z]) Q E s:=by
 have lt:∀{c o},s.heap.get? c=some o->c < s.heap.objs.size:=fun e=>Heap.lt_size e
 have hlt:∀b∈[z,TI,TO,i1,i2,l1,l2],b < s.heap.objs.size:=fun b hb=>by
  obtain⟨_,_,h3⟩:=hTO
  obtain⟨_,e1,_⟩:=id h1
  obtain⟨_,e2,_⟩:=id h2
  obtain⟨_,e3,_⟩:=id hl1
  obtain⟨_,e4,_⟩:=id hl2
  simp only[List.mem_cons,List.not_mem_nil,or_false]at hb
  rcases hb with rfl|rfl|rfl|rfl|rfl|rfl|rfl
  ·exact lt hz
  ·exact lt hTI
  ·exact lt h3
  ·exact lt e1
  ·exact lt e2
  ·exact lt e3
  ·exact lt e4
 refine callType_codes (Q₁:=fun obj s₁=>obj=.ref s.heap.objs.size/\s₁={s with heap:=s.heap.push {cls:=.type "list",data:=.seq #[]}}) PySem.F.called_list (PySem.F.typeCall_list_1 _) PySem.F.entry_list_init
  (code_list_new _ ⟨rfl,rfl⟩) fun obj s₁ h₁=>?_
 obtain⟨rfl,rfl⟩:=h₁
 have hS:(s.heap.push {cls:=.type "list",data:=.seq #[]}).get? s.heap.objs.size=some {cls:=.type "list",data:=.seq #[]}:=Heap.get?_push_size _ rfl
 refine⟨⟨_,hS,rfl⟩,PySem.F.args_list_init_2 _ _,?_⟩
 show wpAny _ _ (do let old<-Builtin.List.listItems (.ref s.heap.objs.size);Builtin.List.listUpdate (.ref s.heap.objs.size) (fun _=>#[]);letGo old.toList.reverse;Builtin.List.listExtendWith (.ref s.heap.objs.size) (.ref z) .none) _ _ _
 refine wpAny_bind ?_
 unfold Builtin.List.listItems
 refine wpAny_bind (wpAny_seqItems hS rfl (wpAny_pure ?_))
 show wpAny _ _ (updateSeq s.heap.objs.size (fun _=>#[]) >>=fun _=>letGo (#[]:Array Value).toList.reverse >>=fun _=>Builtin.List.listExtendWith (.ref s.heap.objs.size) (.ref z) .none) _ _ _
 refine wpAny_bind (wpAny_updateSeq hS rfl ?_)
 have hS₂:=Heap.get?_update_self (Obj.mapSeq (fun _=>(#[]:Array Value))) hS rfl
 have oth:∀b o,s.heap.get? b=some o->((s.heap.push {cls:=.type "list",data:=.seq #[]}).update s.heap.objs.size (Obj.mapSeq (fun _=>(#[]:Array Value)))).get? b=some o:=
  fun b o e=>(Heap.get?_update_other _ _ (Nat.ne_of_gt (lt e))).trans (Heap.get?_push_of_some _ e)
 refine wpAny_bind (wpAny_letGo ?_)
 have hl0:s.heap.objs.size+1<=((s.heap.push {cls:=.type "list",data:=.seq #[]}).update s.heap.objs.size (Obj.mapSeq (fun _=>(#[]:Array Value)))).objs.size:=Heap.lt_size hS₂
 refine oO (A:=A.in1) (s:={s with heap:=(s.heap.push {cls:=.type "list",data:=.seq #[]}).update s.heap.objs.size (Obj.mapSeq (fun _=>(#[]:Array Value)))}) (lo:=s.heap.objs.size+1) hh D ⟨oth _ _ hTI,h1.at fun o e=>oth _ o e,h2.at fun o e=>oth _ o e,hl1.at fun o e=>oth _ o e,hl2.at fun o e=>oth _ o e,.inl ⟨rfl,oth _ _ hz,let ⟨c,d,e⟩:=hTO;⟨c,d,oth _ _ e⟩⟩⟩ (fun b hb=>Nat.ne_of_lt (hlt b hb)) (fun b hb=>?_) hl0 hn .none _ hS₂ (fun h' tk acc c as hk hS' hl hG hacc=>?_)
 ·simp only[List.mem_cons,List.not_mem_nil,or_false]at hb
  rcases hb with rfl|rfl|rfl|rfl|rfl
  ·exact Nat.lt_succ_of_lt (hlt _ (by simp))
  ·exact Nat.lt_succ_of_lt (hlt _ (by simp))
  ·exact Nat.lt_succ_of_lt (hlt _ (by simp))
  ·exact Nat.lt_succ_of_lt (hlt _ (by simp))
  ·exact Nat.lt_succ_self _
 ·exact⟨rfl,hQ h' tk acc c as (fun b o hb e=>hk b o (Nat.ne_of_lt (lt e)) hb (oth b o e)) hS' hl hG hacc⟩
end
section
variable {X:Cx}{pins:List (Addr×Obj)}{σ:St}{H H':Hp}{s:Shared}{h':Heap}
theorem Inv.grown{t':Nat}(I:Inv X pins σ H s)(k:∀b u,s.heap.get? b=some u->h'.get? b=some u)(he:∀b,b < s.heap.objs.size->H' b=H b)(new:∀b u,s.heap.objs.size<=b->H' b=some u->ObjOk X.prog X.w H' h' b u) :
  Inv X pins σ H' {s with heap:=h',toks:=t'}:=by
 have up:∀b u,H b=some u->H' b=some u:=fun b u e=>(he b (I.hok.lt e)).trans e
 refine I.un ⟨fun b o e _ _ _=>k b o e,fun b o e _ _ _=>⟨o.slots,k b o e⟩,fun b o e n _=>(he b (Heap.lt_size e)).trans n,fun b o e _=>⟨o,k b o e⟩,fun b xs e=>up b _ e,fun b o u e=>up b _ e,fun b ps e=>⟨#[],by rw[up b _ e];simp⟩⟩ fun b u e=>?_
 by_cases hb:b < s.heap.objs.size
 ·rw[he b hb]at e
  exact (I.hok b u e).stay (fun c v _ q=>k c v q) (fun c q=>up c _ q) fun c xs q=>up c _ q
 ·exact new b u (Nat.not_lt.mp hb) e
end
theorem sF:∀as:List Addr,Vals (as.map V.ref) (as.map Value.ref)
 |[]=>.nil
 |_::r=>.cons rfl (sF r)
noncomputable def eh:List Addr->List V->List V->Hp->Hp
 |a::as,v::vs,u::us,H=>upd (eh as vs us H) a (.tup [v,u])
 |_,_,_,H=>H
theorem cY{H:Hp}{b:Addr}:∀{as:List Addr}{vs us:List V},b∉as->eh as vs us H b=H b
 |[],_,_,_=>by simp[eh]
 |a::as,[],_,_=>by simp[eh]
 |a::as,_::_,[],_=>by simp[eh]
 |a::as,v::vs,u::us,h=>by
  rw[eh,ah (fun z=>h (by simp[z])),cY fun z=>h (List.mem_cons_of_mem _ z)]
theorem ju{H:Hp}{a:Addr}{v u:V}:∀{as:List Addr}{vs us:List V}{j:Nat},as.Pairwise (· < ·)->as[j]?=some a->vs[j]?=some v->us[j]?=some u->eh as vs us H a=some (.tup [v,u])
 |[],_,_,_,_,e,_,_=>by simp at e
 |_::_,[],_,_,_,_,e,_=>by simp at e
 |_::_,_::_,[],_,_,_,_,e=>by simp at e
 |b::as,v'::vs,u'::us,0,_,e1,e2,e3=>by
  simp at e1 e2 e3;subst e1;subst e2;subst e3
  rw[eh,ai]
 |b::as,v'::vs,u'::us,j+1,hp,e1,e2,e3=>by
  have hb:=List.pairwise_cons.mp hp
  have e1':as[j]?=some a:=by simpa using e1
  rw[eh,ah (Nat.ne_of_gt (hb.1 a (List.mem_of_getElem? e1')))]
  exact ju hb.2 e1' (by simpa using e2) (by simpa using e3)
theorem nX{H:Hp}{b:Addr}{o:HO}:∀{as:List Addr}{vs us:List V},as.length=min vs.length us.length->b∈as->eh as vs us H b=some o->as.Pairwise (· < ·)->∃(j:Nat) (v u:V),as[j]?=some b/\vs[j]?=some v/\us[j]?=some u/\o=.tup [v,u]:=fun {as vs us} hl hb e hp=>by
 obtain⟨j,hj⟩:=List.mem_iff_getElem?.mp hb
 have hjl:j < as.length:=(List.getElem?_eq_some_iff.mp hj).1
 have h1:vs[j]?=some (vs[j]'(by omega)):=List.getElem?_eq_getElem _
 have h2:us[j]?=some (us[j]'(by omega)):=List.getElem?_eq_getElem _
 rw[ju hp hj h1 h2]at e
 cases e
 exact⟨j,_,_,hj,h1,h2,rfl⟩
theorem jY{K:PySem.W.Frag}{H:Hp}:∀(as:List Addr) (vs us:List V) (ds es:List D),as.length=min vs.length us.length->DenL K H ds vs->DenL K H es us->(∀(j:Nat) a v u,as[j]?=some a->vs[j]?=some v->us[j]?=some u->H a=some (.tup [v,u]))->DenL K H (dY ds es) (as.map V.ref)
 |[],vs,us,ds,es,hl,d1,d2,_=>by
  have l1:=d1.length
  have l2:=d2.length
  have hz:(dY ds es).length=0:=by simp only[dY,List.length_map,List.length_zip];simp at hl;omega
  rw[List.eq_nil_of_length_eq_zero hz]
  rfl
 |a::as,[],_,_,_,hl,_,_,_=>by simp at hl
 |a::as,_::_,[],_,_,hl,_,_,_=>by simp at hl
 |a::as,v::vs,u::us,[],_,_,d1,_,_=>by have:=d1.length;simp at this
 |a::as,v::vs,u::us,_::_,[],_,_,d2,_=>by have:=d2.length;simp at this
 |a::as,v::vs,u::us,d::ds,e::es,hl,d1,d2,h=>by
  obtain⟨v',r,e1,a1,b1⟩:=d1
  cases e1
  obtain⟨u',r',e2,a2,b2⟩:=d2
  cases e2
  refine⟨.ref a,as.map V.ref,rfl,⟨a,[v,u],rfl,.inl (.inl (h 0 a v u rfl rfl rfl)),⟨v,[u],rfl,a1,⟨u,[],rfl,a2,rfl⟩⟩⟩,?_⟩
  exact jY as vs us ds es (by simp at hl ⊢;omega) b1 b2 fun j a v u q1 q2 q3=>h (j+1) a v u (by simpa using q1) (by simpa using q2) (by simpa using q3)
theorem u4{X:Cx}{cls:Nat->Addr}{E2:St->XK}{a b:Expr}{ta tb:St3->MH->VK3->XN->Prop}{p pos p' pos':Pos}{fz:Bool}(hc:X.calm=true)(hgl:Gl X "list")(hml:X.mg "list"=none)(hg:Gl X "zip")(hm:X.mg "zip"=none)(ha:PE X a (low X.K cls E2 ta))(hb:PE X b (low X.K cls E2 tb))(hs:starEach [a,b] X.env=[(false,eval a X.env),(false,eval b X.env)])(hs2:starEach [b] X.env=[(false,eval b X.env)]) :
  PE X (.Call (.Name "list" p') [.Call (.Name "zip" p) [a,b] [] pos] [] pos') (low X.K cls E2 fun σ M Q E=>ta σ M (fun x M1=>tb σ M1 (fun y M2=>rLz fz x y M2 Q) E) E):=by
 intro pins s σ H Q2 I hl_
 refine ex9 hl_ fun σ3 M Q E3 rm ds lk h back=>?_
 refine wpAny_Call_Name_kw (cR I hgl hml (u:=.type "list") (by decide +kernel) ?_)
 refine PyProof.Rows.callWith_type1 ?_
 refine Calls.spliced_cons ?_
 refine Call_ (cR I hg hm (u:=.type "zip") (by decide +kernel) (PyProof.Rows.callWith_type1 (thn ((aK ha (aK hb pa_nil hs2) (by rw[hs,hs2])) pos pins s σ H (fun vs H1=>∃v u x y M1,vs=[v,u]/\Den X.K H1 x v/\Den X.K H1 y u/\RelM X.K M1 H1/\TM X.K H H1/\rLz fz x y M1 Q) I ?_) fun us s1 ⟨vs,H1,I1,r1,q1⟩=>?_) (by rw[hs,hs2]) (by rw[hs2];rfl)))
 ·exact jg rm ds lk h fun v w H2 x y M2 dx dy rm2 t2 q2=>⟨v,w,x,y,M2,rfl,dx,dy,rm2,t2,q2⟩
 ·obtain⟨v,u,x,y,M1,rfl,dx,dy,rm1,t1,q⟩:=q1
  cases x with
  |rol es=>
   cases y with
   |rol fs=>
    obtain⟨c,vs,rfl,sq,dl⟩:=dx
    obtain⟨d,ws,rfl,sq2,dl2⟩:=dy
    obtain⟨u1,u2,rfl,ru,rw'⟩:=r1.two
    cases ru
    cases rw'
    obtain⟨its,rv,pl,hz⟩:=I1.list sq.sq
    obtain⟨its2,rv2,pl2,hz2⟩:=I1.list sq2.sq
    have a1:c < s1.heap.objs.size:=by obtain⟨_,_,e,_⟩:=pl;exact Heap.lt_size e
    have a2:d < s1.heap.objs.size:=by obtain⟨_,_,e,_⟩:=pl2;exact Heap.lt_size e
    refine call_zip_2 pl.isList pl2.isList fun h' h1 h2 h3 h4 h5 hsz k=>?_
    refine Calls.spliced_nil ?_
    have hl1:h'.IsList c its.toArray:=pl.isList.at fun o e=>k _ o e
    have hl2:h'.IsList d its2.toArray:=pl2.isList.at fun o e=>k _ o e
    have e1:=rv.length
    have e2:=rv2.length
    have hmin:min its.toArray.size its2.toArray.size=min vs.length ws.length:=by simp[e1,e2]
    refine uM (s:={s1 with heap:=h'}) (I.ok.hd hc) (zipApart_new a1 a2) h1 h2 ⟨_,_,h3⟩ h4 h5 hl1 hl2 (by rw[hmin];omega) fun h2' tk acc cc as hk hS hl hG hacc=>?_
    have hk':∀b o,s1.heap.get? b=some o->h2'.get? b=some o:=fun b o e=>hk b o (fun hb=>by
     have:=Heap.lt_size e
     simp only[List.mem_cons,List.not_mem_nil,or_false]at hb
     rcases hb with z|z|z|z<;>(rw[z]at this;first|exact absurd this (Nat.not_lt.mpr (Nat.le_add_right _ _))|exact absurd this (Nat.lt_irrefl _))) (k b o e)
    have hab:∀b∈as,s1.heap.objs.size < b:=fun b hb=>by
     have h6:h'.objs.size+1<=b:=hG.above b hb
     omega
    have hnS:h'.objs.size∉as:=fun hb=>by
     have h6:h'.objs.size+1<=h'.objs.size:=hG.above _ hb
     omega
    have hl':as.length=min vs.length ws.length:=by rw[hl];exact hmin
    have hHS:H1 h'.objs.size=none:=I1.hok.fresh (by omega)
    have he1:∀b,b < s1.heap.objs.size->eh as vs ws H1 b=H1 b:=fun b hb=>cY fun z=>by have:=hab b z;omega
    have up:∀b o,H1 b=some o->eh as vs ws H1 b=H1 b:=fun b o e=>he1 b (I1.hok.lt e)
    have I2:Inv X pins σ (upd (eh as vs ws H1) h'.objs.size (.lst (as.map V.ref))) {s1 with heap:=h2',toks:=tk}:=I1.grown hk' (fun b hb=>by rw[ah (Nat.ne_of_lt (by omega)),he1 b hb]) fun b o hb e=>by
     by_cases hbS:b=h'.objs.size
     ·subst hbS
      rw[ai]at e
      cases e
      refine⟨by rw[List.length_map];omega,as.map Value.ref,cc,sF as,?_⟩
      rw[<-hacc]
      simpa using hS
     ·rw[ah hbS]at e
      by_cases hba:b∈as
      ·obtain⟨j,v,u,q1,q2,q3,rfl⟩:=nX hl' hba e hG.rise
       obtain⟨x,y,q4,q5,q6⟩:=hG.pairs j b q1
       obtain⟨x',q7,rx⟩:=rv.get q2
       obtain⟨y',q8,ry⟩:=rv2.get q3
       have q4':its[j]?=some x:=by simpa using q4
       have q5':its2[j]?=some y:=by simpa using q5
       rw[q4']at q7;cases q7
       rw[q5']at q8;cases q8
       exact⟨by show 2<=sizeLine;decide,[x,y],.cons rx (.cons ry .nil),⟨_,q6,rfl,_,rfl⟩⟩
      ·rw[cY hba,I1.hok.fresh hb]at e
       cases e
    have tm1:TM X.K H1 (eh as vs ws H1):=.un (fun b xs e=>(up b _ e).trans e) fun b o u e=>(up b _ e).trans e
    exact bA I2 (by rw[cY hnS];exact hHS) (jY as vs ws es fs hl' (dl.mono tm1) (dl2.mono tm1) fun j a v u q1 q2 q3=>ju hG.rise q1 q2 q3) (fun a o e=>by
     obtain⟨u,hu⟩:=(rm1 a o e).tracked
     exact (rm1 a o e).stay tm1 (up a u hu)) (t1.trans tm1) q back
   |_=>exact q.elim
  |_=>exact q.elim
end L2
namespace L2
open PySem PySem.Spec PyProof.Rows
section
variable {X:Cx}
noncomputable def Itv(K:PySem.W.Frag)(a:Addr)(n:Nat):It:=
 ⟨fun i H=>∃xs,SqL K H a xs/\xs.length=n/\i < n,fun i H x H'=>H'=H/\∀xs,SqL K H a xs->xs[n - 1 - i]?=some x,fun i H=>i=n⟩
theorem nO{P:Program}{w:World}{K:PySem.W.Frag}{tg:Expr}(a it:Addr)(n:Nat):Turn P w K tg (Itv K a n) [it] it (fun i h=>h.IsRevIter it a ((n:Int) - 1 - (i:Int))) where
 mem:=by simp
 obj:=fun i h st b hb=>by
  have e:b=it:=by simpa using hb
  subst e
  obtain⟨o,e,c,d⟩:=st
  exact⟨o,e,fun v z=>by rw[d]at z;cases z⟩
 keep:=fun i h h' st k=>st.at fun o e=>k it (by simp) o e
 item:=by
  intro X hP hw hK hc i pins s σ H E I hf st hg
  subst hP hw hK
  obtain⟨xs,hq,hn,hi⟩:=hg
  obtain⟨its,rv,p,hz⟩:=I.list hq
  have hx:xs[n - 1 - i]?=some (xs[n - 1 - i]'(by omega)):=List.getElem?_eq_getElem _
  obtain⟨u,hu,ru⟩:=rv.get hx
  obtain⟨f0,f1,f2,f3,f4,f5⟩:=hf it (by simp)
  have e:(n:Int) - 1 - (i:Int)=((n - 1 - i:Nat):Int):=by omega
  rw[e]at st
  refine wpAny_pyNext_rev_item st p.isList (x:=u) (by simpa using hu) fun h' st' sb=>?_
  have e2:((n - 1 - i:Nat):Int) - 1=(n:Int) - 1 - ((i+1:Nat):Int):=by omega
  rw[e2]at st'
  have I1:Inv X pins σ H {s with heap:=h'}:=I.turned (t':=s.toks) (fun b o hb e=>(sb.2 b hb).trans e) f0 f1 f3 f4 f5
  obtain⟨o,e,c,d⟩:=id st'
  exact⟨u,rfl,kl (s:={s with heap:=h'}) e c d (by decide) ⟨_,H,I1,ru,⟨rfl,fun ys hy=>by rw[I.list_inj hy hq];exact hx⟩,st',fun b hb=>(hf b hb).1⟩⟩
 done:=by
  intro X hP hw hK hc i pins s σ H E I hf st hg
  subst hP hw hK
  have hg':i=n:=hg
  subst hg'
  obtain⟨f0,f1,f2,f3,f4,f5⟩:=hf it (by simp)
  have e:(i:Int) - 1 - (i:Int) = -1:=by omega
  rw[e]at st
  exact wpAny_pyNext_rev_end (I.ok.hd hc) st fun h' eb=>⟨rfl,I.turned (t':=s.toks) (fun b o hb e=>eb b o hb e) f0 f1 f3 f4 f5⟩
 self:=fun _ _ _ _ _ st h=>wpAny_pyIter_revIter st h
theorem ub{K:PySem.W.Frag}{H0:Hp}{p:Addr}{vs:List V}{ds:List D}(sq:SqF K H0 p vs)(dl:DenL K H0 ds vs):ItOk K H0 (Itv K p vs.length) ds.reverse (fun _=>True):=by
 have hlen:=dl.length
 refine⟨fun i H M t rm s hi=>?_,fun i H M x H' t rm s hi y=>?_,fun H M t rm s=>?_⟩
 ·exact⟨vs,(t.f _ _ sq).sq,rfl,by simp at hi;omega⟩
 ·obtain⟨rfl,hv⟩:=y
  obtain⟨d,e1,e2⟩:=(dl.mono t).get' (hv vs (t.f _ _ sq).sq)
  refine⟨.refl _,rm,d,?_,e2⟩
  simp only[List.length_reverse]at hi
  rw[List.getElem?_reverse hi,hlen]
  exact e1
 ·show ds.reverse.length=vs.length
  rw[List.length_reverse,hlen]
noncomputable def Er(K:PySem.W.Frag)(ta:TA):TI:=fun σ H R=>ta σ H fun vs H1=>∃a xs,vs=[.ref a]/\SqL K H1 a xs/\R (Itv K a xs.length) H1
theorem tW{tg a:Expr}{ta:TA}{p pos:Pos}(hg:Gl X "reversed")(hm:X.mg "reversed"=none)(ha:PA X [a] ta)(hs:starEach [a] X.env=[(false,eval a X.env)]):PI X tg (.Call (.Name "reversed" p) [a] [] pos) (Er X.K ta):=by
 intro pins s σ H R I h
 refine Call_ (cR I hg hm (u:=.type "reversed") (by decide +kernel) (PyProof.Rows.callWith_type1 (thn (ha pos pins s σ H _ I h) fun us s1 ⟨vs,H1,I1,r1,q1⟩=>?_) hs rfl))
 obtain⟨b,xs,e,hq,q⟩:=q1
 subst e
 obtain⟨u,rfl,ru⟩:=fM r1
 cases ru
 obtain⟨its,rv,pl,hz⟩:=I1.list hq
 refine call_reversed_list pl.isList ?_
 have e1:((its.toArray.size:Nat):Int) - 1=(xs.length:Int) - 1 - ((0:Nat):Int):=by have:=rv.length;simp;omega
 rw[e1]
 have k:∀b o,s1.heap.get? b=some o->(s1.heap.push (revObj b ((xs.length:Int) - 1 - ((0:Nat):Int)))).get? b=some o:=fun b o e=>Heap.get?_push_of_some _ e
 have hit:(s1.heap.push (revObj b ((xs.length:Int) - 1 - ((0:Nat):Int)))).IsRevIter s1.heap.objs.size b ((xs.length:Int) - 1 - ((0:Nat):Int)):=⟨_,Heap.get?_push_size _ rfl,rfl,rfl⟩
 refine wpAny_pyIter_revIter (s:={s1 with heap:=s1.heap.push (revObj b ((xs.length:Int) - 1 - ((0:Nat):Int)))}) hit ?_
 refine⟨s1.heap.objs.size,[s1.heap.objs.size],_,_,H1,rfl,I1.kept (t':=s1.toks) (fun c o e=>Heap.get?_push_of_some _ e),nO b s1.heap.objs.size xs.length,hit,fun c hc=>?_,q⟩
 have e':c=s1.heap.objs.size:=by simpa using hc
 subst e'
 exact I1.fpOk (Nat.le_refl _) (I1.hok.fresh (Nat.le_refl _))
theorem B7{cls:Nat->Addr}{E2:St->XK}{tg a:Expr}{ta:St3->MH->VK3->XN->Prop}{p pos:Pos}(hg:Gl X "reversed")(hm:X.mg "reversed"=none)(ha:PE X a (low X.K cls E2 ta))(hs:starEach [a] X.env=[(false,eval a X.env)]) :
  PI X tg (.Call (.Name "reversed" p) [a] [] pos) (jk X.K cls E2 fun σ M R E=>ta σ M (fun x M1=>match x with
  |.rol ds=>R ds.reverse (fun _=>True) M1
  |_=>False) E):=
 (tW hg hm (aK ha pa_nil hs) hs).imp fun σ H R2 hl_=>ex9 hl_ fun σ3 M R E3 rm ds lk h k=>aS rm ds lk h fun v H1 x M1 dx rm1 t1 q1=>by
  cases x with
  |rol es=>
   obtain⟨q,vs,rfl,sq,dl⟩:=dx
   exact⟨q,vs,rfl,sq.sq,k _ _ _ _ _ (ub sq dl) rm1 t1 q1⟩
  |_=>exact q1.elim
end
end L2
namespace L2
open PySem PySem.Spec PyProof.Rows
section
variable {X:Cx}{cls:Nat->Addr}{E2:St->XK}{e:Expr}{pos p:Pos}
theorem xg{pins:List (Addr×Obj)}{σ:St}{H:Hp}{s:Shared}(I:Inv X pins σ H s):(s.heap.objs.size == sysModules)=false:=by
 have h:mainGlobals < s.heap.objs.size:=(I.mod.glob.keeps I.bk).lt
 have h2:sysModules < mainGlobals:=by decide
 exact beq_eq_false_iff_ne.mpr (Nat.ne_of_gt (Nat.lt_trans h2 h))
theorem wn(tk:Bool):PE X (.Dict [] [] pos) (low X.K cls E2 fun σ M Q E=>∀p,M p=none->Q (.ref p) (put M p (if tk=true then .dt [] [] else .dk [] []))):=by
 refine fun pins s σ H Q2 I hl_=>ex9 hl_ fun σ3 M Q E3 rm ds lk q back=>?_
 have hp:H s.heap.objs.size=none:=I.hok.fresh (Nat.le_refl _)
 have hb:=xg I
 have q0:=q s.heap.objs.size (rm.fresh hp)
 cases tk with
 |false=>
  have ok0:ObjOk X.prog X.w (upd H s.heap.objs.size (.dK [])) (s.heap.push {cls:=.type "dict",data:=.dict #[]}) s.heap.objs.size (.dK []):=⟨Nat.zero_le _,hb,[],.nil,Heap.DictOf.new s.heap⟩
  have I1:=I.laid (a:=s.heap.objs.size) (o:=.dK []) (h':=s.heap.push {cls:=.type "dict",data:=.dict #[]}) (t':=s.toks) (fun _ _ q=>Heap.get?_push_of_some _ q) (Nat.le_refl _) ok0
  have rm1:RelM X.K (put M s.heap.objs.size (.dk [] [])) (upd H s.heap.objs.size (.dK [])):=rm.lay hp ⟨[],ai,rfl,rfl⟩
  exact wpAny_Dict_empty ⟨.ref s.heap.objs.size,_,I1,rfl,back _ _ (.ref s.heap.objs.size) _ rfl rm1 (.new hp) q0⟩
 |true=>
  obtain⟨ob,es,ep,hq,hx,hd,he,_,_⟩:=(Heap.DictOfH.new (knd:=tupleKind (intKind X.prog X.w)) s.heap)
  have tb:cN s.heap.objs.size [] (s.heap.push {cls:=.type "dict",data:=.dict #[]}):=⟨ob,es,ep,hq,hx,hd,he⟩
  have ok0:ObjOk X.prog X.w (upd H s.heap.objs.size (.ext (cN s.heap.objs.size []))) (s.heap.push {cls:=.type "dict",data:=.dict #[]}) s.heap.objs.size (.ext (cN s.heap.objs.size [])):=
   ⟨tb,⟨ob,hq⟩,fun g1 g2 ⟨o1,es1,ep1,a1,a2,a3,a4⟩ kk=>⟨o1,es1,ep1,kk _ a1,a2,a3,a4⟩⟩
  have I1:=I.laid (a:=s.heap.objs.size) (o:=.ext (cN s.heap.objs.size [])) (h':=s.heap.push {cls:=.type "dict",data:=.dict #[]}) (t':=s.toks) (fun _ _ q=>Heap.get?_push_of_some _ q) (Nat.le_refl _) ok0
  have rm1:RelM X.K (put M s.heap.objs.size (.dt [] [])) (upd H s.heap.objs.size (.ext (cN s.heap.objs.size []))):=rm.lay hp ⟨[],[],ai,⟨rfl,.nil,Nat.zero_le _,hb,.nil,fun x hx=>nomatch hx⟩,rfl⟩
  exact wpAny_Dict_empty ⟨.ref s.heap.objs.size,_,I1,rfl,back _ _ (.ref s.heap.objs.size) _ rfl rm1 (.new hp) q0⟩
end
end L2
namespace L2
open PySem PySem.Spec PyProof.Rows
section
variable {X:Cx}{cls:Nat->Addr}{E2:St->XK}{pos:Pos}{pins:List (Addr×Obj)}{σ:St}{H:Hp}{s:Shared}{M:MH}{a:Addr}{ds:List D}{A:Around}{E:Value->Shared->Prop}{r:Value}
end
end L2
namespace L2
open PySem PySem.Spec PyProof.Rows
section
variable {prog:Program}{w:World}{A:Around}{E:Value->Shared->Prop}{s:Shared}{d it:Addr}{ob:Obj}{es:Array DictEntry}{ep i:Nat}{a1 a2:Value}
end
section
variable {X:Cx}{cls:Nat->Addr}{E2:St->XK}{o:Expr}{to:St3->MH->VK3->XN->Prop}{name:Str}{apos cpos pt:Pos}{elts:List Expr}{x1:Nat}
theorem TabOk.grow{K:PySem.W.Frag}{H H':Hp}{d:Addr}{ks:List (List Int)}{xs:List (List Int×Addr×Value)}{vs:List V}(z:TabOk K H d ks xs vs)(t:TM K H H'):TabOk K H' d ks xs vs:=⟨z.kx,z.nd,z.sz,z.no,z.vx,fun x hx=>t.t _ _ (z.at_ x hx)⟩
end
end L2
namespace L2
open PySem PySem.Spec PyProof.Rows PySem.W
section
variable {X:Cx}{cls:Nat->Addr}{E2:St->XK}{o tg:Expr}{to:St3->MH->VK3->XN->Prop}{apos cpos:Pos}
end
end L2
namespace L2
open PySem PySem.Spec PyProof.Rows
section
variable {X:Cx}{cls:Nat->Addr}{E2:St->XK}{tg a b c e l:Expr}{ta tb tc te:St3->MH->VK3->XN->Prop}{pos p:Pos}
end
end L2
namespace L2
open PySem PySem.Spec PyProof.Rows
theorem ER.upd_nx{K:PySem.W.Frag}{H:Hp}{D3:Ends3}{D2:Ends}(er:ER K H D3 D2){n3:St3->MH->Prop}{n2:St->Hp->Prop}(h:∀σ' H' σ3' M',RelM K M' H'->DenS K H' σ3' σ'->TM K H H'->n3 σ3' M'->n2 σ' H'):ER K H {D3 with nx:=n3} {D2 with nx:=n2}:=⟨h,er.rt,er.bk,er.ct⟩
section
variable {X:Cx}{cls:Nat->Addr}{E2:St->XK}{st:Stmt}{av:List Stmt}{t u:Ends3->(St3->XN)->St3->MH->Prop}{e:Expr}{te:St3->MH->VK3->XN->Prop}{pos:Pos}
theorem Cd:PSs X [] (bO X.K cls E2 fun D _ σ M=>D.nx σ M):=pss_nil.imp fun D2 σ H hl_=>ex9 hl_ fun σ3 M D3 E3 rm ds lk h er=>er.nx σ H σ3 M rm ds (.refl _) h
theorem vQ(h1:PS X st (bO X.K cls E2 t))(h2:PSs X av (bO X.K cls E2 u)):PSs X (st::av) (bO X.K cls E2 fun D E σ M=>t {D with nx:=fun σ' M'=>u D E σ' M'} E σ M):=
 (oM h1 h2).imp fun D2 σ H hl_=>ex9 hl_ fun σ3 M D3 E3 rm ds lk h er=>⟨σ3,M,_,E3,rm,ds,lk,h,er.upd_nx fun σ' H' σ3' M' rm' ds' tm q=>⟨σ3',M',D3,E3,rm',ds',lk.mono tm,q,er.mono tm⟩⟩
theorem Be{i:Nat}(h2:PSs X av (bO X.K cls E2 u)):PSs X av (bO X.K cls E2 fun D E σ M=>match σ[i]? with
  |some (some (.ref a))=>u D E σ (del M a)
  |_=>False):=h2.imp fun D2 σ H hl_=>ex9 hl_ fun σ3 M D3 E3 rm ds lk h er=>by
 dsimp only at h
 split at h
 ·rename_i a e
  exact⟨σ3,_,D3,E3,rm.sub fun b o q=>(fY q).2,ds,lk,h,er⟩
 ·exact h.elim
theorem xJ(he:PE X e (low X.K cls E2 te))(hs:swapsWith e none pos.line X.env=pure false):PS X (.Expr e pos) (bO X.K cls E2 fun D E σ M=>te σ M (fun _ M1=>D.nx σ M1) (E σ)):=
 (l6 he hs).imp fun D2 σ H hl_=>ex9 hl_ fun σ3 M D3 E3 rm ds lk h er=>aS rm ds (lk.at ds) h fun v H1 x M1 dx rm1 t1 q1=>er.nx σ H1 σ3 M1 rm1 (ds.mono t1) t1 q1
theorem BV(he:PE X e (low X.K cls E2 te)):PS X (.Return (some e) pos) (bO X.K cls E2 fun D E σ M=>te σ M D.rt (E σ)):=
 (xR he).imp fun D2 σ H hl_=>ex9 hl_ fun σ3 M D3 E3 rm ds lk h er=>aS rm ds (lk.at ds) h fun v H1 x M1 dx rm1 t1 q1=>er.rt v H1 x M1 dx rm1 t1 q1
theorem FP{c:Expr}{a b:List Stmt}{tA:St3->MH->(Bool->MH->Prop)->XN->Prop}(hc:PT X c (bW X.K cls E2 tA))(ha:PSs X a (bO X.K cls E2 t))(hb:PSs X b (bO X.K cls E2 u)) :
  PS X (.If c a b pos) (bO X.K cls E2 fun D E σ M=>tA σ M (fun k M1=>if k=true then t D E σ M1 else u D E σ M1) (E σ)):=
 (Bm hc ha hb).imp fun D2 σ H hl_=>ex9 hl_ fun σ3 M D3 E3 rm ds lk h er=>gK rm ds (lk.at ds) h fun k H1 M1 rm1 t1 q1=>by
  cases k with
  |true=>rw[if_pos rfl]at q1 ⊢;exact⟨σ3,M1,D3,E3,rm1,ds.mono t1,lk.mono t1,q1,er.mono t1⟩
  |false=>rw[if_neg Bool.false_ne_true]at q1 ⊢;exact⟨σ3,M1,D3,E3,rm1,ds.mono t1,lk.mono t1,q1,er.mono t1⟩
theorem sh{i:Nat}{x:Str}{pos':Pos}(hN:X.N.Nodup)(hi:X.N[i]?=some x)(hx:Loc X.env.scope x)(he:PE X e (low X.K cls E2 te))(hs:swapsWith e (some (.Name x pos')) pos.line X.env=pure false)(hf:X.fn x=true\/X.env.scope.names.lookup x=some .local) :
  PS X (.Assign [.Name x pos'] e pos) (bO X.K cls E2 fun D E σ M=>te σ M (fun x M1=>D.nx (σ.set i (some x)) M1) (E σ)):=
 (wS hN hi hx he hs hf).imp fun D2 σ H hl_=>ex9 hl_ fun σ3 M D3 E3 rm ds lk h er=>aS rm ds (lk.at ds) h fun v H1 x M1 dx rm1 t1 q1=>er.nx _ _ _ _ rm1 ((ds.mono t1).set dx) t1 q1
theorem vV{i:Nat}{x:Str}(hN:X.N.Nodup)(hi:X.N[i]?=some x)(hx:Loc X.env.scope x)(hf:X.fn x=true\/X.env.scope.names.lookup x=some .local):PG X (.Name x pos) (mF X.K (wpG (.name i))):=
 (fU hN hi hx hf).imp fun v σ H Q2 ⟨d,σ3,M,Q,dv,rm,ds,h,back⟩=>back _ _ _ _ rm (ds.set dv) (.refl _) h
noncomputable def cm(N:List Str)(sc:Scope)(fn:Bool):List Nat->List Expr->Bool
 |[],[]=>true
 |i::is,.Name x _::es=>(N[i]? == some x)&&(sc.names.lookup x == some .local||(fn&&sc.names.lookup x == some .cell))&&cm N sc fn is es
 |_,_=>false
noncomputable def gx{α:Type}(is:List Nat)(xs:List α)(σ:List (Option α)):List (Option α):=(is.zip xs).foldl (fun σ p=>σ.set p.1 (some p.2)) σ
theorem iV(hN:X.N.Nodup){fn:Bool}(hfn:fn=true->∀x,X.fn x=true):∀{is:List Nat}{es:List Expr},cm X.N X.env.scope fn is es=true->
  PGs X es (fun vs σ H Q=>vs.length=is.length/\Q (gx is vs σ) H)/\(assignEach es X.env).length=is.length/\(assignEach es X.env).findIdx? (·.1)=none
 |[],[],_=>⟨fun pins s σ H vs us Q I r ⟨e,h⟩=>qe pins s σ H vs us Q I r ⟨List.length_eq_zero_iff.mp e,by cases List.length_eq_zero_iff.mp e;exact h⟩,rfl,rfl⟩
 |[],_::_,h=>by simp[cm]at h
 |i::is,es,h=>by
  unfold cm at h
  split at h
  ·rename_i heq;cases heq
  ·rename_i i' is' x px es' heq
   cases heq
   simp only[Bool.and_eq_true,beq_iff_eq,Bool.or_eq_true]at h
   obtain⟨⟨h1,h2⟩,h3⟩:=h
   obtain⟨ih,il,ix⟩:=iV hN hfn h3
   have hg:PG X (.Name x px) (lW i):=by
    rcases h2 with h2|⟨h2,h4⟩
    ·exact fU hN h1 (.inl h2) (.inr h2)
    ·exact fU hN h1 (.inr h4) (.inl (hfn h2 x))
   refine⟨fun pins s σ H vs us Q I r ⟨e,q⟩=>?_,by show (assignEach es' X.env).length+1=is.length+1;rw[il],?_⟩
   ·cases vs with
    |nil=>cases e
    |cons v vs=>exact nQ hg ih rfl pins s σ H (v::vs) us Q I r ⟨v,vs,rfl,by simpa using e,q⟩
   ·show List.findIdx? (·.1) ((false,assign (.Name x px) X.env)::assignEach es' X.env)=none
    rw[List.findIdx?_cons]
    simp[ix]
  ·cases h
theorem gr{K:PySem.W.Frag}{H:Hp}:∀{is:List Nat}{ds:List D}{vs:List V}{σ3:St3}{σ:St},DenL K H ds vs->DenS K H σ3 σ->DenS K H (gx is ds σ3) (gx is vs σ)
 |[],_,_,_,_,_,h=>by simpa [gx] using h
 |i::is,[],vs,_,_,dl,h=>by cases (show vs=[] from dl);simpa [gx] using h
 |i::is,d::ds,vs,_,_,dl,h=>by
  obtain⟨v,r,rfl,dv,dl⟩:=dl
  exact gr (is:=is) dl (h.set (i:=i) dv)
theorem zb(hc:X.calm=true)(hN:X.N.Nodup){fn:Bool}(hfn:fn=true->∀x,X.fn x=true){is:List Nat}{es:List Expr}{k:Nat}(ok:cm X.N X.env.scope fn is es=true):PG X (.Tuple es k pos) (mF X.K (wpG (.tup is))):=by
 obtain⟨h1,h2,h3⟩:=iV hN hfn ok
 refine (sW hc h1 h2 h3).imp fun v σ H Q2 ⟨d,σ3,M,Q,dv,rm,ds,h,back⟩=>?_
 simp only[wpG]at h
 split at h
 ·rename_i es'
  obtain⟨p,vs,rfl,sq,dl⟩:=dv
  obtain⟨z,q⟩:=h
  exact⟨p,vs,rfl,sq,by rw[<-dl.length];exact z,by rw[<-dl.length];exact z,back _ _ _ _ rm (gr dl ds) (.refl _) q⟩
 ·exact h.elim
theorem BK{tg iter:Expr}{body:List Stmt}{wi:St3->MH->(List D->(MH->Prop)->MH->Prop)->XN->Prop}{g:D->St3->MH->(St3->MH->Prop)->Prop}(hp:PassesOwn (model X.prog X.w) X.A X.env X.xe)(hc:X.calm=true)(hi:PI X tg iter (jk X.K cls E2 wi))(hg:PG X tg (mF X.K g))(hb:PSs X body (bO X.K cls E2 t))
  (hs:∀x,foldedSetIterable iter X.env x=pure x):PS X (.For tg iter body [] pos) (bO X.K cls E2 fun D E σ M=>wi σ M (fun ds S M1=>gI g (fun D σ M=>t D E σ M) S D ds σ M1) (E σ)):=by
 refine (vW hp hc hi hg hb hs).imp fun D2 σ H hl_=>ex9 hl_ fun σ3 M D3 E3 rm ds0 lk h er=>⟨σ3,M,_,E3 σ3,rm,ds0,lk.at ds0,h,fun J H1 ds S M1 ok rm1 tm1 hP=>?_⟩
 refine⟨fun i m σ' H'=>∃σ3' M',m=ds.length - i/\i<=ds.length/\RelM X.K M' H'/\DenS X.K H' σ3' σ'/\TM X.K H1 H'/\gI g (fun D σ M=>t D E3 σ M) S D3 (ds.drop i) σ3' M',⟨ds.length,σ3,M1,by simp,Nat.zero_le _,rm1,ds0.mono tm1,.refl _,hP⟩,?_⟩
 rintro i m σ' H' ⟨σ3',M',rfl,hil,rm',ds',tm',p⟩
 by_cases hlt:i < ds.length
 ·rw[List.drop_eq_getElem_cons hlt]at p
  obtain⟨s',p⟩:=p
  refine .inr ⟨ok.go i H' M' tm' rm' s' hlt,fun σ4 H4=>∃σ34 M4,RelM X.K M4 H4/\DenS X.K H4 σ34 σ4/\TM X.K H1 H4/\gI g (fun D σ M=>t D E3 σ M) S D3 (ds.drop (i+1)) σ34 M4,?_,?_⟩
  ·rintro σ4 H4 ⟨σ34,M4,e1,e2,e3,e4⟩
   exact⟨ds.length - (i+1),by omega,σ34,M4,rfl,hlt,e1,e2,e3,e4⟩
  ·intro x H2 y
   obtain⟨tm2,rm2,d,hd,dv⟩:=ok.yld i H' M' x H2 tm' rm' s' hlt y
   rw[List.getElem?_eq_getElem hlt]at hd
   cases hd
   refine⟨_,σ3',M',_,dv,rm2,ds'.mono tm2,p,fun σ5 H5 σ35 M5 rm5 ds5 tm5 q5=>?_⟩
   have tmA:TM X.K H1 H5:=(tm'.trans tm2).trans tm5
   exact⟨σ35,M5,_,E3,rm5,ds5,lk.mono (tm1.trans tmA),q5,⟨fun σ6 H6 σ36 M6 rm6 ds6 tm6 q6=>⟨σ36,M6,rm6,ds6,tmA.trans tm6,q6⟩,fun v H6 d6 M6 dv6 rm6 tm6 q6=>er.rt v H6 d6 M6 dv6 rm6 (tm1.trans (tmA.trans tm6)) q6,
    fun σ6 H6 σ36 M6 rm6 ds6 tm6 q6=>er.nx σ6 H6 σ36 M6 rm6 ds6 (tm1.trans (tmA.trans tm6)) q6,fun σ6 H6 σ36 M6 rm6 ds6 tm6 q6=>⟨σ36,M6,rm6,ds6,tmA.trans tm6,q6⟩⟩⟩
 ·have e:i=ds.length:=by omega
  subst e
  rw[List.drop_length]at p
  exact .inl ⟨ok.stop H' M' tm' rm' p.1,er.nx σ' H' σ3' M' rm' ds' (tm1.trans tm') p.2⟩
theorem qr{E:XK}{x:Str}{np cpos:Pos}{i:Nat}{es:List Expr}{tr:St3->MH->(List D->MH->Prop)->XN->Prop}(hx:jH X E)(hE:E2=fun _=>E)(hc:X.calm=true)(hg:Gl X x)(hm:X.mg x=some (.ref (cls i)))(q:qL X.K (cls i))(ha:PA X (e::es) (cU X.K cls E2 tr))(hdb:(x == ("__debug__" : Str))=false)
  (he:starEach (e::es) X.env=(false,eval e X.env)::starEach es X.env) (hpl:(backTo cpos (starEach es X.env)).any (·.1)=false) :
  PS X (.Raise (some (.Call (.Name x np) (e::es) [] cpos)) none pos) (bO X.K cls E2 fun _ E σ M=>tr σ M (fun xs M1=>xs.length<=sizeLine/\E σ ⟨i,none⟩ M1) (E σ)):=by
 subst hE
 exact (om hx hc hg hm q ha hdb he hpl).imp fun D2 σ H hl_=>ex9 hl_ fun σ3 M D3 E3 rm ds lk h er=>da rm ds (lk.at ds) h fun vs H1 xs M1 dl rm1 t1 ⟨z,q⟩=>⟨by rw[<-dl.length];exact z,lk σ3 σ ⟨i,none⟩ M1 H1 t1 (ds.mono t1) rm1 q none rfl⟩
theorem BG{o:Expr}{to:St3->MH->VK3->XN->Prop}{apos cpos:Pos}(ho:PE X o (low X.K cls E2 to))(he:PE X e (low X.K cls E2 te))(hbase:attributeBase o "append" X.env (eval o X.env)=eval o X.env)
  (hline:(apos.endLine == cpos.line)=true) (hs:starEach [e] X.env=[(false,eval e X.env)]) :
  PS X (.Expr (.Call (.Attribute o "append" apos) [e] [] cpos) pos) (bO X.K cls E2 fun D E σ M=>to σ M (fun x M1=>match x with
  |.ref a=>match M1 a with
   |some (.lst _)=>te σ M1 (fun y M2=>match M2 a with
    |some (.lst ds)=>ds.length < sizeLine/\D.nx σ (put M2 a (.lst (ds++[y])))
    |_=>False) (E σ)
   |_=>False
  |_=>False) (E σ)):=by
 have hm:MtR X "list.append" rAppend:=jf
 have h1:=AG (X:=X) PySem.F.plainAttrs_list PySem.F.slot_list_append PySem.F.type_list_append hm ho (aK he pa_nil hs) hbase (by rw[hs];rfl) hline hs (by rfl)
 refine (l6 h1 (by rfl)).imp fun D2 σ H hl_=>ex9 hl_ fun σ3 M D3 E3 rm ds lk h er=>?_
 refine aS rm ds (lk.at ds) h fun v H1 x M1 dx rm1 t1 q1=>?_
 split at q1
 ·rename_i a
  cases (show v=.ref a from dx)
  split at q1
  ·rename_i ds0 e0
   obtain⟨vs0,f0,_⟩:=rm1 a _ e0
   refine⟨.inl ⟨rfl,vs0,.of f0⟩,aS rm1 (ds.mono t1) ((lk.mono t1).at (ds.mono t1)) q1 fun u H2 y M2 dy rm2 t2 q2=>?_⟩
   split at q2
   ·rename_i ds1 e1
    obtain⟨vs,f1,dl⟩:=rm2 a _ e1
    refine⟨a,vs,u,rfl,rfl,f1,by rw[<-dl.length];exact q2.1,?_⟩
    have tw:TM X.K H2 (upd H2 a (.lst (vs++[u]))):=.put f1 (fun _=>fun z=>nomatch z) fun _ _=>fun z=>nomatch z
    exact er.nx _ _ _ _ (rm2.write (u:=.lst (ds1++[y])) f1 (fun _=>fun z=>nomatch z) (fun _ _=>fun z=>nomatch z) ⟨_,ai,(dl.append (.one dy)).mono tw⟩) (((ds.mono t1).mono t2).mono tw) ((t1.trans t2).trans tw) q2.2
   ·exact q2.elim
  ·exact q1.elim
 ·exact q1.elim
end
end L2
namespace L2
open PySem PySem.Spec PyProof.Rows
noncomputable abbrev no2:St->XK:=fun _ _ _ _=>False
theorem pL{K:PySem.W.Frag}{H:Hp}{js:List (Option Nat)}{σ3:St3}{σ:St}(h:DenS K H σ3 σ):DenS K H (aP js σ3) (gE js σ):=by
 refine⟨by simp[aP,gE],fun i d e=>?_⟩
 unfold aP at e
 unfold gE
 rw[List.getElem?_map]at e ⊢
 cases q:js[i]? with
 |none=>rw[q]at e;cases e
 |some o=>
  rw[q]at e
  cases o with
  |none=>cases e
  |some j=>
   rw[Option.map_some,Option.bind_some]at e
   cases z:σ3[j]? with
   |none=>rw[z]at e;cases e
   |some y=>
    rw[z]at e
    have e:some (id y)=some (some d):=e
    have e:y=some d:=Option.some.inj e
    subst e
    obtain⟨v,e1,e2⟩:=h.2 j d z
    refine⟨v,?_,e2⟩
    rw[Option.map_some,Option.bind_some,e1]
    rfl
section
variable {X:Cx}{cls:Nat->Addr}{E2:St->XK}{elt tg iter:Expr}{ifs:List Expr}{scope:Scope}{pos:Pos}{N:List Str}{js:List (Option Nat)}{wi:St3->MH->(List D->(MH->Prop)->MH->Prop)->XN->Prop}{g:D->St3->MH->(St3->MH->Prop)->Prop}
 {tt:St3->MH->(Bool->MH->Prop)->XN->Prop}{te:St3->MH->VK3->XN->Prop}
theorem gJ{σ:St}{H:Hp}{σ3:St3}{M:MH}{Q:VK3}{Q2:VK}{E3:XN}(rm:RelM X.K M H)(ds0:DenS X.K H σ3 σ)(lk:LkE X.K cls H E3 (E2 σ))
  (h:wi σ3 M (fun ds S M1=>∀p,M1 p=none->cS g (fun σ M Q=>tt σ M Q (fun _ _=>False)) (fun σ M Q=>te σ M Q (fun _ _=>False)) S p Q ds [] (aP js σ3) (put M1 p (.lst []))) E3) (back:Back X.K H Q Q2) :
  l0 js (jk X.K cls E2 wi) (mF X.K g) (bW X.K cls no2 tt) (low X.K cls no2 te) σ H Q2:=by
 refine⟨σ3,M,_,E3,rm,ds0,lk,h,fun J H1 ds S M1 ok rm1 tm1 hP p hp=>?_⟩
 have hP:=hP p (rm1.fresh hp)
 refine⟨fun i m σc H'=>∃σ3c ys M',m=ds.length - i/\i<=ds.length/\RelM X.K M' H'/\DenS X.K H' σ3c σc/\TM X.K H1 H'/\cS g (fun σ M Q=>tt σ M Q (fun _ _=>False)) (fun σ M Q=>te σ M Q (fun _ _=>False)) S p Q (ds.drop i) ys σ3c M',
  ⟨ds.length,_,[],_,by simp,Nat.zero_le _,rm1.lay (u:=.lst []) hp ⟨[],ai,.nil⟩,(pL ds0).mono (tm1.trans (.new hp)),.new hp,hP⟩,?_⟩
 rintro i m σc H' ⟨σ3c,ys,M',rfl,hil,rm',ds',tm',q⟩
 by_cases hlt:i < ds.length
 ·rw[List.drop_eq_getElem_cons hlt]at q
  obtain⟨s',hl,q⟩:=q
  refine .inr ⟨ok.go i H' M' tm' rm' s' hlt,fun x H2 y=>?_⟩
  obtain⟨tm2,rm2,d,hd,dv⟩:=ok.yld i H' M' x H2 tm' rm' s' hlt y
  rw[List.getElem?_eq_getElem hlt]at hd
  cases hd
  refine⟨_,σ3c,M',_,dv,rm2,ds'.mono tm2,q,fun σ5 H5 σ35 M5 rm5 ds5 tm5 q5=>?_⟩
  refine⟨σ35,M5,_,_,rm5,ds5,LkE.no,q5,fun b H6 M6 rm6 tm6 q6=>?_⟩
  have tmA:TM X.K H1 H6:=((tm'.trans tm2).trans tm5).trans tm6
  cases b with
  |true=>
   rw[if_pos rfl]at q6
   dsimp only
   rw[if_pos rfl]
   refine⟨σ35,M6,_,_,rm6,ds5.mono tm6,LkE.no,q6,fun v H7 y M7 dy rm7 tm7 ⟨e7,q7⟩=>?_⟩
   obtain⟨vs,f7,dl⟩:=rm7 p _ e7
   have tw:TM X.K H7 (upd H7 p (.lst (vs++[v]))):=.put f7 (fun _=>fun z=>nomatch z) fun _ _=>fun z=>nomatch z
   exact⟨vs,f7,by rw[<-dl.length];exact hl,ds.length - (i+1),by omega,σ35,ys++[y],_,rfl,hlt,rm7.write (u:=.lst (ys++[y])) f7 (fun _=>fun z=>nomatch z) (fun _ _=>fun z=>nomatch z) ⟨_,ai,(dl.append (.one dy)).mono tw⟩,((ds5.mono tm6).mono tm7).mono tw,(tmA.trans tm7).trans tw,q7⟩
  |false=>
   rw[if_neg Bool.false_ne_true]at q6
   dsimp only
   rw[if_neg Bool.false_ne_true]
   exact⟨ds.length - (i+1),by omega,σ35,ys,M6,rfl,hlt,rm6,ds5.mono tm6,tmA,q6⟩
 ·have e:i=ds.length:=by omega
  subst e
  rw[List.drop_length]at q
  exact .inl ⟨ok.stop H' M' tm' rm' q.1,back _ _ _ _ eP rm' (tm1.trans tm') q.2⟩
variable (hok:dg N js scope X.env.scope X.N=true) (hcalm:X.calm=true) (hi:PI X tg iter (jk X.K cls E2 wi))
  (hg:∀C s2 H2 fp pn,PG (compCx X scope C N s2 H2 fp pn) tg (mF X.K g)) (ht:∀C s2 H2 fp pn,PIf (compCx X scope C N s2 H2 fp pn) ifs (bW X.K cls no2 tt)) (he:∀C s2 H2 fp pn,PE (compCx X scope C N s2 H2 fp pn) elt (low X.K cls no2 te))
  (hs:∀x,foldedSetIterable iter X.env x=pure x)
include hok hcalm hi hg ht he hs
theorem lP:PE X (.ListComp elt [⟨tg,iter,ifs,0⟩] scope pos) (low X.K cls E2 fun σ M Q E=>wi σ M (fun ds S M1=>∀p,M1 p=none->cS g (fun σ M Q=>tt σ M Q (fun _ _=>False)) (fun σ M Q=>te σ M Q (fun _ _=>False)) S p Q ds [] (aP js σ) (put M1 p (.lst []))) E):=
 (rO hok hcalm hi hg ht he hs).imp fun σ H Q2 hl_=>ex9 hl_ fun σ3 M Q E3 rm ds lk h back=>gJ rm ds lk h back
theorem xK(fz:Bool):PE X (.ListComp elt [⟨tg,iter,ifs,0⟩] scope pos) (low X.K cls E2 fun σ M Q E=>wi σ M (fun ds S M1=>∀p,M1 p=none->cS g (fun σ M Q=>tt σ M Q (fun _ _=>False)) (fun σ M Q=>te σ M Q (fun _ _=>False)) S p (if fz=true then dR Q else Q) ds [] (aP js σ) (put M1 p (.lst []))) E):=by
 cases fz with
 |false=>exact lP hok hcalm hi hg ht he hs
 |true=>exact uL (lP hok hcalm hi hg ht he hs)
theorem k8{i:Nat}{y:Str}{py spos:Pos}(hN:X.N.Nodup)(hy:X.N[i]?=some y)(hl:X.env.scope.names.lookup y=some .local)(hsw:swapsWith (.ListComp elt [⟨tg,iter,ifs,0⟩] scope pos) (some (.Name y py)) spos.line X.env=pure true)(fz:Bool) :
  PS X (.Assign [.Name y py] (.ListComp elt [⟨tg,iter,ifs,0⟩] scope pos) spos) (bO X.K cls E2 fun D E σ M=>wi σ M (fun ds S M1=>∀p,M1 p=none->cS g (fun σ M Q=>tt σ M Q (fun _ _=>False)) (fun σ M Q=>te σ M Q (fun _ _=>False)) S p (if fz=true then dR (fun x M1=>D.nx (σ.set i (some x)) M1) else (fun x M1=>D.nx (σ.set i (some x)) M1)) ds [] (aP js σ) (put M1 p (.lst []))) (E σ)):=by
 cases fz with
 |false=>exact (hV hN hy hl hok hcalm hi hg ht he hs hsw).imp fun D2 σ H hl_=>ex9 hl_ fun σ3 M D3 E3 rm ds lk h er=>gJ rm ds (lk.at ds) h fun v H1 x M1 dx rm1 t1 q1=>er.nx _ _ _ _ rm1 ((ds.mono t1).set dx) t1 q1
 |true=>
  refine fun pins s σ H D2 I hl_=>ex9 hl_ fun σ3 M D3 E3 rm ds lk h er=>?_
  refine thn (hV hN hy hl hok hcalm hi hg ht he hs hsw pins s σ H {D2 with nx:=fun σ' H'=>∃x v M1,σ'=σ.set i (some v)/\Den X.K H' x v/\RelM X.K M1 H'/\TM X.K H H'/\dR (fun x M1=>D3.nx (σ3.set i (some x)) M1) x M1} I
   (gJ rm ds (lk.at ds) h fun v H1 x M1 dx rm1 t1 q1=>⟨x,v,M1,rfl,dx,rm1,t1,q1⟩)) fun fl s1 q=>?_
  cases fl with
  |next=>
   obtain⟨σ',H',I1,x,v,M1,rfl,dx,rm1,t1,q1⟩:=q
   unfold dR at q1
   split at q1
   ·rename_i a
    cases (show v=.ref a from dx)
    split at q1
    ·rename_i es e
     obtain⟨vs,e1,dl⟩:=rm1 a _ e
     obtain⟨o,I2⟩:=I1.freeze e1
     exact⟨_,_,I2,er.nx _ _ _ _ (rm1.freeze e1) ((ds.mono (t1.trans (.freeze e1))).set (dZ dl e1)) (t1.trans (.freeze e1)) q1⟩
    ·exact q1.elim
   ·exact q1.elim
  |brk=>exact q
  |cont=>exact q
  |ret u=>exact q
end
noncomputable def kY(K:PySem.W.Frag)(cls:Nat->Addr)(t:XE->Ends3->St3->MH->Prop):Ends->St->XK:=fun D2 σ c dx H=>∃i σ3 M D3,(c=.ref (cls i.c)/\XD K H i dx)/\RelM K M H/\DenS K H σ3 σ/\t i D3 σ3 M/\ER K H D3 D2
theorem ER.goes{K:PySem.W.Frag}{H:Hp}{D3:Ends3}{D2:Ends}(er:ER K H D3 D2)(i:Nat):ER K H (fB D3 i) (D2.goes i):=
 ⟨fun σ' H' σ3' M' rm ds t q=>er.nx _ _ _ _ rm ds.drop t q,er.rt,fun σ' H' σ3' M' rm ds t q=>er.bk _ _ _ _ rm ds.drop t q,fun σ' H' σ3' M' rm ds t q=>er.ct _ _ _ _ rm ds.drop t q⟩
section
variable {X:Cx}{cls:Nat->Addr}{E2:St->XK}{c n:Str}{k j ne:Nat}{sub:Nat->Nat->Bool}{b0:Stmt}{suite:List Stmt}{np hpos pos:Pos}{av:List ExceptHandler}{tb:Ends3->(St3->XN)->St3->MH->Prop}{tr:XE->Ends3->St3->MH->Prop}
theorem ue:PH X [] (kY X.K cls fun _ _ _ _=>False):=fun _ _ _ _ _ _ _ _ _ ⟨_,_,_,_,_,_,_,h,_⟩=>h.elim
theorem yV(hg:Gl X c)(hm:X.mg c=some (.ref (cls k)))(hsub:∀i,i < ne->PySem.W.exmOne X.K (.ref (cls i)) (.ref (cls k))=some (sub i k))(hN:X.N.Nodup)(hj:X.N[j]?=some n)(hl:X.env.scope.names.lookup n=some .local)
  (hs:∀v,PSs (X.marked v) (b0::suite) (bO X.K cls no2 tb)) (hr:PH X av (kY X.K cls tr)) (hdb:(c == ("__debug__" : Str))=false) :
  PH X (.ExceptHandler (some (.Name c np)) (some n) (b0::suite) hpos::av) (kY X.K cls fun i D σ M=>i.c < ne/\if sub i.c k=true then (∀a,M a=none->tb (fB D j) (fun _ _ _=>False) (σ.set j (some (.ref a))) (put M a (.exc i (.ref (cls i.c))))) else tr i D σ M):=by
 intro pins s σ H D a cv dx xi ⟨i,σ3,M,D3,⟨e,xd⟩,rm,ds,⟨hi,h⟩,er⟩
 subst e
 refine Ao (i:=j) hg hm hN hj hl hs hr hdb pins s σ H D a _ dx xi ?_
 have z:=hsub i.c hi
 cases q:sub i.c k with
 |true=>
  rw[q]at z
  rw[if_pos q]at h
  refine .inl ⟨z,fun a' ha=>?_⟩
  have tn:TM X.K H (upd H a' (qS a' (.ref (cls i.c)) dx)):=.new ha
  exact⟨_,_,_,_,rm.lay (u:=.exc i (.ref (cls i.c))) ha ⟨dx,ai,xd.mono tn⟩,(ds.mono tn).set eP,(fun _ _ _ _ _ _ _ _ w=>w.elim),h a' (rm.fresh ha),(er.goes j).mono tn⟩
 |false=>
  rw[q]at z
  rw[if_neg (by rw[q];exact Bool.false_ne_true)]at h
  exact .inr ⟨z,i,σ3,M,D3,⟨rfl,xd⟩,rm,ds,h,er⟩
theorem B5(hg:Gl X c)(hm:X.mg c=some (.ref (cls k)))(hsub:∀i,i < ne->PySem.W.exmOne X.K (.ref (cls i)) (.ref (cls k))=some (sub i k))
  (hs:∀v,PSs (X.marked v) (b0::suite) (bO X.K cls no2 tb)) (hr:PH X av (kY X.K cls tr)) (hdb:(c == ("__debug__" : Str))=false) :
  PH X (.ExceptHandler (some (.Name c np)) none (b0::suite) hpos::av) (kY X.K cls fun i D σ M=>i.c < ne/\if sub i.c k=true then tb D (fun _ _ _=>False) σ M else tr i D σ M):=by
 intro pins s σ H D a cv dx xi ⟨i,σ3,M,D3,⟨e,xd⟩,rm,ds,⟨hi,h⟩,er⟩
 subst e
 refine Bg hg hm hs hr hdb pins s σ H D a _ dx xi ?_
 have z:=hsub i.c hi
 cases q:sub i.c k with
 |true=>
  rw[q]at z
  rw[if_pos q]at h
  exact .inl ⟨z,σ3,M,D3,_,rm,ds,(fun _ _ _ _ _ _ _ _ w=>w.elim),h,er⟩
 |false=>
  rw[q]at z
  rw[if_neg (by rw[q];exact Bool.false_ne_true)]at h
  exact .inr ⟨z,i,σ3,M,D3,⟨rfl,xd⟩,rm,ds,h,er⟩
theorem re{body:List Stmt}{h0:ExceptHandler}{hs:List ExceptHandler}{th:Ends->St->XK}(hst:X.stack=X.env::X.outer)(hfr:X.env.frame=some X.env.locals)(hex:X.ex=[])(hh:PH X (h0::hs) th) :
  PS X (.Try body (h0::hs) [] [] pos) (fun D σ H=>∀pn W,aL (CX1 X.prog X.w) (X.tryX pn W) (fun σ cls d H=>th D σ cls d H)->∃t,PSs (X.tryX pn W) body t/\t D σ H):=by
 intro pins s σ H D I h
 have key:∀(W:Value->Shared->Prop),aL (CX1 X.prog X.w) (X.tryX pins W) (fun σ cls d H=>th D σ cls d H)->wpAny (model X.prog X.w) X.A (execs body X.env) (SP (X.tryX pins W) [] D) W s:=fun W hP=>by
  obtain⟨t,ht,q⟩:=h pins W hP
  exact ht [] s σ H D (I.tryX _) q
 refine wpAny_Try_except (wpAny_mono (key _ ?hx) (fun f s1 q=>?_) (fun e s1 q=>q))
 case hx=>
  intro pins' σ1 H1 s1 e s' I' hc
  have I1:=I'.untry I.ok
  obtain⟨a,cls,B,H2,dx,rfl,os,bare,un,hok,⟨fl0,dd0⟩,ha,inc,he⟩:=hc
  have hnew:=qx fl0 inc
  obtain⟨a0,fl⟩:=fl0
  have hfl:Heap.FlyingW B (X.env::X.outer) a cls a0 s'.heap:=hst▸fl
  have hA:X.A.frames=some (X.env::X.outer):=hst▸I.ok.frames
  refine pJ hA hfr hfl dd0 fun h4 held up4 dd4=>mo held dd4 fun h5 fl5 up5 dd5=>?_
  refine hh pins _ σ1 H2 D a cls dx ⟨B,a0,I1.behind (s':=s') (h4:=h5) hex os bare un hok inc fl5.1 (up4.trans up5),⟨hst▸fl5,dd5⟩,ha,?_,fun p hp z=>?_,fun h6 st6 up6=>I1.behind (s':=s') (h4:=h6) hex os bare un hok inc st6 ((up4.trans up5).trans up6)⟩ he
  ·cases q:X.s₀.heap.get? a with
   |none=>rfl
   |some o=>
    obtain⟨o1,e1⟩:=I1.base.there a o q (by rw[hex];exact fun z=>nomatch z)
    rw[hnew]at e1;cases e1
  ·have e1:=(I1.pin p hp).1
   rw[z,hnew]at e1;cases e1
 ·match f,q with
  |.next,⟨σ',H',J,q⟩=>exact wpAny_execs_nil ⟨σ',H',J.untry I.ok,q⟩
  |.brk,⟨σ',H',J,q⟩=>exact⟨σ',H',J.untry I.ok,q⟩
  |.cont,⟨σ',H',J,q⟩=>exact⟨σ',H',J.untry I.ok,q⟩
  |.ret u,⟨v,σ',H',J,r,q⟩=>exact⟨v,σ',H',J.untry I.ok,r,q⟩
theorem AF{body:List Stmt}{h0:ExceptHandler}{hs:List ExceptHandler}{th:XE->Ends3->St3->MH->Prop}(hst:X.stack=X.env::X.outer)(hfr:X.env.frame=some X.env.locals)(hex:X.ex=[])(hh:PH X (h0::hs) (kY X.K cls th))
  (hb:∀pn W E2',aL (CX1 X.prog X.w) (X.tryX pn W) E2'->PSs (X.tryX pn W) body (bO X.K cls E2' tb)) :
  PS X (.Try body (h0::hs) [] [] pos) (bO X.K cls E2 fun D _ σ M=>tb D (fun σ' i M'=>th i D σ' M') σ M):=
 (re hst hfr hex hh).imp fun D2 σ H ⟨σ3,M,D3,E3,rm,ds,lk,h,er⟩ pn W hP=>⟨_,hb pn W _ hP,σ3,M,D3,_,rm,ds,fun σ3' σ' i M' H' t ds' rm' q dx xd=>⟨i,σ3',M',D3,⟨rfl,xd⟩,rm',ds',q,er.mono t⟩,h,er⟩
end
end L2
namespace L2
open PySem PySem.Spec PyProof.Rows
section
variable {X:Cx}{pins:List (Addr×Obj)}{σ:St}{H:Hp}{s:Shared}{a:Addr}{kvs:List (Key×V)}{o:Obj}
end
section
variable {X:Cx}{cls:Nat->Addr}{E2:St->XK}{o:Expr}{apos cpos pt:Pos}{elts:List Expr}{x1:Nat}
variable {elt:Expr}{ifs:List Expr}{scope:Scope}{pos:Pos}{N:List Str}{js:List (Option Nat)}{g:D->St3->MH->(St3->MH->Prop)->Prop}{to te:St3->MH->VK3->XN->Prop}{tt:St3->MH->(Bool->MH->Prop)->XN->Prop}
end
end L2
namespace L2
open PySem PySem.Spec PyProof.Rows
structure Cfg where
 N:List Str
 sc:Scope
 fns:List (Option Str×Nat)
 exc:List Str
 kln:List Str
 gln:List Str
 xin:List (Nat×Nat)
 calm:Bool
 own:Bool
 tr:Bool
 fn:Bool
 cel:List (Str×NameKind):=[]
noncomputable def glB(c:Cfg)(x:Str):Bool:=c.sc.names.lookup x == some .globalImplicit
noncomputable def xy(sc:Scope)(x:Str):Bool:=match sc.names.lookup x with
 |some .local=>true
 |some .cell=>true
 |some .free=>true
 |_=>false
noncomputable def rZ(c:Cfg)(x:Str):Bool:=c.sc.names.lookup x == some .local||(c.fn&&c.sc.names.lookup x == some .cell)||(c.cel.lookup x == some .cell&&c.sc.names.lookup x == some .cell)
noncomputable def cw:Expr->Bool
 |.Starred ..=>false
 |_=>true
noncomputable def jn:Expr->Bool
 |.Set ..=>false
 |_=>true
noncomputable def kH:Expr->Bool
 |.ListComp ..=>false
 |.SetComp ..=>false
 |.DictComp ..=>false
 |_=>true
noncomputable def Ae:Expr->Bool
 |.Tuple ..=>false
 |_=>true
noncomputable def jJ:Expr->Bool
 |.Slice ..=>false
 |_=>true
noncomputable def sK:Expr->Bool
 |.Call ..=>false
 |_=>true
noncomputable def l8:Expr->Bool
 |.Call (.Name _ _) [] [] _=>false
 |_=>true
noncomputable def mi:Expr->Bool
 |.UnaryOp ..=>false
 |.BoolOp ..=>false
 |.IfExp ..=>false
 |.Compare ..=>false
 |_=>true
noncomputable def gX:BI->String
 |.len=>"len"|.max=>"max"|.list _=>"list"|.all=>"all"|.any=>"any"
noncomputable def gR:BM->String
 |.get=>"get"
noncomputable def biNames:List Str:=["len","abs","max","min","str","list","tuple","isinstance","range","int","bool","dict","ValueError","enumerate","all","any","sum","zip","reversed","sorted"]
noncomputable def vk(sc osc:Scope):Scope:={sc with names:=sc.names.map fun (n,k)=>if (k == .free&&osc.kind == .function&&osc.names.lookup n == some .cell) then (n,.cell) else (n,k)}
noncomputable def Cfg.comp(c:Cfg)(N:List Str)(sc:Scope):Cfg:={c with N:=N,sc:=vk sc c.sc,own:=false,tr:=false,fn:=false,cel:=sc.names}
noncomputable def Cfg.trying(c:Cfg):Cfg:={c with own:=false}
noncomputable def Cfg.caught(c:Cfg):Cfg:={c with calm:=false,own:=false,tr:=false}
noncomputable def okG(c:Cfg):ITg->Expr->Bool
 |.name i,e=>match e with
  |.Name x _=>(c.N[i]? == some x)&&rZ c x
  |_=>false
 |.tup is,e=>match e with
  |.Tuple es _ _=>c.calm&&cm c.N c.sc c.fn is es
  |_=>false
noncomputable def nN:II->Expr->Bool
 |.enum _,e=>match e with
  |.Tuple ..=>true
  |_=>false
 |.zip _ _,e=>match e with
  |.Tuple ..=>true
  |_=>false
 |_,_=>true
mutual
noncomputable def okE:IE->Cfg->Expr->Bool
 |.var i,c,e=>match e with
  |.Name x _=>(c.N[i]? == some x)&&xy c.sc x&&!(x == ("__debug__" : Str))&&!(x == ("__classdict__" : Str))
  |_=>false
 |.con d,_,e=>match e with
  |.Constant k _ _=>match k,d with
   |.int i,.int j=>decide (i=j)
   |.bool i,.bl j=>decide (i=j)
   |.none,.non=>true
   |.str i,.str j=>decide (i=j)
   |_,_=>false
  |_=>false
 |.bin op a b,c,e=>match e with
  |.BinOp x op' y _=>decide (op=op')&&okE a c x&&okE b c y
  |_=>false
 |.neg a,c,e=>match e with
  |.UnaryOp op x _=>decide (op=.USub)&&okE a c x
  |_=>false
 |.cat _ a b,c,e=>match e with
  |.BinOp x op' y _=>decide (op'=.Add)&&okE a c x&&okE b c y
  |_=>false
 |.cmp op a b,c,e=>match e with
  |.Compare x [op'] [y] _=>decide (op=op')&&jn y&&okE a c x&&okE b c y
  |_=>false
 |.chain op1 op2 a b d,c,e=>match e with
  |.Compare x [op1',op2'] [y,z] _=>decide (op1=op1')&&decide (op2=op2')&&jn z&&okE a c x&&okE b c y&&okE d c z
  |_=>false
 |.and a b,c,e=>match e with
  |.BoolOp op (x::y::r) p=>decide (op=.And)&&okE a c x&&(match r with|[]=>okE b c y|_::_=>okE b c (.BoolOp .And (y::r) p))
  |_=>false
 |.or a b,c,e=>match e with
  |.BoolOp op (x::y::r) p=>decide (op=.Or)&&okE a c x&&(match r with|[]=>okE b c y|_::_=>okE b c (.BoolOp .Or (y::r) p))
  |_=>false
 |.not a,c,e=>match e with
  |.UnaryOp op x _=>decide (op=.Not)&&okE a c x
  |_=>false
 |.ifx t a b,c,e=>match e with
  |.IfExp x y z _=>okT t c x&&okE a c y&&okE b c z
  |_=>false
 |.tup es,c,e=>match e with
  |.Tuple xs _ _=>okA es c xs
  |_=>false
 |.lst _ es,c,e=>match e with
  |.List xs _=>okA es c xs
  |_=>false
 |.frz a,c,e=>okE a c e
 |.ix a b,c,e=>match e with
  |.Subscript x y _=>jJ y&&okE a c x&&okE b c y
  |_=>false
 |.sl _ a lo hi,c,e=>match e with
  |.Subscript x (.Slice l h none _) _=>okE a c x&&okO lo c l&&okO hi c h
  |_=>false
 |.call f es,c,e=>match e with
  |.Call (.Name x _) args [] _=>c.calm&&(match c.fns[f]? with|some p=>decide (some x=p.1)&&decide (args.length=p.2)|none=>false)&&glB c x&&!(x == ("__debug__" : Str))&&okA es c args
  |_=>false
 |.bi b es,c,e=>match e with
  |.Call (.Name x _) args [] _=>c.calm&&decide (x=(gX b:Str))&&glB c x&&!args.isEmpty&&okA es c args
  |_=>false
 |.isB a t,c,e=>match e with
  |.Call (.Name x _) [y,.Name z _] [] _=>decide (x=("isinstance" : Str))&&decide (z=(bQ t:Str))&&glB c x&&glB c z&&cw y&&okE a c y
  |_=>false
 |.isC a k,c,e=>match e with
  |.Call (.Name x _) [y,.Name z _] [] _=>decide (x=("isinstance" : Str))&&(c.exc[k]? == some z)&&glB c x&&glB c z&&!(z == ("__debug__" : Str))&&cw y&&okE a c y
  |_=>false
 |.comp _ N js tg it cond elt,c,e=>match e with
  |.ListComp el [⟨tgE,iter,ifs,as⟩] scope _=>c.calm&&decide (as=0)&&nN it tgE&&jn iter&&dg N js scope c.sc c.N&&okI it c iter&&okG (c.comp N scope) tg tgE&&qc cond (c.comp N scope) ifs&&okE elt (c.comp N scope) el
  |_=>false
 |.fld a f,c,e=>match e with
  |.Attribute x m _=>decide (m=fnm f)&&l8 x&&okE a c x
  |_=>false
 |.make _ i es,c,e=>match e with
  |.Call (.Name x _) args [] _=>c.calm&&(c.kln[i]? == some x)&&glB c x&&!(x == ("__debug__" : Str))&&okA es c args
  |_=>false
 |.meth a m es,c,e=>match e with
  |.Call (.Attribute x n ap) args [] cp=>c.calm&&decide (n=fnm m)&&l8 x&&(ap.endLine == cp.line)&&decide (args.length < 30)&&okE a c x&&okA es c args
  |_=>false
 |.ini i es,c,e=>match e with
  |.Call (.Attribute (.Name x _) n ap) args [] cp=>c.calm&&decide (n=("__init__" : Str))&&(c.kln[i]? == some x)&&glB c x&&!(x == ("__debug__" : Str))&&(ap.endLine == cp.line)&&decide (args.length < 30)&&!args.isEmpty&&okA es c args
  |_=>false
 |.isK a j,c,e=>match e with
  |.Call (.Name x _) [y,.Name z _] [] _=>decide (x=("isinstance" : Str))&&(c.kln[j]? == some z)&&glB c x&&glB c z&&!(z == ("__debug__" : Str))&&cw y&&okE a c y
  |_=>false
 |.glo k,c,e=>match e with
  |.Name x _=>(c.gln[k]? == some x)&&glB c x&&!(x == ("__debug__" : Str))
  |_=>false
 |.bm b o es,c,e=>match e with
  |.Call (.Attribute x n ap) args [] cp=>c.calm&&decide (n=(gR b:Str))&&l8 x&&(ap.endLine == cp.line)&&decide (args.length < 30)&&okE o c x&&okA es c args
  |_=>false
 |.dnew _,_,e=>match e with
  |.Dict [] [] _=>true
  |_=>false
 |.rep _ a b,c,e=>match e with
  |.BinOp x op' y _=>decide (op'=.Mult)&&okE a c x&&okE b c y
  |_=>false
 |.lzip _ a b,c,e=>match e with
  |.Call (.Name x _) [.Call (.Name x' _) [y,z] [] _] [] _=>c.calm&&decide (x=("list" : Str))&&glB c x&&decide (x'=("zip" : Str))&&glB c x'&&cw y&&cw z&&okE a c y&&okE b c z
  |_=>false
noncomputable def okT:IT->Cfg->Expr->Bool
 |.val a,c,e=>mi e&&okE a c e
 |.cmp op a b,c,e=>match e with
  |.Compare x [op'] [y] _=>decide (op=op')&&jn y&&okE a c x&&okE b c y
  |_=>false
 |.chain op1 op2 a b d,c,e=>match e with
  |.Compare x [op1',op2'] [y,z] _=>decide (op1=op1')&&decide (op2=op2')&&jn z&&okE a c x&&okE b c y&&okE d c z
  |_=>false
 |.chain3 op1 op2 op3 a b d f,c,e=>match e with
  |.Compare x [op1',op2',op3'] [y,z,u] _=>decide (op1=op1')&&decide (op2=op2')&&decide (op3=op3')&&jn u&&okE a c x&&okE b c y&&okE d c z&&okE f c u
  |_=>false
 |.and a b,c,e=>match e with
  |.BoolOp op (x::y::r) p=>decide (op=.And)&&okT a c x&&(match r with|[]=>okT b c y|_::_=>okT b c (.BoolOp .And (y::r) p))
  |_=>false
 |.or a b,c,e=>match e with
  |.BoolOp op (x::y::r) p=>decide (op=.Or)&&okT a c x&&(match r with|[]=>okT b c y|_::_=>okT b c (.BoolOp .Or (y::r) p))
  |_=>false
 |.not a,c,e=>match e with
  |.UnaryOp op x _=>decide (op=.Not)&&okT a c x
  |_=>false
noncomputable def okA:IA->Cfg->List Expr->Bool
 |.nil,_,es=>es.isEmpty
 |.cons a r,c,es=>match es with
  |x::xs=>cw x&&okE a c x&&okA r c xs
  |[]=>false
noncomputable def okO:IO->Cfg->Option Expr->Bool
 |.no,_,o=>o.isNone
 |.yes a,c,o=>match o with
  |some x=>okE a c x
  |none=>false
noncomputable def qc:ITO->Cfg->List Expr->Bool
 |.no,_,es=>es.isEmpty
 |.yes t,c,es=>match es with
  |[x]=>okT t c x
  |_=>false
noncomputable def okI:II->Cfg->Expr->Bool
 |.seq a,c,e=>okE a c e
 |.enum a,c,e=>match e with
  |.Call (.Name x _) [y] [] _=>decide (x=("enumerate" : Str))&&glB c x&&cw y&&okE a c y
  |_=>false
 |.zip a b,c,e=>match e with
  |.Call (.Name x _) [y,z] [] _=>decide (x=("zip" : Str))&&glB c x&&cw y&&cw z&&okE a c y&&okE b c z
  |_=>false
 |.revd a,c,e=>match e with
  |.Call (.Name x _) [y] [] _=>decide (x=("reversed" : Str))&&glB c x&&cw y&&okE a c y
  |_=>false
 |.rng1 a,c,e=>match e with
  |.Call (.Name x _) [y] [] _=>decide (x=("range" : Str))&&glB c x&&cw y&&okE a c y
  |_=>false
end
noncomputable def swB(c:Cfg)(scope:Scope)(x:Str)(l1 l2:Nat):Bool:=c.sc.kind == .function&&c.sc.names.lookup x == some .local&&l1 == l2&&!(scope.names.any fun (n,k)=>n == x&&(k == .local||k == .cell))
mutual
noncomputable def okS:IS->Cfg->Stmt->Bool
 |.set i a,c,s=>match s with
  |.Assign [.Name x px] e _=>(c.N[i]? == some x)&&rZ c x&&okE a c e&&(kH e||match e,a with
   |.ListComp _ _ scope pos,.comp ..=>swB c scope x px.line pos.line||c.sc.names.lookup x == some .cell
   |_,_=>false)
  |_=>false
 |.expr a,c,s=>match s with
  |.Expr e _=>kH e&&okE a c e
  |_=>false
 |.ret a,c,s=>match s with
  |.Return (some e) _=>okE a c e
  |_=>false
 |.ifs t a b,c,s=>match s with
  |.If x y z _=>okT t c x&&gu a c y&&gu b c z
  |_=>false
 |.for_ tg it body,c,s=>match s with
  |.For tgE iter b [] _=>c.own&&nN it tgE&&c.calm&&jn iter&&okG c tg tgE&&okI it c iter&&gu body c b
  |_=>false
 |.raise k es,c,s=>match s with
  |.Raise (some (.Call (.Name x _) args [] _)) none _=>(c.xin.lookup k).isNone&&c.own&&c.calm&&(c.exc[k]? == some x)&&glB c x&&!(x == ("__debug__" : Str))&&!args.isEmpty&&okA es c args
  |_=>false
 |.try_ body hs,c,s=>match s with
  |.Try b handlers [] [] _=>c.tr&&!handlers.isEmpty&&gu body c.trying b&&pj hs c handlers
  |_=>false
 |.app o a,c,s=>match s with
  |.Expr (.Call (.Attribute x m ap) [y] [] cp) _=>decide (m=("append" : Str))&&sK x&&(ap.endLine == cp.line)&&cw y&&okE o c x&&okE a c y
  |_=>false
 |.del _,_,_=>false
 |.fset o f a,c,s=>match s with
  |.Assign [.Attribute x m _] v _=>decide (m=fnm f)&&kH v&&okE o c x&&okE a c v
  |_=>false
 |.ixset o i a,c,s=>match s with
  |.Assign [.Subscript x y _] v _=>jJ y&&kH v&&okE o c x&&okE i c y&&okE a c v
  |_=>false
noncomputable def gu:ISs->Cfg->List Stmt->Bool
 |.nil,_,sts=>sts.isEmpty
 |.cons s r,c,sts=>match s with
  |.del _=>gu r c sts
  |s=>match sts with
   |st::av=>okS s c st&&gu r c av
   |[]=>false
noncomputable def pj:IHs->Cfg->List ExceptHandler->Bool
 |.nil,_,hs=>hs.isEmpty
 |.cons k nm body r,c,hs=>match hs with
  |.ExceptHandler (some (.Name x _)) nmE bodyE _::av=>(c.exc[k]? == some x)&&glB c x&&!(x == ("__debug__" : Str))&&(match nm,nmE with
   |none,none=>true
   |some j,some n=>(c.N[j]? == some n)&&c.sc.names.lookup n == some .local
   |_,_=>false)&&!bodyE.isEmpty&&gu body c.caught bodyE&&pj r c av
  |_=>false
end
end L2
namespace L2
open PySem PySem.Spec PyProof.Rows
structure Good (c:Cfg) (W:WC) (X:Cx) (E2:St->XK):Prop where
 N:X.N=c.N
 nd:c.N.Nodup
 sc:X.env.scope=c.sc
 un:X.A.units+64 < cLine
 calm:c.calm=true->X.calm=true
 fnx:c.fn=true->∀x,X.fn x=true
 cel:∀x,c.cel.lookup x=some .cell->X.fn x=true
 own:c.own=true->PassesOwn (model X.prog X.w) X.A X.env X.xe/\∃E,(E2=fun _=>E)/\jH X E/\lU X E/\Room 2 X.A
 tr:c.tr=true->X.stack=X.env::X.outer/\X.env.frame=some X.env.locals/\X.ex=[]
 fns:c.calm=true->∃k,Room (k+1) X.A/\∀f,f < c.fns.length->mL X W.cls k (W.fad f) (W.call f)
 fnn:∀f x n,c.fns[f]?=some (some x,n)->X.mg x=some (.ref (W.fad f))
 kok:∀i,i < W.nk->KOk X.K W.toWB W.fad i
 kin:∀i,i < W.nk->∃f,W.ini i=some f
 kfi:∀i f,i < W.nk->W.ini i=some f->f < c.fns.length
 kfm:∀i m f,i < W.nk->W.mth i m=some f->f < c.fns.length
 knm:∀i x,c.kln[i]?=some x->X.mg x=some (.ref (W.kls i))/\i < W.nk
 glo:∀k x,c.gln[k]?=some x->∃u v,X.mg x=some u/\RelV v u/\∀H,Den X.K H (W.glo k) v
 exc:∀i x,c.exc[i]?=some x->X.mg x=some (.ref (W.cls i))/\(c.xin.lookup i=none->qL X.K (W.cls i))/\∀j,j < W.ne->PySem.W.exmOne X.K (.ref (W.cls j)) (.ref (W.cls i))=some (W.sub j i)
 exi:∀i,i < W.ne->ExcI X.K (W.cls i)/\PySem.W.kitOne X.K (.ref (W.cls i)) (.type "ValueError")=some true/\∀j x,c.exc[j]?=some x->PySem.W.kitOne X.K (.ref (W.cls i)) (.ref (W.cls j))=some (W.sub i j)
 xi:∀i f,c.xin.lookup i=some f->W.xin i=some f/\∃fI fd ps,XIni X.K (W.cls i) fI (fnm f)/\Binds X.K fd ps []/\FnOk X.prog X.w X.K X.mg X.base (CX1 X.prog X.w) 1 fI fd ps (nU (W.cls i) (fnm f))
 xn:∀i f,i < W.ne->W.xin i=some f->NoAttr X.K (W.cls i) (fnm f)
 bi:∀x∈biNames,X.mg x=none
 dig:vb X.K
 pass:aL (CX1 X.prog X.w) X E2
section
variable {c:Cfg}{W:WC}{X:Cx}{E2:St->XK}
theorem Good.gl(G:Good c W X E2){x:Str}(h:glB c x=true):Gl X x:=by
 show X.env.scope.names.lookup x=_
 rw[G.sc];exact beq_iff_eq.mp h
theorem Good.loc(G:Good c W X E2){x:Str}(h:rZ c x=true):Loc X.env.scope x/\(X.fn x=true\/X.env.scope.names.lookup x=some .local):=by
 unfold rZ at h
 rw[G.sc]
 simp only[Bool.or_eq_true,Bool.and_eq_true,beq_iff_eq]at h
 rcases h with (h|⟨h1,h2⟩)|⟨h1,h2⟩
 ·exact⟨.inl h,.inr h⟩
 ·exact⟨.inr h2,.inl (G.fnx h1 x)⟩
 ·exact⟨.inr h2,.inl (G.cel x h1)⟩
theorem Good.vis(G:Good c W X E2){x:Str}(h:xy c.sc x=true):Vis X.env.scope x:=by
 rw[G.sc]
 unfold xy at h
 split at h
 ·exact .inl (by assumption)
 ·exact .inr (.inl (by assumption))
 ·exact .inr (.inr (by assumption))
 ·cases h
theorem Good.at{i:Nat}{x:Str}(G:Good c W X E2)(h:(c.N[i]? == some x)=true):X.N[i]?=some x:=by rw[G.N];exact beq_iff_eq.mp h
theorem Good.ndX(G:Good c W X E2):X.N.Nodup:=by rw[G.N];exact G.nd
theorem Good.names(G:Good c W X E2){is:List Nat}{es:List Expr}(h:cm c.N c.sc c.fn is es=true):cm X.N X.env.scope c.fn is es=true:=by rw[G.N,G.sc];exact h
theorem Good.trying(G:Good c W X E2){pn:List (Addr×Obj)}{V':Value->Shared->Prop}{E2':St->XK}(h:aL (CX1 X.prog X.w) (X.tryX pn V') E2'):Good c.trying W (X.tryX pn V') E2':=
 ⟨G.N,G.nd,G.sc,G.un,G.calm,G.fnx,G.cel,(fun z=>nomatch z),G.tr,G.fns,G.fnn,G.kok,G.kin,G.kfi,G.kfm,G.knm,G.glo,G.exc,G.exi,G.xi,G.xn,G.bi,G.dig,h⟩
theorem n6{P:Program}{w:World}{X:Cx}:aL (CX1 P w) X no2:=fun _ _ _ _ _ _ _ h=>by
 obtain⟨_,_,_,_,_,_,_,_,_,_,_,_,_,he⟩:=h
 exact he.elim
theorem Good.caught(G:Good c W X E2)(v:Value):Good c.caught W (X.marked v) no2:=
 ⟨G.N,G.nd,G.sc,G.un,(fun z=>nomatch z),G.fnx,G.cel,(fun z=>nomatch z),(fun z=>nomatch z),(fun z=>nomatch z),G.fnn,G.kok,G.kin,G.kfi,G.kfm,G.knm,G.glo,G.exc,G.exi,G.xi,G.xn,G.bi,G.dig,n6⟩
theorem Good.comp(G:Good c W X E2){N:List Str}{js:List (Option Nat)}{scope:Scope}(h:dg N js scope c.sc c.N=true)(C:Addr)(s2:Shared)(H2:Hp)(fp:List Addr)(pn:List (Addr×Obj)):Good (c.comp N scope) W (compCx X scope C N s2 H2 fp pn) no2:=by
 have hc:=i5 h
 refine⟨rfl,hc.nd,?_,G.un,G.calm,(fun z=>nomatch z),(fun x z=>beq_iff_eq.mpr z),(fun z=>nomatch z),(fun z=>nomatch z),G.fns,G.fnn,G.kok,G.kin,G.kfi,G.kfm,G.knm,G.glo,G.exc,G.exi,G.xi,G.xn,G.bi,G.dig,n6⟩
 show relabel scope X.env=vk scope c.sc
 unfold relabel vk
 rw[<-G.sc]
 rfl
end
theorem aV{e:Expr}{es:List Expr}{env:Env}(h:cw e=true):starEach (e::es) env=(false,eval e env)::starEach es env:=by
 cases e<;>first|rfl|cases h
theorem pv{e:Expr}{env:Env}(h:jn e=true):∀x,foldedSetIterable e env x=pure x:=by
 intro x
 cases e<;>first|rfl|cases h
theorem eJ{op:CmpOp}{e:Expr}(h:jn e=true):behindInMarks op e=false:=by
 cases e<;>first|rfl|cases h
theorem jy{e:Expr}{t:Option Expr}{n:Nat}{env:Env}(h:kH e=true):swapsWith e t n env=pure false:=by
 cases e<;>first|rfl|cases h
theorem nF{e:Expr}{env:Env}(h:mi e=true):∀whole,isTrue e env whole=(do let v<-whole;standAt e.pos;holding [v] (truthy v)):=by
 intro whole
 cases e<;>first|rfl|cases h
theorem qw{e:Expr}(h:jJ e=true):jx e:=by
 intro o i
 cases e<;>first|rfl|cases h
theorem wp{e:Expr}{m:Str}{env:Env}{whole:Sem Value}(h:sK e=true):attributeBase e m env whole=whole:=by
 cases e<;>first|rfl|cases h
theorem eT{e:Expr}{m:Str}{env:Env}{whole:Sem Value}(h:l8 e=true):attributeBase e m env whole=whole:=by
 cases e with
 |Call f as ks p=>
  cases f with
  |Name x px=>
   cases as with
   |nil=>
    cases ks with
    |nil=>cases h
    |cons _ _=>rfl
   |cons _ _=>rfl
  |_=>rfl
 |_=>rfl
theorem sV{o i:Expr}{p:Pos}{env:Env}(h:jJ i=true):∀v,assign (.Subscript o i p) env v=(do
   let ov<-holding [v] (eval o env)
   let iv<-holding [v,ov] (eval i env)
   standAt p
   holding [v,ov,iv] (setItem ov iv v)
   release [v,ov,iv] []):=by
 intro v
 cases i<;>first|rfl|cases h
theorem ce(pos:Pos):∀{r:IA}{c:Cfg}{es:List Expr}{env:Env},okA r c es=true->(backTo pos (starEach es env)).any (·.1)=false
 |.nil,c,es,env,h=>by
  simp only[okA]at h
  cases es with
  |nil=>rfl
  |cons _ _=>cases h
 |.cons a r,c,es,env,h=>by
  cases es with
  |nil=>simp[okA]at h
  |cons x xs=>
   simp only[okA,Bool.and_eq_true]at h
   rw[aV h.1.1]
   show (false||(backTo pos (starEach xs env)).any (·.1))=false
   rw[ce pos h.2];rfl
end L2
namespace L2
open PySem PySem.Spec PyProof.Rows
theorem sr{X:Cx}{op:BoolOp}{a:Expr}{pos:Pos}{t:TE}(h:PE X a t):PE X (.BoolOp op [a] pos) t:=vG h
theorem uc(b:BI):((gX b:String):Str)∈biNames:=by
 cases b with
 |list fz=>cases fz<;>decide +kernel
 |_=>decide +kernel
theorem xF(t:BT):((bQ t:String):Str)∈biNames:=by cases t<;>decide +kernel
theorem rK{X:Cx}{cls:Nat->Addr}{E2:St->XK}{b:BI}{p pos:Pos}{e:Expr}{es:List Expr}{tr:St3->MH->(List D->MH->Prop)->XN->Prop}(hu:X.A.units+64 < cLine)(hc:X.calm=true)(hd:vb X.K)(hg:Gl X (gX b:String))(hm:X.mg (gX b:String)=none)(ha:PA X (e::es) (cU X.K cls E2 tr))
  (he:starEach (e::es) X.env=(false,eval e X.env)::starEach es X.env) (hpl:(backTo pos (starEach es X.env)).any (·.1)=false):PE X (.Call (.Name (gX b:String) p) (e::es) [] pos) (low X.K cls E2 fun σ M Q E=>tr σ M (fun xs M1=>rBi b xs M1 Q) E):=by
 cases b with
 |len=>exact fV vy hg hm (by decide +kernel) ha (by decide +kernel) (by decide +kernel) he hpl
 |max=>exact fV (tS hc) hg hm (by decide +kernel) ha (by decide +kernel) (by decide +kernel) he hpl
 |list fz=>exact rq (qM fz hc) hg hm (by cases fz<;>decide +kernel) ha (by cases fz<;>decide +kernel) (by cases fz<;>decide +kernel) he hpl
 |all=>exact fV (sN true hc) hg hm (by decide +kernel) ha (by decide +kernel) (by decide +kernel) he hpl
 |any=>exact fV (sN false hc) hg hm (by decide +kernel) ha (by decide +kernel) (by decide +kernel) he hpl
theorem rW{X:Cx}{cls:Nat->Addr}{E2:St->XK}{b:BM}{o e:Expr}{es:List Expr}{to:St3->MH->VK3->XN->Prop}{tr:St3->MH->(List D->MH->Prop)->XN->Prop}{apos pos:Pos}(hu:X.A.units+64 < cLine)(ho:PE X o (low X.K cls E2 to))(ha:PA X (e::es) (cU X.K cls E2 tr))
  (hb:attributeBase o (gR b:String) X.env (eval o X.env)=eval o X.env) (hn:(e::es).length < 30) (hl:(apos.endLine == pos.line)=true) (he:starEach (e::es) X.env=(false,eval e X.env)::starEach es X.env) (hpl:(backTo pos (starEach es X.env)).any (·.1)=false) :
  PE X (.Call (.Attribute o (gR b:String) apos) (e::es) [] pos) (low X.K cls E2 fun σ M Q E=>to σ M (fun x M1=>tyB b x M1=true/\tr σ M1 (fun xs M2=>rBm b x xs M2 Q) E) E):=by
 cases b with
 |get=>exact F6 PySem.F.plainAttrs_dict PySem.F.slot_dict_get PySem.F.type_dict_get (oQ hu) lY ho ha hb hn hl he hpl
theorem nR{X:Cx}{cls:Nat->Addr}{E2:St->XK}{b:BM}{o:Expr}{to:St3->MH->VK3->XN->Prop}{apos pos:Pos}(hu:X.A.units+64 < cLine)(ho:PE X o (low X.K cls E2 to))
  (hb:attributeBase o (gR b:String) X.env (eval o X.env)=eval o X.env) (hl:(apos.endLine == pos.line)=true) :
  PE X (.Call (.Attribute o (gR b:String) apos) [] [] pos) (low X.K cls E2 fun σ M Q E=>to σ M (fun x M1=>tyB b x M1=true/\rBm b x [] M1 Q) E):=by
 cases b with
 |get=>exact AX PySem.F.plainAttrs_dict PySem.F.slot_dict_get PySem.F.type_dict_get (oQ hu) lY ho hb hl
theorem cf{a:IE}{r:IA}{c:Cfg}{es:List Expr}(h:okA (.cons a r) c es=true):∃x xs,es=x::xs/\cw x=true/\okE a c x=true/\okA r c xs=true:=by
 cases es with
 |nil=>simp[okA]at h
 |cons x xs=>
  simp only[okA,Bool.and_eq_true]at h
  exact⟨x,xs,rfl,h.1.1,h.1.2,h.2⟩
noncomputable def FN:IT->Bool
 |.and _ _=>true
 |.or _ _=>true
 |_=>false
section
variable {W:WC}
theorem sG:∀(tg:ITg) {c:Cfg}{e:Expr}{X:Cx}{E2:St->XK},okG c tg e=true->Good c W X E2->PG X e (mF X.K (wpG tg))
 |.name i,c,e,X,E2,h,G=>by
  simp only[okG]at h
  split at h
  ·simp only[Bool.and_eq_true]at h
   obtain⟨l1,l2⟩:=G.loc h.2
   exact vV G.ndX (G.at h.1) l1 l2
  ·cases h
 |.tup is,c,e,X,E2,h,G=>by
  simp only[okG]at h
  split at h
  ·simp only[Bool.and_eq_true]at h
   exact zb (G.calm h.1) G.ndX G.fnx (G.names h.2)
  ·cases h
mutual
theorem sE:∀(ie:IE) {c:Cfg}{e:Expr}{X:Cx}{E2:St->XK},okE ie c e=true->Good c W X E2->PE X e (low X.K W.cls E2 (wpE W ie))
 |.var i,c,e,X,E2,h,G=>by
  unfold okE at h
  split at h
  ·simp only[Bool.and_eq_true,Bool.not_eq_true']at h
   exact yB (G.at h.1.1.1) (G.vis h.1.1.2) h.1.2 h.2
  ·cases h
 |.con d,c,e,X,E2,h,G=>by
  unfold okE at h
  split at h
  ·split at h
   ·cases of_decide_eq_true h;exact kJ wH fun _=>rfl
   ·cases of_decide_eq_true h;exact kJ Ci fun _=>rfl
   ·exact kJ vH fun _=>rfl
   ·cases of_decide_eq_true h;exact kJ wg fun _=>rfl
   ·cases h
  ·cases h
 |.bin op a b,c,e,X,E2,h,G=>by
  unfold okE at h
  split at h
  ·simp only[Bool.and_eq_true,decide_eq_true_eq]at h
   obtain⟨⟨rfl,h1⟩,h2⟩:=h
   exact xx (xZ op) (sE a h1 G) (sE b h2 G)
  ·cases h
 |.neg a,c,e,X,E2,h,G=>by
  unfold okE at h
  split at h
  ·simp only[Bool.and_eq_true,decide_eq_true_eq]at h
   obtain⟨rfl,h1⟩:=h
   exact EY (ta:=wpE W a) (r:=rNeg) uE (sE a h1 G)
  ·cases h
 |.cat fz a b,c,e,X,E2,h,G=>by
  unfold okE at h
  split at h
  ·simp only[Bool.and_eq_true,decide_eq_true_eq]at h
   obtain⟨⟨rfl,h1⟩,h2⟩:=h
   exact zj (sE a h1 G) (sE b h2 G)
  ·cases h
 |.cmp op a b,c,e,X,E2,h,G=>by
  unfold okE at h
  split at h
  ·simp only[Bool.and_eq_true,decide_eq_true_eq]at h
   obtain⟨⟨⟨rfl,h0⟩,h1⟩,h2⟩:=h
   exact Bw (cX G.un op) (sE a h1 G) (sE b h2 G) (eJ h0)
  ·cases h
 |.chain op1 op2 a b d,c,e,X,E2,h,G=>by
  unfold okE at h
  split at h
  ·simp only[Bool.and_eq_true,decide_eq_true_eq]at h
   obtain⟨⟨⟨⟨⟨rfl,rfl⟩,h0⟩,h1⟩,h2⟩,h3⟩:=h
   exact rf (cX G.un op1) (cX G.un op2) (sE a h1 G) (sE b h2 G) (sE d h3 G) (eJ h0)
  ·cases h
 |.and a b,c,e,X,E2,h,G=>by
  unfold okE at h
  split at h
  ·rename_i op x y r p
   simp only[Bool.and_eq_true,decide_eq_true_eq]at h
   obtain⟨⟨rfl,h1⟩,h2⟩:=h
   cases r with
   |nil=>exact sw (sE a h1 G) (sr (sE b h2 G))
   |cons z r=>exact sw (sE a h1 G) (sE b h2 G)
  ·cases h
 |.or a b,c,e,X,E2,h,G=>by
  unfold okE at h
  split at h
  ·rename_i op x y r p
   simp only[Bool.and_eq_true,decide_eq_true_eq]at h
   obtain⟨⟨rfl,h1⟩,h2⟩:=h
   cases r with
   |nil=>exact yJ (sE a h1 G) (sr (sE b h2 G))
   |cons z r=>exact yJ (sE a h1 G) (sE b h2 G)
  ·cases h
 |.not a,c,e,X,E2,h,G=>by
  unfold okE at h
  split at h
  ·simp only[Bool.and_eq_true,decide_eq_true_eq]at h
   obtain⟨rfl,h1⟩:=h
   exact Ba (sE a h1 G)
  ·cases h
 |.ifx t a b,c,e,X,E2,h,G=>by
  unfold okE at h
  split at h
  ·simp only[Bool.and_eq_true]at h
   exact F9 (sT t h.1.1 G).1 (sE a h.1.2 G) (sE b h.2 G)
  ·cases h
 |.tup es,c,e,X,E2,h,G=>by
  unfold okE at h
  split at h
  ·exact zQ (sA es h G)
  ·cases h
 |.lst fz es,c,e,X,E2,h,G=>by
  unfold okE at h
  split at h
  ·exact Ac (sA es h G)
  ·cases h
 |.frz a,c,e,X,E2,h,G=>by
  unfold okE at h
  exact BX (sE a h G)
 |.ix a b,c,e,X,E2,h,G=>by
  unfold okE at h
  split at h
  ·simp only[Bool.and_eq_true]at h
   exact Es G.un (sE a h.1.2 G) (sE b h.2 G) (qw h.1.1)
  ·cases h
 |.sl fz a lo hi,c,e,X,E2,h,G=>by
  unfold okE at h
  split at h
  ·simp only[Bool.and_eq_true]at h
   exact Fl (sE a h.1.1 G) (sO lo h.1.2 G) (sO hi h.2 G)
  ·cases h
 |.call f es,c,e,X,E2,h,G=>by
  unfold okE at h
  split at h
  ·rename_i x px args pos
   simp only[Bool.and_eq_true,Bool.not_eq_true']at h
   obtain⟨⟨⟨⟨h0,h1⟩,h2⟩,h3⟩,h4⟩:=h
   split at h1
   ·rename_i p hp
    simp only[Bool.and_eq_true,decide_eq_true_eq]at h1
    obtain⟨h1,_⟩:=h1
    obtain⟨p1,p2⟩:=p
    cases h1
    obtain⟨k,hr,hF⟩:=G.fns h0
    obtain⟨fd,ps,m2,m3,m5⟩:=hF f (List.getElem?_eq_some_iff.mp hp).1
    have m1:=G.fnn f x p2 hp
    have m4:=hr.mono (Nat.le_succ k)
    have hA:=sA es h4 G
    cases args with
    |nil=>
     cases es with
     |nil=>exact qq m5 m4 (G.gl h2) m1 m2 m3 G.pass h3
     |cons _ _=>simp[okA]at h4
    |cons z zs=>
     cases es with
     |nil=>simp[okA]at h4
     |cons ea er=>
      obtain⟨_,_,e1,n1,_,n3⟩:=cf h4
      cases e1
      exact yc m5 m4 (G.gl h2) m1 m2 m3 G.pass hA h3 (aV n1) (ce _ n3)
   ·cases h1
  ·cases h
 |.bi b es,c,e,X,E2,h,G=>by
  unfold okE at h
  split at h
  ·rename_i x px args pos
   simp only[Bool.and_eq_true,decide_eq_true_eq]at h
   obtain⟨⟨⟨⟨h0,rfl⟩,h2⟩,h3⟩,h4⟩:=h
   have hA:=sA es h4 G
   cases args with
   |nil=>cases h3
   |cons z zs=>
    cases es with
    |nil=>simp[okA]at h4
    |cons ea er=>
     obtain⟨_,_,e1,n1,_,n3⟩:=cf h4
     cases e1
     exact rK G.un (G.calm h0) G.dig (G.gl h2) (G.bi _ (uc b)) hA (aV n1) (ce _ n3)
  ·cases h
 |.isB a t,c,e,X,E2,h,G=>by
  unfold okE at h
  split at h
  ·simp only[Bool.and_eq_true,decide_eq_true_eq]at h
   obtain⟨⟨⟨⟨⟨rfl,rfl⟩,h2⟩,h3⟩,h4⟩,h5⟩:=h
   exact Ch (sE a h5 G) (G.gl h2) (G.bi _ (by decide +kernel)) (G.gl h3) (G.bi _ (xF t)) (aV h4)
  ·cases h
 |.isC a k,c,e,X,E2,h,G=>by
  unfold okE at h
  split at h
  ·simp only[Bool.and_eq_true,decide_eq_true_eq,beq_iff_eq,Bool.not_eq_true']at h
   obtain⟨⟨⟨⟨⟨⟨rfl,h1⟩,h2⟩,h3⟩,h4⟩,h5⟩,h6⟩:=h
   exact B0 (sE a h6 G) (G.gl h2) (G.bi _ (by decide +kernel)) (G.gl h3) (G.exc _ _ h1).1 h4 (fun i hi=>⟨(G.exi i hi).1,(G.exi i hi).2.2 _ _ h1⟩) (aV h5)
  ·cases h
 |.comp fz N js tg it cond elt,c,e,X,E2,h,G=>by
  unfold okE at h
  split at h
  ·simp only[Bool.and_eq_true,decide_eq_true_eq]at h
   obtain⟨⟨⟨⟨⟨⟨⟨⟨h0,rfl⟩,ht⟩,h1⟩,h2⟩,h3⟩,h4⟩,h5⟩,h6⟩:=h
   have hok:=h2
   rw[<-G.sc,<-G.N]at hok
   exact xK hok (G.calm h0) (sI it h3 G ht) (fun C s2 H2 fp pn=>sG tg h4 (G.comp h2 C s2 H2 fp pn)) (fun C s2 H2 fp pn=>sTO cond h5 (G.comp h2 C s2 H2 fp pn)) (fun C s2 H2 fp pn=>sE elt h6 (G.comp h2 C s2 H2 fp pn)) (pv h1) fz
  ·cases h
 |.fld a f,c,e,X,E2,h,G=>by
  unfold okE at h
  split at h
  ·simp only[Bool.and_eq_true,decide_eq_true_eq]at h
   obtain⟨⟨rfl,h1⟩,h2⟩:=h
   exact Bj G.kok (sE a h2 G) (eT h1)
  ·cases h
 |.make fz i es,c,e,X,E2,h,G=>by
  unfold okE at h
  split at h
  ·rename_i x px args pos
   simp only[Bool.and_eq_true,Bool.not_eq_true']at h
   obtain⟨⟨⟨⟨h0,h1⟩,h2⟩,h3⟩,h4⟩:=h
   obtain⟨m1,hi⟩:=G.knm i x (beq_iff_eq.mp h1)
   obtain⟨k,hr,hF⟩:=G.fns h0
   have hA:=sA es h4 G
   cases q:W.ini i with
   |none=>exact absurd q (by obtain⟨f,hf⟩:=G.kin i hi;rw[hf];exact fun z=>nomatch z)
   |some f=>
    have F:=hF f (G.kfi i f hi q)
    cases args with
    |nil=>
     cases es with
     |nil=>exact (rA (B:=W.toWB) (fz:=fz) (G.gl h2) m1 h3 ((G.kok i hi).mkr f q) F hr G.pass).imp fun σ H Q2 hl_=>ex9 hl_ fun σ3 M Q E3 rm ds lk hh back=>⟨σ3,M,Q,E3,rm,ds,lk,by simp only[wpE,wpA,q,dF]at hh;exact hh.2,back⟩
     |cons _ _=>simp[okA]at h4
    |cons z zs=>
     cases es with
     |nil=>simp[okA]at h4
     |cons ea er=>
      obtain⟨_,_,e1,n1,_,n3⟩:=cf h4
      cases e1
      have hA2:PA X (z::zs) (cU X.K W.cls E2 fun σ M Q E=>wpA W (.cons ea er) σ M (fun xs M1=>i < W.nk/\Q xs M1) E):=hA.imp fun σ H Q2 hl_=>ex9 hl_ fun σ3 M Q E3 rm ds lk hh back=>⟨σ3,M,_,E3,rm,ds,lk,hh,fun vs H' xs M' a b c d=>back vs H' xs M' a b c d.2⟩
      exact (xL (B:=W.toWB) (fz:=fz) (G.gl h2) m1 h3 ((G.kok i hi).mkr f q) F hr G.pass hA2 (aV n1) (ce _ n3)).imp fun σ H Q2 hl_=>ex9 hl_ fun σ3 M Q E3 rm ds lk hh back=>⟨σ3,M,Q,E3,rm,ds,lk,by simp only[wpE,q,dF]at hh;exact hh,back⟩
  ·cases h
 |.meth a m es,c,e,X,E2,h,G=>by
  unfold okE at h
  split at h
  ·rename_i x n ap args cp
   simp only[Bool.and_eq_true,decide_eq_true_eq]at h
   obtain⟨⟨⟨⟨⟨⟨h0,rfl⟩,h1⟩,h2⟩,h3⟩,h4⟩,h5⟩:=h
   obtain⟨k,hr,hF⟩:=G.fns h0
   have hA:=sA es h5 G
   cases args with
   |nil=>
    cases es with
    |nil=>exact qN (B:=W.toWB) G.kok (fun i m f hi q=>hF f (G.kfm i m f hi q)) (hr.mono (Nat.le_succ k)) G.pass (sE a h4 G) (eT h1) h2
    |cons _ _=>simp[okA]at h5
   |cons z zs=>
    cases es with
    |nil=>simp[okA]at h5
    |cons ea er=>
     obtain⟨_,_,e1,n1,_,n3⟩:=cf h5
     cases e1
     exact tN (B:=W.toWB) G.kok (fun i m f hi q=>hF f (G.kfm i m f hi q)) (hr.mono (Nat.le_succ k)) G.pass (sE a h4 G) hA (eT h1) h2 h3 (aV n1) (ce _ n3)
  ·cases h
 |.ini i es,c,e,X,E2,h,G=>by
  unfold okE at h
  split at h
  ·rename_i x px n ap args cp
   simp only[Bool.and_eq_true,decide_eq_true_eq,Bool.not_eq_true']at h
   obtain⟨⟨⟨⟨⟨⟨⟨⟨h0,rfl⟩,h1⟩,h2⟩,h3⟩,h4⟩,h5⟩,h6⟩,h7⟩:=h
   obtain⟨m1,hi⟩:=G.knm i x (beq_iff_eq.mp h1)
   obtain⟨k,hr,hF⟩:=G.fns h0
   have hA:=sA es h7 G
   cases args with
   |nil=>cases h6
   |cons z zs=>
    cases es with
    |nil=>simp[okA]at h7
    |cons ea er=>
     obtain⟨_,_,e1,n1,_,n3⟩:=cf h7
     cases e1
     cases q:W.ini i with
     |none=>exact absurd q (by obtain⟨f,hf⟩:=G.kin i hi;rw[hf];exact fun z=>nomatch z)
     |some f=>
      have hA2:PA X (z::zs) (cU X.K W.cls E2 fun σ M Q E=>wpA W (.cons ea er) σ M (fun xs M1=>i < W.nk/\Q xs M1) E):=hA.imp fun σ H Q2 hl_=>ex9 hl_ fun σ3 M Q E3 rm ds lk hh back=>⟨σ3,M,_,E3,rm,ds,lk,hh,fun vs H' xs M' a b c d=>back vs H' xs M' a b c d.2⟩
      exact (Az (B:=W.toWB) (G.gl h2) m1 h3 ((G.kok i hi).ci f q) (hF f (G.kfi i f hi q)) (hr.mono (Nat.le_succ k)) G.pass hA2 h4 h5 (aV n1) (ce _ n3)).imp fun σ H Q2 hl_=>ex9 hl_ fun σ3 M Q E3 rm ds lk hh back=>⟨σ3,M,Q,E3,rm,ds,lk,by simp only[wpE,q,dF]at hh;exact hh,back⟩
  ·cases h
 |.isK a j,c,e,X,E2,h,G=>by
  unfold okE at h
  split at h
  ·simp only[Bool.and_eq_true,decide_eq_true_eq,beq_iff_eq,Bool.not_eq_true']at h
   obtain⟨⟨⟨⟨⟨⟨rfl,h1⟩,h2⟩,h3⟩,h4⟩,h5⟩,h6⟩:=h
   exact AQ (B:=W.toWB) G.kok (sE a h6 G) (G.gl h2) (G.bi _ (by decide +kernel)) (G.gl h3) (G.knm _ _ h1).1 h4 (aV h5)
  ·cases h
 |.glo k,c,e,X,E2,h,G=>by
  unfold okE at h
  split at h
  ·rename_i x px
   simp only[Bool.and_eq_true,Bool.not_eq_true']at h
   obtain⟨u,v,m1,r,hd⟩:=G.glo k x (beq_iff_eq.mp h.1.1)
   exact BN (G.gl h.1.2) m1 r h.2 hd
  ·cases h
 |.bm b o es,c,e,X,E2,h,G=>by
  unfold okE at h
  split at h
  ·rename_i x n ap args cp
   simp only[Bool.and_eq_true,decide_eq_true_eq]at h
   obtain⟨⟨⟨⟨⟨⟨h0,rfl⟩,h1⟩,h2⟩,h3⟩,h4⟩,h5⟩:=h
   have hA:=sA es h5 G
   cases args with
   |nil=>
    cases es with
    |nil=>exact nR G.un (sE o h4 G) (eT h1) h2
    |cons _ _=>simp[okA]at h5
   |cons z zs=>
    cases es with
    |nil=>simp[okA]at h5
    |cons ea er=>
     obtain⟨_,_,e1,n1,_,n3⟩:=cf h5
     cases e1
     exact rW G.un (sE o h4 G) hA (eT h1) h3 h2 (aV n1) (ce _ n3)
  ·cases h
 |.dnew tk,c,e,X,E2,h,G=>by
  unfold okE at h
  split at h
  ·exact wn tk
  ·cases h
 |.rep fz a b,c,e,X,E2,h,G=>by
  unfold okE at h
  split at h
  ·simp only[Bool.and_eq_true,decide_eq_true_eq]at h
   obtain⟨⟨rfl,h1⟩,h2⟩:=h
   exact yz (sE a h1 G) (sE b h2 G)
  ·cases h
 |.lzip fz a b,c,e,X,E2,h,G=>by
  unfold okE at h
  split at h
  ·simp only[Bool.and_eq_true,decide_eq_true_eq]at h
   obtain⟨⟨⟨⟨⟨⟨⟨⟨h0,rfl⟩,h1⟩,rfl⟩,h2⟩,h3⟩,h4⟩,h5⟩,h6⟩:=h
   exact u4 (G.calm h0) (G.gl h1) (G.bi _ (by decide +kernel)) (G.gl h2) (G.bi _ (by decide +kernel)) (sE a h5 G) (sE b h6 G) (by rw[aV h3,aV h4];rfl) (aV h4)
  ·cases h
theorem sT:∀(it:IT) {c:Cfg}{e:Expr}{X:Cx}{E2:St->XK},okT it c e=true->Good c W X E2->PT X e (bW X.K W.cls E2 (wpT W it))/\(FN it=true->PW X e (bW X.K W.cls E2 (wpT W it)))
 |.val a,c,e,X,E2,h,G=>by
  unfold okT at h
  simp only[Bool.and_eq_true]at h
  exact⟨zU (sE a h.2 G) (nF h.1),fun z=>nomatch z⟩
 |.cmp op a b,c,e,X,E2,h,G=>by
  unfold okT at h
  split at h
  ·simp only[Bool.and_eq_true,decide_eq_true_eq]at h
   obtain⟨⟨⟨rfl,h0⟩,h1⟩,h2⟩:=h
   exact⟨yD (cX G.un op) (sE a h1 G) (sE b h2 G) (eJ h0),fun z=>nomatch z⟩
  ·cases h
 |.chain op1 op2 a b d,c,e,X,E2,h,G=>by
  unfold okT at h
  split at h
  ·simp only[Bool.and_eq_true,decide_eq_true_eq]at h
   obtain⟨⟨⟨⟨⟨rfl,rfl⟩,h0⟩,h1⟩,h2⟩,h3⟩:=h
   exact⟨qT (cX G.un op1) (cX G.un op2) (sE a h1 G) (sE b h2 G) (sE d h3 G) (eJ h0),fun z=>nomatch z⟩
  ·cases h
 |.chain3 op1 op2 op3 a b d f,c,e,X,E2,h,G=>by
  unfold okT at h
  split at h
  ·simp only[Bool.and_eq_true,decide_eq_true_eq]at h
   obtain⟨⟨⟨⟨⟨⟨⟨rfl,rfl⟩,rfl⟩,h0⟩,h1⟩,h2⟩,h3⟩,h4⟩:=h
   exact⟨pO (cX G.un op1) (cX G.un op2) (cX G.un op3) (sE a h1 G) (sE b h2 G) (sE d h3 G) (sE f h4 G) (eJ h0),fun z=>nomatch z⟩
  ·cases h
 |.and a b,c,e,X,E2,h,G=>by
  unfold okT at h
  split at h
  ·rename_i op x y r p
   simp only[Bool.and_eq_true,decide_eq_true_eq]at h
   obtain⟨⟨rfl,h1⟩,h2⟩:=h
   have hA:=(sT a h1 G).1
   cases r with
   |nil=>exact⟨(lO hA (l5 (sT b h2 G).1)).pt,fun _=>lO hA (l5 (sT b h2 G).1)⟩
   |cons z r=>
    have hB:=(sT b h2 G).2
    cases b with
    |and b1 b2=>exact⟨(lO hA (hB rfl)).pt,fun _=>lO hA (hB rfl)⟩
    |val b1=>simp[okT,mi]at h2
    |cmp=>simp[okT]at h2
    |chain=>simp[okT]at h2
    |chain3=>simp[okT]at h2
    |or=>simp[okT]at h2
    |not=>simp[okT]at h2
  ·cases h
 |.or a b,c,e,X,E2,h,G=>by
  unfold okT at h
  split at h
  ·rename_i op x y r p
   simp only[Bool.and_eq_true,decide_eq_true_eq]at h
   obtain⟨⟨rfl,h1⟩,h2⟩:=h
   have hA:=(sT a h1 G).1
   cases r with
   |nil=>exact⟨(qE hA (pe (sT b h2 G).1)).pt,fun _=>qE hA (pe (sT b h2 G).1)⟩
   |cons z r=>
    have hB:=(sT b h2 G).2
    cases b with
    |or b1 b2=>exact⟨(qE hA (hB rfl)).pt,fun _=>qE hA (hB rfl)⟩
    |val b1=>simp[okT,mi]at h2
    |cmp=>simp[okT]at h2
    |chain=>simp[okT]at h2
    |chain3=>simp[okT]at h2
    |and=>simp[okT]at h2
    |not=>simp[okT]at h2
  ·cases h
 |.not a,c,e,X,E2,h,G=>by
  unfold okT at h
  split at h
  ·simp only[Bool.and_eq_true,decide_eq_true_eq]at h
   obtain⟨rfl,h1⟩:=h
   exact⟨yT (sT a h1 G).1,fun z=>nomatch z⟩
  ·cases h
theorem sA:∀(ia:IA) {c:Cfg}{es:List Expr}{X:Cx}{E2:St->XK},okA ia c es=true->Good c W X E2->PA X es (cU X.K W.cls E2 (wpA W ia))
 |.nil,c,es,X,E2,h,G=>by
  simp only[okA]at h
  cases es with
  |nil=>exact BH
  |cons _ _=>cases h
 |.cons a r,c,es,X,E2,h,G=>by
  obtain⟨x,xs,rfl,h1,h2,h3⟩:=cf h
  exact u0 (sE a h2 G) (sA r h3 G) (aV h1)
theorem sO:∀(io:IO) {c:Cfg}{o:Option Expr}{X:Cx}{E2:St->XK},okO io c o=true->Good c W X E2->PO X o (m7 X.K W.cls E2 (wpO W io))
 |.no,c,o,X,E2,h,G=>by
  simp only[okO]at h
  cases o with
  |none=>exact Fn
  |some _=>cases h
 |.yes a,c,o,X,E2,h,G=>by
  cases o with
  |none=>simp[okO]at h
  |some x=>
   simp only[okO]at h
   exact zx (sE a h G)
theorem sTO:∀(io:ITO) {c:Cfg}{es:List Expr}{X:Cx}{E2:St->XK},qc io c es=true->Good c W X E2->PIf X es (bW X.K W.cls E2 (iD W io))
 |.no,c,es,X,E2,h,G=>by
  simp only[qc]at h
  cases es with
  |nil=>exact fun pins s σ H Q2 I ⟨σ3,M,Q,E3,rm,ds,lk,h,back⟩=>rp pins s σ H Q2 I (back _ _ _ rm (.refl _) h)
  |cons _ _=>cases h
 |.yes t,c,es,X,E2,h,G=>by
  unfold qc at h
  split at h
  ·exact sf (sT t h G).1
  ·cases h
theorem sI:∀(ii:II) {c:Cfg}{e:Expr}{X:Cx}{E2:St->XK}{tg:Expr},okI ii c e=true->Good c W X E2->nN ii tg=true->PI X tg e (jk X.K W.cls E2 (wpI W ii))
 |.seq a,c,e,X,E2,tg,h,G,_=>by
  unfold okI at h
  exact BE (sE a h G)
 |.enum a,c,e,X,E2,tg,h,G,ht=>by
  unfold okI at h
  split at h
  ·simp only[Bool.and_eq_true,decide_eq_true_eq]at h
   obtain⟨⟨⟨rfl,h1⟩,h2⟩,h3⟩:=h
   have hA:=sE a h3 G
   cases tg<;>first
    |exact u8 (G.gl h1) (G.bi _ (by decide +kernel)) hA (aV h2)
    |(simp[nN]at ht)
  ·cases h
 |.zip a b,c,e,X,E2,tg,h,G,ht=>by
  unfold okI at h
  split at h
  ·simp only[Bool.and_eq_true,decide_eq_true_eq]at h
   obtain⟨⟨⟨⟨⟨rfl,h1⟩,h2⟩,h3⟩,h4⟩,h5⟩:=h
   have hA:=sE a h4 G
   have hB:=sE b h5 G
   cases tg<;>first
    |exact A6 (G.gl h1) (G.bi _ (by decide +kernel)) hA hB (by rw[aV h2,aV h3];rfl) (aV h3)
    |(simp[nN]at ht)
  ·cases h
 |.revd a,c,e,X,E2,tg,h,G,_=>by
  unfold okI at h
  split at h
  ·simp only[Bool.and_eq_true,decide_eq_true_eq]at h
   obtain⟨⟨⟨rfl,h1⟩,h2⟩,h3⟩:=h
   exact B7 (G.gl h1) (G.bi _ (by decide +kernel)) (sE a h3 G) (aV h2)
  ·cases h
 |.rng1 a,c,e,X,E2,tg,h,G,_=>by
  unfold okI at h
  split at h
  ·simp only[Bool.and_eq_true,decide_eq_true_eq]at h
   obtain⟨⟨⟨rfl,h1⟩,h2⟩,h3⟩:=h
   exact F0 (G.gl h1) (G.bi _ (by decide +kernel)) (sE a h3 G) (aV h2)
  ·cases h
end
end
end L2
namespace L2
open PySem PySem.Spec PyProof.Rows
theorem oA{c:Cfg}{W:WC}{X:Cx}{E2:St->XK}(G:Good c W X E2){el:Expr}{gs:List Comprehension}{scope:Scope}{pos px spos:Pos}{x:Str}(h:swB c scope x px.line pos.line=true) :
  swapsWith (.ListComp el gs scope pos) (some (.Name x px)) spos.line X.env=pure true:=by
 unfold swB at h
 simp only[Bool.and_eq_true]at h
 have h1:X.env.scope.kind=.function:=by rw[G.sc];exact beq_iff_eq.mp h.1.1.1
 have h2:X.env.kindOf x=some .local:=by show X.env.scope.names.lookup x=_;rw[G.sc];exact beq_iff_eq.mp h.1.1.2
 have hb:(X.env.blockKind == .function)=true:=by
  unfold Env.blockKind
  rw[h1];rfl
 show (pure (X.env.blockKind == .function&&X.env.kindOf x == some .local&&px.line == pos.line&&!(scope.names.any fun (n,k)=>n == x&&(k == .local||k == .cell))):Sem Bool)=pure true
 rw[hb,h2,h.1.2,h.2]
 rfl
theorem wX{c:Cfg}{W:WC}{X:Cx}{E2:St->XK}(G:Good c W X E2){el:Expr}{gs:List Comprehension}{scope:Scope}{pos px spos:Pos}{x:Str}(h:(c.sc.names.lookup x == some .cell)=true) :
  swapsWith (.ListComp el gs scope pos) (some (.Name x px)) spos.line X.env=pure false:=by
 have h2:X.env.kindOf x=some .cell:=by show X.env.scope.names.lookup x=_;rw[G.sc];exact beq_iff_eq.mp h
 show (pure (X.env.blockKind == .function&&X.env.kindOf x == some .local&&px.line == pos.line&&!(scope.names.any fun (n,k)=>n == x&&(k == .local||k == .cell))):Sem Bool)=pure false
 rw[h2,show ((some NameKind.cell:Option NameKind) == some .local)=false from rfl,Bool.and_false]
 rfl
theorem qZ{c:Cfg}{scope:Scope}{x:Str}{a b:Nat}(h:swB c scope x a b=true):c.sc.names.lookup x=some .local:=by
 unfold swB at h
 simp only[Bool.and_eq_true,beq_iff_eq]at h
 exact h.1.1.2
section
variable {W:WC}
theorem pV{fz:Bool}{N:List Str}{js:List (Option Nat)}{tg:ITg}{it:II}{cond:ITO}{elt:IE}{c:Cfg}{X:Cx}{E2:St->XK}{i:Nat}{x:Str}{px spos pos:Pos}{el:Expr}{gs:List Comprehension}{scope:Scope}
  (h:okE (.comp fz N js tg it cond elt) c (.ListComp el gs scope pos)=true) (hi:(c.N[i]? == some x)=true) (hsw:swB c scope x px.line pos.line=true) (G:Good c W X E2) :
  PS X (.Assign [.Name x px] (.ListComp el gs scope pos) spos) (bO X.K W.cls E2 (wpS W (.set i (.comp fz N js tg it cond elt)))):=by
 have sp:=oA (spos:=spos) (el:=el) (gs:=gs) G hsw
 unfold okE at h
 split at h
 ·rename_i el' tgE iter ifs as scope' pos' heq
  cases heq
  simp only[Bool.and_eq_true,decide_eq_true_eq]at h
  obtain⟨⟨⟨⟨⟨⟨⟨⟨h0,rfl⟩,ht⟩,h1⟩,h2⟩,h3⟩,h4⟩,h5⟩,h6⟩:=h
  have hok:=h2
  rw[<-G.sc,<-G.N]at hok
  exact k8 hok (G.calm h0) (sI it h3 G ht) (fun C s2 H2 fp pn=>sG tg h4 (G.comp h2 C s2 H2 fp pn)) (fun C s2 H2 fp pn=>sTO cond h5 (G.comp h2 C s2 H2 fp pn)) (fun C s2 H2 fp pn=>sE elt h6 (G.comp h2 C s2 H2 fp pn)) (pv h1) G.ndX (G.at hi) (by rw[G.sc];exact qZ hsw) sp fz
 ·cases h
mutual
theorem sS:∀(is:IS) {c:Cfg}{s:Stmt}{X:Cx}{E2:St->XK},okS is c s=true->Good c W X E2->PS X s (bO X.K W.cls E2 (wpS W is))
 |.set i a,c,s,X,E2,h,G=>by
  unfold okS at h
  split at h
  ·simp only[Bool.and_eq_true,Bool.or_eq_true]at h
   obtain⟨⟨⟨h1,h2⟩,h3⟩,h4⟩:=h
   obtain⟨l1,l2⟩:=G.loc h2
   rcases h4 with h4|h4
   ·exact sh G.ndX (G.at h1) l1 (sE a h3 G) (jy h4) l2
   ·split at h4
    ·rcases Bool.or_eq_true_iff.mp h4 with h4|h4
     ·exact pV h3 h1 h4 G
     ·exact sh G.ndX (G.at h1) l1 (sE _ h3 G) (wX G h4) l2
    ·cases h4
  ·cases h
 |.expr a,c,s,X,E2,h,G=>by
  unfold okS at h
  split at h
  ·simp only[Bool.and_eq_true]at h
   exact xJ (sE a h.2 G) (jy h.1)
  ·cases h
 |.ret a,c,s,X,E2,h,G=>by
  unfold okS at h
  split at h
  ·exact BV (sE a h G)
  ·cases h
 |.ifs t a b,c,s,X,E2,h,G=>by
  unfold okS at h
  split at h
  ·simp only[Bool.and_eq_true]at h
   exact FP (sT t h.1.1 G).1 (sSs a h.1.2 G) (sSs b h.2 G)
  ·cases h
 |.for_ tg it body,c,s,X,E2,h,G=>by
  unfold okS at h
  split at h
  ·simp only[Bool.and_eq_true]at h
   obtain⟨⟨⟨⟨⟨⟨h1,ht⟩,h2⟩,h3⟩,h4⟩,h5⟩,h6⟩:=h
   exact BK (G.own h1).1 (G.calm h2) (sI it h5 G ht) (sG tg h4 G) (sSs body h6 G) (pv h3)
  ·cases h
 |.raise k es,c,s,X,E2,h,G=>by
  unfold okS at h
  split at h
  ·rename_i x px args cp pos
   simp only[Bool.and_eq_true,Bool.not_eq_true']at h
   obtain⟨⟨⟨⟨⟨⟨⟨h0,h1⟩,h2⟩,h3⟩,h4⟩,h5⟩,h6⟩,h7⟩:=h
   obtain⟨_,E,hE,hR,hRD,hr2⟩:=G.own h1
   obtain⟨m1,m2,_⟩:=G.exc k x (beq_iff_eq.mp h3)
   have hA:=sA (W:=W) es h7 G
   cases args with
   |nil=>cases h6
   |cons z zs=>
    cases es with
    |nil=>simp[okA]at h7
    |cons ea er=>
     obtain⟨_,_,e1,n1,_,n3⟩:=cf h7
     cases e1
     exact qr hR hE (G.calm h2) (G.gl h4) m1 (m2 (Option.isNone_iff_eq_none.mp h0)) hA h5 (aV n1) (ce _ n3)
  ·cases h
 |.try_ body hs,c,s,X,E2,h,G=>by
  unfold okS at h
  split at h
  ·rename_i b handlers pos
   simp only[Bool.and_eq_true]at h
   obtain⟨⟨⟨h1,h2⟩,h3⟩,h4⟩:=h
   obtain⟨t1,t2,t3⟩:=G.tr h1
   have hH:=sHs hs h4 G
   cases handlers with
   |nil=>cases h2
   |cons h0 hr=>exact AF t1 t2 t3 hH fun pn V' E2' hP=>sSs body h3 (G.trying hP)
  ·cases h
 |.app o a,c,s,X,E2,h,G=>by
  unfold okS at h
  split at h
  ·simp only[Bool.and_eq_true,decide_eq_true_eq]at h
   obtain⟨⟨⟨⟨⟨rfl,h1⟩,h2⟩,h3⟩,h4⟩,h5⟩:=h
   exact BG (sE o h4 G) (sE a h5 G) (wp h1) h2 (aV h3)
  ·cases h
 |.del i,c,s,X,E2,h,G=>by
  unfold okS at h
  cases h
 |.fset o f a,c,s,X,E2,h,G=>by
  unfold okS at h
  split at h
  ·simp only[Bool.and_eq_true,decide_eq_true_eq]at h
   obtain⟨⟨⟨rfl,h1⟩,h2⟩,h3⟩:=h
   exact w6 (B:=W.toWB) G.kok (sE o h2 G) (sE a h3 G) (jy h1)
  ·cases h
 |.ixset o i a,c,s,X,E2,h,G=>by
  unfold okS at h
  split at h
  ·simp only[Bool.and_eq_true]at h
   obtain⟨⟨⟨⟨h0,h1⟩,h2⟩,h3⟩,h4⟩:=h
   exact qB G.un (sE o h2 G) (sE i h3 G) (sE a h4 G) (sV h0) (by unfold swapsWithSole;exact jy h1) (by rfl) (by rfl)
  ·cases h
theorem sSs:∀(is:ISs) {c:Cfg}{sts:List Stmt}{X:Cx}{E2:St->XK},gu is c sts=true->Good c W X E2->PSs X sts (bO X.K W.cls E2 (ar W is))
 |.nil,c,sts,X,E2,h,G=>by
  simp only[gu]at h
  cases sts with
  |nil=>exact Cd
  |cons _ _=>cases h
 |.cons s r,c,sts,X,E2,h,G=>by
  unfold gu at h
  split at h
  ·exact Be (sSs r h G)
  ·split at h
   ·simp only[Bool.and_eq_true]at h
    exact vQ (t:=wpS W s) (u:=ar W r) (sS s h.1 G) (sSs r h.2 G)
   ·cases h
theorem sHs:∀(ih:IHs) {c:Cfg}{hs:List ExceptHandler}{X:Cx}{E2:St->XK},pj ih c hs=true->Good c W X E2->PH X hs (kY X.K W.cls (wpH W ih))
 |.nil,c,hs,X,E2,h,G=>by
  simp only[pj]at h
  cases hs with
  |nil=>exact ue
  |cons _ _=>cases h
 |.cons k nm body r,c,hs,X,E2,h,G=>by
  unfold pj at h
  split at h
  ·rename_i x px nmE bodyE hp av
   simp only[Bool.and_eq_true,Bool.not_eq_true']at h
   obtain⟨⟨⟨⟨⟨⟨h1,h2⟩,h3⟩,h4⟩,h5⟩,h6⟩,h7⟩:=h
   obtain⟨m1,m2,m3⟩:=G.exc k x (beq_iff_eq.mp h1)
   have hB:=fun v=>sSs body h6 (G.caught v)
   have hR:=sHs r h7 G
   cases bodyE with
   |nil=>cases h5
   |cons b0 suite=>
    cases nm with
    |none=>
     cases nmE with
     |none=>exact B5 (G.gl h2) m1 m3 hB hR h3
     |some n=>cases h4
    |some j=>
     cases nmE with
     |none=>cases h4
     |some n=>
      simp only[Bool.and_eq_true,beq_iff_eq]at h4
      exact yV (G.gl h2) m1 m3 G.ndX (by rw[G.N];exact h4.1) (by rw[G.sc];exact h4.2) hB hR h3
  ·cases h
end
end
end L2
namespace L2
open PySem PySem.Spec PyProof.Rows
theorem dW:∀{l:List (Nat×Nat)}{m f:Nat},l.lookup m=some f->(m,f)∈l
 |[],_,_,h=>by cases h
 |(a,b)::r,m,f,h=>by
  rw[List.lookup_cons]at h
  by_cases e:m=a
  ·subst e;simp at h;subst h;exact List.mem_cons_self
  ·have:(m == a)=false:=by simpa using e
   rw[this]at h
   exact List.mem_cons_of_mem _ (dW h)
theorem ixc{α:Type}{P:Nat->α->Prop}{a:α}{r:List α}(h0:P 0 a)(hr:∀i x,r[i]?=some x->P (i+1) x):∀i x,(a::r)[i]?=some x->P i x
 |0,x,h=>by cases h;exact h0
 |i+1,x,h=>hr i x h
theorem ixn{α:Type}{P:Nat->α->Prop}:∀i x,([]:List α)[i]?=some x->P i x:=fun i x h=>by simp at h
theorem us0{P:List Value->Prop}(h:P []):∀us:List Value,us.length=0->P us:=fun us e=>(List.eq_nil_of_length_eq_zero e)▸h
theorem usS{n:Nat}{P:List Value->Prop}(h:∀a,∀us:List Value,us.length=n->P (a::us)):∀us:List Value,us.length=n+1->P us:=fun us e=>by
 cases us with
 |nil=>cases e
 |cons a r=>exact h a r (Nat.succ.inj e)
structure FB where
 np:Nat
 nl:Nat
 cl:Bool
 body:ISs
noncomputable def kR(nl:Nat)(ds:List D):St3:=ds.map some++List.replicate (nl - ds.length) none
noncomputable def aa(T:List FB)(B:WB):Nat->Nat->List D->MH->VK3->XN->Prop
 |0,_,_,_,_,_=>False
 |n+1,f,ds,M,Q,E=>match T[f]? with
  |none=>False
  |some fb=>ds.length=fb.np/\ar {toWB:=B,call:=aa T B n} fb.body {nx:=fun _ M'=>Q .non (kp fb.cl M M'),rt:=fun v M'=>Q v (kp fb.cl M M')} (fun _ i M'=>E i (ae M M')) (kR fb.nl ds) M
structure FL where
 name:Str
 qual:Str
 glob:Bool
 cl:Bool
 st:Stmt
 N:List Str
 ps:List Str
 body:ISs
noncomputable def lr(N ps:List Str)(sc:Scope):Bool:=(sc.kind == .function)&&!sc.isCoroutine&&!sc.isGenerator&&decide N.Nodup&&(N.take ps.length == ps)&&
 ps.all (fun x=>sc.names.lookup x == some .local||sc.names.lookup x == some .cell)&&sc.names.all (fun y=>y.2 != .free)
theorem m6{N ps:List Str}{sc:Scope}(h:lr N ps sc=true):FnScope N ps sc:=by
 unfold lr at h
 simp only[Bool.and_eq_true,Bool.not_eq_true',beq_iff_eq,decide_eq_true_eq,List.all_eq_true,Bool.or_eq_true,bne_iff_ne]at h
 obtain⟨⟨⟨⟨⟨⟨h1,h2⟩,h3⟩,h4⟩,h5⟩,h6⟩,h7⟩:=h
 exact⟨h1,h2,h3,h4,h5,h6,h7⟩
structure NM where
 exc:List Str
 kln:List Str
 gln:List Str
 xin:List (Nat×Nat)
noncomputable def FL.cfg(l:FL)(fns:List (Option Str×Nat))(n:NM):Cfg:={N:=l.N,sc:=aR l.st,fns:=fns,exc:=n.exc,kln:=n.kln,gln:=n.gln,xin:=n.xin,calm:=true,own:=true,tr:=true,fn:=true}
noncomputable def FL.fb(l:FL):FB:=⟨l.ps.length,l.N.length,l.cl,l.body⟩
noncomputable def FL.ok(l:FL)(fns:List (Option Str×Nat))(n:NM):Bool:=lr l.N l.ps (aR l.st)&&gu l.body (l.cfg fns n) (cP l.st)
noncomputable def dL(L:List FL):List (Option Str×Nat):=L.map fun l=>(if l.glob=true then some l.name else none,l.ps.length)
structure Top (K:PySem.W.Frag) (mg:Str->Option Value) (L:List FL) (n:NM) (B:WB):Prop where
 ok:∀l∈L,l.ok (dL L) n=true
 fn:∀f l,L[f]?=some l->∃fd,Fun K l.name l.qual l.st (B.fad f) fd/\(l.glob=true->mg l.name=some (.ref (B.fad f)))/\∀us:List Value,us.length=l.ps.length->bindArgs fd ⟨us,[]⟩=pure (l.ps.zip us)
 exi:∀i,i < B.ne->ExcI K (B.cls i)/\PySem.W.kitOne K (.ref (B.cls i)) (.type "ValueError")=some true/\∀j x,n.exc[j]?=some x->PySem.W.kitOne K (.ref (B.cls i)) (.ref (B.cls j))=some (B.sub i j)
 exc:∀i x,n.exc[i]?=some x->mg x=some (.ref (B.cls i))/\(n.xin.lookup i=none->qL K (B.cls i))/\∀j,j < B.ne->PySem.W.exmOne K (.ref (B.cls j)) (.ref (B.cls i))=some (B.sub j i)
 kok:∀i,i < B.nk->KOk K B B.fad i
 kin:∀i,i < B.nk->∃f,B.ini i=some f
 kfi:∀i f,i < B.nk->B.ini i=some f->f < L.length
 kfm:∀i m f,i < B.nk->B.mth i m=some f->f < L.length
 knm:∀i x,n.kln[i]?=some x->mg x=some (.ref (B.kls i))/\i < B.nk
 glo:∀k x,n.gln[k]?=some x->∃u v,mg x=some u/\RelV v u/\∀H,Den K H (B.glo k) v
 bi:∀x∈biNames,mg x=none
 dig:vb K
 xi:∀i f,n.xin.lookup i=some f->B.xin i=some f/\∃fI fd ps,XIni K (B.cls i) fI (fnm f)/\Binds K fd ps []/\∀(P:Program) (w:World) (base:Heap),FnOk P w K mg base (CX1 P w) 1 fI fd ps (nU (B.cls i) (fnm f))
 xn:∀i f,i < B.ne->B.xin i=some f->NoAttr K (B.cls i) (fnm f)
section
variable {P:Program}{w:World}{K:PySem.W.Frag}{mg:Str->Option Value}{base:Heap}{L:List FL}{nm:NM}{B:WB}
theorem oK(T:Top K mg L nm B):∀(n f:Nat) (l:FL),L[f]?=some l->∀(fd:FuncData),Fun K l.name l.qual l.st (B.fad f) fd->FnOk P w K mg base (CX1 P w) (2 * n+2) (B.fad f) fd l.ps (spX K B.cls (aa (L.map FL.fb) B n f)):=by
 intro n
 induction n with
 |zero=>
  intro f l hl fd F
  exact⟨fun vs H Q E ⟨_,_,_,_,_,_,h,_⟩=>h.elim,fun A outer s H args us vs Q E hr e0 hb r ⟨_,_,_,_,_,_,h,_⟩=>h.elim⟩
 |succ n ih=>
  intro f l hl fd F
  have hT:(L.map FL.fb)[f]?=some l.fb:=by rw[List.getElem?_map,hl];rfl
  have hm:l∈L:=List.mem_of_getElem? hl
  have okl:=T.ok l hm
  unfold FL.ok at okl
  rw[Bool.and_eq_true]at okl
  have S:=m6 okl.1
  obtain⟨oc,od,kV,doc,pm,an,cdv,ct,osl,rfl,lk,hcd⟩:=F.ex
  have un:∀ds M Q E,aa (L.map FL.fb) B (n+1) f ds M Q E->ds.length=l.ps.length/\ar {toWB:=B,call:=aa (L.map FL.fb) B n} l.body {nx:=fun _ M'=>Q .non (kp l.cl M M'),rt:=fun v M'=>Q v (kp l.cl M M')} (fun _ i M'=>E i (ae M M')) (kR l.N.length ds) M:=fun ds M Q E h=>by
   simp only[aa,hT]at h
   exact h
  show FnOk P w K mg base (CX1 P w) (2 * n+3+1) _ _ _ _
  refine sx lk hcd S (fun vs H Q E h=>?_) fun A outer s H vs Q E hr hsp=>?_
  ·obtain⟨ds,M,Q3,E3,dl,_,h,_⟩:=h
   rw[<-dl.length];exact (un _ _ _ _ h).1
  ·obtain⟨ds,M,Q3,E3,dl,rm,h,back,lkE⟩:=hsp
   obtain⟨_,h⟩:=un _ _ _ _ h
   have len:(dL L).length=L.length:=by unfold dL;rw[List.length_map]
   have G:Good (l.cfg (dL L) nm) {toWB:=B,call:=aa (L.map FL.fb) B n} (cy (CX1 P w) P w K mg base l.N l.qual (aR l.st) (B.fad f) cdv A outer s H E) (fun _=>E):=by
    refine⟨rfl,S.nd,rfl,hr.units,fun _=>rfl,fun _ _=>rfl,(fun _ z=>nomatch z),fun _=>⟨FC,E,rfl,rk,oj,hr.mono (by omega)⟩,fun _=>⟨rfl,rfl,rfl⟩,fun _=>⟨2 * n+2,hr,fun g hg=>?_⟩,fun g x k hg=>?_,T.kok,T.kin,fun i g hi q=>?_,fun i m g hi q=>?_,T.knm,T.glo,T.exc,T.exi,(fun i f hi=>?_),T.xn,T.bi,T.dig,fun pins σ H' s' e s'' I hc=>Af pins σ H' s' e s'' I hc⟩
    ·have hg:g < (dL L).length:=hg
     rw[len]at hg
     obtain⟨fd2,F2,_,b2⟩:=T.fn g L[g] (by simp[hg])
     exact⟨fd2,_,F2.kp,.all b2,ih g L[g] (by simp[hg]) fd2 F2⟩
    ·have hg:(dL L)[g]?=some (some x,k):=hg
     unfold dL at hg
     rw[List.getElem?_map]at hg
     cases q:L[g]? with
     |none=>rw[q]at hg;cases hg
     |some l2=>
      rw[q]at hg
      obtain⟨fd2,F2,m2,b2⟩:=T.fn g l2 q
      have e:((if l2.glob=true then some l2.name else none),l2.ps.length)=(some x,k):=Option.some.inj hg
      by_cases z:l2.glob=true
      ·rw[if_pos z]at e
       cases e
       exact m2 z
      ·rw[if_neg z]at e
       cases e
    ·show g < (dL L).length
     rw[len];exact T.kfi i g hi q
    ·show g < (dL L).length
     rw[len];exact T.kfm i m g hi q
    ·obtain⟨a,fI,fd3,ps3,x3,b3,F3⟩:=T.xi i f hi
     exact⟨a,fI,fd3,ps3,x3,b3,F3 P w base⟩
   exact⟨_,sSs l.body okl.2 G,kR l.N.length ds,M,_,_,rm,lv dl,fun σ3 σ i M' H' t _ rm' q dx xd=>lkE i _ H' t (rm'.sub fun _ _ z=>jc z) q dx xd,h,
    ⟨fun σ' H' σ3' M' rm' ds' tm q=>back _ _ _ _ oh (rm'.sub fun _ _ z=>on z) tm q,fun v H' d M' dv rm' tm q=>back _ _ _ _ dv (rm'.sub fun _ _ z=>on z) tm q,fun _ _ _ _ _ _ _ z=>z.elim,fun _ _ _ _ _ _ _ z=>z.elim⟩⟩
end
noncomputable abbrev scr(ns:List Int):D:=.rol (ns.map D.int)
theorem walkD{l:PySem.W.OpenLaw}{k f:Nat}{q:Program}{loose:List Str}{XP:(Str->Option Value)->Heap->Prop}{YP:World->Heap->Prop}{d:DefRec}{K:Params->PySem.W.Frag}{fl:FL}{x:Str}{L:List FL}{nm:NM}{BB:(Nat->Addr)->(Nat->Addr)->(Nat->Addr)->WB}
  (hn:l.most=some 63) (hdf:d.params.defaults=[]) (hr:Room (2 * k+2) callerA) (hY:∀(w:World) (h:Heap),YP w h->(K w.params).In h) (hf:L[f]?=some fl) (hps:fl.ps=[x]) (hname:fl.name=d.name) (hgl:fl.glob=true)
  (T:∀(w:World) (mg:Str->Option Value) (h:Heap),(K w.params).In h->h.Ns mainGlobals mg->∃cls kls fad,Top (K w.params) mg L nm (BB cls kls fad))
  (main:∀(cls kls fad:Nat->Addr) (ns:List Int),ns.length<=63->aa (L.map FL.fb) (BB cls kls fad) k f [scr ns] (fun _=>none) (fun d _=>d=.bl true) (fun _ _=>False)) :
  PySem.W.WalkO q loose XP YP l.row.toRowW d [] (fun f vs=>PySem.call f vs):=by
 refine Att.attach_call hn hdf fun w s₀ s₁ mg mb fa o pm cd doc a vs ns G Y ho hd hcd hmg hobj hints hlen hg=>?_
 have KX:=hY w _ Y
 obtain⟨cls,kls,fad,T⟩:=T w mg _ KX G.T.g
 obtain⟨fd,F,m1,b1⟩:=T.fn f fl hf
 have m1:=m1 hgl
 rw[hname,hmg]at m1
 have m1:=Value.ref.inj (Option.some.inj m1)
 subst m1
 refine pG (K:=K w.params) (CX:=CX1 l.prog w) (fd:=fd) (x:=x) (sp:=spX (K w.params) (BB cls kls fad).cls (aa (L.map FL.fb) (BB cls kls fad) k f)) KX G.T.g G.T.b G.T.builtins G.T.nolimit hg hobj hints (Nat.le_trans hlen (by decide)) hr (fun base kb gb=>by rw[<-hps];exact oK T k f fl hf fd F) (fun s u=>?_) (fun H hO hS=>?_) fun H e s' h=>?_
 ·have hb:=b1 [u] (by rw[hps];rfl)
  rw[hps]at hb
  exact .of_eq hb
 ·have sq:SqF (K w.params) H a (ns.map V.int):=by
   cases hk:(K w.params).lookup a with
   |some ob=>
    have e:=KX a ob hk
    rw[hobj]at e
    cases e
    exact .inr ⟨vs,_,hk,by rw[hints.length];exact Nat.le_trans hlen (by decide),eW hints⟩
   |none=>
    rcases hS with (h|⟨ob,h⟩)|⟨ob,_,_,h,_⟩
    ·rcases hO a with z|⟨o2,xs,z⟩
     ·rw[h]at z;cases z
     ·rw[h]at z;cases z
    ·exact .inl ⟨ob,h⟩
    ·rw[hk]at h;cases h
  refine⟨[scr ns],fun _=>none,fun d _=>d=.bl true,fun _ _=>False,.one ⟨a,_,rfl,sq,.of_int⟩,fun a o e=>(by cases e),main cls kls fad ns hlen,fun v H' d M' dv _ _ q=>?_,fun _ _ _ _ _ h=>h.elim⟩
  subst q;exact dv
 ·obtain⟨_,_,_,_,_,_,_,_,_,_,_,_,_,he⟩:=h
  exact he
end L2
namespace L2
open PySem
noncomputable def m9(K:PySem.W.Frag)(a:Addr):Option FuncData:=match K.lookup a with
 |some ⟨_,_,.func fd,_⟩=>some fd
 |_=>none
noncomputable def fdN(l:FL)(fd:FuncData):FuncData:=PySem.W.fnOf l.name l.qual (eK l.st) (cP l.st) (aR l.st) .none fd.kwdefaults fd.doc fd.pyModule fd.annotations fd.code fd.closureTuple
noncomputable def fnB(K:PySem.W.Frag)(B:WB)(l:FL)(i:Nat):Bool:=(match m9 K (B.fad i) with
 |some fd=>PySem.W.codeIn K fd.code l.qual
 |none=>false)&&PySem.W.keepIn K (.ref (B.fad i))&&(!l.glob||PySem.W.nsIn K mainGlobals l.name == some (some (.ref (B.fad i))))
theorem rB{K:PySem.W.Frag}{a:Addr}{fd:FuncData}(h:m9 K a=some fd):∃oc od sl,K.lookup a=some ⟨oc,od,.func fd,sl⟩:=by
 unfold m9 at h
 split at h
 ·rename_i oc od fd' sl e
  cases h
  exact⟨oc,od,sl,e⟩
 ·cases h
noncomputable def Bk(K:PySem.W.Frag)(C:Addr):Bool:=PySem.W.hasDictIn K C&&PySem.W.findIn K (.ref C) "__getattribute__" == some (some (.builtin "BaseException.__getattribute__"))&&PySem.W.findIn K (.ref C) "__getattr__" == some none&&PySem.W.findIn K (.ref C) "__class__" == some (some (.builtin "object.__class__"))&&PySem.W.mroIn K C (.type "object") == some true&&PySem.W.mroIn K C (.type "BaseException") == some true&&PySem.W.kitOne K (.ref C) (.type "ValueError") == some true
noncomputable def Cm(K:PySem.W.Frag):Bool:=PySem.W.specialIn K (.builtin "object.__class__") "__get__" == some (some (.builtin "getset_descriptor.__get__"))&&PySem.W.takesIn K (.builtin "object.__class__") == some true&&PySem.W.nsIn K cStatics "sys.int_max_str_digits" == some none&&biNames.all fun x=>PySem.W.nsIn K mainGlobals x == some none
noncomputable def Ak(K:PySem.W.Frag)(B:WB)(n:NM):Bool:=(List.range B.ne).all (fun i=>Bk K (B.cls i)&&(List.range n.exc.length).all fun j=>PySem.W.kitOne K (.ref (B.cls i)) (.ref (B.cls j)) == some (B.sub i j)&&PySem.W.exmOne K (.ref (B.cls i)) (.ref (B.cls j)) == some (B.sub i j))&&
 n.exc.zipIdx.all fun p=>PySem.W.nsIn K mainGlobals p.1 == some (some (.ref (B.cls p.2)))&&((n.xin.lookup p.2).isSome||PySem.W.excIn K (B.cls p.2) bmV "ValueError.__new__")
noncomputable def kB(K:PySem.W.Frag)(B:WB)(fT:List (List Nat))(mT:List (List (Nat×Nat)))(iT:List Nat)(i:Nat):Bool:=
 PySem.W.plainGet K (B.kls i) Str.empty&&PySem.W.hasDictIn K (B.kls i)&&PySem.W.plainOver K (B.kls i)&&PySem.W.findIn K (.ref (B.kls i)) "__setattr__" == some (some (.builtin "object.__setattr__"))&&
 (fT.getD i []).all (fun f=>PySem.W.findIn K (.ref (B.kls i)) (fnm f) == some none)&&
 (mT.getD i []).all (fun p=>PySem.W.findIn K (.ref (B.kls i)) (fnm p.1) == some (some (.ref (B.fad p.2)))&&PySem.W.isFn K (.ref (B.fad p.2))&&PySem.W.keepIn K (.ref (B.fad p.2)))&&
 (match iT[i]? with
  |some f=>PySem.W.makesIn K (B.kls i)&&PySem.W.findIn K (.ref (B.kls i)) "__init__" == some (some (.ref (B.fad f)))&&PySem.W.isFn K (.ref (B.fad f))&&PySem.W.keepIn K (.ref (B.kls i))&&PySem.W.specialIn K (.ref (B.kls i)) "__getattribute__" == some (some (.builtin "type.__getattribute__"))&&PySem.W.readsIn K (B.kls i) (.type "type")&&
   (match PySem.W.findCls K (.ref (B.kls i)) (.type "type") "__init__" with
    |some (.val (.ref g))=>g == B.fad f
    |_=>false)
  |none=>false)&&
 PySem.W.findIn K (.ref (B.kls i)) "__class__" == some (some (.builtin "object.__class__"))&&PySem.W.mroIn K (B.kls i) (.type "object") == some true&&
 (List.range B.nk).all fun j=>PySem.W.kitOne K (.ref (B.kls i)) (.ref (B.kls j)) == some (B.ksub i j)
noncomputable def Br(L m:Nat)(mT:List (List (Nat×Nat)))(iT:List Nat):Bool:=iT.length == m&&iT.all (fun f=>decide (f < L))&&mT.all fun l=>l.all fun p=>decide (p.2 < L)
theorem ft{n i:Nat}{p:Nat->Bool}(h:(List.range n).all p=true)(hi:i < n):p i=true:=List.all_eq_true.mp h i (List.mem_range.mpr hi)
theorem ll{α:Type}{l:List α}{p:α×Nat->Bool}(h:l.zipIdx.all p=true){i:Nat}{x:α}(hx:l[i]?=some x):p (x,i)=true:=by
 refine List.all_eq_true.mp h (x,i) ?_
 rw[List.mem_zipIdx_iff_getElem?]
 exact hx
theorem Top.of{K:PySem.W.Frag}{mg:Str->Option Value}{h:Heap}{L:List FL}{n:NM}{B:WB}{fT:List (List Nat)}{mT:List (List (Nat×Nat))}{iT:List Nat}(X:K.In h)(Gn:h.Ns mainGlobals mg)
  (h1:L.all (fun l=>l.ok (dL L) n)=true)
  (h2:L.zipIdx.map (fun p=>m9 K (B.fad p.2))=L.zipIdx.map fun p=>(m9 K (B.fad p.2)).map (fdN p.1))
  (h3:L.zipIdx.all (fun p=>fnB K B p.1 p.2)=true)
  (h4:∀(f:Nat) (l:FL),L[f]?=some l->∀us:List Value,us.length=l.ps.length->∀(kV doc pm:Value) (an:Option Addr) (cdv ct:Value),bindArgs (PySem.W.fnOf l.name l.qual (eK l.st) (cP l.st) (aR l.st) .none kV doc pm an cdv ct) ⟨us,[]⟩=pure (l.ps.zip us))
  (h5:Cm K=true) (h6:Ak K B n=true)
  (h7:(List.range B.nk).all (kB K B fT mT iT)=true) (h8:Br L.length B.nk mT iT=true)
  (hf:∀i f,B.fok i f=(fT.getD i []).contains f) (hm:∀i m,B.mth i m=(mT.getD i []).lookup m) (hi:∀i,B.ini i=iT[i]?)
  (h9:n.kln.zipIdx.all (fun p=>PySem.W.nsIn K mainGlobals p.1 == some (some (.ref (B.kls p.2)))&&decide (p.2 < B.nk))=true)
  (glo:∀(k:Nat) (x:Str),n.gln[k]?=some x->∃u v,mg x=some u/\RelV v u/\∀H,Den K H (B.glo k) v)
  (xi:∀i f,n.xin.lookup i=some f->B.xin i=some f/\∃fI fd ps,XIni K (B.cls i) fI (fnm f)/\Binds K fd ps []/\∀(P:Program) (w:World) (base:Heap),FnOk P w K mg base (CX1 P w) 1 fI fd ps (nU (B.cls i) (fnm f)))
  (xn:∀i f,i < B.ne->B.xin i=some f->NoAttr K (B.cls i) (fnm f)):Top K mg L n B:=by
 unfold Cm at h5
 simp only[Bool.and_eq_true,beq_iff_eq]at h5
 obtain⟨⟨⟨o1,o2⟩,o3⟩,o4⟩:=h5
 unfold Ak at h6
 rw[Bool.and_eq_true]at h6
 obtain⟨e1,e2⟩:=h6
 unfold Br at h8
 simp only[Bool.and_eq_true,beq_iff_eq]at h8
 obtain⟨⟨t1,t2⟩,t3⟩:=h8
 have ki:∀i,i < B.nk->kB K B fT mT iT i=true:=fun i hi=>ft h7 hi
 refine⟨fun l hl=>List.all_eq_true.mp h1 l hl,fun f l hl=>?_,fun i hi=>?_,fun i x hx=>?_,fun i hi'=>?_,fun i hi'=>?_,fun i f hi' hf'=>?_,fun i m f hi' hf'=>?_,fun i x hx=>?_,glo,fun x hx=>?_,o3,xi,xn⟩
 ·have g:=ll h3 hl
  unfold fnB at g
  simp only[Bool.and_eq_true]at g
  obtain⟨⟨g1,g2⟩,g3⟩:=g
  have hz:L.zipIdx[f]?=some (l,f):=by
   rw[List.getElem?_zipIdx,hl]
   simp
  have e:=congrArg (fun z:List (Option FuncData)=>z[f]?) h2
  simp only[List.getElem?_map,hz,Option.map_some,Option.some.injEq]at e
  cases hfd:m9 K (B.fad f) with
  |none=>rw[hfd]at g1;cases g1
  |some fd=>
   rw[hfd]at e g1
   simp only[Option.map_some,Option.some.injEq]at e
   obtain⟨oc,od,sl,lk⟩:=rB hfd
   refine⟨fd,⟨⟨oc,od,fd.kwdefaults,fd.doc,fd.pyModule,fd.annotations,fd.code,fd.closureTuple,sl,e,lk,g1⟩,g2⟩,fun z=>?_,fun us hu=>?_⟩
   ·rw[z]at g3
    exact PySem.W.mg_of X Gn (beq_iff_eq.mp (by simpa using g3))
   ·rw[e]
    exact h4 f l hl us hu _ _ _ _ _ _
 ·have g:=ft e1 hi
  rw[Bool.and_eq_true]at g
  obtain⟨g1,g2⟩:=g
  unfold Bk at g1
  simp only[Bool.and_eq_true,beq_iff_eq]at g1
  obtain⟨⟨⟨⟨⟨⟨a1,a2⟩,a3⟩,a4⟩,a5⟩,a6⟩,a7⟩:=g1
  refine⟨⟨a1,a2,a3,a4,o1,o2,a5,a6⟩,a7,fun j x hx=>?_⟩
  have hj:j < n.exc.length:=(List.getElem?_eq_some_iff.mp hx).1
  have g:=ft g2 hj
  rw[Bool.and_eq_true,beq_iff_eq]at g
  exact g.1
 ·have g:=ll e2 hx
  rw[Bool.and_eq_true,beq_iff_eq]at g
  refine⟨PySem.W.mg_of X Gn g.1,fun z=>?_,fun j hj=>?_⟩
  ·have g2:=g.2
   rw[show n.xin.lookup (x,i).2=none from z]at g2
   have g3:PySem.W.excIn K (B.cls i) bmV "ValueError.__new__"=true:=by simpa using g2
   exact g3
  ·have q:=ft e1 hj
   rw[Bool.and_eq_true]at q
   have hi:i < n.exc.length:=(List.getElem?_eq_some_iff.mp hx).1
   have g:=ft q.2 hi
   rw[Bool.and_eq_true,beq_iff_eq,beq_iff_eq]at g
   exact g.2
 ·have g:=ki i hi'
  unfold kB at g
  simp only[Bool.and_eq_true,beq_iff_eq]at g
  obtain⟨⟨⟨⟨⟨⟨⟨⟨⟨a1,a2⟩,a3⟩,a4⟩,a5⟩,a6⟩,a7⟩,a8⟩,a9⟩,a10⟩:=g
  have iI:∀f,B.ini i=some f->PySem.W.makesIn K (B.kls i)=true/\PySem.W.findIn K (.ref (B.kls i)) "__init__"=some (some (.ref (B.fad f)))/\PySem.W.isFn K (.ref (B.fad f))=true/\PySem.W.keepIn K (.ref (B.kls i))=true/\PySem.W.specialIn K (.ref (B.kls i)) "__getattribute__"=some (some (.builtin "type.__getattribute__"))/\PySem.W.readsIn K (B.kls i) (.type "type")=true/\PySem.W.findCls K (.ref (B.kls i)) (.type "type") "__init__"=some (.val (.ref (B.fad f))):=fun f hf=>by
   rw[hi i]at hf
   rw[hf]at a7
   simp only[Bool.and_eq_true,beq_iff_eq]at a7
   obtain⟨⟨⟨⟨⟨⟨b1,b2⟩,b3⟩,b4⟩,b5⟩,b6⟩,b7⟩:=a7
   refine⟨b1,b2,b3,b4,b5,b6,?_⟩
   split at b7
   ·rename_i g hg
    rw[hg,beq_iff_eq.mp b7]
   ·cases b7
  refine⟨⟨a1,a2,a3,a4⟩,fun f hf'=>?_,fun m f hm'=>?_,fun f hf'=>?_,fun f hf'=>?_,⟨a8,o1,o2,a9⟩,fun j hj=>?_⟩
  ·rw[hf i f]at hf'
   exact beq_iff_eq.mp (List.all_eq_true.mp a5 f (List.contains_iff_mem.mp hf'))
  ·rw[hm i m]at hm'
   have q:=List.all_eq_true.mp a6 (m,f) (dW hm')
   simp only[Bool.and_eq_true,beq_iff_eq]at q
   exact⟨q.1.1,q.1.2,q.2⟩
  ·obtain⟨b1,b2,b3,b4,_⟩:=iI f hf'
   exact⟨b1,b2,b3,b4⟩
  ·obtain⟨_,_,_,_,b5,b6,b7⟩:=iI f hf'
   exact⟨b5,b6,b7⟩
  ·exact beq_iff_eq.mp (ft a10 hj)
 ·rw[hi i]
  have:i < iT.length:=by rw[t1];exact hi'
  exact⟨iT[i],List.getElem?_eq_getElem this⟩
 ·rw[hi i]at hf'
  exact of_decide_eq_true (List.all_eq_true.mp t2 f (List.mem_of_getElem? hf'))
 ·rw[hm i m]at hf'
  have q:=dW hf'
  by_cases z:i < mT.length
  ·rw[List.getD_eq_getElem?_getD,List.getElem?_eq_getElem z]at q
   exact of_decide_eq_true (List.all_eq_true.mp (List.all_eq_true.mp t3 _ (List.getElem_mem z)) _ q)
  ·rw[List.getD_eq_getElem?_getD,List.getElem?_eq_none (by omega)]at q
   cases q
 ·have g:=ll h9 hx
  rw[Bool.and_eq_true,beq_iff_eq]at g
  exact⟨PySem.W.mg_of X Gn g.1,of_decide_eq_true g.2⟩
 ·exact PySem.W.mg_none_of X Gn (beq_iff_eq.mp (List.all_eq_true.mp o4 x hx))
theorem n1{P:List Value->Prop}(h:∀a,P [a]):∀us:List Value,us.length=1->P us:=usS fun a=>us0 (h a)
theorem n2{P:List Value->Prop}(h:∀a b,P [a,b]):∀us:List Value,us.length=2->P us:=usS fun a=>usS fun b=>us0 (h a b)
theorem n3{P:List Value->Prop}(h:∀a b c,P [a,b,c]):∀us:List Value,us.length=3->P us:=usS fun a=>usS fun b=>usS fun c=>us0 (h a b c)
theorem n4{P:List Value->Prop}(h:∀a b c d,P [a,b,c,d]):∀us:List Value,us.length=4->P us:=usS fun a=>usS fun b=>usS fun c=>usS fun d=>us0 (h a b c d)
theorem n5{P:List Value->Prop}(h:∀a b c d e,P [a,b,c,d,e]):∀us:List Value,us.length=5->P us:=usS fun a=>usS fun b=>usS fun c=>usS fun d=>usS fun e=>us0 (h a b c d e)
end L2
namespace L2
noncomputable def oi:Option Int->D
 |none=>.non
 |some i=>.int i
noncomputable abbrev pr(a b:Option Int):D:=.tup [oi a,oi b]
theorem cg{i j:Int}(h1:0 < j)(h2:j < 10 ^ 250):j7 i j=True:=by
 refine eq_true ⟨h1,lc ?_⟩
 omega
theorem si{i j:Int}(h1 : -(10 ^ 240) < i)(h2:i < 10 ^ 240)(h3 : -(10 ^ 240) < j)(h4:j < 10 ^ 240):ig i j=True:=by
 refine eq_true ⟨lc ?_,lc ?_⟩<;>omega
theorem wL{i j:Int}(h1:0<=j)(h2:j<=1000000)(h3:i.natAbs < 2 ^ 64):pQ i j=True:=eq_true ⟨h1,h2,h3⟩
theorem ni{α:Type}(a:α)(l:List α):atI (a::l) 0=some a:=by simp[atI,ixN]
theorem nt{α:Type}(a b:α)(l:List α):atI (a::b::l) 1=some b:=bu (j:=1) rfl
theorem nv{α:Type}(a b c:α)(l:List α):atI (a::b::c::l) 2=some c:=bu (j:=2) rfl
theorem pp{α:Type}(a b c d:α)(l:List α):atI (a::b::c::d::l) 3=some d:=bu (j:=3) rfl
end L2
namespace L2
open PySem
section
variable {W:WC}{σ:St3}{M:MH}{Q:VK3}{E:XN}{y0 y1 y2 y3 y4 y5 y6 y7 y8 y9 y10 y11 y12 y13 y14 y15 y16 y17:Option D}{v:D}
@[simp ↓] theorem Hr:wpE W (.var 0) (some v::σ) M Q E=Q v M:=rfl
@[simp ↓] theorem HJ:wpE W (.var 1) (y0::some v::σ) M Q E=Q v M:=rfl
@[simp ↓] theorem HI:wpE W (.var 2) (y0::y1::some v::σ) M Q E=Q v M:=rfl
@[simp ↓] theorem HM:wpE W (.var 3) (y0::y1::y2::some v::σ) M Q E=Q v M:=rfl
@[simp ↓] theorem Ht:wpE W (.var 4) (y0::y1::y2::y3::some v::σ) M Q E=Q v M:=rfl
@[simp ↓] theorem HK:wpE W (.var 5) (y0::y1::y2::y3::y4::some v::σ) M Q E=Q v M:=rfl
@[simp ↓] theorem Hx:wpE W (.var 6) (y0::y1::y2::y3::y4::y5::some v::σ) M Q E=Q v M:=rfl
@[simp ↓] theorem HC:wpE W (.var 7) (y0::y1::y2::y3::y4::y5::y6::some v::σ) M Q E=Q v M:=rfl
@[simp ↓] theorem HH:wpE W (.var 8) (y0::y1::y2::y3::y4::y5::y6::y7::some v::σ) M Q E=Q v M:=rfl
@[simp ↓] theorem Hv:wpE W (.var 9) (y0::y1::y2::y3::y4::y5::y6::y7::y8::some v::σ) M Q E=Q v M:=rfl
@[simp ↓] theorem GU:wpE W (.var 10) (y0::y1::y2::y3::y4::y5::y6::y7::y8::y9::some v::σ) M Q E=Q v M:=rfl
@[simp ↓] theorem Gu:wpE W (.var 11) (y0::y1::y2::y3::y4::y5::y6::y7::y8::y9::y10::some v::σ) M Q E=Q v M:=rfl
@[simp ↓] theorem Hl:wpE W (.var 12) (y0::y1::y2::y3::y4::y5::y6::y7::y8::y9::y10::y11::some v::σ) M Q E=Q v M:=rfl
@[simp ↓] theorem GD:wpE W (.var 13) (y0::y1::y2::y3::y4::y5::y6::y7::y8::y9::y10::y11::y12::some v::σ) M Q E=Q v M:=rfl
@[simp ↓] theorem Gq:wpE W (.var 14) (y0::y1::y2::y3::y4::y5::y6::y7::y8::y9::y10::y11::y12::y13::some v::σ) M Q E=Q v M:=rfl
@[simp ↓] theorem G5:wpE W (.var 15) (y0::y1::y2::y3::y4::y5::y6::y7::y8::y9::y10::y11::y12::y13::y14::some v::σ) M Q E=Q v M:=rfl
@[simp ↓] theorem GQ:wpE W (.var 16) (y0::y1::y2::y3::y4::y5::y6::y7::y8::y9::y10::y11::y12::y13::y14::y15::some v::σ) M Q E=Q v M:=rfl
@[simp ↓] theorem GJ:wpE W (.var 17) (y0::y1::y2::y3::y4::y5::y6::y7::y8::y9::y10::y11::y12::y13::y14::y15::y16::some v::σ) M Q E=Q v M:=rfl
@[simp ↓] theorem Gi:wpE W (.con v) σ M Q E=Q v M:=rfl
@[simp ↓] theorem G3{op a b}:wpE W (.bin op a b) σ M Q E=wpE W a σ M (fun x M1=>wpE W b σ M1 (fun y M2=>ed op x y M2 Q) E) E:=rfl
@[simp ↓] theorem G1{a}:wpE W (.neg a) σ M Q E=wpE W a σ M (fun x M1=>rNeg x M1 Q) E:=rfl
@[simp ↓] theorem G4{fz a b}:wpE W (.cat fz a b) σ M Q E=wpE W a σ M (fun x M1=>wpE W b σ M1 (fun y M2=>cA fz x y M2 Q) E) E:=rfl
@[simp ↓] theorem G0{op a b}:wpE W (.cmp op a b) σ M Q E=wpE W a σ M (fun x M1=>wpE W b σ M1 (fun y M2=>am op x y M2 Q) E) E:=rfl
@[simp ↓] theorem Do{op op' a b c}:wpE W (.chain op op' a b c) σ M Q E=wpE W a σ M (fun x M1=>wpE W b σ M1 (fun y M2=>am op x y M2 fun r M3=>match r with
  |.bl k=>if k=true then wpE W c σ M3 (fun z M4=>am op' y z M4 Q) E else Q (.bl false) M3
  |_=>False) E) E:=rfl
@[simp ↓] theorem G9{a b}:wpE W (.and a b) σ M Q E=wpE W a σ M (fun x M1=>match x with
  |.bl c=>if c=true then wpE W b σ M1 Q E else Q (.bl false) M1
  |_=>False) E:=rfl
@[simp ↓] theorem Hu{a b}:wpE W (.or a b) σ M Q E=wpE W a σ M (fun x M1=>match x with
  |.bl c=>if c=true then Q (.bl true) M1 else wpE W b σ M1 Q E
  |_=>False) E:=rfl
@[simp ↓] theorem GG{a}:wpE W (.not a) σ M Q E=wpE W a σ M (fun x M1=>match x with
  |.bl c=>Q (.bl (!c)) M1
  |_=>False) E:=rfl
@[simp ↓] theorem Gf{c a b}:wpE W (.ifx c a b) σ M Q E=wpT W c σ M (fun k M1=>if k=true then wpE W a σ M1 Q E else wpE W b σ M1 Q E) E:=rfl
@[simp ↓] theorem Gm{es}:wpE W (.tup es) σ M Q E=wpA W es σ M (fun xs M1=>xs.length<=sizeLine/\Q (.tup xs) M1) E:=rfl
@[simp ↓] theorem GI{fz es}:wpE W (.lst fz es) σ M Q E=wpA W es σ M (fun xs M1=>be fz xs M1 Q) E:=rfl
@[simp ↓] theorem Hb{e}:wpE W (.frz e) σ M Q E=wpE W e σ M (aW Q) E:=rfl
@[simp ↓] theorem HG{a b}:wpE W (.ix a b) σ M Q E=wpE W a σ M (fun x M1=>wpE W b σ M1 (fun y M2=>ax x y M2 Q) E) E:=rfl
@[simp ↓] theorem HB{fz a lo hi}:wpE W (.sl fz a lo hi) σ M Q E=wpE W a σ M (fun x M1=>wpO W lo σ M1 (fun l M2=>wpO W hi σ M2 (fun h M3=>fS fz x l h M3 Q) E) E) E:=rfl
@[simp ↓] theorem Fz{f es}:wpE W (.call f es) σ M Q E=wpA W es σ M (fun xs M1=>W.call f xs M1 Q E) E:=rfl
@[simp ↓] theorem Hz{b es}:wpE W (.bi b es) σ M Q E=wpA W es σ M (fun xs M1=>rBi b xs M1 Q) E:=rfl
@[simp ↓] theorem GM{e t}:wpE W (.isB e t) σ M Q E=wpE W e σ M (fun x M1=>eG t x M1 Q) E:=rfl
@[simp ↓] theorem Hn{e c}:wpE W (.isC e c) σ M Q E=wpE W e σ M (fun x M1=>ke W.ne W.cls (fun i=>W.sub i c) x M1 Q) E:=rfl
@[simp ↓] theorem Fh{B:WB}{f c g:Nat}{y:D}{a:Addr}{v:PySem.Value}:rXf B f (.ref a) (put M a (.exc ⟨c,some (g,y)⟩ v)) Q=((v=.ref (B.cls c)/\c < B.ne/\B.xin c=some f)/\g=f/\Q y (put M a (.exc ⟨c,some (g,y)⟩ v))):=by
 simp[rXf,ag]
@[simp ↓] theorem G7{e f}:wpE W (.fld e f) σ M Q E=wpE W e σ M (fun x M1=>dE W.toWB f x M1 Q) E:=rfl
@[simp ↓] theorem DG{i es}:wpE W (.make true i es) σ M Q E=wpA W es σ M (fun xs M1=>i < W.nk/\dF (W.ini i) fun f=>∀p,M1 p=none->W.call f (.ref p::xs) (put M1 p (.ins i (W.kls i) [] [])) (fun v M2=>v=.non/\aW Q (.ref p) M2) (fun i M'=>E i (L2.del M' p))) E:=rfl
@[simp ↓] theorem Eb{i es}:wpE W (.make false i es) σ M Q E=wpA W es σ M (fun xs M1=>i < W.nk/\dF (W.ini i) fun f=>∀p,M1 p=none->W.call f (.ref p::xs) (put M1 p (.ins i (W.kls i) [] [])) (fun v M2=>v=.non/\Q (.ref p) M2) (fun i M'=>E i (L2.del M' p))) E:=rfl
@[simp ↓] theorem EW{e m es}:wpE W (.meth e m es) σ M Q E=wpE W e σ M (fun x M1=>dX W.toWB m x M1 fun f=>wpA W es σ M1 (fun xs M2=>W.call f (x::xs) M2 Q E) E) E:=rfl
@[simp ↓] theorem Hd{i es}:wpE W (.ini i es) σ M Q E=wpA W es σ M (fun xs M1=>i < W.nk/\dF (W.ini i) fun f=>W.call f xs M1 Q E) E:=rfl
@[simp ↓] theorem Hk{e j}:wpE W (.isK e j) σ M Q E=wpE W e σ M (fun x M1=>kN W.toWB j x M1 Q) E:=rfl
@[simp ↓] theorem Gz{k}:wpE W (.glo k) σ M Q E=Q (W.glo k) M:=rfl
@[simp ↓] theorem HN{b o es}:wpE W (.bm b o es) σ M Q E=wpE W o σ M (fun x M1=>tyB b x M1=true/\wpA W es σ M1 (fun xs M2=>rBm b x xs M2 Q) E) E:=rfl
@[simp ↓] theorem FH{fz a b}:wpE W (.lzip fz a b) σ M Q E=wpE W a σ M (fun x M1=>wpE W b σ M1 (fun y M2=>rLz fz x y M2 Q) E) E:=rfl
@[simp ↓] theorem GW{fz a b}:wpE W (.rep fz a b) σ M Q E=wpE W a σ M (fun x M1=>wpE W b σ M1 (fun y M2=>eF fz x y M2 Q) E) E:=rfl
@[simp] theorem yi:ae M M=M:=by
 funext a;unfold ae;split<;>simp_all
@[simp] theorem zC{M':MH}{p:Addr}{o:DO}(h:M p=none):ae M (put M' p o)=ae M M':=by
 funext a;unfold ae put;split
 ·rename_i x e
  split
  ·rename_i z;subst z;rw[h]at e;cases e
  ·rfl
 ·rfl
@[simp] theorem yW{M':MH}{p:Addr}(h:M p=none):ae M (L2.del M' p)=ae M M':=by
 funext a;unfold ae L2.del;split
 ·rename_i x e
  split
  ·rename_i z;subst z;rw[h]at e;cases e
  ·rfl
 ·rfl
@[simp] theorem g6{M':MH}{p:Addr}{o u:DO}(h:M p=some u):ae M (put M' p o)=put (ae M M') p o:=by
 funext a;unfold ae put
 by_cases z:a=p
 ·subst z;simp[h]
 ·simp[z]
@[simp] theorem Dt{M':MH}{p:Addr}{o u:DO}:ae (put M p o) (put M' p u)=put (ae M M') p u:=by
 funext a;unfold ae put
 by_cases z:a=p
 ·subst z;simp
 ·simp[z]
@[simp] theorem Cz{M':MH}:kp true M M'=ae M M':=rfl
@[simp] theorem Ar{M':MH}:kp false M M'=M':=rfl
@[simp ↓] theorem zz{f:Nat}{R:Nat->Prop}:dF (some f) R=R f:=rfl
@[simp ↓] theorem C4{B:WB}{f i C ns ds}:dE B f (.obj i C ns ds) M Q=((C=B.kls i/\i < B.nk/\B.fok i f=true)/\gj f ns ds M Q):=rfl
@[simp ↓] theorem C9{B:WB}{f i C ns ds}{a:Addr}:dE B f (.ref a) (put M a (.ins i C ns ds)) Q=((C=B.kls i/\i < B.nk/\B.fok i f=true)/\gj f ns ds (put M a (.ins i C ns ds)) Q):=by
 simp[dE,ag]
@[simp ↓] theorem A8{f n ns d ds}:gj f (n::ns) (d::ds) M Q=if n=f then Q d M else gj f ns ds M Q:=by
 unfold gj
 rw[bx]
 by_cases h:n=f
 ·rw[if_pos h,if_pos h]
 ·rw[if_neg h,if_neg h]
@[simp ↓] theorem Ef{B:WB}{m i C ns ds}{R:Nat->Prop}:dX B m (.obj i C ns ds) M R=((C=B.kls i/\i < B.nk/\bx m ns ds=none)/\dF (B.mth i m) R):=rfl
@[simp ↓] theorem CM{B:WB}{m i C ns ds}{a:Addr}{R:Nat->Prop}:dX B m (.ref a) (put M a (.ins i C ns ds)) R=((C=B.kls i/\i < B.nk/\bx m ns ds=none)/\dF (B.mth i m) R):=by
 simp[dX,ag]
@[simp] theorem yj{f:Nat}{ds:List D}:bx f [] ds=none:=by unfold bx;rfl
@[simp] theorem ua{f n:Nat}{ns:List Nat}{d:D}{ds:List D}:bx f (n::ns) (d::ds)=if n=f then some d else bx f ns ds:=by rw[bx]
@[simp ↓] theorem CH{B:WB}{j i C ns ds}:kN B j (.obj i C ns ds) M Q=((C=B.kls i/\i < B.nk/\j < B.nk)/\Q (.bl (B.ksub i j)) M):=rfl
@[simp] theorem yh{f:Nat}:bT f []=[f]:=rfl
@[simp] theorem xD{f n:Nat}{ns:List Nat}:bT f (n::ns)=if n=f then n::ns else n::bT f ns:=rfl
@[simp] theorem yq{f:Nat}{y:D}{ds:List D}:bS f y [] ds=[y]:=by unfold bS;rfl
@[simp] theorem ur{f n:Nat}{ns:List Nat}{y d:D}{ds:List D}:bS f y (n::ns) (d::ds)=if n=f then y::ds else d::bS f y ns ds:=by rw[bS]
@[simp ↓] theorem CD{a:Addr}{ds}(h:M a=none):aW Q (.ref a) (put M a (.lst ds))=Q (.rol ds) M:=by
 simp only[aW,ag,dB h]
@[simp ↓] theorem DN{a:Addr}{i C ns ds}(h:M a=none):aW Q (.ref a) (put M a (.ins i C ns ds))=bM ds M (fun r M'=>Q (.obj i C ns r) M'):=by
 simp only[aW,ag,dB h]
@[simp ↓] theorem ze{R:List D->MH->Prop}:bM [] M R=R [] M:=rfl
@[simp ↓] theorem yG{i ds}{R:List D->MH->Prop}:bM (.int i::ds) M R=bM ds M (fun r M'=>R (.int i::r) M'):=rfl
@[simp ↓] theorem CC{i ds}{R:List D->MH->Prop}:bM (.bl i::ds) M R=bM ds M (fun r M'=>R (.bl i::r) M'):=rfl
@[simp ↓] theorem yX{ds}{R:List D->MH->Prop}:bM (.non::ds) M R=bM ds M (fun r M'=>R (.non::r) M'):=rfl
@[simp ↓] theorem yQ{i ds}{R:List D->MH->Prop}:bM (.str i::ds) M R=bM ds M (fun r M'=>R (.str i::r) M'):=rfl
@[simp ↓] theorem Ce{i ds}{R:List D->MH->Prop}:bM (.tup i::ds) M R=bM ds M (fun r M'=>R (.tup i::r) M'):=rfl
@[simp ↓] theorem AT{i ds}{R:List D->MH->Prop}:bM (.rol i::ds) M R=bM ds M (fun r M'=>R (.rol i::r) M'):=rfl
@[simp ↓] theorem CQ{fz ds lo hi}:fS fz (.tup ds) lo hi M Q=(whole ds.length lo hi=false/\Q (.tup (bj ds lo hi)) M):=rfl
@[simp ↓] theorem DL{fz z lo hi}:fS fz (.str z) lo hi M Q=(z.length<=sizeLine/\Q (.str (Txt.slice z lo hi)) M):=rfl
@[simp ↓] theorem Dh{ds lo hi}:fS true (.rol ds) lo hi M Q=((bj ds lo hi).length<=sizeLine/\Q (.rol (bj ds lo hi)) M):=rfl
@[simp ↓] theorem cat_tup{fz a b}:cA fz (.tup a) (.tup b) M Q=((a.isEmpty=false/\a.length+b.length<=sizeLine)/\Q (.tup (a++b)) M):=rfl
@[simp ↓] theorem C7{a b}:ed .Add (.tup a) (.tup b) M Q=((a.isEmpty=false/\a.length+b.length<=sizeLine)/\Q (.tup (a++b)) M):=rfl
@[simp ↓] theorem C5{a b}:mr (.tup a) (.tup b) M Q=((a.isEmpty=false/\a.length+b.length<=sizeLine)/\Q (.tup (a++b)) M):=rfl
@[simp ↓] theorem Fq{tk}:wpE W (.dnew tk) σ M Q E=∀p,M p=none->Q (.ref p) (put M p (if tk=true then .dt [] [] else .dk [] [])):=rfl
theorem pb{a:Addr}{ks ds}(h:M a=some (.dk ks ds)):tyB .get (.ref a) M=true:=by simp[tyB,gY,h]
theorem lV{a:Addr}{ks ds}{i:Int}{z:D}(h:M a=some (.dk ks ds)):rBm .get (.ref a) [.int i,z] M Q=Q ((getD ks ds (.inl i)).getD z) M:=by simp[rBm,fP,gY,h,mY]
theorem kh{a:Addr}{ks ds}{i:Int}{y:D}{R:MH->Prop}(h:M a=some (.dk ks ds)):bD (.ref a) (.int i) y M R=(ks.length < sizeLine/\R (put M a (.dk (ao ks (.inl i)) (az ks ds (.inl i) y)))):=by simp[bD,h,mY]
theorem dC{a:Addr}{ds}{i:Int}{j:Nat}{y:D}{R:MH->Prop}(h:M a=some (.lst ds))(hj:ixN ds.length i=some j):bD (.ref a) (.int i) y M R=R (put M a (.lst (ds.set j y))):=by simp[bD,h,hj]
theorem eB{κ:Type}[DecidableEq κ]:∀{ks:List κ}{ds:List D}{k x:κ}{y:D},ks.length=ds.length->getD (ao ks k) (az ks ds k y) x=if k=x then some y else getD ks ds x
 |[],ds,k,x,y,_=>by
  simp only[ao,az]
  by_cases h:k=x
  ·simp[getD,h]
  ·cases ds<;>simp[getD,h]
 |k'::ks,[],k,x,y,h=>by simp at h
 |k'::ks,d::ds,k,x,y,h=>by
  simp only[ao,az]
  have hl:ks.length=ds.length:=by simpa using h
  by_cases e:k'=k
  ·subst e;by_cases h2:k'=x<;>simp[getD,h2]
  ·simp only[if_neg e,getD]
   by_cases h2:k'=x
   ·subst h2;rw[if_pos rfl,if_neg (Ne.symm e),if_pos rfl]
   ·rw[if_neg h2,if_neg h2];exact eB hl
theorem fy{κ:Type}[DecidableEq κ]:∀{ks:List κ}{ds:List D}{k:κ}{y:D},ks.length=ds.length->(ao ks k).length=(az ks ds k y).length
 |[],ds,k,y,_=>by simp[ao,az]
 |k'::ks,[],k,y,h=>by simp at h
 |k'::ks,d::ds,k,y,h=>by
  have hl:ks.length=ds.length:=by simpa using h
  simp only[ao,az]
  by_cases e:k'=k
  ·simp[e,hl]
  ·simp only[if_neg e,List.length_cons];rw[fy (k:=k) (y:=y) hl]
@[simp ↓] theorem CF{p:Addr}{i:Int}{y:D}:zm p (.int i) y (put M p (.dk [] [])) Q=Q (.ref p) (put M p (.dk [.inl i] [y])):=by
 simp[zm,ag,cn]
@[simp ↓] theorem EK{t}{p:Addr}{ks ds}:eG t (.ref p) (put M p (.dk ks ds)) Q=Q (.bl (match t with|.dict=>true|_=>false)) (put M p (.dk ks ds)):=by
 cases t<;>simp[eG,ag]
@[simp ↓] theorem vh{ne:Nat}{cls:Nat->Addr}{r:Nat->Bool}{a:Addr}{c:Nat}{pl:Option (Nat×D)}:ke ne cls r (.ref a) (put M a (.exc ⟨c,pl⟩ (.ref (cls c)))) Q=(c < ne/\Q (.bl (r c)) (put M a (.exc ⟨c,pl⟩ (.ref (cls c))))):=by
 simp[ke,ag]
@[simp ↓] theorem Hi{i De}:wpH W .nil i De σ M=False:=rfl
@[simp ↓] theorem DW{c body r i De}:wpH W (.cons c none body r) i De σ M=(i.c < W.ne/\if W.sub i.c c=true then ar W body De (fun _ _ _=>False) σ M else wpH W r i De σ M):=rfl
@[simp ↓] theorem Di{c j body r i De}:wpH W (.cons c (some j) body r) i De σ M=(i.c < W.ne/\if W.sub i.c c=true then (∀a,M a=none->ar W body (fB De j) (fun _ _ _=>False) (σ.set j (some (.ref a))) (put M a (.exc i (.ref (W.cls i.c))))) else wpH W r i De σ M):=rfl
@[simp ↓] theorem DR{ds}:ED true (.rol ds) M Q=(ds.reverse.length<=sizeLine/\Q (.rol ds.reverse) M):=rfl
noncomputable def fD(W:WC)(tg:ITg)(cond:ITO)(elt:IE)(S:MH->Prop)(p:Addr)(Q:VK3):List D->List D->St3->MH->Prop:=cS (wpG tg) (fun σ M Q=>iD W cond σ M Q (fun _ _=>False)) (fun σ M Q=>wpE W elt σ M Q (fun _ _=>False)) S p Q
noncomputable def iM(W:WC)(tg:ITg)(cond:ITO)(elt:IE)(S:MH->Prop)(Q:VK3)(ds:List D)(σ:St3)(M:MH):Prop:=∀p,M p=none->fD W tg cond elt S p (dR Q) ds [] σ (put M p (.lst []))
@[simp ↓] theorem CI{N js tg it cond elt}:wpE W (.comp true N js tg it cond elt) σ M Q E=wpI W it σ M (fun ds S M1=>iM W tg cond elt S Q ds (aP js σ) M1) E:=rfl
@[simp ↓] theorem DQ{N js tg it cond elt}:wpE W (.comp false N js tg it cond elt) σ M Q E=wpI W it σ M (fun ds S M1=>∀p,M1 p=none->fD W tg cond elt S p Q ds [] (aP js σ) (put M1 p (.lst []))) E:=rfl
variable {QB:Bool->MH->Prop}
@[simp ↓] theorem Fk{e}:wpT W (.val e) σ M QB E=wpE W e σ M (fun x M1=>match x with
  |.bl k=>QB k M1
  |_=>False) E:=rfl
@[simp ↓] theorem FJ{op a b}:wpT W (.cmp op a b) σ M QB E=wpE W a σ M (fun x M1=>wpE W b σ M1 (fun y M2=>am op x y M2 fun r M3=>match r with
  |.bl k=>QB k M3
  |_=>False) E) E:=rfl
@[simp ↓] theorem yk{op op' op'' a b c d}:wpT W (.chain3 op op' op'' a b c d) σ M QB E=wpE W a σ M (fun x M1=>wpE W b σ M1 (fun y M2=>am op x y M2 fun r M3=>match r with
  |.bl k=>if k=true then wpE W c σ M3 (fun z M4=>am op' y z M4 fun r M5=>match r with
   |.bl k=>if k=true then wpE W d σ M5 (fun u M6=>am op'' z u M6 fun r M7=>match r with
    |.bl k=>QB k M7
    |_=>False) E else QB false M5
   |_=>False) E else QB false M3
  |_=>False) E) E:=rfl
@[simp ↓] theorem z7{op op' a b c}:wpT W (.chain op op' a b c) σ M QB E=wpE W a σ M (fun x M1=>wpE W b σ M1 (fun y M2=>am op x y M2 fun r M3=>match r with
  |.bl k=>if k=true then wpE W c σ M3 (fun z M4=>am op' y z M4 fun r M5=>match r with
   |.bl k=>QB k M5
   |_=>False) E else QB false M3
  |_=>False) E) E:=rfl
@[simp ↓] theorem Ev{a b}:wpT W (.and a b) σ M QB E=wpT W a σ M (fun c M1=>if c=true then wpT W b σ M1 QB E else QB false M1) E:=rfl
@[simp ↓] theorem GB{a b}:wpT W (.or a b) σ M QB E=wpT W a σ M (fun c M1=>if c=true then QB true M1 else wpT W b σ M1 QB E) E:=rfl
@[simp ↓] theorem EN{a}:wpT W (.not a) σ M QB E=wpT W a σ M (fun c M1=>QB (!c) M1) E:=rfl
variable {QL:List D->MH->Prop}
@[simp ↓] theorem EI:wpA W .nil σ M QL E=QL [] M:=rfl
@[simp ↓] theorem Dm{e r}:wpA W (.cons e r) σ M QL E=wpE W e σ M (fun x M1=>wpA W r σ M1 (fun xs M2=>QL (x::xs) M2) E) E:=rfl
variable {QO:Option Int->MH->Prop}
@[simp ↓] theorem Hh:wpO W .no σ M QO E=QO none M:=rfl
@[simp ↓] theorem FU{e}:wpO W (.yes e) σ M QO E=wpE W e σ M (fun x M1=>match x with
  |.int i=>QO (some i) M1
  |_=>False) E:=rfl
@[simp ↓] theorem Go:iD W .no σ M QB E=QB true M:=rfl
@[simp ↓] theorem Fg{e}:iD W (.yes e) σ M QB E=wpT W e σ M QB E:=rfl
variable {R:List D->(MH->Prop)->MH->Prop}
noncomputable def gP(R:List D->(MH->Prop)->MH->Prop):VK3:=fun x M1=>match x with
  |.tup ds=>R ds (fun _=>True) M1
  |.rol ds=>R ds (fun _=>True) M1
  |.ref a=>match M1 a with
   |some (.lst ds)=>R ds (fun M=>M a=some (.lst ds)) M1
   |_=>False
  |.str z=>R (eO z) (fun _=>True) M1
  |_=>False
@[simp ↓] theorem Bu{z}:gP R (.str z) M=R (eO z) (fun _=>True) M:=rfl
@[simp ↓] theorem zw{ds}:gP R (.tup ds) M=R ds (fun _=>True) M:=rfl
@[simp ↓] theorem AU{ds}:gP R (.rol ds) M=R ds (fun _=>True) M:=rfl
theorem gN{a ds}(h:M a=some (.lst ds)):gP R (.ref a) M=R ds (fun M=>M a=some (.lst ds)) M:=by
 unfold gP;simp only[h]
@[simp ↓] theorem EF{e}:wpI W (.seq e) σ M R E=wpE W e σ M (gP R) E:=rfl
@[simp ↓] theorem Ds{a}:wpI W (.enum a) σ M R E=wpE W a σ M (fun x M1=>match x with
  |.rol ds=>R (ck 0 ds) (fun _=>True) M1
  |_=>False) E:=rfl
@[simp ↓] theorem DZ{a}:wpI W (.revd a) σ M R E=wpE W a σ M (fun x M1=>match x with
  |.rol ds=>R ds.reverse (fun _=>True) M1
  |_=>False) E:=rfl
@[simp ↓] theorem Eg{a b}:wpI W (.zip a b) σ M R E=wpE W a σ M (fun x M1=>wpE W b σ M1 (fun y M2=>match x,y with
  |.rol xs,.rol ys=>R (dY xs ys) (fun _=>True) M2
  |_,_=>False) E) E:=rfl
@[simp ↓] theorem D4{a}:wpI W (.rng1 a) σ M R E=wpE W a σ M (fun x M1=>match x with
  |.int j=>-(2 ^ 62)<=j/\j < 2 ^ 62/\R (rng 0 j.toNat) (fun _=>True) M1
  |_=>False) E:=rfl
end
section
variable {W:WC}{σ:St3}{M:MH}{De:Ends3}{ES:St3->XN}{x:Option D}
@[simp ↓] theorem Eu:ar W .nil De ES σ M=De.nx σ M:=rfl
@[simp ↓] theorem Cy{s r}:ar W (.cons s r) De ES (x::σ) M=wpS W s {De with nx:=fun σ' M'=>ar W r De ES σ' M'} ES (x::σ) M:=rfl
@[simp ↓] theorem Dy{s r}:ar W (.cons s r) De ES [] M=wpS W s {De with nx:=fun σ' M'=>ar W r De ES σ' M'} ES [] M:=rfl
@[simp ↓] theorem Fe{z0:Option D}{e}:wpS W (.set 0 e) De ES (x::σ) M=wpE W e (x::σ) M (fun v M1=>De.nx (some v::σ) M1) (ES (x::σ)):=rfl
@[simp ↓] theorem FR{y0:Option D}{e}:wpS W (.set 1 e) De ES (y0::x::σ) M=wpE W e (y0::x::σ) M (fun v M1=>De.nx (y0::some v::σ) M1) (ES (y0::x::σ)):=rfl
@[simp ↓] theorem EV{y0 y1:Option D}{e}:wpS W (.set 2 e) De ES (y0::y1::x::σ) M=wpE W e (y0::y1::x::σ) M (fun v M1=>De.nx (y0::y1::some v::σ) M1) (ES (y0::y1::x::σ)):=rfl
@[simp ↓] theorem EH{y0 y1 y2:Option D}{e}:wpS W (.set 3 e) De ES (y0::y1::y2::x::σ) M=wpE W e (y0::y1::y2::x::σ) M (fun v M1=>De.nx (y0::y1::y2::some v::σ) M1) (ES (y0::y1::y2::x::σ)):=rfl
@[simp ↓] theorem EE{y0 y1 y2 y3:Option D}{e}:wpS W (.set 4 e) De ES (y0::y1::y2::y3::x::σ) M=wpE W e (y0::y1::y2::y3::x::σ) M (fun v M1=>De.nx (y0::y1::y2::y3::some v::σ) M1) (ES (y0::y1::y2::y3::x::σ)):=rfl
@[simp ↓] theorem E7{y0 y1 y2 y3 y4:Option D}{e}:wpS W (.set 5 e) De ES (y0::y1::y2::y3::y4::x::σ) M=wpE W e (y0::y1::y2::y3::y4::x::σ) M (fun v M1=>De.nx (y0::y1::y2::y3::y4::some v::σ) M1) (ES (y0::y1::y2::y3::y4::x::σ)):=rfl
@[simp ↓] theorem EU{y0 y1 y2 y3 y4 y5:Option D}{e}:wpS W (.set 6 e) De ES (y0::y1::y2::y3::y4::y5::x::σ) M=wpE W e (y0::y1::y2::y3::y4::y5::x::σ) M (fun v M1=>De.nx (y0::y1::y2::y3::y4::y5::some v::σ) M1) (ES (y0::y1::y2::y3::y4::y5::x::σ)):=rfl
@[simp ↓] theorem EC{y0 y1 y2 y3 y4 y5 y6:Option D}{e}:wpS W (.set 7 e) De ES (y0::y1::y2::y3::y4::y5::y6::x::σ) M=wpE W e (y0::y1::y2::y3::y4::y5::y6::x::σ) M (fun v M1=>De.nx (y0::y1::y2::y3::y4::y5::y6::some v::σ) M1) (ES (y0::y1::y2::y3::y4::y5::y6::x::σ)):=rfl
@[simp ↓] theorem FS{y0 y1 y2 y3 y4 y5 y6 y7:Option D}{e}:wpS W (.set 8 e) De ES (y0::y1::y2::y3::y4::y5::y6::y7::x::σ) M=wpE W e (y0::y1::y2::y3::y4::y5::y6::y7::x::σ) M (fun v M1=>De.nx (y0::y1::y2::y3::y4::y5::y6::y7::some v::σ) M1) (ES (y0::y1::y2::y3::y4::y5::y6::y7::x::σ)):=rfl
@[simp ↓] theorem Ek{y0 y1 y2 y3 y4 y5 y6 y7 y8:Option D}{e}:wpS W (.set 9 e) De ES (y0::y1::y2::y3::y4::y5::y6::y7::y8::x::σ) M=wpE W e (y0::y1::y2::y3::y4::y5::y6::y7::y8::x::σ) M (fun v M1=>De.nx (y0::y1::y2::y3::y4::y5::y6::y7::y8::some v::σ) M1) (ES (y0::y1::y2::y3::y4::y5::y6::y7::y8::x::σ)):=rfl
@[simp ↓] theorem Dn{y0 y1 y2 y3 y4 y5 y6 y7 y8 y9:Option D}{e}:wpS W (.set 10 e) De ES (y0::y1::y2::y3::y4::y5::y6::y7::y8::y9::x::σ) M=wpE W e (y0::y1::y2::y3::y4::y5::y6::y7::y8::y9::x::σ) M (fun v M1=>De.nx (y0::y1::y2::y3::y4::y5::y6::y7::y8::y9::some v::σ) M1) (ES (y0::y1::y2::y3::y4::y5::y6::y7::y8::y9::x::σ)):=rfl
@[simp ↓] theorem CZ{y0 y1 y2 y3 y4 y5 y6 y7 y8 y9 y10:Option D}{e}:wpS W (.set 11 e) De ES (y0::y1::y2::y3::y4::y5::y6::y7::y8::y9::y10::x::σ) M=wpE W e (y0::y1::y2::y3::y4::y5::y6::y7::y8::y9::y10::x::σ) M (fun v M1=>De.nx (y0::y1::y2::y3::y4::y5::y6::y7::y8::y9::y10::some v::σ) M1) (ES (y0::y1::y2::y3::y4::y5::y6::y7::y8::y9::y10::x::σ)):=rfl
@[simp ↓] theorem DJ{y0 y1 y2 y3 y4 y5 y6 y7 y8 y9 y10 y11:Option D}{e}:wpS W (.set 12 e) De ES (y0::y1::y2::y3::y4::y5::y6::y7::y8::y9::y10::y11::x::σ) M=wpE W e (y0::y1::y2::y3::y4::y5::y6::y7::y8::y9::y10::y11::x::σ) M (fun v M1=>De.nx (y0::y1::y2::y3::y4::y5::y6::y7::y8::y9::y10::y11::some v::σ) M1) (ES (y0::y1::y2::y3::y4::y5::y6::y7::y8::y9::y10::y11::x::σ)):=rfl
@[simp ↓] theorem DD{y0 y1 y2 y3 y4 y5 y6 y7 y8 y9 y10 y11 y12:Option D}{e}:wpS W (.set 13 e) De ES (y0::y1::y2::y3::y4::y5::y6::y7::y8::y9::y10::y11::y12::x::σ) M=wpE W e (y0::y1::y2::y3::y4::y5::y6::y7::y8::y9::y10::y11::y12::x::σ) M (fun v M1=>De.nx (y0::y1::y2::y3::y4::y5::y6::y7::y8::y9::y10::y11::y12::some v::σ) M1) (ES (y0::y1::y2::y3::y4::y5::y6::y7::y8::y9::y10::y11::y12::x::σ)):=rfl
@[simp ↓] theorem Dd{y0 y1 y2 y3 y4 y5 y6 y7 y8 y9 y10 y11 y12 y13:Option D}{e}:wpS W (.set 14 e) De ES (y0::y1::y2::y3::y4::y5::y6::y7::y8::y9::y10::y11::y12::y13::x::σ) M=wpE W e (y0::y1::y2::y3::y4::y5::y6::y7::y8::y9::y10::y11::y12::y13::x::σ) M (fun v M1=>De.nx (y0::y1::y2::y3::y4::y5::y6::y7::y8::y9::y10::y11::y12::y13::some v::σ) M1) (ES (y0::y1::y2::y3::y4::y5::y6::y7::y8::y9::y10::y11::y12::y13::x::σ)):=rfl
@[simp ↓] theorem CS{y0 y1 y2 y3 y4 y5 y6 y7 y8 y9 y10 y11 y12 y13 y14:Option D}{e}:wpS W (.set 15 e) De ES (y0::y1::y2::y3::y4::y5::y6::y7::y8::y9::y10::y11::y12::y13::y14::x::σ) M=wpE W e (y0::y1::y2::y3::y4::y5::y6::y7::y8::y9::y10::y11::y12::y13::y14::x::σ) M (fun v M1=>De.nx (y0::y1::y2::y3::y4::y5::y6::y7::y8::y9::y10::y11::y12::y13::y14::some v::σ) M1) (ES (y0::y1::y2::y3::y4::y5::y6::y7::y8::y9::y10::y11::y12::y13::y14::x::σ)):=rfl
@[simp ↓] theorem D5{y0 y1 y2 y3 y4 y5 y6 y7 y8 y9 y10 y11 y12 y13 y14 y15:Option D}{e}:wpS W (.set 16 e) De ES (y0::y1::y2::y3::y4::y5::y6::y7::y8::y9::y10::y11::y12::y13::y14::y15::x::σ) M=wpE W e (y0::y1::y2::y3::y4::y5::y6::y7::y8::y9::y10::y11::y12::y13::y14::y15::x::σ) M (fun v M1=>De.nx (y0::y1::y2::y3::y4::y5::y6::y7::y8::y9::y10::y11::y12::y13::y14::y15::some v::σ) M1) (ES (y0::y1::y2::y3::y4::y5::y6::y7::y8::y9::y10::y11::y12::y13::y14::y15::x::σ)):=rfl
@[simp ↓] theorem DM{y0 y1 y2 y3 y4 y5 y6 y7 y8 y9 y10 y11 y12 y13 y14 y15 y16:Option D}{e}:wpS W (.set 17 e) De ES (y0::y1::y2::y3::y4::y5::y6::y7::y8::y9::y10::y11::y12::y13::y14::y15::y16::x::σ) M=wpE W e (y0::y1::y2::y3::y4::y5::y6::y7::y8::y9::y10::y11::y12::y13::y14::y15::y16::x::σ) M (fun v M1=>De.nx (y0::y1::y2::y3::y4::y5::y6::y7::y8::y9::y10::y11::y12::y13::y14::y15::y16::some v::σ) M1) (ES (y0::y1::y2::y3::y4::y5::y6::y7::y8::y9::y10::y11::y12::y13::y14::y15::y16::x::σ)):=rfl
@[simp ↓] theorem Fb{z0:Option D}{a:Addr}:wpS W (.del 0) De ES (some (.ref a)::σ) M=De.nx (some (.ref a)::σ) (L2.del M a):=rfl
@[simp ↓] theorem E4{y0:Option D}{a:Addr}:wpS W (.del 1) De ES (y0::some (.ref a)::σ) M=De.nx (y0::some (.ref a)::σ) (L2.del M a):=rfl
@[simp ↓] theorem EZ{y0 y1:Option D}{a:Addr}:wpS W (.del 2) De ES (y0::y1::some (.ref a)::σ) M=De.nx (y0::y1::some (.ref a)::σ) (L2.del M a):=rfl
@[simp ↓] theorem FD{y0 y1 y2:Option D}{a:Addr}:wpS W (.del 3) De ES (y0::y1::y2::some (.ref a)::σ) M=De.nx (y0::y1::y2::some (.ref a)::σ) (L2.del M a):=rfl
@[simp ↓] theorem En{y0 y1 y2 y3:Option D}{a:Addr}:wpS W (.del 4) De ES (y0::y1::y2::y3::some (.ref a)::σ) M=De.nx (y0::y1::y2::y3::some (.ref a)::σ) (L2.del M a):=rfl
@[simp ↓] theorem FI{y0 y1 y2 y3 y4:Option D}{a:Addr}:wpS W (.del 5) De ES (y0::y1::y2::y3::y4::some (.ref a)::σ) M=De.nx (y0::y1::y2::y3::y4::some (.ref a)::σ) (L2.del M a):=rfl
@[simp ↓] theorem FW{y0 y1 y2 y3 y4 y5:Option D}{a:Addr}:wpS W (.del 6) De ES (y0::y1::y2::y3::y4::y5::some (.ref a)::σ) M=De.nx (y0::y1::y2::y3::y4::y5::some (.ref a)::σ) (L2.del M a):=rfl
@[simp ↓] theorem Fo{y0 y1 y2 y3 y4 y5 y6:Option D}{a:Addr}:wpS W (.del 7) De ES (y0::y1::y2::y3::y4::y5::y6::some (.ref a)::σ) M=De.nx (y0::y1::y2::y3::y4::y5::y6::some (.ref a)::σ) (L2.del M a):=rfl
@[simp ↓] theorem FM{y0 y1 y2 y3 y4 y5 y6 y7:Option D}{a:Addr}:wpS W (.del 8) De ES (y0::y1::y2::y3::y4::y5::y6::y7::some (.ref a)::σ) M=De.nx (y0::y1::y2::y3::y4::y5::y6::y7::some (.ref a)::σ) (L2.del M a):=rfl
@[simp ↓] theorem Ey{y0 y1 y2 y3 y4 y5 y6 y7 y8:Option D}{a:Addr}:wpS W (.del 9) De ES (y0::y1::y2::y3::y4::y5::y6::y7::y8::some (.ref a)::σ) M=De.nx (y0::y1::y2::y3::y4::y5::y6::y7::y8::some (.ref a)::σ) (L2.del M a):=rfl
@[simp ↓] theorem Dx{y0 y1 y2 y3 y4 y5 y6 y7 y8 y9:Option D}{a:Addr}:wpS W (.del 10) De ES (y0::y1::y2::y3::y4::y5::y6::y7::y8::y9::some (.ref a)::σ) M=De.nx (y0::y1::y2::y3::y4::y5::y6::y7::y8::y9::some (.ref a)::σ) (L2.del M a):=rfl
@[simp ↓] theorem DU{y0 y1 y2 y3 y4 y5 y6 y7 y8 y9 y10:Option D}{a:Addr}:wpS W (.del 11) De ES (y0::y1::y2::y3::y4::y5::y6::y7::y8::y9::y10::some (.ref a)::σ) M=De.nx (y0::y1::y2::y3::y4::y5::y6::y7::y8::y9::y10::some (.ref a)::σ) (L2.del M a):=rfl
@[simp ↓] theorem Cp{y0 y1 y2 y3 y4 y5 y6 y7 y8 y9 y10 y11:Option D}{a:Addr}:wpS W (.del 12) De ES (y0::y1::y2::y3::y4::y5::y6::y7::y8::y9::y10::y11::some (.ref a)::σ) M=De.nx (y0::y1::y2::y3::y4::y5::y6::y7::y8::y9::y10::y11::some (.ref a)::σ) (L2.del M a):=rfl
@[simp ↓] theorem C8{y0 y1 y2 y3 y4 y5 y6 y7 y8 y9 y10 y11 y12:Option D}{a:Addr}:wpS W (.del 13) De ES (y0::y1::y2::y3::y4::y5::y6::y7::y8::y9::y10::y11::y12::some (.ref a)::σ) M=De.nx (y0::y1::y2::y3::y4::y5::y6::y7::y8::y9::y10::y11::y12::some (.ref a)::σ) (L2.del M a):=rfl
@[simp ↓] theorem Ct{y0 y1 y2 y3 y4 y5 y6 y7 y8 y9 y10 y11 y12 y13:Option D}{a:Addr}:wpS W (.del 14) De ES (y0::y1::y2::y3::y4::y5::y6::y7::y8::y9::y10::y11::y12::y13::some (.ref a)::σ) M=De.nx (y0::y1::y2::y3::y4::y5::y6::y7::y8::y9::y10::y11::y12::y13::some (.ref a)::σ) (L2.del M a):=rfl
@[simp ↓] theorem C1{y0 y1 y2 y3 y4 y5 y6 y7 y8 y9 y10 y11 y12 y13 y14:Option D}{a:Addr}:wpS W (.del 15) De ES (y0::y1::y2::y3::y4::y5::y6::y7::y8::y9::y10::y11::y12::y13::y14::some (.ref a)::σ) M=De.nx (y0::y1::y2::y3::y4::y5::y6::y7::y8::y9::y10::y11::y12::y13::y14::some (.ref a)::σ) (L2.del M a):=rfl
@[simp ↓] theorem C3{y0 y1 y2 y3 y4 y5 y6 y7 y8 y9 y10 y11 y12 y13 y14 y15:Option D}{a:Addr}:wpS W (.del 16) De ES (y0::y1::y2::y3::y4::y5::y6::y7::y8::y9::y10::y11::y12::y13::y14::y15::some (.ref a)::σ) M=De.nx (y0::y1::y2::y3::y4::y5::y6::y7::y8::y9::y10::y11::y12::y13::y14::y15::some (.ref a)::σ) (L2.del M a):=rfl
@[simp ↓] theorem CT{y0 y1 y2 y3 y4 y5 y6 y7 y8 y9 y10 y11 y12 y13 y14 y15 y16:Option D}{a:Addr}:wpS W (.del 17) De ES (y0::y1::y2::y3::y4::y5::y6::y7::y8::y9::y10::y11::y12::y13::y14::y15::y16::some (.ref a)::σ) M=De.nx (y0::y1::y2::y3::y4::y5::y6::y7::y8::y9::y10::y11::y12::y13::y14::y15::y16::some (.ref a)::σ) (L2.del M a):=rfl
@[simp ↓] theorem CB{j}:(fB De j).nx σ M=De.nx (σ.set j none) M:=rfl
@[simp ↓] theorem Cs{j v}:(fB De j).rt v M=De.rt v M:=rfl
@[simp ↓] theorem AR{j}:(fB De j).nx=fun σ M=>De.nx (σ.set j none) M:=rfl
@[simp ↓] theorem Ck{j}:(fB De j).rt=De.rt:=rfl
noncomputable def gz(B:WB)(f:Nat)(y:D)(R:MH->Prop):VK3:=fun x M2=>match x with
  |.ref a=>match M2 a with
   |some (.ins i C ns ds)=>(C=B.kls i/\i < B.nk/\B.fok i f=true/\ns.length < 1000)/\R (put M2 a (.ins i C (bT f ns) (bS f y ns ds)))
   |_=>False
  |_=>False
@[simp ↓] theorem yZ{B:WB}{f:Nat}{y:D}{R:MH->Prop}{a:Addr}{i C ns ds}:gz B f y R (.ref a) (put M a (.ins i C ns ds))=((C=B.kls i/\i < B.nk/\B.fok i f=true/\ns.length < 1000)/\R (put M a (.ins i C (bT f ns) (bS f y ns ds)))):=by
 simp[gz,ag,cn]
noncomputable def qQ(is:List Nat)(σ:St3)(k:St3->MH->Prop):VK3:=fun x M1=>match x with
  |.tup ds=>ds.length=is.length/\k ((is.zip ds).foldl (fun σ p=>σ.set p.1 (some p.2)) σ) M1
  |_=>False
@[simp ↓] theorem Co{i j a b k}:qQ [i,j] σ k (.tup [a,b]) M=k ((σ.set i (some a)).set j (some b)) M:=by
 simp[qQ]
@[simp ↓] theorem CY{e}:wpS W (.expr e) De ES σ M=wpE W e σ M (fun _ M1=>De.nx σ M1) (ES σ):=rfl
@[simp ↓] theorem Fp{e}:wpS W (.ret e) De ES σ M=wpE W e σ M De.rt (ES σ):=rfl
@[simp ↓] theorem Dz{o f e}:wpS W (.fset o f e) De ES σ M=wpE W e σ M (fun y M1=>wpE W o σ M1 (gz W.toWB f y (De.nx σ)) (ES σ)) (ES σ):=rfl
@[simp ↓] theorem Bt{o i e}:wpS W (.ixset o i e) De ES σ M=wpE W e σ M (fun y M1=>wpE W o σ M1 (fun x M2=>wpE W i σ M2 (fun k M3=>bD x k y M3 fun M4=>De.nx σ M4) (ES σ)) (ES σ)) (ES σ):=rfl
@[simp ↓] theorem Fv{c a b}:wpS W (.ifs c a b) De ES σ M=wpT W c σ M (fun k M1=>if k=true then ar W a De ES σ M1 else ar W b De ES σ M1) (ES σ):=rfl
noncomputable def bN(W:WC)(tg:ITg)(body:ISs)(ES:St3->XN)(S:MH->Prop)(De:Ends3):List D->St3->MH->Prop:=gI (wpG tg) (fun D σ M=>ar W body D ES σ M) S De
@[simp ↓] theorem EA{tg it body}:wpS W (.for_ tg it body) De ES σ M=wpI W it σ M (fun ds S M1=>bN W tg body ES S De ds σ M1) (ES σ):=rfl
theorem ba{tg body S}:bN W tg body ES S De [] σ M=(S M/\De.nx σ M):=rfl
theorem aC{tg body S d r}:bN W tg body ES S De (d::r) σ M=(S M/\wpG tg d σ M fun σ2 M2=>ar W body {De with nx:=bN W tg body ES S De r,ct:=bN W tg body ES S De r,bk:=De.nx} ES σ2 M2):=rfl
@[simp ↓] theorem Bd{c es}:wpS W (.raise c es) De ES σ M=wpA W es σ M (fun xs M1=>xs.length<=sizeLine/\ES σ ⟨c,none⟩ M1) (ES σ):=rfl
@[simp ↓] theorem Eh{body hs}:wpS W (.try_ body hs) De ES σ M=ar W body De (fun σ' i M'=>wpH W hs i De σ' M') σ M:=rfl
noncomputable def kr(W:WC)(e:IE)(De:Ends3)(E:XN)(σ:St3):VK3:=fun x M1=>match x with
  |.ref a=>match M1 a with
   |some (.lst _)=>wpE W e σ M1 (fun y M2=>match M2 a with
    |some (.lst ds)=>ds.length < sizeLine/\De.nx σ (put M2 a (.lst (ds++[y])))
    |_=>False) E
   |_=>False
  |_=>False
@[simp ↓] theorem FK{o e}:wpS W (.app o e) De ES σ M=wpE W o σ M (kr W e De (ES σ) σ) (ES σ):=rfl
noncomputable def ik(p:Addr)(De:Ends3)(σ:St3):VK3:=fun y M2=>match M2 p with
    |some (.lst ds)=>ds.length < sizeLine/\De.nx σ (put M2 p (.lst (ds++[y])))
    |_=>False
@[simp ↓] theorem Df{e E p ds}:kr W e De E σ (.ref p) (put M p (.lst ds))=wpE W e σ (put M p (.lst ds)) (ik p De σ) E:=by
 unfold kr;simp only[ag];rfl
@[simp ↓] theorem z9{p ds y}:ik p De σ y (put M p (.lst ds))=(ds.length < sizeLine/\De.nx σ (put M p (.lst (ds++[y])))):=by
 unfold ik;simp only[ag,cn]
@[simp ↓] theorem Aj{R p ds}:gP R (.ref p) (put M p (.lst ds))=R ds (fun M=>M p=some (.lst ds)) (put M p (.lst ds)):=gN ag
@[simp ↓] theorem rh{i d k}:wpG (.name i) d σ M k=k (σ.set i (some d)) M:=rfl
@[simp ↓] theorem FG{is d k}:wpG (.tup is) d σ M k=qQ is σ k d M:=rfl
end
section
variable {M:MH}{Q:VK3}{i j:Int}{a b:Bool}{x y:D}
@[simp ↓] theorem Gx:ed .Add (.int i) (.int j) M Q=Q (.int (i+j)) M:=rfl
@[simp ↓] theorem Hc:ed .Sub (.int i) (.int j) M Q=Q (.int (i - j)) M:=rfl
@[simp ↓] theorem GN:ed .Mult (.int i) (.int j) M Q=(ig i j/\Q (.int (i * j)) M):=rfl
@[simp ↓] theorem GV:ed .FloorDiv (.int i) (.int j) M Q=(j7 i j/\Q (.int (i / j)) M):=rfl
@[simp ↓] theorem GS:ed .Mod (.int i) (.int j) M Q=(0 < j/\Q (.int (i % j)) M):=rfl
@[simp ↓] theorem Gg:ed .Pow (.int i) (.int j) M Q=(pQ i j/\Q (.int (i ^ j.toNat)) M):=rfl
@[simp ↓] theorem GE:ed .RShift (.int i) (.int j) M Q=(0<=j/\Q (.int (i / 2 ^ j.toNat)) M):=rfl
@[simp ↓] theorem G6:ed .BitAnd (.int i) (.int j) M Q=Q (.int (Builtin.bitAnd i j)) M:=rfl
@[simp ↓] theorem FF{s t:Str}:ed .Add (.str s) (.str t) M Q=(s.length+t.length<=sizeLine/\Q (.str (s++t)) M):=rfl
@[simp ↓] theorem Et{z:Str}:ed .Mult (.str z) (.int j) M Q=((0<=j/\j<=100000/\z.length<=10)/\Q (.str (gW z j)) M):=rfl
@[simp ↓] theorem Ga{s t:Str}:am .In (.str s) (.str t) M Q=Q (.bl (ot s t)) M:=by simp[am,ka,aw,aj,fP,gY,iA]
@[simp ↓] theorem EG{s t:Str}:am .NotIn (.str s) (.str t) M Q=Q (.bl (!ot s t)) M:=by simp[am,ka,aw,aj,fP,gY,iA]
@[simp ↓] theorem HL{s:Str}:ax (.str s) (.int j) M Q=((0<=j/\j < s.length/\j < 2 ^ 63)/\Q (.str (pS s j.toNat)) M):=by simp[ax,aw,aj,fP,gY,iA]
@[simp ↓] theorem CV{ks:List (List Int)}{ds:List D}:rBi .len [.dit ks ds] M Q=Q (.int ks.length) M:=rfl
@[simp ↓] theorem zY{fz}{ks:List (List Int)}{ds:List D}:rBi (.list fz) [.dit ks ds] M Q=be fz (ks.map wR) M Q:=rfl
@[simp ↓] theorem Dg{s:Str}:rBi .len [.str s] M Q=(s.length<=sizeLine/\Q (.int s.length) M):=rfl
@[simp ↓] theorem G2:rNeg (.int i) M Q=Q (.int (-i)) M:=rfl
@[simp ↓] theorem HF:am .Lt (.int i) (.int j) M Q=Q (.bl (decide (i < j))) M:=rfl
@[simp ↓] theorem Hw:am .LtE (.int i) (.int j) M Q=Q (.bl (decide (i<=j))) M:=rfl
@[simp ↓] theorem Hq:am .Gt (.int i) (.int j) M Q=Q (.bl (decide (j < i))) M:=rfl
@[simp ↓] theorem Hy:am .GtE (.int i) (.int j) M Q=Q (.bl (decide (j<=i))) M:=rfl
@[simp ↓] theorem GP:am .Eq (.int i) (.int j) M Q=Q (.bl (decide (i=j))) M:=by simp[am,cG,rs,aj,plN,eqD]
@[simp ↓] theorem Gd:am .NotEq (.int i) (.int j) M Q=Q (.bl (!decide (i=j))) M:=by simp[am,cG,rs,aj,plN,eqD]
@[simp ↓] theorem GY:am .Eq (.bl a) (.bl b) M Q=Q (.bl (a == b)) M:=by simp[am,cG,rs,aj,plN,eqD]
@[simp ↓] theorem Gh:am .NotEq (.bl a) (.bl b) M Q=Q (.bl (!(a == b))) M:=by simp[am,cG,rs,aj,plN,eqD]
@[simp ↓] theorem Hj{s t:Str}:am .NotEq (.str s) (.str t) M Q=Q (.bl (!decide (s=t))) M:=by simp[am,cG,rs,aj,plN,eqD]
@[simp ↓] theorem Gk{s t:Str}:am .Eq (.str s) (.str t) M Q=Q (.bl (decide (s=t))) M:=by simp[am,cG,rs,aj,plN,eqD]
@[simp ↓] theorem Gs:am .Is x .non M Q=Q (.bl x.isN) M:=by simp[am,kF]
@[simp ↓] theorem E9:am .IsNot x .non M Q=Q (.bl (!x.isN)) M:=by simp[am,kF]
@[simp ↓] theorem GR:am .Is (.bl a) (.bl b) M Q=Q (.bl (a == b)) M:=by simp[am,kF]
@[simp ↓] theorem E0:am .IsNot (.bl a) (.bl b) M Q=Q (.bl (!(a == b))) M:=by simp[am,kF]
@[simp] theorem CU:(D.int i).isN=false:=rfl
@[simp] theorem DH:D.non.isN=true:=rfl
@[simp] theorem Cu{ds}:(D.tup ds).isN=false:=rfl
@[simp] theorem DV{ds}:(D.rol ds).isN=false:=rfl
@[simp] theorem EB:(D.bl a).isN=false:=rfl
@[simp ↓] theorem GK{d l}:ax (.tup (d::l)) (.int 0) M Q=Q d M:=by simp[ax,aw,ni]
@[simp ↓] theorem G8{d e l}:ax (.tup (d::e::l)) (.int 1) M Q=Q e M:=by simp[ax,aw,nt]
@[simp ↓] theorem He{d e f l}:ax (.tup (d::e::f::l)) (.int 2) M Q=Q f M:=by simp[ax,aw,nv]
@[simp ↓] theorem GH{d e f g l}:ax (.tup (d::e::f::g::l)) (.int 3) M Q=Q g M:=by simp[ax,aw,pp]
@[simp ↓] theorem Hm{d e f g h l}:ax (.tup (d::e::f::g::h::l)) (.int 4) M Q=Q h M:=by
 have:atI (d::e::f::g::h::l) 4=some h:=bu (j:=4) rfl
 simp[ax,aw,this]
theorem dQ{a:Addr}{ds y}(h:M a=some (.lst ds)):ax (.ref a) y M Q=ax (.rol ds) y M Q:=by
 cases y<;>simp[ax,aw,aj,h]
@[simp ↓] theorem Ei{a:Addr}{ds y}:ax (.ref a) y (put M a (.lst ds)) Q=ax (.rol ds) y (put M a (.lst ds)) Q:=dQ ag
@[simp ↓] theorem CK{a:Addr}{fz ds es}:cA fz (.ref a) (.rol es) (put M a (.lst ds)) Q=be fz (ds++es) (put M a (.lst ds)) Q:=by simp[cA,aj,ag]
@[simp] theorem Ea{a:Addr}{ds}:res (put M a (.lst ds)) (.ref a)=.rol ds:=by simp[res,aj,ag]
@[simp ↓] theorem yM{ds}:rBi (.list true) [.tup ds] M Q=(ds.length<=sizeLine/\Q (.rol ds) M):=rfl
@[simp ↓] theorem Bl{ds}:rBi (.list true) [.rol ds] M Q=(ds.length<=sizeLine/\Q (.rol ds) M):=rfl
@[simp ↓] theorem FE{a:Addr}{ds es}:am .Eq (.ref a) (.rol es) (put M a (.lst ds)) Q=am .Eq (.rol ds) (.rol es) (put M a (.lst ds)) Q:=by
 simp[am,cG,rs,aj,ag]
@[simp ↓] theorem E5{a:Addr}{ds es}:am .NotEq (.ref a) (.rol es) (put M a (.lst ds)) Q=am .NotEq (.rol ds) (.rol es) (put M a (.lst ds)) Q:=by
 simp[am,cG,rs,aj,ag]
@[simp ↓] theorem GL{d l}:ax (.rol (d::l)) (.int 0) M Q=Q d M:=by simp[ax,aw,aj,ni]
@[simp ↓] theorem Gv{d e l}:ax (.rol (d::e::l)) (.int 1) M Q=Q e M:=by simp[ax,aw,aj,nt]
@[simp ↓] theorem Ha{d e f l}:ax (.rol (d::e::f::l)) (.int 2) M Q=Q f M:=by simp[ax,aw,aj,nv]
@[simp ↓] theorem Ge{d e f g l}:ax (.rol (d::e::f::g::l)) (.int 3) M Q=Q g M:=by simp[ax,aw,aj,pp]
@[simp ↓] theorem Dr{ds}:rBi .len [.tup ds] M Q=Q (.int ds.length) M:=rfl
@[simp ↓] theorem Dp{ds}:rBi .len [.rol ds] M Q=Q (.int ds.length) M:=rfl
@[simp ↓] theorem EX:rBi .max [.int i,.int j] M Q=Q (.int (if j > i then j else i)) M:=rfl
@[simp ↓] theorem Gw{ds}:be true ds M Q=(ds.length<=sizeLine/\Q (.rol ds) M):=by simp[be]
@[simp ↓] theorem FX{ds es}:cA true (.rol ds) (.rol es) M Q=((ds++es).length<=sizeLine/\Q (.rol (ds++es)) M):=by simp[cA,aj,be]
@[simp ↓] theorem Gy{ds}:be false ds M Q=(ds.length<=sizeLine/\∀p,M p=none->Q (.ref p) (put M p (.lst ds))):=by simp[be]
@[simp ↓] theorem Dl{ds es}:cA false (.rol ds) (.rol es) M Q=((ds++es).length<=sizeLine/\∀p,M p=none->Q (.ref p) (put M p (.lst (ds++es)))):=by simp[cA,aj,be]
theorem au{n:Nat}(h:n<=1000):(n<=sizeLine)=True:=eq_true (Nat.le_trans h (by decide))
@[simp ↓] theorem Fu{mx dflt ds}:rMM mx dflt (.rol ds) M Q=(match n9 ds with
  |some []=>dflt=true/\Q .non M
  |some (n::ns)=>Q (.int (ns.foldl (mmI mx) n)) M
  |none=>False):=rfl
@[simp ↓] theorem Hs{ds l h}:fS true (.rol ds) l h M Q=((bj ds l h).length<=sizeLine/\Q (.rol (bj ds l h)) M):=by simp[fS,aj,be]
@[simp ↓] theorem zr{ds}:rBi (.list true) [.rol ds] M Q=(ds.length<=sizeLine/\Q (.rol ds) M):=by simp[rBi,aw,aj,be]
@[simp ↓] theorem Ed{t}:eG t (.int i) M Q=Q (.bl (match t with|.int=>true|_=>false)) M:=rfl
@[simp ↓] theorem Ew{t}:eG t (.bl a) M Q=Q (.bl (match t with|.int=>true|.bool=>true|_=>false)) M:=rfl
@[simp ↓] theorem D1{t}:eG t .non M Q=Q (.bl false) M:=rfl
@[simp ↓] theorem Cw{t ds}:eG t (.tup ds) M Q=Q (.bl (match t with|.tuple=>true|_=>false)) M:=rfl
@[simp ↓] theorem Cr{t ds}:eG t (.rol ds) M Q=Q (.bl (match t with|.list=>true|_=>false)) M:=rfl
@[simp ↓] theorem CA{t}{s:Str}:eG t (.str s) M Q=Q (.bl (match t with|.str=>true|_=>false)) M:=rfl
end
section
variable {W:WC}{tg:ITg}{cond:ITO}{elt:IE}{p:Addr}{Q:VK3}{σ:St3}{M:MH}{ys:List D}
@[simp ↓] theorem DT{ds}:dR Q (.ref p) (put M p (.lst ds))=Q (.rol ds) (L2.del (put M p (.lst ds)) p):=by
 simp only[dR,ag]
noncomputable def Fm(M:MH):Prop:=∃n,∀p,n<=p->M p=none
theorem Fm.nil:Fm (fun _=>none):=⟨0,fun _ _=>rfl⟩
theorem mS{M:MH}(h:Fm M){p:Prop}:(∀a:Addr,M a=none->p)=p:=propext ⟨fun f=>let ⟨n,k⟩:=h;f n (k n (Nat.le_refl _)),fun f _ _=>f⟩
theorem Fm.put{M:MH}(h:Fm M)(p:Addr)(o:DO):Fm (put M p o):=by
 obtain⟨n,h⟩:=h
 refine⟨max n (p+1),fun q hq=>?_⟩
 rw[ak (Nat.ne_of_gt (Nat.lt_of_succ_le (Nat.le_trans (Nat.le_max_right n (p+1)) hq)))]
 exact h q (Nat.le_trans (Nat.le_max_left _ _) hq)
theorem aE{M:MH}(hM:Fm M){P:Addr->Prop}{q:Prop}(h:∀p,M p=none->P p=q):(∀p,M p=none->P p)=q:=by
 rw[<-mS hM (p:=q)]
 exact forall_congr fun p=>implies_congr_ctx rfl fun hp=>h p hp
theorem zK{cs:List Int}{i:Int}(h1 : -(cs.length:Int)<=i)(h2:i < cs.length):∃x,atI (cs.map D.int) i=some (.int x):=by
 unfold atI ixN
 rw[List.length_map]
 by_cases h:0<=i
 ·have hk:i.toNat < cs.length:=by omega
  rw[if_pos h,if_pos h2]
  exact⟨cs[i.toNat],by simp[List.getElem?_eq_getElem hk]⟩
 ·have hk:(i+cs.length).toNat < cs.length:=by omega
  rw[if_neg h,if_pos h1]
  exact⟨cs[(i+cs.length).toNat],by simp[List.getElem?_eq_getElem hk]⟩
theorem bU{ds:List D}{i:Int}{x:D}{M:MH}{Q:VK3}(h:atI ds i=some x):ax (.rol ds) (.int i) M Q=Q x M:=by simp[ax,aw,aj,h]
theorem bP{M:MH}{p q:Addr}{o:DO}(h:put M p o q=none):q≠p/\M q=none:=by
 unfold put at h
 split at h
 ·cases h
 ·exact⟨by assumption,h⟩
noncomputable def Ext(M M':MH):Prop:=Fm M'/\∀a o,M a=some o->M' a=some o
theorem Ext.put{M:MH}(hM:Fm M){p:Addr}(h:M p=none)(o:DO):Ext M (put M p o):=⟨hM.put _ _,fun a u e=>by rw[ak (fun z=>by rw[z,h]at e;cases e)];exact e⟩
section
variable {W:WC}{σ:St3}{M:MH}{Q:VK3}{tg:ITg}{cond:ITO}{elt:IE}{p:Addr}{S:MH->Prop}
theorem mJ{ys:List D}(hp:M p=none)(hS:S (put M p (.lst ys))):fD W tg cond elt S p (dR Q) [] ys σ (put M p (.lst ys))=Q (.rol ys) M:=by
 show (S (put M p (.lst ys))/\dR Q (.ref p) (put M p (.lst ys)))=_
 simp[dR,ag,hS,dB hp]
theorem gq{d:D}{r ys:List D}:fD W tg cond elt S p Q (d::r) ys σ M=(S M/\ys.length < sizeLine/\wpG tg d σ M fun σ2 M2=>iD W cond σ2 M2 (fun b M3=>if b=true then wpE W elt σ2 M3 (fun y M4=>M4 p=some (.lst ys)/\fD W tg cond elt S p Q r (ys++[y]) σ2 (put M4 p (.lst (ys++[y])))) (fun _ _=>False) else fD W tg cond elt S p Q r ys σ2 M3) (fun _ _=>False)):=rfl
theorem dq(P:St3->Prop)(st:D->St3)(c:D->Bool)(f:D->D):∀(ds ys:List D) (σ:St3) {M:MH},P σ->Fm M->M p=none->ys.length+ds.length < sizeLine->(∀M',Ext M M'->S M')->
  (∀d∈ds,P (st d)/\∀σ,P σ->∀(M:MH) (k:St3->MH->Prop),wpG tg d σ M k=k (st d) M)->
  (∀d∈ds,∀M',Ext M M'->∀Q:Bool->MH->Prop,iD W cond (st d) M' Q (fun _ _=>False)=Q (c d) M')->
  (∀d∈ds,c d=true->∀M',Ext M M'->∀Q,wpE W elt (st d) M' Q (fun _ _=>False)=Q (f d) M')->
  fD W tg cond elt S p Q ds ys σ (put M p (.lst ys))=Q (.ref p) (put M p (.lst (ys++(ds.filter c).map f)))
 |[],ys,σ,M,h0,hM,hp,hl,hS,hg,hc,he=>by
  show (S (put M p (.lst ys))/\Q (.ref p) (put M p (.lst ys)))=_
  simp[hS _ (.put hM hp _)]
 |d::ds,ys,σ,M,h0,hM,hp,hl,hS,hg,hc,he=>by
  have hl':ys.length+(ds.length+1) < sizeLine:=hl
  obtain⟨g1,g2⟩:=hg d List.mem_cons_self
  rw[gq,g2 σ h0,hc d List.mem_cons_self _ (.put hM hp _),eq_true (hS _ (.put hM hp _)),true_and]
  cases q:c d with
  |true=>
   rw[if_pos rfl,he d List.mem_cons_self q _ (.put hM hp _),ag,cn]
   rw[dq P st c f ds (ys++[f d]) (st d) g1 hM hp (by rw[List.length_append,List.length_singleton];omega) hS (fun e h=>hg e (List.mem_cons_of_mem _ h)) (fun e h=>hc e (List.mem_cons_of_mem _ h)) (fun e h=>he e (List.mem_cons_of_mem _ h))]
   simp only[List.filter_cons,q,if_true,List.map_cons,List.append_assoc,List.singleton_append,true_and]
   rw[eq_true (show ys.length < sizeLine by omega),true_and]
  |false=>
   rw[if_neg Bool.false_ne_true]
   rw[dq P st c f ds ys (st d) g1 hM hp (by omega) hS (fun e h=>hg e (List.mem_cons_of_mem _ h)) (fun e h=>hc e (List.mem_cons_of_mem _ h)) (fun e h=>he e (List.mem_cons_of_mem _ h))]
   simp only[List.filter_cons,q,Bool.false_eq_true,if_false]
   rw[eq_true (show ys.length < sizeLine by omega),true_and]
theorem gQ(P:St3->Prop)(st:D->St3)(c:D->Bool)(f:D->D):∀(ds ys:List D) (σ:St3) {M:MH},P σ->Fm M->M p=none->ys.length+ds.length < sizeLine->(∀M',Ext M M'->S M')->
  (∀d∈ds,P (st d)/\∀σ,P σ->∀(M:MH) (k:St3->MH->Prop),wpG tg d σ M k=k (st d) M)->
  (∀d∈ds,∀M',Ext M M'->∀Q:Bool->MH->Prop,iD W cond (st d) M' Q (fun _ _=>False)=Q (c d) M')->
  (∀d∈ds,c d=true->∀M',Ext M M'->∀Q,wpE W elt (st d) M' Q (fun _ _=>False)=Q (f d) M')->
  fD W tg cond elt S p (dR Q) ds ys σ (put M p (.lst ys))=Q (.rol (ys++(ds.filter c).map f)) M
 |[],ys,σ,M,h0,hM,hp,hl,hS,hg,hc,he=>by rw[mJ hp (hS _ (.put hM hp _))];simp
 |d::ds,ys,σ,M,h0,hM,hp,hl,hS,hg,hc,he=>by
  have hl':ys.length+(ds.length+1) < sizeLine:=hl
  obtain⟨g1,g2⟩:=hg d List.mem_cons_self
  rw[gq,g2 σ h0,hc d List.mem_cons_self _ (.put hM hp _),eq_true (hS _ (.put hM hp _)),true_and]
  cases q:c d with
  |true=>
   rw[if_pos rfl,he d List.mem_cons_self q _ (.put hM hp _),ag,cn]
   rw[gQ P st c f ds (ys++[f d]) (st d) g1 hM hp (by rw[List.length_append,List.length_singleton];omega) hS (fun e h=>hg e (List.mem_cons_of_mem _ h)) (fun e h=>hc e (List.mem_cons_of_mem _ h)) (fun e h=>he e (List.mem_cons_of_mem _ h))]
   simp only[List.filter_cons,q,if_true,List.map_cons,List.append_assoc,List.singleton_append,true_and]
   rw[eq_true (show ys.length < sizeLine by omega),true_and]
  |false=>
   rw[if_neg Bool.false_ne_true]
   rw[gQ P st c f ds ys (st d) g1 hM hp (by omega) hS (fun e h=>hg e (List.mem_cons_of_mem _ h)) (fun e h=>hc e (List.mem_cons_of_mem _ h)) (fun e h=>he e (List.mem_cons_of_mem _ h))]
   simp only[List.filter_cons,q,Bool.false_eq_true,if_false]
   rw[eq_true (show ys.length < sizeLine by omega),true_and]
theorem dm{ds:List D}(P:St3->Prop)(st:D->St3)(c:D->Bool)(f:D->D)(h0:P σ)(hM:Fm M)(hl:ds.length < 10000)
  (hg:∀d∈ds,P (st d)/\∀σ,P σ->∀(M:MH) (k:St3->MH->Prop),wpG tg d σ M k=k (st d) M)
  (hc:∀d∈ds,∀M',Ext M M'->∀Q:Bool->MH->Prop,iD W cond (st d) M' Q (fun _ _=>False)=Q (c d) M')
  (he:∀d∈ds,c d=true->∀M',Ext M M'->∀Q,wpE W elt (st d) M' Q (fun _ _=>False)=Q (f d) M') (hS:∀M',Ext M M'->S M':=by exact fun _ _=>trivial) :
  iM W tg cond elt S Q ds σ M=Q (.rol ((ds.filter c).map f)) M:=by
 have hl':([]:List D).length+ds.length < sizeLine:=by rw[List.length_nil,Nat.zero_add];exact Nat.lt_trans hl (by decide)
 exact aE hM fun p hp=>by
  rw[gQ P st c f ds [] σ h0 hM hp hl' hS hg hc he]
  simp
theorem jP{av:St3}{x:Option D}{ds:List D}(c:D->Bool)(f:D->D)(hM:Fm M)(hl:ds.length < 10000)
  (hc:∀d∈ds,∀M',Ext M M'->∀Q:Bool->MH->Prop,iD W cond (some d::av) M' Q (fun _ _=>False)=Q (c d) M')
  (he:∀d∈ds,c d=true->∀M',Ext M M'->∀Q,wpE W elt (some d::av) M' Q (fun _ _=>False)=Q (f d) M') (hS:∀M',Ext M M'->S M':=by exact fun _ _=>trivial) :
  iM W (.name 0) cond elt S Q ds (x::av) M=Q (.rol ((ds.filter c).map f)) M:=
 dm (fun σ=>∃y,σ=y::av) (fun d=>some d::av) c f ⟨x,rfl⟩ hM hl (fun d _=>⟨⟨_,rfl⟩,fun σ ⟨y,e⟩ M k=>by subst e;rfl⟩) hc he hS
theorem iL{av:St3}{x:Option D}{ds:List D}(f:D->D)(hM:Fm M)(hl:ds.length < 10000)
  (he:∀d∈ds,∀M',Ext M M'->∀Q,wpE W elt (some d::av) M' Q (fun _ _=>False)=Q (f d) M') (hS:∀M',Ext M M'->S M':=by exact fun _ _=>trivial) :
  iM W (.name 0) .no elt S Q ds (x::av) M=Q (.rol (ds.map f)) M:=by
 rw[jP (fun _=>true) f hM hl (fun _ _ _ _ _=>rfl) (fun d hd _=>he d hd) hS]
 rw[List.filter_eq_self.mpr (fun _ _=>rfl)]
end
variable {body:ISs}{ES:St3->XN}{De:Ends3}
theorem jo{ds:List D}(P:St3->Prop)(h0:P σ)(step:∀d∈ds,∀σ,P σ->∀k:St3->MH->Prop,(∀σ',P σ'->k σ' M)->wpG tg d σ M fun σ2 M2=>ar W body {De with nx:=k,ct:=k,bk:=De.nx} ES σ2 M2)(done:∀σ,P σ->De.nx σ M) :
  bN W tg body ES (fun _=>True) De ds σ M:=by
 induction ds generalizing σ with
 |nil=>rw[ba];exact⟨trivial,done σ h0⟩
 |cons d ds ih=>
  rw[aC]
  exact⟨trivial,step d List.mem_cons_self σ h0 _ fun σ' p=>ih p fun e he=>step e (List.mem_cons_of_mem _ he)⟩
theorem oE{S:MH->Prop}{ds:List D}(P:St3->Prop)(hS:S M)(h0:P σ)(step:∀d∈ds,∀σ,P σ->∀k:St3->MH->Prop,(∀σ',P σ'->k σ' M)->wpG tg d σ M fun σ2 M2=>ar W body {De with nx:=k,ct:=k,bk:=De.nx} ES σ2 M2)(done:∀σ,P σ->De.nx σ M) :
  bN W tg body ES S De ds σ M:=by
 induction ds generalizing σ with
 |nil=>rw[ba];exact⟨hS,done σ h0⟩
 |cons d ds ih=>
  rw[aC]
  exact⟨hS,step d List.mem_cons_self σ h0 _ fun σ' p=>ih p fun e he=>step e (List.mem_cons_of_mem _ he)⟩
theorem mH{α:Type}(g:α->D)(f:α->Bool)(xs:List α)(h:∀x∈xs,g x=.bl (f x)):dh (xs.map g)=some (xs.map f):=by
 induction xs with
 |nil=>rfl
 |cons a r ih=>
  rw[List.map_cons,h a List.mem_cons_self]
  simp only[dh]
  rw[ih fun x hx=>h x (List.mem_cons_of_mem _ hx)]
  rfl
theorem qX{α:Type}{g:α->D}(f:α->Bool){xs:List α}(h:∀x∈xs,g x=.bl (f x)):rBi .all [.rol (xs.map g)] M Q=Q (.bl (xs.all f)) M:=by
 simp only[rBi,aj,mH g f xs h]
 simp[List.all_map,Function.comp_def]
end
end L2
namespace L2
open PySem PySem.NumText PyProof.Rows StrLaws
end L2
namespace HD
open PySem PySem.W PyProof.Rows L2
noncomputable def pw:Program:=PySem.Challenge.pw_driftmeet_k19_what_is_past
noncomputable def top(i:Nat):Stmt:=PySem.Challenge.pw_driftmeet_k19_what_is_past.main.body.getD i (.Pass ⟨0,0,0,0⟩)
noncomputable abbrev R(a:Nat):Value:=.ref a
noncomputable abbrev I(i:Nat):Value:=.int i 0
noncomputable abbrev e(P:Params)(s:String)(t:Nat)(v:Value):DictEntry:=⟨PyData.keyHash P s,.str s t,v⟩
noncomputable abbrev co(n:String)(a:Nat)(m:String)(b c d e g h i j:Nat)(k:Bool)(l o q r s:Nat):Data:=.fields #[.str n a,.str m b,.str "/claim/cut.py" c,I d,I e,I g,I h,I i,R j,.bool k,I l,R o,.none,.none,.none,.none,I q,I r,.str "/claim/cut.py" s]
noncomputable abbrev cp(n:String)(a:Nat)(m:String)(b c d e g h i j:Nat)(k:Bool)(l o x y z q r s:Nat):Data:=.fields #[.str n a,.str m b,.str "/claim/cut.py" c,I d,I e,I g,I h,I i,R j,.bool k,I l,R o,.none,R x,R y,R z,I q,I r,.str "/claim/cut.py" s]
noncomputable abbrev F:=Params->Obj
noncomputable abbrev fo(n q:String)(s:Stmt)(m:String)(t c:Nat):F:=fun _=>⟨.type "function",none,.func (fnOf n q (eK s) (cP s) (aR s) .none .none .none (.str m t) none (.ref c) .none),#[]⟩
noncomputable abbrev fp(n q:String)(s:Stmt):F:=fun _=>⟨.none,none,.func {fnOf n q (eK s) (cP s) (aR s) .none .none .none .none none .none .none with globals:=0,builtins:=0},#[]⟩
noncomputable abbrev vf(l:Array Value):F:=fun _=>⟨.none,none,.fields l,#[]⟩
noncomputable abbrev tu(l:Array Value):F:=fun _=>⟨.type "tuple",none,.seq l 0,#[]⟩
noncomputable abbrev cd(d:Data):F:=fun _=>⟨.type "code",none,d,#[]⟩
noncomputable abbrev bf(a:String)(b:Nat):F:=fun _=>⟨.type "builtin_function_or_method",none,.fields #[.builtin a,.ref b],#[]⟩
noncomputable abbrev n(o:F)(x y:Params->W.BT):Params->W.BT:=fun P=>.node (o P) (x P) (y P)
noncomputable abbrev z:Params->W.BT:=fun _=>.nil
noncomputable abbrev l(o:F):Params->W.BT:=fun P=>.node (o P) .nil .nil
noncomputable def o0:F:=tu #[]
noncomputable def o1:F:=vf #[]
noncomputable def o2:F:=cd (co "<module>" 182 "<module>" 183 184 1 0 0 0 0 11 false 181 12 185 1 186)
noncomputable def o3:F:=fun _=>⟨(.type "frame"),none,.plain,#[some (R 13),some (R 3),some (R 3),none,some (.str "__main__" 164),none,some (R 0)]⟩
noncomputable def o4:F:=fun P=>⟨(.type "dict"),none,(.dict #[e P "__name__" 165 (.str "driftmeet.happenings" 303),e P "__doc__" 166 .none,e P "__package__" 167 .none,e P "__loader__" 168 (.builtin "__main__.__loader__#opaque"),e P "__spec__" 169 .none,e P "__annotations__" 170 (R 6),e P "__builtins__" 171 (R 4),e P "__file__" 173 (.str "/claim/cut.py" 172),e P "__cached__" 174 .none,e P "_wall" 193 (R 21),e P "DriftError" 213 (R 31),e P "NoHand" 229 (R 44),e P "NoClock" 245 (R 56),e P "NoWay" 261 (R 68),e P "NoHappening" 277 (R 80),e P "NoName" 293 (R 92),e P "is_whole" 302 (R 101),e P "Happening" 335 (R 118),e P "Look" 376 (R 153),e P "Sight" 421 (R 186)] 20),#[]⟩
noncomputable def o5:F:=vf #[(I 1),(I 0),(R 20),(I 5),(I 0),(R 27),(I 7),(I 0),(R 40),(I 9),(I 0),(R 52),(I 11),(I 0),(R 64),(I 13),(I 0),(R 76),(I 15),(I 0),(R 88),(I 18),(I 0),(R 100),(I 21),(I 0),(R 107),(I 26),(I 0),(R 128),(I 36),(I 0),(R 161)]
noncomputable def o6:F:=tu #[(.str "k" 190)]
noncomputable def o7:F:=fp "_wall" "_wall" (top 0)
noncomputable def o8:F:=cd (cp "_wall" 187 "_wall" 188 189 1 1 0 0 3 15 true 181 16 17 18 19 191 1 192)
noncomputable def o9:F:=fo "_wall" "_wall" (top 0) "__main__" 164 20
noncomputable def o10:F:=tu #[(.type "ValueError")]
noncomputable def o11:F:=fun _=>⟨(.type "builtin_function_or_method"),none,(.fields #[(.builtin "type.__prepare__"),(.type "type")]),#[]⟩
noncomputable def o12:F:=fun P=>⟨(.type "dict"),none,(.dict #[e P "__module__" 203 (.str "driftmeet.errors" 194),e P "__qualname__" 205 (.str "DriftError" 204),e P "__firstlineno__" 207 (.int 5 206),e P "__static_attributes__" 208 (R 29)] 4),#[]⟩
noncomputable def o13:F:=cd (co "DriftError" 198 "DriftError" 199 200 5 0 0 0 0 25 false 181 26 201 5 202)
noncomputable def o14:F:=fun _=>⟨(.type "frame"),none,.plain,#[some (R 27),some (R 3),some (R 24),none,some (.str "driftmeet.errors" 194),none,some (R 0)]⟩
noncomputable def o15:F:=fun P=>⟨(.type "dict"),none,(.dict #[e P "__module__" 203 (.str "driftmeet.errors" 194),e P "__firstlineno__" 207 (.int 5 206),e P "__static_attributes__" 208 (R 29),e P "__weakref__" 210 (R 32),e P "__doc__" 211 .none] 3),#[]⟩
noncomputable def o16:F:=fun _=>⟨(.type "type"),none,(.cls ⟨"DriftError",[(.type "ValueError")],[(R 31),(.type "ValueError"),(.type "Exception"),(.type "BaseException"),(.type "object")],30,"DriftError",true,[],[(R 44),(R 56),(R 68),(R 80),(R 92)],false,none,false⟩),#[some (R 22),none,some (.str "DriftError" 196),some (.str "DriftError" 204),some (.builtin "ValueError.__new__"),some (.bool true)]⟩
noncomputable def o17:F:=fun _=>⟨(.type "getset_descriptor"),none,(.fields #[(.str "__weakref__" 209),(R 31),(.builtin "ExceptionGroup.__weakref__"),.none]),#[]⟩
noncomputable def o18:F:=fun _=>⟨(.type "super"),none,(.fields #[(R 31),(R 31),(R 31)]),#[]⟩
noncomputable def o19:F:=bf "object.__init_subclass__" 31
noncomputable def o20:F:=tu #[(R 31)]
noncomputable def o21:F:=fun P=>⟨(.type "dict"),none,(.dict #[e P "__module__" 221 (.str "driftmeet.errors" 194),e P "__qualname__" 223 (.str "NoHand" 222),e P "__firstlineno__" 225 (.int 7 224),e P "__static_attributes__" 226 (R 42)] 4),#[]⟩
noncomputable def o22:F:=cd (co "NoHand" 216 "NoHand" 217 218 7 0 0 0 0 38 false 181 39 219 7 220)
noncomputable def o23:F:=fun _=>⟨(.type "frame"),none,.plain,#[some (R 40),some (R 3),some (R 37),none,some (.str "driftmeet.errors" 194),none,some (R 0)]⟩
noncomputable def o24:F:=fun P=>⟨(.type "dict"),none,(.dict #[e P "__module__" 221 (.str "driftmeet.errors" 194),e P "__firstlineno__" 225 (.int 7 224),e P "__static_attributes__" 226 (R 42),e P "__doc__" 227 .none] 2),#[]⟩
noncomputable def o25:F:=fun _=>⟨(.type "type"),none,(.cls ⟨"NoHand",[(R 31)],[(R 44),(R 31),(.type "ValueError"),(.type "Exception"),(.type "BaseException"),(.type "object")],43,"NoHand",true,[],[],false,none,false⟩),#[some (R 35),none,some (.str "NoHand" 214),some (.str "NoHand" 222),some (.builtin "ValueError.__new__"),some (.bool true)]⟩
noncomputable def o26:F:=fun _=>⟨(.type "super"),none,(.fields #[(R 44),(R 44),(R 44)]),#[]⟩
noncomputable def o27:F:=bf "object.__init_subclass__" 44
noncomputable def o28:F:=fun P=>⟨(.type "dict"),none,(.dict #[e P "__module__" 237 (.str "driftmeet.errors" 194),e P "__qualname__" 239 (.str "NoClock" 238),e P "__firstlineno__" 241 (.int 9 240),e P "__static_attributes__" 242 (R 54)] 4),#[]⟩
noncomputable def o29:F:=cd (co "NoClock" 232 "NoClock" 233 234 9 0 0 0 0 50 false 181 51 235 9 236)
noncomputable def o30:F:=fun _=>⟨(.type "frame"),none,.plain,#[some (R 52),some (R 3),some (R 49),none,some (.str "driftmeet.errors" 194),none,some (R 0)]⟩
noncomputable def o31:F:=fun P=>⟨(.type "dict"),none,(.dict #[e P "__module__" 237 (.str "driftmeet.errors" 194),e P "__firstlineno__" 241 (.int 9 240),e P "__static_attributes__" 242 (R 54),e P "__doc__" 243 .none] 2),#[]⟩
noncomputable def o32:F:=fun _=>⟨(.type "type"),none,(.cls ⟨"NoClock",[(R 31)],[(R 56),(R 31),(.type "ValueError"),(.type "Exception"),(.type "BaseException"),(.type "object")],55,"NoClock",true,[],[],false,none,false⟩),#[some (R 47),none,some (.str "NoClock" 230),some (.str "NoClock" 238),some (.builtin "ValueError.__new__"),some (.bool true)]⟩
noncomputable def o33:F:=fun _=>⟨(.type "super"),none,(.fields #[(R 56),(R 56),(R 56)]),#[]⟩
noncomputable def o34:F:=bf "object.__init_subclass__" 56
noncomputable def o35:F:=fun P=>⟨(.type "dict"),none,(.dict #[e P "__module__" 253 (.str "driftmeet.errors" 194),e P "__qualname__" 255 (.str "NoWay" 254),e P "__firstlineno__" 257 (.int 11 256),e P "__static_attributes__" 258 (R 66)] 4),#[]⟩
noncomputable def o36:F:=cd (co "NoWay" 248 "NoWay" 249 250 11 0 0 0 0 62 false 181 63 251 11 252)
noncomputable def o37:F:=fun _=>⟨(.type "frame"),none,.plain,#[some (R 64),some (R 3),some (R 61),none,some (.str "driftmeet.errors" 194),none,some (R 0)]⟩
noncomputable def o38:F:=fun P=>⟨(.type "dict"),none,(.dict #[e P "__module__" 253 (.str "driftmeet.errors" 194),e P "__firstlineno__" 257 (.int 11 256),e P "__static_attributes__" 258 (R 66),e P "__doc__" 259 .none] 2),#[]⟩
noncomputable def o39:F:=fun _=>⟨(.type "type"),none,(.cls ⟨"NoWay",[(R 31)],[(R 68),(R 31),(.type "ValueError"),(.type "Exception"),(.type "BaseException"),(.type "object")],67,"NoWay",true,[],[],false,none,false⟩),#[some (R 59),none,some (.str "NoWay" 246),some (.str "NoWay" 254),some (.builtin "ValueError.__new__"),some (.bool true)]⟩
noncomputable def o40:F:=fun _=>⟨(.type "super"),none,(.fields #[(R 68),(R 68),(R 68)]),#[]⟩
noncomputable def o41:F:=bf "object.__init_subclass__" 68
noncomputable def o42:F:=fun P=>⟨(.type "dict"),none,(.dict #[e P "__module__" 269 (.str "driftmeet.errors" 194),e P "__qualname__" 271 (.str "NoHappening" 270),e P "__firstlineno__" 273 (.int 13 272),e P "__static_attributes__" 274 (R 78)] 4),#[]⟩
noncomputable def o43:F:=cd (co "NoHappening" 264 "NoHappening" 265 266 13 0 0 0 0 74 false 181 75 267 13 268)
noncomputable def o44:F:=fun _=>⟨(.type "frame"),none,.plain,#[some (R 76),some (R 3),some (R 73),none,some (.str "driftmeet.errors" 194),none,some (R 0)]⟩
noncomputable def o45:F:=fun P=>⟨(.type "dict"),none,(.dict #[e P "__module__" 269 (.str "driftmeet.errors" 194),e P "__firstlineno__" 273 (.int 13 272),e P "__static_attributes__" 274 (R 78),e P "__doc__" 275 .none] 2),#[]⟩
noncomputable def o46:F:=fun _=>⟨(.type "type"),none,(.cls ⟨"NoHappening",[(R 31)],[(R 80),(R 31),(.type "ValueError"),(.type "Exception"),(.type "BaseException"),(.type "object")],79,"NoHappening",true,[],[],false,none,false⟩),#[some (R 71),none,some (.str "NoHappening" 262),some (.str "NoHappening" 270),some (.builtin "ValueError.__new__"),some (.bool true)]⟩
noncomputable def o47:F:=fun _=>⟨(.type "super"),none,(.fields #[(R 80),(R 80),(R 80)]),#[]⟩
noncomputable def o48:F:=bf "object.__init_subclass__" 80
noncomputable def o49:F:=fun P=>⟨(.type "dict"),none,(.dict #[e P "__module__" 285 (.str "driftmeet.errors" 194),e P "__qualname__" 287 (.str "NoName" 286),e P "__firstlineno__" 289 (.int 15 288),e P "__static_attributes__" 290 (R 90)] 4),#[]⟩
noncomputable def o50:F:=cd (co "NoName" 280 "NoName" 281 282 15 0 0 0 0 86 false 181 87 283 15 284)
noncomputable def o51:F:=fun _=>⟨(.type "frame"),none,.plain,#[some (R 88),some (R 3),some (R 85),none,some (.str "driftmeet.errors" 194),none,some (R 0)]⟩
noncomputable def o52:F:=fun P=>⟨(.type "dict"),none,(.dict #[e P "__module__" 285 (.str "driftmeet.errors" 194),e P "__firstlineno__" 289 (.int 15 288),e P "__static_attributes__" 290 (R 90),e P "__doc__" 291 .none] 2),#[]⟩
noncomputable def o53:F:=fun _=>⟨(.type "type"),none,(.cls ⟨"NoName",[(R 31)],[(R 92),(R 31),(.type "ValueError"),(.type "Exception"),(.type "BaseException"),(.type "object")],91,"NoName",true,[],[],false,none,false⟩),#[some (R 83),none,some (.str "NoName" 278),some (.str "NoName" 286),some (.builtin "ValueError.__new__"),some (.bool true)]⟩
noncomputable def o54:F:=fun _=>⟨(.type "super"),none,(.fields #[(R 92),(R 92),(R 92)]),#[]⟩
noncomputable def o55:F:=bf "object.__init_subclass__" 92
noncomputable def o56:F:=tu #[(.str "thing" 299)]
noncomputable def o57:F:=fp "is_whole" "is_whole" (top 9)
noncomputable def o58:F:=cd (cp "is_whole" 296 "is_whole" 297 298 18 1 0 0 3 95 true 181 96 97 98 99 300 18 301)
noncomputable def o59:F:=fo "is_whole" "is_whole" (top 9) "driftmeet.wholes" 294 100
noncomputable def o60:F:=fun P=>⟨(.type "dict"),none,(.dict #[e P "__module__" 312 (.str "driftmeet.happenings" 303),e P "__qualname__" 314 (.str "Happening" 313),e P "__firstlineno__" 316 (.int 21 315),e P "__init__" 325 (R 115),e P "__static_attributes__" 328 (R 116)] 5),#[]⟩
noncomputable def o61:F:=vf #[(I 23),(I 4),(R 114)]
noncomputable def o62:F:=cd (co "Happening" 307 "Happening" 308 309 21 0 0 0 0 105 false 181 106 310 21 311)
noncomputable def o63:F:=fun _=>⟨(.type "frame"),none,.plain,#[some (R 107),some (R 3),some (R 104),none,some (.str "driftmeet.happenings" 303),none,some (R 0)]⟩
noncomputable def o64:F:=tu #[(.str "self" 320),(.str "hand" 321),(.str "reading" 322)]
noncomputable def o65:F:=fp "__init__" "Happening.__init__" (af (top 11) 0)
noncomputable def o66:F:=cd (cp "__init__" 317 "Happening.__init__" 318 319 23 3 0 0 3 109 true 181 110 111 112 113 323 23 324)
noncomputable def o67:F:=fo "__init__" "Happening.__init__" (af (top 11) 0) "driftmeet.happenings" 303 114
noncomputable def o68:F:=tu #[(.str "hand" 326),(.str "reading" 327)]
noncomputable def o69:F:=fun P=>⟨(.type "dict"),none,(.dict #[e P "__module__" 312 (.str "driftmeet.happenings" 303),e P "__firstlineno__" 316 (.int 21 315),e P "__init__" 325 (R 115),e P "__static_attributes__" 328 (R 116),e P "__dict__" 330 (R 119),e P "__weakref__" 332 (R 120),e P "__doc__" 333 .none] 4),#[]⟩
noncomputable def o70:F:=fun _=>⟨(.type "type"),none,(.cls ⟨"Happening",[(.type "object")],[(R 118),(.type "object")],117,"Happening",true,[],[(R 153),(R 186)],false,none,false⟩),#[none,none,some (.str "Happening" 305),some (.str "Happening" 313),some (.builtin "object.__new__"),some (.bool true)]⟩
noncomputable def o71:F:=fun _=>⟨(.type "getset_descriptor"),none,(.fields #[(.str "__dict__" 329),(R 118),(.builtin "function.__dict__"),(.builtin "function.__dict__#set")]),#[]⟩
noncomputable def o72:F:=fun _=>⟨(.type "getset_descriptor"),none,(.fields #[(.str "__weakref__" 331),(R 118),(.builtin "ExceptionGroup.__weakref__"),.none]),#[]⟩
noncomputable def o73:F:=fun _=>⟨(.type "super"),none,(.fields #[(R 118),(R 118),(R 118)]),#[]⟩
noncomputable def o74:F:=bf "object.__init_subclass__" 118
noncomputable def o75:F:=tu #[(R 118)]
noncomputable def o76:F:=fun P=>⟨(.type "dict"),none,(.dict #[e P "__module__" 343 (.str "driftmeet.happenings" 303),e P "__qualname__" 345 (.str "Look" 344),e P "__firstlineno__" 347 (.int 26 346),e P "__init__" 356 (R 136),e P "row" 363 (R 143),e P "own_bounds" 372 (R 150),e P "__static_attributes__" 373 (R 151)] 7),#[]⟩
noncomputable def o77:F:=vf #[(I 28),(I 4),(R 135),(I 31),(I 4),(R 142),(I 34),(I 4),(R 149)]
noncomputable def o78:F:=cd (co "Look" 338 "Look" 339 340 26 0 0 0 0 126 false 181 127 341 26 342)
noncomputable def o79:F:=fun _=>⟨(.type "frame"),none,.plain,#[some (R 128),some (R 3),some (R 125),none,some (.str "driftmeet.happenings" 303),none,some (R 0)]⟩
noncomputable def o80:F:=tu #[(.str "self" 351),(.str "hand" 352),(.str "reading" 353)]
noncomputable def o81:F:=fp "__init__" "Look.__init__" (af (top 12) 0)
noncomputable def o82:F:=cd (cp "__init__" 348 "Look.__init__" 349 350 28 3 0 0 3 130 true 181 131 132 133 134 354 28 355)
noncomputable def o83:F:=fo "__init__" "Look.__init__" (af (top 12) 0) "driftmeet.happenings" 303 135
noncomputable def o84:F:=tu #[(.str "self" 360)]
noncomputable def o85:F:=fp "row" "Look.row" (af (top 12) 1)
noncomputable def o86:F:=cd (cp "row" 357 "Look.row" 358 359 31 1 0 0 3 137 true 181 138 139 140 141 361 31 362)
noncomputable def o87:F:=fo "row" "Look.row" (af (top 12) 1) "driftmeet.happenings" 303 142
noncomputable def o88:F:=tu #[(.str "self" 367),(.str "world" 368),(.str "name" 369)]
noncomputable def o89:F:=fp "own_bounds" "Look.own_bounds" (af (top 12) 2)
noncomputable def o90:F:=cd (cp "own_bounds" 364 "Look.own_bounds" 365 366 34 3 0 0 3 144 true 181 145 146 147 148 370 34 371)
noncomputable def o91:F:=fo "own_bounds" "Look.own_bounds" (af (top 12) 2) "driftmeet.happenings" 303 149
noncomputable def o92:F:=fun P=>⟨(.type "dict"),none,(.dict #[e P "__module__" 343 (.str "driftmeet.happenings" 303),e P "__firstlineno__" 347 (.int 26 346),e P "__init__" 356 (R 136),e P "row" 363 (R 143),e P "own_bounds" 372 (R 150),e P "__static_attributes__" 373 (R 151),e P "__doc__" 374 .none] 2),#[]⟩
noncomputable def o93:F:=fun _=>⟨(.type "type"),none,(.cls ⟨"Look",[(R 118)],[(R 153),(R 118),(.type "object")],152,"Look",true,[],[],false,none,false⟩),#[some (R 123),none,some (.str "Look" 336),some (.str "Look" 344),some (.builtin "object.__new__"),some (.bool true)]⟩
noncomputable def o94:F:=fun _=>⟨(.type "super"),none,(.fields #[(R 153),(R 153),(R 153)]),#[]⟩
noncomputable def o95:F:=bf "object.__init_subclass__" 153
noncomputable def o96:F:=fun P=>⟨(.type "dict"),none,(.dict #[e P "__module__" 384 (.str "driftmeet.happenings" 303),e P "__qualname__" 386 (.str "Sight" 385),e P "__firstlineno__" 388 (.int 36 387),e P "__init__" 399 (R 169),e P "row" 406 (R 176),e P "own_bounds" 415 (R 183),e P "__static_attributes__" 418 (R 184)] 7),#[]⟩
noncomputable def o97:F:=vf #[(I 38),(I 4),(R 168),(I 43),(I 4),(R 175),(I 46),(I 4),(R 182)]
noncomputable def o98:F:=cd (co "Sight" 379 "Sight" 380 381 36 0 0 0 0 159 false 181 160 382 36 383)
noncomputable def o99:F:=fun _=>⟨(.type "frame"),none,.plain,#[some (R 161),some (R 3),some (R 158),none,some (.str "driftmeet.happenings" 303),none,some (R 0)]⟩
noncomputable def qU:F:=tu #[(.str "self" 392),(.str "hand" 393),(.str "reading" 394),(.str "early" 395),(.str "late" 396)]
noncomputable def xu:F:=fp "__init__" "Sight.__init__" (af (top 13) 0)
noncomputable def rT:F:=cd (cp "__init__" 389 "Sight.__init__" 390 391 38 5 0 0 3 163 true 181 164 165 166 167 397 38 398)
noncomputable def rP:F:=fo "__init__" "Sight.__init__" (af (top 13) 0) "driftmeet.happenings" 303 168
noncomputable def qg:F:=tu #[(.str "self" 403)]
noncomputable def ux:F:=fp "row" "Sight.row" (af (top 13) 1)
noncomputable def qP:F:=cd (cp "row" 400 "Sight.row" 401 402 43 1 0 0 3 170 true 181 171 172 173 174 404 43 405)
noncomputable def rR:F:=fo "row" "Sight.row" (af (top 13) 1) "driftmeet.happenings" 303 175
noncomputable def qI:F:=tu #[(.str "self" 410),(.str "world" 411),(.str "name" 412)]
noncomputable def xB:F:=fp "own_bounds" "Sight.own_bounds" (af (top 13) 2)
noncomputable def qO:F:=cd (cp "own_bounds" 407 "Sight.own_bounds" 408 409 46 3 0 0 3 177 true 181 178 179 180 181 413 46 414)
noncomputable def rX:F:=fo "own_bounds" "Sight.own_bounds" (af (top 13) 2) "driftmeet.happenings" 303 182
noncomputable def qA:F:=tu #[(.str "early" 416),(.str "late" 417)]
noncomputable def rQ:F:=fun P=>⟨(.type "dict"),none,(.dict #[e P "__module__" 384 (.str "driftmeet.happenings" 303),e P "__firstlineno__" 388 (.int 36 387),e P "__init__" 399 (R 169),e P "row" 406 (R 176),e P "own_bounds" 415 (R 183),e P "__static_attributes__" 418 (R 184),e P "__doc__" 419 .none] 2),#[]⟩
noncomputable def ra:F:=fun _=>⟨(.type "type"),none,(.cls ⟨"Sight",[(R 118)],[(R 186),(R 118),(.type "object")],185,"Sight",true,[],[],false,none,false⟩),#[some (R 156),none,some (.str "Sight" 377),some (.str "Sight" 385),some (.builtin "object.__new__"),some (.bool true)]⟩
noncomputable def wT:F:=fun _=>⟨(.type "super"),none,(.fields #[(R 186),(R 186),(R 186)]),#[]⟩
noncomputable def xj:F:=bf "object.__init_subclass__" 186
noncomputable def xf:F:=fun P=>⟨(.type "dict"),none,(.dict #[e P "__name__" 165 (.str "law_driftmeet_k19_what_is_past" 709),e P "__doc__" 166 .none,e P "__package__" 167 .none,e P "__loader__" 168 (.builtin "__main__.__loader__#opaque"),e P "__spec__" 169 .none,e P "__annotations__" 170 (R 6),e P "__builtins__" 171 (R 4),e P "__file__" 173 (.str "/claim/cut.py" 172),e P "__cached__" 174 .none,e P "_wall" 193 (R 21),e P "DriftError" 213 (R 31),e P "NoHand" 229 (R 44),e P "NoClock" 245 (R 56),e P "NoWay" 261 (R 68),e P "NoHappening" 277 (R 80),e P "NoName" 293 (R 92),e P "is_whole" 302 (R 101),e P "Happening" 335 (R 118),e P "Look" 376 (R 153),e P "Sight" 421 (R 186),e P "Send" 464 (R 219),e P "Take" 507 (R 252),e P "are_wholes" 513 (R 259),e P "is_letter" 520 (R 266),e P "happening" 528 (R 273),e P "count_on" 539 (R 280),e P "names" 549 (R 287),e P "place" 559 (R 294),e P "count_letter" 568 (R 301),e P "past" 582 (R 308),e P "MOST_HANDS" 586 (.int 6 585),e P "refuse_clock" 594 (R 315),e P "refuse_lengths" 602 (R 322),e P "World" 708 (R 395),e P "_law_cell_at" 718 (R 406),e P "_law_ways" 730 (R 413),e P "_law_row" 743 (R 420),e P "_law_log" 749 (R 425),e P "_law_names" 759 (R 432),e P "_law_counts" 770 (R 439),e P "_law_right" 787 (R 446),e P "_law_refused" 798 (R 453),e P "law" 804 (R 458)] 43),#[]⟩
noncomputable def Bp:F:=vf #[(I 1),(I 0),(R 20),(I 5),(I 0),(R 27),(I 7),(I 0),(R 40),(I 9),(I 0),(R 52),(I 11),(I 0),(R 64),(I 13),(I 0),(R 76),(I 15),(I 0),(R 88),(I 18),(I 0),(R 100),(I 21),(I 0),(R 107),(I 26),(I 0),(R 128),(I 36),(I 0),(R 161),(I 48),(I 0),(R 194),(I 59),(I 0),(R 227),(I 70),(I 0),(R 258),(I 72),(I 0),(R 265),(I 74),(I 0),(R 272),(I 88),(I 0),(R 279),(I 92),(I 0),(R 286),(I 98),(I 0),(R 293),(I 103),(I 0),(R 300),(I 107),(I 0),(R 307),(I 118),(I 0),(R 314),(I 123),(I 0),(R 321),(I 128),(I 0),(R 328),(I 175),(I 0),(R 405),(I 179),(I 0),(R 412),(I 188),(I 0),(R 419),(I 198),(I 0),(R 424),(I 217),(I 0),(R 431),(I 224),(I 0),(R 438),(I 234),(I 0),(R 445),(I 252),(I 0),(R 452),(I 261),(I 0),(R 457)]
noncomputable def wM:F:=fun _=>⟨(.type "type"),none,(.cls ⟨"Happening",[(.type "object")],[(R 118),(.type "object")],117,"Happening",true,[],[(R 153),(R 186),(R 219),(R 252)],false,none,false⟩),#[none,none,some (.str "Happening" 305),some (.str "Happening" 313),some (.builtin "object.__new__"),some (.bool true)]⟩
noncomputable def zL:F:=fun P=>⟨(.type "dict"),none,(.dict #[e P "__module__" 429 (.str "driftmeet.happenings" 303),e P "__qualname__" 431 (.str "Send" 430),e P "__firstlineno__" 433 (.int 48 432),e P "__init__" 443 (R 202),e P "row" 450 (R 209),e P "own_bounds" 459 (R 216),e P "__static_attributes__" 461 (R 217)] 7),#[]⟩
noncomputable def AN:F:=vf #[(I 50),(I 4),(R 201),(I 54),(I 4),(R 208),(I 57),(I 4),(R 215)]
noncomputable def Cb:F:=cd (co "Send" 424 "Send" 425 426 48 0 0 0 0 192 false 181 193 427 48 428)
noncomputable def BO:F:=fun _=>⟨(.type "frame"),none,.plain,#[some (R 194),some (R 3),some (R 191),none,some (.str "driftmeet.happenings" 303),none,some (R 0)]⟩
noncomputable def sY:F:=tu #[(.str "self" 437),(.str "hand" 438),(.str "reading" 439),(.str "to" 440)]
noncomputable def yw:F:=fp "__init__" "Send.__init__" (af (top 14) 0)
noncomputable def sU:F:=cd (cp "__init__" 434 "Send.__init__" 435 436 50 4 0 0 3 196 true 181 197 198 199 200 441 50 442)
noncomputable def wo:F:=fo "__init__" "Send.__init__" (af (top 14) 0) "driftmeet.happenings" 303 201
noncomputable def ve:F:=tu #[(.str "self" 447)]
noncomputable def zk:F:=fp "row" "Send.row" (af (top 14) 1)
noncomputable def xz:F:=cd (cp "row" 444 "Send.row" 445 446 54 1 0 0 3 203 true 181 204 205 206 207 448 54 449)
noncomputable def wk:F:=fo "row" "Send.row" (af (top 14) 1) "driftmeet.happenings" 303 208
noncomputable def uN:F:=tu #[(.str "self" 454),(.str "world" 455),(.str "name" 456)]
noncomputable def A9:F:=fp "own_bounds" "Send.own_bounds" (af (top 14) 2)
noncomputable def uP:F:=cd (cp "own_bounds" 451 "Send.own_bounds" 452 453 57 3 0 0 3 210 true 181 211 212 213 214 457 57 458)
noncomputable def vT:F:=fo "own_bounds" "Send.own_bounds" (af (top 14) 2) "driftmeet.happenings" 303 215
noncomputable def uO:F:=tu #[(.str "to" 460)]
noncomputable def uQ:F:=fun P=>⟨(.type "dict"),none,(.dict #[e P "__module__" 429 (.str "driftmeet.happenings" 303),e P "__firstlineno__" 433 (.int 48 432),e P "__init__" 443 (R 202),e P "row" 450 (R 209),e P "own_bounds" 459 (R 216),e P "__static_attributes__" 461 (R 217),e P "__doc__" 462 .none] 2),#[]⟩
noncomputable def tG:F:=fun _=>⟨(.type "type"),none,(.cls ⟨"Send",[(R 118)],[(R 219),(R 118),(.type "object")],218,"Send",true,[],[],false,none,false⟩),#[some (R 189),none,some (.str "Send" 422),some (.str "Send" 430),some (.builtin "object.__new__"),some (.bool true)]⟩
noncomputable def yt:F:=fun _=>⟨(.type "super"),none,(.fields #[(R 219),(R 219),(R 219)]),#[]⟩
noncomputable def Bv:F:=bf "object.__init_subclass__" 219
noncomputable def yy:F:=fun P=>⟨(.type "dict"),none,(.dict #[e P "__module__" 472 (.str "driftmeet.happenings" 303),e P "__qualname__" 474 (.str "Take" 473),e P "__firstlineno__" 476 (.int 59 475),e P "__init__" 486 (R 235),e P "row" 493 (R 242),e P "own_bounds" 502 (R 249),e P "__static_attributes__" 504 (R 250)] 7),#[]⟩
noncomputable def zF:F:=vf #[(I 61),(I 4),(R 234),(I 65),(I 4),(R 241),(I 68),(I 4),(R 248)]
noncomputable def zp:F:=cd (co "Take" 467 "Take" 468 469 59 0 0 0 0 225 false 181 226 470 59 471)
noncomputable def zi:F:=fun _=>⟨(.type "frame"),none,.plain,#[some (R 227),some (R 3),some (R 224),none,some (.str "driftmeet.happenings" 303),none,some (R 0)]⟩
noncomputable def wu:F:=tu #[(.str "self" 480),(.str "hand" 481),(.str "reading" 482),(.str "letter" 483)]
noncomputable def zd:F:=fp "__init__" "Take.__init__" (af (top 15) 0)
noncomputable def uI:F:=cd (cp "__init__" 477 "Take.__init__" 478 479 61 4 0 0 3 229 true 181 230 231 232 233 484 61 485)
noncomputable def xw:F:=fo "__init__" "Take.__init__" (af (top 15) 0) "driftmeet.happenings" 303 234
noncomputable def uz:F:=tu #[(.str "self" 490)]
noncomputable def BZ:F:=fp "row" "Take.row" (af (top 15) 1)
noncomputable def tP:F:=cd (cp "row" 487 "Take.row" 488 489 65 1 0 0 3 236 true 181 237 238 239 240 491 65 492)
noncomputable def uV:F:=fo "row" "Take.row" (af (top 15) 1) "driftmeet.happenings" 303 241
noncomputable def wU:F:=tu #[(.str "self" 497),(.str "world" 498),(.str "name" 499)]
noncomputable def Bb:F:=fp "own_bounds" "Take.own_bounds" (af (top 15) 2)
noncomputable def vv:F:=cd (cp "own_bounds" 494 "Take.own_bounds" 495 496 68 3 0 0 3 243 true 181 244 245 246 247 500 68 501)
noncomputable def uG:F:=fo "own_bounds" "Take.own_bounds" (af (top 15) 2) "driftmeet.happenings" 303 248
noncomputable def xS:F:=tu #[(.str "letter" 503)]
noncomputable def v6:F:=fun P=>⟨(.type "dict"),none,(.dict #[e P "__module__" 472 (.str "driftmeet.happenings" 303),e P "__firstlineno__" 476 (.int 59 475),e P "__init__" 486 (R 235),e P "row" 493 (R 242),e P "own_bounds" 502 (R 249),e P "__static_attributes__" 504 (R 250),e P "__doc__" 505 .none] 2),#[]⟩
noncomputable def vw:F:=fun _=>⟨(.type "type"),none,(.cls ⟨"Take",[(R 118)],[(R 252),(R 118),(.type "object")],251,"Take",true,[],[],false,none,false⟩),#[some (R 222),none,some (.str "Take" 465),some (.str "Take" 473),some (.builtin "object.__new__"),some (.bool true)]⟩
noncomputable def yr:F:=fun _=>⟨(.type "super"),none,(.fields #[(R 252),(R 252),(R 252)]),#[]⟩
noncomputable def BF:F:=bf "object.__init_subclass__" 252
noncomputable def zt:F:=fp "are_wholes" "are_wholes" (top 16)
noncomputable def vq:F:=cd (.fields #[(.str "are_wholes" 508),(.str "are_wholes" 509),(.str "/claim/cut.py" 510),(I 70),(I 2),(I 0),(I 0),(I 3),(R 255),(.bool true),(I 181),(R 256),.none,.none,.none,(R 257),(I 511),(I 70),(.str "/claim/cut.py" 512)])
noncomputable def uk:F:=fo "are_wholes" "are_wholes" (top 16) "driftmeet.happenings" 303 258
noncomputable def tE:F:=tu #[(.str "thing" 517)]
noncomputable def zD:F:=fp "is_letter" "is_letter" (top 17)
noncomputable def xI:F:=cd (cp "is_letter" 514 "is_letter" 515 516 72 1 0 0 3 260 true 181 261 262 263 264 518 72 519)
noncomputable def ud:F:=fo "is_letter" "is_letter" (top 17) "driftmeet.happenings" 303 265
noncomputable def vt:F:=tu #[(.str "row" 524),(.str "word" 525)]
noncomputable def B3:F:=fp "happening" "happening" (top 18)
noncomputable def yb:F:=cd (cp "happening" 521 "happening" 522 523 74 1 0 0 3 267 true 181 268 269 270 271 526 74 527)
noncomputable def wI:F:=fo "happening" "happening" (top 18) "driftmeet.happenings" 303 272
noncomputable def tT:F:=tu #[(.str "counts" 534),(.str "hand" 535),(.str "ahead" 536)]
noncomputable def yS:F:=fp "count_on" "count_on" (top 20)
noncomputable def w5:F:=cd (cp "count_on" 531 "count_on" 532 533 88 2 0 0 3 274 true 181 275 276 277 278 537 88 538)
noncomputable def sZ:F:=fo "count_on" "count_on" (top 20) "driftmeet.logs" 529 279
noncomputable def xE:F:=tu #[(.str "log" 543),(.str "counts" 544),(.str "told" 545),(.str "row" 546)]
noncomputable def zn:F:=fp "names" "names" (top 21)
noncomputable def sQ:F:=cd (cp "names" 540 "names" 541 542 92 1 0 0 3 281 true 181 282 283 284 285 547 92 548)
noncomputable def uD:F:=fo "names" "names" (top 21) "driftmeet.logs" 529 286
noncomputable def va:F:=tu #[(.str "log" 553),(.str "name" 554),(.str "where" 555),(.str "other" 556)]
noncomputable def yR:F:=fp "place" "place" (top 22)
noncomputable def ww:F:=cd (cp "place" 550 "place" 551 552 98 2 0 0 3 288 true 181 289 290 291 292 557 98 558)
noncomputable def xk:F:=fo "place" "place" (top 22) "driftmeet.logs" 529 293
noncomputable def vU:F:=tu #[(.str "counts" 563),(.str "one" 564),(.str "sender" 565)]
noncomputable def BP:F:=fp "count_letter" "count_letter" (top 23)
noncomputable def vX:F:=cd (cp "count_letter" 560 "count_letter" 561 562 103 2 0 0 3 295 true 181 296 297 298 299 566 103 567)
noncomputable def vd:F:=fo "count_letter" "count_letter" (top 23) "driftmeet.logs" 529 300
noncomputable def xo:F:=tu #[(.str "world" 572),(.str "log" 573),(.str "name" 574),(.str "where" 575),(.str "counts" 576),(.str "heads" 577),(.str "other" 578),(.str "row" 579)]
noncomputable def zc:F:=fp "past" "past" (top 24)
noncomputable def wC:F:=cd (cp "past" 569 "past" 570 571 107 3 0 0 3 302 true 181 303 304 305 306 580 107 581)
noncomputable def uK:F:=fo "past" "past" (top 24) "driftmeet.logs" 529 307
noncomputable def ug:F:=tu #[(.str "short" 590),(.str "long" 591)]
noncomputable def yU:F:=fp "refuse_clock" "refuse_clock" (top 27)
noncomputable def xb:F:=cd (cp "refuse_clock" 587 "refuse_clock" 588 589 118 2 0 0 3 309 true 181 310 311 312 313 592 118 593)
noncomputable def sP:F:=fo "refuse_clock" "refuse_clock" (top 27) "driftmeet.worlds" 583 314
noncomputable def xa:F:=tu #[(.str "least" 598),(.str "most" 599)]
noncomputable def zq:F:=fp "refuse_lengths" "refuse_lengths" (top 28)
noncomputable def uS:F:=cd (cp "refuse_lengths" 595 "refuse_lengths" 596 597 123 2 0 0 3 316 true 181 317 318 319 320 600 123 601)
noncomputable def wf:F:=fo "refuse_lengths" "refuse_lengths" (top 28) "driftmeet.worlds" 583 321
noncomputable def Bo:F:=fun P=>⟨(.type "dict"),none,(.dict #[e P "__module__" 610 (.str "driftmeet.worlds" 583),e P "__qualname__" 612 (.str "World" 611),e P "__firstlineno__" 614 (.int 128 613),e P "__init__" 629 (R 336),e P "enter_way" 640 (R 343),e P "refuse_hand" 648 (R 350),e P "refuse_pair" 657 (R 357),e P "hands" 664 (R 364),e P "has_hand" 672 (R 371),e P "has_way" 681 (R 378),e P "clock" 689 (R 385),e P "way" 698 (R 392),e P "__static_attributes__" 701 (R 393)] 13),#[]⟩
noncomputable def Aw:F:=vf #[(I 130),(I 4),(R 335),(I 140),(I 4),(R 342),(I 147),(I 4),(R 349),(I 151),(I 4),(R 356),(I 157),(I 4),(R 363),(I 160),(I 4),(R 370),(I 163),(I 4),(R 377),(I 166),(I 4),(R 384),(I 169),(I 4),(R 391)]
noncomputable def Ab:F:=cd (co "World" 605 "World" 606 607 128 0 0 0 0 326 false 181 327 608 128 609)
noncomputable def zH:F:=fun _=>⟨(.type "frame"),none,.plain,#[some (R 328),some (R 3),some (R 325),none,some (.str "driftmeet.worlds" 583),none,some (R 0)]⟩
noncomputable def u6:F:=tu #[(.str "self" 618),(.str "clocks" 619),(.str "ways" 620),(.str "short" 621),(.str "long" 622),(.str "one" 623),(.str "other" 624),(.str "least" 625),(.str "most" 626)]
noncomputable def Ca:F:=fp "__init__" "World.__init__" (af (top 29) 0)
noncomputable def wz:F:=cd (cp "__init__" 615 "World.__init__" 616 617 130 3 0 0 3 330 true 181 331 332 333 334 627 130 628)
noncomputable def sR:F:=fo "__init__" "World.__init__" (af (top 29) 0) "driftmeet.worlds" 583 335
noncomputable def tI:F:=tu #[(.str "self" 633),(.str "one" 634),(.str "other" 635),(.str "least" 636),(.str "most" 637)]
noncomputable def AO:F:=fp "enter_way" "World.enter_way" (af (top 29) 1)
noncomputable def xM:F:=cd (cp "enter_way" 630 "World.enter_way" 631 632 140 5 0 0 3 337 true 181 338 339 340 341 638 140 639)
noncomputable def tM:F:=fo "enter_way" "World.enter_way" (af (top 29) 1) "driftmeet.worlds" 583 342
noncomputable def xT:F:=tu #[(.str "self" 644),(.str "hand" 645)]
noncomputable def Cc:F:=fp "refuse_hand" "World.refuse_hand" (af (top 29) 2)
noncomputable def vj:F:=cd (cp "refuse_hand" 641 "World.refuse_hand" 642 643 147 2 0 0 3 344 true 181 345 346 347 348 646 147 647)
noncomputable def xN:F:=fo "refuse_hand" "World.refuse_hand" (af (top 29) 2) "driftmeet.worlds" 583 349
noncomputable def t9:F:=tu #[(.str "self" 652),(.str "one" 653),(.str "other" 654)]
noncomputable def yF:F:=fp "refuse_pair" "World.refuse_pair" (af (top 29) 3)
noncomputable def vR:F:=cd (cp "refuse_pair" 649 "World.refuse_pair" 650 651 151 3 0 0 3 351 true 181 352 353 354 355 655 151 656)
noncomputable def xU:F:=fo "refuse_pair" "World.refuse_pair" (af (top 29) 3) "driftmeet.worlds" 583 356
noncomputable def wm:F:=tu #[(.str "self" 661)]
noncomputable def zu:F:=fp "hands" "World.hands" (af (top 29) 4)
noncomputable def vC:F:=cd (cp "hands" 658 "World.hands" 659 660 157 1 0 0 3 358 true 181 359 360 361 362 662 157 663)
noncomputable def ya:F:=fo "hands" "World.hands" (af (top 29) 4) "driftmeet.worlds" 583 363
noncomputable def we:F:=tu #[(.str "self" 668),(.str "hand" 669)]
noncomputable def yH:F:=fp "has_hand" "World.has_hand" (af (top 29) 5)
noncomputable def wP:F:=cd (cp "has_hand" 665 "World.has_hand" 666 667 160 2 0 0 3 365 true 181 366 367 368 369 670 160 671)
noncomputable def vZ:F:=fo "has_hand" "World.has_hand" (af (top 29) 5) "driftmeet.worlds" 583 370
noncomputable def vn:F:=tu #[(.str "self" 676),(.str "one" 677),(.str "other" 678)]
noncomputable def zO:F:=fp "has_way" "World.has_way" (af (top 29) 6)
noncomputable def t5:F:=cd (cp "has_way" 673 "World.has_way" 674 675 163 3 0 0 3 372 true 181 373 374 375 376 679 163 680)
noncomputable def xQ:F:=fo "has_way" "World.has_way" (af (top 29) 6) "driftmeet.worlds" 583 377
noncomputable def wx:F:=tu #[(.str "self" 685),(.str "hand" 686)]
noncomputable def AK:F:=fp "clock" "World.clock" (af (top 29) 7)
noncomputable def tU:F:=cd (cp "clock" 682 "World.clock" 683 684 166 2 0 0 3 379 true 181 380 381 382 383 687 166 688)
noncomputable def xh:F:=fo "clock" "World.clock" (af (top 29) 7) "driftmeet.worlds" 583 384
noncomputable def uX:F:=tu #[(.str "self" 693),(.str "one" 694),(.str "other" 695)]
noncomputable def Ap:F:=fp "way" "World.way" (af (top 29) 8)
noncomputable def tV:F:=cd (cp "way" 690 "World.way" 691 692 169 3 0 0 3 386 true 181 387 388 389 390 696 169 697)
noncomputable def vL:F:=fo "way" "World.way" (af (top 29) 8) "driftmeet.worlds" 583 391
noncomputable def vM:F:=tu #[(.str "kept_clocks" 699),(.str "kept_ways" 700)]
noncomputable def vS:F:=fun P=>⟨(.type "dict"),none,(.dict #[e P "__module__" 610 (.str "driftmeet.worlds" 583),e P "__firstlineno__" 614 (.int 128 613),e P "__init__" 629 (R 336),e P "enter_way" 640 (R 343),e P "refuse_hand" 648 (R 350),e P "refuse_pair" 657 (R 357),e P "hands" 664 (R 364),e P "has_hand" 672 (R 371),e P "has_way" 681 (R 378),e P "clock" 689 (R 385),e P "way" 698 (R 392),e P "__static_attributes__" 701 (R 393),e P "__dict__" 703 (R 396),e P "__weakref__" 705 (R 397),e P "__doc__" 706 .none] 4),#[]⟩
noncomputable def xl:F:=fun _=>⟨(.type "type"),none,(.cls ⟨"World",[(.type "object")],[(R 395),(.type "object")],394,"World",true,[],[],false,none,false⟩),#[none,none,some (.str "World" 603),some (.str "World" 611),some (.builtin "object.__new__"),some (.bool true)]⟩
noncomputable def tD:F:=fun _=>⟨(.type "getset_descriptor"),none,(.fields #[(.str "__dict__" 702),(R 395),(.builtin "function.__dict__"),(.builtin "function.__dict__#set")]),#[]⟩
noncomputable def uY:F:=fun _=>⟨(.type "getset_descriptor"),none,(.fields #[(.str "__weakref__" 704),(R 395),(.builtin "ExceptionGroup.__weakref__"),.none]),#[]⟩
noncomputable def Aa:F:=fun _=>⟨(.type "super"),none,(.fields #[(R 395),(R 395),(R 395)]),#[]⟩
noncomputable def zX:F:=bf "object.__init_subclass__" 395
noncomputable def tz:F:=tu #[(.str "_law_script" 714),(.str "_law_k" 715)]
noncomputable def AE:F:=fp "_law_cell_at" "_law_cell_at" (top 31)
noncomputable def t8:F:=cd (cp "_law_cell_at" 711 "_law_cell_at" 712 713 175 2 0 0 3 400 true 181 401 402 403 404 716 175 717)
noncomputable def tq:F:=fo "_law_cell_at" "_law_cell_at" (top 31) "law_driftmeet_k19_what_is_past" 709 405
noncomputable def yg:F:=tu #[(.str "_law_hands" 722),(.str "_law_cell" 723),(.str "_law_ways_here" 724),(.str "_law_number" 725),(.str "_law_one" 726),(.str "_law_other" 727)]
noncomputable def Bq:F:=fp "_law_ways" "_law_ways" (top 32)
noncomputable def uj:F:=cd (cp "_law_ways" 719 "_law_ways" 720 721 179 2 0 0 3 407 true 181 408 409 410 411 728 179 729)
noncomputable def vJ:F:=fo "_law_ways" "_law_ways" (top 32) "law_driftmeet_k19_what_is_past" 709 412
noncomputable def vP:F:=tu #[(.str "_law_here" 734),(.str "_law_reading" 735),(.str "_law_tos" 736),(.str "_law_letters" 737),(.str "_law_cell" 738),(.str "_law_kind" 739),(.str "_law_early" 740)]
noncomputable def BY:F:=fp "_law_row" "_law_row" (top 33)
noncomputable def tJ:F:=cd (cp "_law_row" 731 "_law_row" 732 733 188 5 0 0 3 414 true 181 415 416 417 418 741 188 742)
noncomputable def v9:F:=fo "_law_row" "_law_row" (top 33) "law_driftmeet_k19_what_is_past" 709 419
noncomputable def yx:F:=fp "_law_log" "_law_log" (top 34)
noncomputable def wZ:F:=cd (.fields #[(.str "_law_log" 744),(.str "_law_log" 745),(.str "/claim/cut.py" 746),(I 198),(I 3),(I 0),(I 0),(I 3),(R 421),(.bool true),(I 181),(R 422),.none,.none,.none,(R 423),(I 747),(I 198),(.str "/claim/cut.py" 748)])
noncomputable def vo:F:=fo "_law_log" "_law_log" (top 34) "law_driftmeet_k19_what_is_past" 709 424
noncomputable def wQ:F:=tu #[(.str "_law_log_here" 753),(.str "_law_many" 754),(.str "_law_found" 755),(.str "_law_row_here" 756)]
noncomputable def BU:F:=fp "_law_names" "_law_names" (top 35)
noncomputable def xO:F:=cd (cp "_law_names" 750 "_law_names" 751 752 217 1 0 0 3 426 true 181 427 428 429 430 757 217 758)
noncomputable def u3:F:=fo "_law_names" "_law_names" (top 35) "law_driftmeet_k19_what_is_past" 709 431
noncomputable def wK:F:=tu #[(.str "_law_counts_here" 763),(.str "_law_hands" 764),(.str "_law_there" 765),(.str "_law_hand" 766),(.str "_law_many" 767)]
noncomputable def yC:F:=fp "_law_counts" "_law_counts" (top 36)
noncomputable def wF:F:=cd (cp "_law_counts" 760 "_law_counts" 761 762 224 3 0 0 3 433 true 181 434 435 436 437 768 224 769)
noncomputable def wc:F:=fo "_law_counts" "_law_counts" (top 36) "law_driftmeet_k19_what_is_past" 709 438
noncomputable def wJ:F:=tu #[(.str "_law_log_here" 774),(.str "_law_there" 775),(.str "_law_name" 776),(.str "_law_counts_here" 777),(.str "_law_taken" 778),(.str "_law_sends" 779),(.str "_law_row_here" 780),(.str "_law_here" 781),(.str "_law_hand" 782),(.str "_law_k" 783),(.str "_law_last" 784)]
noncomputable def Bn:F:=fp "_law_right" "_law_right" (top 37)
noncomputable def vi:F:=cd (cp "_law_right" 771 "_law_right" 772 773 234 4 0 0 3 440 true 181 441 442 443 444 785 234 786)
noncomputable def xH:F:=fo "_law_right" "_law_right" (top 37) "law_driftmeet_k19_what_is_past" 709 445
noncomputable def tX:F:=tu #[(.str "_law_made" 791),(.str "_law_log_here" 792),(.str "_law_name" 793),(.str "_law_word" 794),(.str "e" 795)]
noncomputable def B1:F:=fp "_law_refused" "_law_refused" (top 38)
noncomputable def uh:F:=cd (cp "_law_refused" 788 "_law_refused" 789 790 252 3 0 0 3 447 true 181 448 449 450 451 796 252 797)
noncomputable def tL:F:=fo "_law_refused" "_law_refused" (top 38) "law_driftmeet_k19_what_is_past" 709 452
noncomputable def zy:F:=fp "law" "law" (top 39)
noncomputable def v8:F:=cd (.fields #[(.str "law" 799),(.str "law" 800),(.str "/claim/cut.py" 801),(I 261),(I 1),(I 0),(I 0),(I 3),(R 454),(.bool true),(I 181),(R 455),.none,.none,.none,(R 456),(I 802),(I 261),(.str "/claim/cut.py" 803)])
noncomputable def xC:F:=fo "law" "law" (top 39) "law_driftmeet_k19_what_is_past" 709 457
noncomputable def env:Env:={scope:=pw.main.scope,locals:=mainNs,globals:=mainNs,cells:=[],code:=(R 13),frame:=some 14}
noncomputable def bE:List Stmt:=behindTheImports pw
noncomputable def b(i:Nat):Stmt:=bE.getD i (.Pass ⟨0,0,0,0⟩)
noncomputable def cE:Code:=.body bE env
noncomputable def qF:List Frame:=[topFrame ⟨0,0,0,0⟩]
noncomputable def an:Option Value:=(some (R 6))
noncomputable def hA(P:Params):Heap:=⟨⟨[boot_o_0 P,boot_o_1 P,boot_o_2 P,boot_o_3 P,boot_o_4 P,boot_o_5 P,boot_o_6 P,boot_o_7 P,boot_o_8 P,boot_o_9 P,boot_o_10 P,o0 P,o1 P,o2 P,o3 P]⟩,{}⟩
noncomputable def sA(w:World)(os:OsState):Shared:=⟨hA w.params,⟨[]⟩,{},187,os⟩
noncomputable def t0:Params->W.BT:=(n boot_o_0 (n boot_o_1 (n boot_o_3 (l boot_o_7) (l o0)) (n boot_o_5 (l boot_o_9) (l o2))) (n boot_o_2 (n boot_o_4 (l boot_o_8) (l o1)) (n boot_o_6 (l boot_o_10) (l o3))))
noncomputable def s0(w:World)(os:OsState):SharedT:=⟨t0 w.params,15,{},⟨[]⟩,{},187,os⟩
noncomputable def t1:Params->W.BT:=(n boot_o_0 (n boot_o_1 (n o4 (n boot_o_7 (n o0 (n o16 (n o1 (l o77) z) (n o0 (l o0) z)) (n o20 (n o45 (l o87) z) (n o64 (l qP) z))) (n o11 (n o1 (n o20 (l o82) z) (n o11 (l xu) z)) (n o31 (n o1 (l o0) z) (n o71 (l rX) z)))) (n o0 (n o7 (n o20 (n o38 (l o1) z) (n o57 (l o0) z)) (n o1 (n o20 (l o0) z) (n o67 (l qI) z))) (n o13 (n o24 (n o1 (l o84) z) (n o62 (l o1) z)) (n o20 (n o52 (l o95) z) (n o75 (l wT) z))))) (n boot_o_5 (n boot_o_9 (n o6 (n o18 (n o37 (l o79) z) (n o56 (l o98) z)) (n o28 (n o47 (l o1) z) (n o65 (l o0) z))) (n o0 (n o23 (n o42 (l o0) z) (n o0 (l rP) z)) (n o33 (n o51 (l o93) z) (n o73 (l rQ) z)))) (n o2 (n o9 (n o21 (n o40 (l o0) z) (n o59 (l qU) z)) (n o30 (n o49 (l o90) z) (n o69 (l xB) z))) (n o0 (n o26 (n o44 (l o85) z) (n o0 (l o0) z)) (n o35 (n o54 (l o11) z) (l o76)))))) (n boot_o_2 (n boot_o_4 (n boot_o_8 (n o1 (n o17 (n o36 (l o78) z) (n o1 (l o97) z)) (n o11 (n o46 (l o0) z) (n o0 (l rR) z))) (n o12 (n o22 (n o11 (l o83) z) (n o60 (l rT) z)) (n o32 (n o50 (l o92) z) (n o72 (l qA) z)))) (n o5 (n o8 (n o11 (n o39 (l o80) z) (n o58 (l o1) z)) (n o29 (n o11 (l o89) z) (n o68 (l o0) z))) (n o14 (n o25 (n o43 (l o0) z) (n o63 (l qg) z)) (n o11 (n o53 (l o75) z) (n o11 (l xj) z))))) (n boot_o_6 (n boot_o_10 (n o0 (n o19 (n o0 (l o0) z) (n o0 (l o99) z)) (n o0 (n o48 (l o88) z) (n o66 (l o1) z))) (n o1 (n o0 (n o0 (l o1) z) (n o61 (l o0) z)) (n o34 (n o0 (l o94) z) (n o74 (l ra) z)))) (n o3 (n o10 (n o0 (n o41 (l o81) z) (n o0 (l o0) z)) (n o0 (n o0 (l o91) z) (n o70 (l qO) z))) (n o15 (n o27 (n o0 (l o86) z) (n o1 (l ux) z)) (n o0 (n o55 (l o96) z) (l o0)))))))
noncomputable def s1(w:World)(os:OsState):SharedT:=⟨t1 w.params,189,{},⟨[]⟩,{},422,os⟩
noncomputable def t2:Params->W.BT:=(n boot_o_0 (n boot_o_1 (n xf (n boot_o_7 (n o0 (n o16 (n o1 (n o77 (l o0) (l AK)) (n zL (l o0) (l o0))) (n o0 (n o0 (l uD) (l o1)) (n o11 (l o0) z))) (n o20 (n o45 (n o87 (l B3) (l zX)) (n zk (l wz) z)) (n o64 (n qP (l o1) (l xO)) (n o0 (l we) z)))) (n o11 (n o1 (n o20 (n o82 (l o0) (l tV)) (n o0 (l Aw) (l o1))) (n o11 (n xu (l o0) (l yx)) (n wu (l o1) z))) (n o31 (n o1 (n o0 (l w5) (l o0)) (n uP (l tM) z)) (n o71 (n rX (l ug) (l wc)) (n Bb (l o0) z))))) (n o0 (n o7 (n o20 (n o38 (n o1 (l uk) (l o1)) (n BO (l o0) (l B1))) (n o57 (n o0 (l o0) (l tJ)) (n zp (l yF) z))) (n o1 (n o20 (n o0 (l o1) (l o0)) (n o1 (l tI) z)) (n o67 (n qI (l wC) (l wK)) (n o0 (l vZ) z)))) (n o13 (n o24 (n o1 (n o84 (l o0) (l xl)) (n o0 (l o1) z)) (n o62 (n o1 (l BP) (l o1)) (n xw (l vC) z))) (n o20 (n o52 (n o95 (l xE) (l Bq)) (n tG (l o0) z)) (n o75 (n wT (l sP) (l o0)) (n v6 (l o0) z)))))) (n boot_o_5 (n boot_o_9 (n o6 (n o18 (n o37 (n o79 (l zt) (l xh)) (n AN (l uS) (l tX))) (n o56 (n o98 (l o1) (l o0)) (n o0 (l t9) z))) (n o28 (n o47 (n o1 (l wI) (l o1)) (n wk (l o0) z)) (n o65 (n o0 (l o0) (l o0)) (n tP (l yH) z)))) (n o0 (n o23 (n o42 (n o0 (l xI) (l vM)) (n sU (l zH) (l v8))) (n o0 (n rP (l vU) (l vo)) (n zd (l o0) z))) (n o33 (n o51 (n o93 (l o0) (l yg)) (n uO (l o1) z)) (n o73 (n rQ (l yU) (l o1)) (n uG (l t5) z))))) (n o2 (n o9 (n o21 (n o40 (n o0 (l o1) (l o0)) (n o1 (l Bo) (l tL))) (n o59 (n qU (l ww) (l o0)) (n o0 (l xU) z))) (n o30 (n o49 (n o90 (l o0) (l t8)) (n o0 (l AO) z)) (n o69 (n xB (l o0) (l yC)) (n wU (l o1) z)))) (n o0 (n o26 (n o44 (n o85 (l vt) (l uY)) (n ve (l o0) z)) (n o0 (n o0 (l vd) (l o0)) (n o1 (l o0) z))) (n o35 (n o54 (n o11 (l zn) (l vJ)) (n Bv (l vj) z)) (n o76 (n o75 (l o1) (l vi)) (n yr (l wx) z))))))) (n boot_o_2 (n boot_o_4 (n boot_o_8 (n o1 (n o17 (n o36 (n o78 (l o1) (l tU)) (n o0 (l zq) (l o1))) (n o1 (n o97 (l o0) (l vP)) (n yy (l o1) z))) (n o11 (n o46 (n o0 (l yb) (l o0)) (n xz (l sR) z)) (n o0 (n rR (l xo) (l u3)) (n BZ (l o0) z)))) (n o12 (n o22 (n o11 (n o83 (l zD) (l vL)) (n yw (l Ab) (l zy))) (n o60 (n rT (l o1) (l wZ)) (n o0 (l wm) z))) (n o32 (n o50 (n o92 (l sZ) (l o1)) (n vT (l o0) z)) (n o72 (n qA (l o0) (l o0)) (n vv (l zO) z))))) (n Bp (n o8 (n o11 (n o39 (n o80 (l o0) (l uX)) (n o0 (l o11) (l uh))) (n o58 (n o1 (l yR) (l v9)) (n zi (l vR) z))) (n o29 (n o11 (n o89 (l tT) (l AE)) (n uN (l o0) z)) (n o68 (n o0 (l uK) (l o0)) (n o1 (l o0) z)))) (n o14 (n o25 (n o43 (n o0 (l o1) (l tD)) (n o1 (l u6) z)) (n o63 (n qg (l vX) (l wQ)) (n o0 (l ya) z))) (n o11 (n o53 (n o75 (l o0) (l uj)) (n yt (l Cc) z)) (n o11 (n xj (l o0) (l Bn)) (n vw (l o1) z)))))) (n boot_o_6 (n boot_o_10 (n o0 (n o19 (n o0 (n o0 (l vq) (l o0)) (n Cb (l wf) (l o0))) (n o0 (n o99 (l va) (l BY)) (n zF (l o0) z))) (n o0 (n o48 (n o88 (l o0) (l tz)) (n o0 (l o1) z)) (n o66 (n o1 (l zc) (l o1)) (n uV (l wP) z)))) (n o1 (n o0 (n o0 (n o1 (l ud) (l vS)) (n wo (l o0) (l xC))) (n o61 (n o0 (l o0) (l o0)) (n uI (l zu) z))) (n o34 (n o0 (n o94 (l o1) (l o0)) (n uQ (l xT) z)) (n o74 (n ra (l xb) (l wJ)) (n xS (l xQ) z))))) (n o3 (n o10 (n o0 (n o41 (n o81 (l tE) (l Ap)) (n sY (l o0) (l o0))) (n o0 (n o0 (l xk) (l o1)) (n o1 (l o0) z))) (n o0 (n o0 (n o91 (l yS) (l tq)) (n A9 (l xM) z)) (n wM (n qO (l o1) (l wF)) (n o0 (l vn) z)))) (n o15 (n o27 (n o0 (n o86 (l o0) (l Aa)) (n o0 (l Ca) z)) (n o1 (n ux (l o0) (l BU)) (n uz (l o1) z))) (n o0 (n o55 (n o96 (l sQ) (l o0)) (n o75 (l xN) z)) (n o0 (n o11 (l xa) (l xH)) (n BF (l o0) z))))))))
noncomputable def s2(w:World)(os:OsState):SharedT:=⟨t2 w.params,459,{},⟨[]⟩,{},805,os⟩
noncomputable def t3:Params->W.BT:=(n boot_o_0 (n boot_o_1 (n xf (n boot_o_7 (n o0 (n o16 (n o1 (n o77 (l o0) (l AK)) (n zL (l o0) (l o0))) (n o0 (n o0 (l uD) (l o1)) (n o11 (l o0) z))) (n o20 (n o45 (n o87 (l B3) (l zX)) (n zk (l wz) z)) (n o64 (n qP (l o1) (l xO)) (n o0 (l we) z)))) (n o11 (n o1 (n o20 (n o82 (l o0) (l tV)) (n o0 (l Aw) (l o1))) (n o11 (n xu (l o0) (l yx)) (n wu (l o1) z))) (n o31 (n o1 (n o0 (l w5) (l o0)) (n uP (l tM) z)) (n o71 (n rX (l ug) (l wc)) (n Bb (l o0) z))))) (n o0 (n o7 (n o20 (n o38 (n o1 (l uk) (l o1)) (n BO (l o0) (l B1))) (n o57 (n o0 (l o0) (l tJ)) (n zp (l yF) z))) (n o1 (n o20 (n o0 (l o1) (l o0)) (n o1 (l tI) z)) (n o67 (n qI (l wC) (l wK)) (n o0 (l vZ) z)))) (n o13 (n o24 (n o1 (n o84 (l o0) (l xl)) (n o0 (l o1) z)) (n o62 (n o1 (l BP) (l o1)) (n xw (l vC) z))) (n o20 (n o52 (n o95 (l xE) (l Bq)) (n tG (l o0) z)) (n o75 (n wT (l sP) (l o0)) (n v6 (l o0) z)))))) (n boot_o_5 (n boot_o_9 (n o6 (n o18 (n o37 (n o79 (l zt) (l xh)) (n AN (l uS) (l tX))) (n o56 (n o98 (l o1) (l o0)) (n o0 (l t9) z))) (n o28 (n o47 (n o1 (l wI) (l o1)) (n wk (l o0) z)) (n o65 (n o0 (l o0) (l o0)) (n tP (l yH) z)))) (n o0 (n o23 (n o42 (n o0 (l xI) (l vM)) (n sU (l zH) (l v8))) (n o0 (n rP (l vU) (l vo)) (n zd (l o0) z))) (n o33 (n o51 (n o93 (l o0) (l yg)) (n uO (l o1) z)) (n o73 (n rQ (l yU) (l o1)) (n uG (l t5) z))))) (n o2 (n o9 (n o21 (n o40 (n o0 (l o1) (l o0)) (n o1 (l Bo) (l tL))) (n o59 (n qU (l ww) (l o0)) (n o0 (l xU) z))) (n o30 (n o49 (n o90 (l o0) (l t8)) (n o0 (l AO) z)) (n o69 (n xB (l o0) (l yC)) (n wU (l o1) z)))) (n o0 (n o26 (n o44 (n o85 (l vt) (l uY)) (n ve (l o0) z)) (n o0 (n o0 (l vd) (l o0)) (n o1 (l o0) z))) (n o35 (n o54 (n o11 (l zn) (l vJ)) (n Bv (l vj) z)) (n o76 (n o75 (l o1) (l vi)) (n yr (l wx) z))))))) (n boot_o_2 (n boot_o_4 (n boot_o_8 (n o1 (n o17 (n o36 (n o78 (l o1) (l tU)) (n o0 (l zq) (l o1))) (n o1 (n o97 (l o0) (l vP)) (n yy (l o1) z))) (n o11 (n o46 (n o0 (l yb) (l o0)) (n xz (l sR) z)) (n o0 (n rR (l xo) (l u3)) (n BZ (l o0) z)))) (n o12 (n o22 (n o11 (n o83 (l zD) (l vL)) (n yw (l Ab) (l zy))) (n o60 (n rT (l o1) (l wZ)) (n o0 (l wm) z))) (n o32 (n o50 (n o92 (l sZ) (l o1)) (n vT (l o0) z)) (n o72 (n qA (l o0) (l o0)) (n vv (l zO) z))))) (n Bp (n o8 (n o11 (n o39 (n o80 (l o0) (l uX)) (n o0 (l o11) (l uh))) (n o58 (n o1 (l yR) (l v9)) (n zi (l vR) z))) (n o29 (n o11 (n o89 (l tT) (l AE)) (n uN (l o0) z)) (n o68 (n o0 (l uK) (l o0)) (n o1 (l o0) z)))) (n o14 (n o25 (n o43 (n o0 (l o1) (l tD)) (n o1 (l u6) z)) (n o63 (n qg (l vX) (l wQ)) (n o0 (l ya) z))) (n o11 (n o53 (n o75 (l o0) (l uj)) (n yt (l Cc) z)) (n o11 (n xj (l o0) (l Bn)) (n vw (l o1) z)))))) (n boot_o_6 (n boot_o_10 (n o0 (n o19 (n o0 (n o0 (l vq) (l o0)) (n Cb (l wf) (l o0))) (n o0 (n o99 (l va) (l BY)) (n zF (l o0) z))) (n o0 (n o48 (n o88 (l o0) (l tz)) (n o0 (l o1) z)) (n o66 (n o1 (l zc) (l o1)) (n uV (l wP) z)))) (n o1 (n o0 (n o0 (n o1 (l ud) (l vS)) (n wo (l o0) (l xC))) (n o61 (n o0 (l o0) (l o0)) (n uI (l zu) z))) (n o34 (n o0 (n o94 (l o1) (l o0)) (n uQ (l xT) z)) (n o74 (n ra (l xb) (l wJ)) (n xS (l xQ) z))))) (n o3 (n o10 (n o0 (n o41 (n o81 (l tE) (l Ap)) (n sY (l o0) (l o0))) (n o0 (n o0 (l xk) (l o1)) (n o1 (l o0) z))) (n o0 (n o0 (n o91 (l yS) (l tq)) (n A9 (l xM) z)) (n wM (n qO (l o1) (l wF)) (n o0 (l vn) z)))) (n o15 (n o27 (n o0 (n o86 (l o0) (l Aa)) (n o0 (l Ca) z)) (n o1 (n ux (l o0) (l BU)) (n uz (l o1) z))) (n o0 (n o55 (n o96 (l sQ) (l o0)) (n o75 (l xN) z)) (n o0 (n o11 (l xa) (l xH)) (n BF (l o0) z))))))))
noncomputable def s3(w:World)(os:OsState):SharedT:=⟨t3 w.params,459,{},⟨[]⟩,{},805,os⟩
theorem pre:∀w:World,(fun os=>topGo treeTable pw w 11 an 12 ⟨boot_heap w.params,⟨[]⟩,boot_drawn,boot_toks,os⟩ (topStub pw))=fun os=>some (sA w os,⟨denote treeTable cE,cE,⟨0,0,0,0⟩,qF⟩):=fun w=>by kernel_rfl
theorem blk:∀w:World,(fun os=>segRun treeTable pw w 11 an 1 1 (sA w os) (blockOf bE env cE ⟨0,0,0,0⟩ qF))=fun os=>some (.next,(s0 w os).abs,cE,⟨0,0,0,0⟩):=fun w=>by kernel_rfl
noncomputable def g0:List Stmt:=[b 0,b 1,b 2,b 3,b 4,b 5,b 6,b 7,b 8,b 9,b 10,b 11,b 12,b 13]
theorem p0:∀w:World,(fun os=>segRunT treeTable pw w 11 an 1 2183 (s0 w os) (piecesOf g0 env cE ⟨0,0,0,0⟩ qF))=fun os=>some (.next,s1 w os,cE,⟨36,0,47,16⟩):=fun w=>by kernel_rfl
noncomputable def g1:List Stmt:=[b 14,b 15,b 16,b 17,b 18,b 19,b 20,b 21,b 22,b 23,b 24,b 25,b 26,b 27,b 28,b 29,b 30,b 31,b 32,b 33,b 34,b 35,b 36,b 37,b 38,b 39]
theorem p1:∀w:World,(fun os=>segRunT treeTable pw w 11 an 1 1745 (s1 w os) (piecesOf g1 env cE ⟨36,0,47,16⟩ qF))=fun os=>some (.next,s2 w os,cE,⟨261,0,277,135⟩):=fun w=>by kernel_rfl
theorem fin:∀w:World,(fun os=>topRun treeTable pw w 11 an 2 (s2 w os).abs (restOf [] env cE ⟨261,0,277,135⟩ qF))=fun os=>some (s3 w os).abs:=fun w=>by kernel_rfl
theorem BR:bE=g0++(g1++([])):=by kernel_rfl
theorem EQ(w:World)(os:OsState):topRun treeTable pw w 11 an (2183+(1745+(2))) (s0 w os).abs (restOf (g0++(g1++([]))) env cE ⟨0,0,0,0⟩ qF)=some (s3 w os).abs:=piece_app (segRun_of (congrFun (p0 w) os)) (piece_app (segRun_of (congrFun (p1 w) os)) (congrFun (fin w) os))
theorem run(w:World)(os:OsState):topRun treeTable pw w 11 an (12+(1+(2183+(1745+(2))))) ⟨boot_heap w.params,⟨[]⟩,boot_drawn,boot_toks,os⟩ (topStub pw)=some (s3 w os).abs:=go_top (congrFun (pre w) os) (piece_block (congrFun (blk w) os) (by rw[BR];exact EQ w os))
noncomputable def view:Program:={pw with main:={pw.main with body:=[top 39]}}
noncomputable def loose:List Str:=(["_wall","DriftError","NoHand","NoClock","NoWay","NoHappening","NoName","is_whole","Happening","Look","Sight","Send","Take","are_wholes","is_letter","happening","count_on","names","place","count_letter","past","MOST_HANDS","refuse_clock","refuse_lengths","World","_law_cell_at","_law_ways","_law_row","_law_log","_law_names","_law_counts","_law_right","_law_refused"]:List String).map Str.ofString
noncomputable def K(P:Params):Frag:=(nat_lit 2,boot_o_2 P)::(nat_lit 3,xf P)::(nat_lit 15,o0 P)::(nat_lit 17,o6 P)::(nat_lit 18,o0 P)::(nat_lit 20,o8 P)::(nat_lit 21,o9 P)::(nat_lit 22,o10 P)::(nat_lit 29,o0 P)::(nat_lit 30,o15 P)::(nat_lit 31,o16 P)::(nat_lit 32,o17 P)::(nat_lit 35,o20 P)::(nat_lit 42,o0 P)::(nat_lit 43,o24 P)::(nat_lit 44,o25 P)::(nat_lit 47,o20 P)::(nat_lit 54,o0 P)::(nat_lit 55,o31 P)::(nat_lit 56,o32 P)::(nat_lit 59,o20 P)::(nat_lit 66,o0 P)::(nat_lit 67,o38 P)::(nat_lit 68,o39 P)::(nat_lit 71,o20 P)::(nat_lit 78,o0 P)::(nat_lit 79,o45 P)::(nat_lit 80,o46 P)::(nat_lit 83,o20 P)::(nat_lit 90,o0 P)::(nat_lit 91,o52 P)::(nat_lit 92,o53 P)::(nat_lit 95,o0 P)::(nat_lit 97,o56 P)::(nat_lit 98,o0 P)::(nat_lit 100,o58 P)::(nat_lit 101,o59 P)::(nat_lit 109,o0 P)::(nat_lit 111,o64 P)::(nat_lit 112,o0 P)::(nat_lit 114,o66 P)::(nat_lit 115,o67 P)::(nat_lit 116,o68 P)::(nat_lit 117,o69 P)::(nat_lit 118,wM P)::(nat_lit 119,o71 P)::(nat_lit 120,o72 P)::(nat_lit 123,o75 P)::(nat_lit 130,o0 P)::(nat_lit 132,o80 P)::(nat_lit 133,o0 P)::(nat_lit 135,o82 P)::(nat_lit 136,o83 P)::(nat_lit 137,o0 P)::(nat_lit 139,o84 P)::(nat_lit 140,o0 P)::(nat_lit 142,o86 P)::(nat_lit 143,o87 P)::(nat_lit 144,o0 P)::(nat_lit 146,o88 P)::(nat_lit 147,o0 P)::(nat_lit 149,o90 P)::(nat_lit 150,o91 P)::(nat_lit 151,o0 P)::(nat_lit 152,o92 P)::(nat_lit 153,o93 P)::(nat_lit 156,o75 P)::(nat_lit 163,o0 P)::(nat_lit 165,qU P)::(nat_lit 166,o0 P)::(nat_lit 168,rT P)::(nat_lit 169,rP P)::(nat_lit 170,o0 P)::(nat_lit 172,qg P)::(nat_lit 173,o0 P)::(nat_lit 175,qP P)::(nat_lit 176,rR P)::(nat_lit 177,o0 P)::(nat_lit 179,qI P)::(nat_lit 180,o0 P)::(nat_lit 182,qO P)::(nat_lit 183,rX P)::(nat_lit 184,qA P)::(nat_lit 185,rQ P)::(nat_lit 186,ra P)::(nat_lit 189,o75 P)::(nat_lit 196,o0 P)::(nat_lit 198,sY P)::(nat_lit 199,o0 P)::(nat_lit 201,sU P)::(nat_lit 202,wo P)::(nat_lit 203,o0 P)::(nat_lit 205,ve P)::(nat_lit 206,o0 P)::(nat_lit 208,xz P)::(nat_lit 209,wk P)::(nat_lit 210,o0 P)::(nat_lit 212,uN P)::(nat_lit 213,o0 P)::(nat_lit 215,uP P)::(nat_lit 216,vT P)::(nat_lit 217,uO P)::(nat_lit 218,uQ P)::(nat_lit 219,tG P)::(nat_lit 222,o75 P)::(nat_lit 229,o0 P)::(nat_lit 231,wu P)::(nat_lit 232,o0 P)::(nat_lit 234,uI P)::(nat_lit 235,xw P)::(nat_lit 236,o0 P)::(nat_lit 238,uz P)::(nat_lit 239,o0 P)::(nat_lit 241,tP P)::(nat_lit 242,uV P)::(nat_lit 243,o0 P)::(nat_lit 245,wU P)::(nat_lit 246,o0 P)::(nat_lit 248,vv P)::(nat_lit 249,uG P)::(nat_lit 250,xS P)::(nat_lit 251,v6 P)::(nat_lit 252,vw P)::(nat_lit 255,o0 P)::(nat_lit 258,vq P)::(nat_lit 259,uk P)::(nat_lit 260,o0 P)::(nat_lit 262,tE P)::(nat_lit 263,o0 P)::(nat_lit 265,xI P)::(nat_lit 266,ud P)::(nat_lit 267,o0 P)::(nat_lit 269,vt P)::(nat_lit 270,o0 P)::(nat_lit 272,yb P)::(nat_lit 273,wI P)::(nat_lit 274,o0 P)::(nat_lit 276,tT P)::(nat_lit 277,o0 P)::(nat_lit 279,w5 P)::(nat_lit 280,sZ P)::(nat_lit 281,o0 P)::(nat_lit 283,xE P)::(nat_lit 284,o0 P)::(nat_lit 286,sQ P)::(nat_lit 287,uD P)::(nat_lit 288,o0 P)::(nat_lit 290,va P)::(nat_lit 291,o0 P)::(nat_lit 293,ww P)::(nat_lit 294,xk P)::(nat_lit 295,o0 P)::(nat_lit 297,vU P)::(nat_lit 298,o0 P)::(nat_lit 300,vX P)::(nat_lit 301,vd P)::(nat_lit 302,o0 P)::(nat_lit 304,xo P)::(nat_lit 305,o0 P)::(nat_lit 307,wC P)::(nat_lit 308,uK P)::(nat_lit 309,o0 P)::(nat_lit 311,ug P)::(nat_lit 312,o0 P)::(nat_lit 314,xb P)::(nat_lit 315,sP P)::(nat_lit 316,o0 P)::(nat_lit 318,xa P)::(nat_lit 319,o0 P)::(nat_lit 321,uS P)::(nat_lit 322,wf P)::(nat_lit 330,o0 P)::(nat_lit 332,u6 P)::(nat_lit 333,o0 P)::(nat_lit 335,wz P)::(nat_lit 336,sR P)::(nat_lit 337,o0 P)::(nat_lit 339,tI P)::(nat_lit 340,o0 P)::(nat_lit 342,xM P)::(nat_lit 343,tM P)::(nat_lit 344,o0 P)::(nat_lit 346,xT P)::(nat_lit 347,o0 P)::(nat_lit 349,vj P)::(nat_lit 350,xN P)::(nat_lit 351,o0 P)::(nat_lit 353,t9 P)::(nat_lit 354,o0 P)::(nat_lit 356,vR P)::(nat_lit 357,xU P)::(nat_lit 358,o0 P)::(nat_lit 360,wm P)::(nat_lit 361,o0 P)::(nat_lit 363,vC P)::(nat_lit 364,ya P)::(nat_lit 365,o0 P)::(nat_lit 367,we P)::(nat_lit 368,o0 P)::(nat_lit 370,wP P)::(nat_lit 371,vZ P)::(nat_lit 372,o0 P)::(nat_lit 374,vn P)::(nat_lit 375,o0 P)::(nat_lit 377,t5 P)::(nat_lit 378,xQ P)::(nat_lit 379,o0 P)::(nat_lit 381,wx P)::(nat_lit 382,o0 P)::(nat_lit 384,tU P)::(nat_lit 385,xh P)::(nat_lit 386,o0 P)::(nat_lit 388,uX P)::(nat_lit 389,o0 P)::(nat_lit 391,tV P)::(nat_lit 392,vL P)::(nat_lit 393,vM P)::(nat_lit 394,vS P)::(nat_lit 395,xl P)::(nat_lit 396,tD P)::(nat_lit 397,uY P)::(nat_lit 400,o0 P)::(nat_lit 402,tz P)::(nat_lit 403,o0 P)::(nat_lit 405,t8 P)::(nat_lit 406,tq P)::(nat_lit 407,o0 P)::(nat_lit 409,yg P)::(nat_lit 410,o0 P)::(nat_lit 412,uj P)::(nat_lit 413,vJ P)::(nat_lit 414,o0 P)::(nat_lit 416,vP P)::(nat_lit 417,o0 P)::(nat_lit 419,tJ P)::(nat_lit 420,v9 P)::(nat_lit 421,o0 P)::(nat_lit 424,wZ P)::(nat_lit 425,vo P)::(nat_lit 426,o0 P)::(nat_lit 428,wQ P)::(nat_lit 429,o0 P)::(nat_lit 431,xO P)::(nat_lit 432,u3 P)::(nat_lit 433,o0 P)::(nat_lit 435,wK P)::(nat_lit 436,o0 P)::(nat_lit 438,wF P)::(nat_lit 439,wc P)::(nat_lit 440,o0 P)::(nat_lit 442,wJ P)::(nat_lit 443,o0 P)::(nat_lit 445,vi P)::(nat_lit 446,xH P)::(nat_lit 447,o0 P)::(nat_lit 449,tX P)::(nat_lit 450,o0 P)::(nat_lit 452,uh P)::(nat_lit 453,tL P)::(nat_lit 454,o0 P)::(nat_lit 457,v8 P)::(nat_lit 458,xC P)::[]
noncomputable def as:List Addr:=[2,3,15,17,18,20,21,22,29,30,31,32,35,42,43,44,47,54,55,56,59,66,67,68,71,78,79,80,83,90,91,92,95,97,98,100,101,109,111,112,114,115,116,117,118,119,120,123,130,132,133,135,136,137,139,140,142,143,144,146,147,149,150,151,152,153,156,163,165,166,168,169,170,172,173,175,176,177,179,180,182,183,184,185,186,189,196,198,199,201,202,203,205,206,208,209,210,212,213,215,216,217,218,219,222,229,231,232,234,235,236,238,239,241,242,243,245,246,248,249,250,251,252,255,258,259,260,262,263,265,266,267,269,270,272,273,274,276,277,279,280,281,283,284,286,287,288,290,291,293,294,295,297,298,300,301,302,304,305,307,308,309,311,312,314,315,316,318,319,321,322,330,332,333,335,336,337,339,340,342,343,344,346,347,349,350,351,353,354,356,357,358,360,361,363,364,365,367,368,370,371,372,374,375,377,378,379,381,382,384,385,386,388,389,391,392,393,394,395,396,397,400,402,403,405,406,407,409,410,412,413,414,416,417,419,420,421,424,425,426,428,429,431,432,433,435,436,438,439,440,442,443,445,446,447,449,450,452,453,454,457,458]
theorem as_eq:∀P,as=(K P).map (·.1):=fun P=>by kernel_rfl
noncomputable def h1(P:Params):Heap:=absHeap (t3 P) 459 {}
noncomputable def f1(w:World)(os:OsState):Shared:=⟨h1 w.params,⟨[]⟩,{},805,os⟩
noncomputable def Xt(s:Shared):Bool:=xlAt view [] s&&recOk (RowW.records PySem.Challenge.rw_driftmeet_k19_what_is_past.row.toRowW) s
theorem lk1:∀w:World,(fun os=>(staticsOk (importedModules pw.main.body) (boot_heap w.params) (h1 w.params)&&namesBound pw (h1 w.params)&&gensDone (f1 w os)&&laidKept (boot_heap w.params) (h1 w.params)))=fun _=>true:=fun w=>by kernel_rfl
theorem lk2:∀w:World,(fun os=>openSeen view loose (importedModules pw.main.body) Xt true (f1 w os))=fun _=>openGood view loose:=fun w=>by kernel_rfl
theorem lk3:∀w:World,(fun os=>(Hook.obs (kHook K as as_eq)) (f1 w os))=fun _=>(Hook.val (kHook K as as_eq)) w:=fun w=>by kernel_rfl
theorem left:LeftO pw view loose Xt (Hook.obs (kHook K as as_eq)) (Hook.val (kHook K as as_eq)) 7978:=LeftO.of_pieces (boot_open (by kernel_rfl) (by decide) (fun s=>by kernel_rfl)) (H₀:=boot_heap) (H₁:=h1) (gs₀:=⟨[]⟩) (m₀:=11) (ann:=an) (M:=12+(1+(2183+(1745+(2))))) (fun w=>by kernel_rfl) (fun w os=>run w os) (by decide) fun w=>funext fun os=>looks_pair (congrFun (lk1 w) os) (looks_pair (congrFun (lk2 w) os) (congrFun (lk3 w) os))
end HD
namespace G
open PySem L2
noncomputable def top(i:Nat):Stmt:=PySem.Challenge.pw_driftmeet_k19_what_is_past.main.body.getD i (.Pass ⟨0,0,0,0⟩)
noncomputable def cT:ISs:=.cons (.ret (.and (.isB (.var 0) .int) (.not (.isB (.var 0) .bool)))) (.nil)
noncomputable def aq:ISs:=.cons (.fset (.var 0) 211529960 (.var 1)) (.cons (.fset (.var 0) 456806758904562 (.var 2)) (.nil))
noncomputable def bG:ISs:=.cons (.expr (.ini 0 (.cons (.var 0) (.cons (.var 1) (.cons (.var 2) (.nil)))))) (.nil)
noncomputable def hU:ISs:=.cons (.ret (.tup (.cons (.con (.str "look")) (.cons (.fld (.var 0) 211529960) (.cons (.fld (.var 0) 456806758904562) (.nil)))))) (.nil)
noncomputable def bn:ISs:=.cons (.expr (.ini 0 (.cons (.var 0) (.cons (.var 1) (.cons (.var 2) (.nil)))))) (.cons (.fset (.var 0) 32709062885 (.var 3)) (.cons (.fset (.var 0) 213725420 (.var 4)) (.nil)))
noncomputable def fO:ISs:=.cons (.ret (.tup (.cons (.con (.str "sight")) (.cons (.fld (.var 0) 211529960) (.cons (.fld (.var 0) 456806758904562) (.cons (.fld (.var 0) 32709062885) (.cons (.fld (.var 0) 213725420) (.nil)))))))) (.nil)
noncomputable def bI:ISs:=.cons (.expr (.ini 0 (.cons (.var 0) (.cons (.var 1) (.cons (.var 2) (.nil)))))) (.cons (.fset (.var 0) 14324 (.var 3)) (.nil))
noncomputable def gM:ISs:=.cons (.ret (.tup (.cons (.con (.str "send")) (.cons (.fld (.var 0) 211529960) (.cons (.fld (.var 0) 456806758904562) (.cons (.fld (.var 0) 14324) (.nil))))))) (.nil)
noncomputable def bJ:ISs:=.cons (.expr (.ini 0 (.cons (.var 0) (.cons (.var 1) (.cons (.var 2) (.nil)))))) (.cons (.fset (.var 0) 3944367338220 (.var 3)) (.nil))
noncomputable def g9:ISs:=.cons (.ret (.tup (.cons (.con (.str "take")) (.cons (.fld (.var 0) 211529960) (.cons (.fld (.var 0) 456806758904562) (.cons (.fld (.var 0) 3944367338220) (.nil))))))) (.nil)
noncomputable def b8:ISs:=.cons (.ret (.and (.cmp .Eq (.bi .len (.cons (.var 0) (.nil))) (.var 1)) (.bi .all (.cons (.comp true ["thing"] [none] (.name 0) (.seq (.var 0)) (.no) (.call 0 (.cons (.var 0) (.nil)))) (.nil))))) (.nil)
noncomputable def cu:ISs:=.cons (.ret (.and (.isB (.var 0) .tuple) (.call 10 (.cons (.var 0) (.cons (.con (.int 2)) (.nil)))))) (.nil)
noncomputable def aQ:ISs:=.cons (.ifs (.or (.not (.val (.isB (.var 0) .tuple))) (.cmp .Eq (.bi .len (.cons (.var 0) (.nil))) (.con (.int 0)))) (.cons (.raise 4 (.cons (.con (.str "a row is a tuple that begins with a word")) (.nil))) (.nil)) (.nil)) (.cons (.set 1 (.ix (.var 0) (.con (.int 0)))) (.cons (.ifs (.and (.cmp .Eq (.var 1) (.con (.str "look"))) (.val (.call 10 (.cons (.sl true (.var 0) (.yes (.con (.int 1))) (.no)) (.cons (.con (.int 2)) (.nil)))))) (.cons (.ret (.make true 1 (.cons (.ix (.var 0) (.con (.int 1))) (.cons (.ix (.var 0) (.con (.int 2))) (.nil))))) (.nil)) (.nil)) (.cons (.ifs (.and (.cmp .Eq (.var 1) (.con (.str "sight"))) (.val (.call 10 (.cons (.sl true (.var 0) (.yes (.con (.int 1))) (.no)) (.cons (.con (.int 4)) (.nil)))))) (.cons (.ret (.make true 2 (.cons (.ix (.var 0) (.con (.int 1))) (.cons (.ix (.var 0) (.con (.int 2))) (.cons (.ix (.var 0) (.con (.int 3))) (.cons (.ix (.var 0) (.con (.int 4))) (.nil))))))) (.nil)) (.nil)) (.cons (.ifs (.and (.cmp .Eq (.var 1) (.con (.str "send"))) (.val (.call 10 (.cons (.sl true (.var 0) (.yes (.con (.int 1))) (.no)) (.cons (.con (.int 3)) (.nil)))))) (.cons (.ret (.make true 3 (.cons (.ix (.var 0) (.con (.int 1))) (.cons (.ix (.var 0) (.con (.int 2))) (.cons (.ix (.var 0) (.con (.int 3))) (.nil)))))) (.nil)) (.nil)) (.cons (.ifs (.and (.cmp .Eq (.var 1) (.con (.str "take"))) (.and (.val (.call 10 (.cons (.sl true (.var 0) (.yes (.con (.int 1))) (.yes (.con (.int 3)))) (.cons (.con (.int 2)) (.nil))))) (.and (.cmp .Eq (.bi .len (.cons (.var 0) (.nil))) (.con (.int 4))) (.val (.call 11 (.cons (.ix (.var 0) (.con (.int 3))) (.nil))))))) (.cons (.ret (.make true 4 (.cons (.ix (.var 0) (.con (.int 1))) (.cons (.ix (.var 0) (.con (.int 2))) (.cons (.ix (.var 0) (.con (.int 3))) (.nil)))))) (.nil)) (.nil)) (.cons (.raise 4 (.cons (.con (.str "the row tells none of the four kinds")) (.nil))) (.nil)))))))
noncomputable def cM:ISs:=.cons (.set 2 (.bm .get (.var 0) (.cons (.var 1) (.cons (.con (.int 0)) (.nil))))) (.cons (.ixset (.var 0) (.var 1) (.bin .Add (.var 2) (.con (.int 1)))) (.cons (.ret (.tup (.cons (.var 1) (.cons (.var 2) (.nil))))) (.nil)))
noncomputable def cO:ISs:=.cons (.app (.var 2) (.call 13 (.cons (.var 1) (.cons (.ix (.var 3) (.con (.int 1))) (.nil))))) (.nil)
noncomputable def f8:ISs:=.cons (.set 1 (.dnew false)) (.cons (.set 2 (.lst false (.nil))) (.cons (.for_ (.name 3) (.seq (.var 0)) cO) (.cons (.ret (.frz (.var 2))) (.nil))))
noncomputable def bz:ISs:=.cons (.ifs (.cmp .Eq (.var 3) (.var 1)) (.cons (.ret (.var 2)) (.nil)) (.nil)) (.nil)
noncomputable def eI:ISs:=.cons (.for_ (.tup [2,3]) (.enum (.call 14 (.cons (.var 0) (.nil)))) bz) (.cons (.raise 5 (.cons (.con (.str "no happening of the log has this name")) (.nil))) (.nil))
noncomputable def aA:ISs:=.cons (.ifs (.val (.isK (.var 1) 4)) (.cons (.set 2 (.ix (.fld (.var 1) 3944367338220) (.con (.int 0)))) (.cons (.ixset (.var 0) (.var 2) (.bi .max (.cons (.ix (.var 0) (.var 2)) (.cons (.bin .Add (.ix (.fld (.var 1) 3944367338220) (.con (.int 1))) (.con (.int 1))) (.nil))))) (.nil))) (.nil)) (.nil)
noncomputable def cH:ISs:=.cons (.ifs (.cmp .Lt (.ix (.var 6) (.con (.int 1))) (.ix (.var 4) (.ix (.var 6) (.con (.int 0))))) (.cons (.expr (.call 16 (.cons (.var 4) (.cons (.call 12 (.cons (.var 7) (.nil))) (.nil))))) (.nil)) (.nil)) (.nil)
noncomputable def gO:ISs:=.cons (.set 3 (.call 15 (.cons (.var 1) (.cons (.var 2) (.nil))))) (.cons (.set 4 (.rep false (.lst true (.cons (.con (.int 0)) (.nil))) (.meth (.var 0) 31081607400 (.nil)))) (.cons (.ixset (.var 4) (.ix (.var 2) (.con (.int 0))) (.bin .Add (.ix (.var 2) (.con (.int 1))) (.con (.int 1)))) (.cons (.set 5 (.sl true (.lzip true (.call 14 (.cons (.var 1) (.nil))) (.var 1)) (.no) (.yes (.bin .Add (.var 3) (.con (.int 1)))))) (.cons (.for_ (.tup [6,7]) (.revd (.var 5)) cH) (.cons (.ret (.frz (.var 4))) (.nil))))))
noncomputable def br:ISs:=.cons (.ifs (.cmp .Lt (.var 0) (.con (.int 1))) (.cons (.raise 2 (.cons (.con (.str "short is below 1")) (.nil))) (.nil)) (.nil)) (.cons (.ifs (.cmp .Lt (.var 1) (.var 0)) (.cons (.raise 2 (.cons (.con (.str "long is below short")) (.nil))) (.nil)) (.nil)) (.nil))
noncomputable def aU:ISs:=.cons (.ifs (.cmp .Lt (.var 0) (.con (.int 0))) (.cons (.raise 3 (.cons (.con (.str "least is below nought")) (.nil))) (.nil)) (.nil)) (.cons (.ifs (.and (.cmp .IsNot (.var 1) (.con .non)) (.cmp .Lt (.var 1) (.var 0))) (.cons (.raise 3 (.cons (.con (.str "most is below least")) (.nil))) (.nil)) (.nil)) (.nil))
noncomputable def bw:ISs:=.cons (.expr (.call 18 (.cons (.var 3) (.cons (.var 4) (.nil))))) (.nil)
noncomputable def bv:ISs:=.cons (.expr (.meth (.var 0) 8774101686596482917 (.cons (.var 5) (.cons (.var 6) (.cons (.var 7) (.cons (.var 8) (.nil))))))) (.nil)
noncomputable def bq:ISs:=.cons (.ifs (.or (.cmp .Lt (.bi .len (.cons (.var 1) (.nil))) (.con (.int 1))) (.cmp .Gt (.bi .len (.cons (.var 1) (.nil))) (.glo 0))) (.cons (.raise 1 (.cons (.con (.str "a world has one to six hands")) (.nil))) (.nil)) (.nil)) (.cons (.for_ (.tup [3,4]) (.seq (.var 1)) bw) (.cons (.fset (.var 0) 136762133858116729320171 (.bi (.list false) (.cons (.var 1) (.nil)))) (.cons (.fset (.var 0) 8355170983792620267 (.dnew true)) (.cons (.for_ (.tup [5,6,7,8]) (.seq (.var 2)) bv) (.nil)))))
noncomputable def aO:ISs:=.cons (.expr (.meth (.var 0) 135562951883986971505394 (.cons (.var 1) (.cons (.var 2) (.nil))))) (.cons (.ifs (.cmp .In (.tup (.cons (.var 1) (.cons (.var 2) (.nil)))) (.fld (.var 0) 8355170983792620267)) (.cons (.raise 3 (.cons (.con (.str "this way was told ahead")) (.nil))) (.nil)) (.nil)) (.cons (.expr (.call 19 (.cons (.var 3) (.cons (.var 4) (.nil))))) (.cons (.ixset (.fld (.var 0) 8355170983792620267) (.tup (.cons (.var 1) (.cons (.var 2) (.nil)))) (.tup (.cons (.var 3) (.cons (.var 4) (.nil))))) (.nil))))
noncomputable def aH:ISs:=.cons (.ifs (.not (.val (.meth (.var 0) 56782141471387880 (.cons (.var 1) (.nil))))) (.cons (.raise 1 (.cons (.con (.str "the world has no such hand")) (.nil))) (.nil)) (.nil)) (.nil)
noncomputable def aG:ISs:=.cons (.expr (.meth (.var 0) 119080781550527859766002 (.cons (.var 1) (.nil)))) (.cons (.expr (.meth (.var 0) 119080781550527859766002 (.cons (.var 2) (.nil)))) (.cons (.ifs (.cmp .Eq (.var 1) (.var 2)) (.cons (.raise 1 (.cons (.con (.str "a way leads to another hand")) (.nil))) (.nil)) (.nil)) (.nil)))
noncomputable def aY:ISs:=.cons (.ret (.bi .len (.cons (.fld (.var 0) 136762133858116729320171) (.nil)))) (.nil)
noncomputable def aT:ISs:=.cons (.ret (.chain .LtE .Lt (.con (.int 0)) (.var 1) (.meth (.var 0) 31081607400 (.nil)))) (.nil)
noncomputable def cZ:ISs:=.cons (.ret (.cmp .In (.tup (.cons (.var 1) (.cons (.var 2) (.nil)))) (.fld (.var 0) 8355170983792620267))) (.nil)
noncomputable def fN:ISs:=.cons (.expr (.meth (.var 0) 135562951883986971505394 (.cons (.var 1) (.cons (.var 2) (.nil))))) (.cons (.ifs (.not (.val (.meth (.var 0) 535528667410664 (.cons (.var 1) (.cons (.var 2) (.nil)))))) (.cons (.raise 3 (.cons (.con (.str "no way leads from the one hand to the other")) (.nil))) (.nil)) (.nil)) (.cons (.ret (.ix (.fld (.var 0) 8355170983792620267) (.tup (.cons (.var 1) (.cons (.var 2) (.nil)))))) (.nil)))
noncomputable def aZ:ISs:=.cons (.ifs (.cmp .Lt (.var 1) (.bi .len (.cons (.var 0) (.nil)))) (.cons (.ret (.ix (.var 0) (.var 1))) (.nil)) (.nil)) (.cons (.ret (.con (.int 0))) (.nil))
noncomputable def bK:ISs:=.cons (.set 3 (.bin .Mod (.bin .Add (.bin .Add (.bin .Mult (.var 3) (.var 3)) (.bin .Mult (.con (.int 48271)) (.var 3))) (.var 5)) (.con (.int 2147483647)))) (.cons (.ifs (.and (.cmp .NotEq (.var 4) (.var 5)) (.cmp .Gt (.bin .Mod (.var 3) (.con (.int 3))) (.con (.int 0)))) (.cons (.app (.var 2) (.tup (.cons (.var 4) (.cons (.var 5) (.nil))))) (.nil)) (.nil)) (.nil))
noncomputable def bH:ISs:=.cons (.for_ (.name 5) (.rng1 (.var 0)) bK) (.nil)
noncomputable def cI:ISs:=.cons (.set 2 (.lst false (.nil))) (.cons (.set 3 (.bin .Add (.bin .Mod (.var 1) (.con (.int 2147483647))) (.con (.int 48271)))) (.cons (.for_ (.name 4) (.rng1 (.var 0)) bH) (.cons (.ret (.frz (.var 2))) (.nil))))
noncomputable def aJ:ISs:=.cons (.set 5 (.bin .Mod (.bin .FloorDiv (.var 4) (.con (.int 6))) (.con (.int 7)))) (.cons (.ifs (.or (.cmp .Lt (.var 5) (.con (.int 2))) (.and (.cmp .Eq (.var 5) (.con (.int 2))) (.cmp .Eq (.var 2) (.lst true (.nil))))) (.cons (.ret (.tup (.cons (.con (.str "look")) (.cons (.ix (.var 0) (.con (.int 0))) (.cons (.var 1) (.nil)))))) (.nil)) (.nil)) (.cons (.ifs (.and (.cmp .Gt (.var 5) (.con (.int 3))) (.cmp .NotEq (.var 3) (.lst true (.nil)))) (.cons (.ret (.tup (.cons (.con (.str "take")) (.cons (.ix (.var 0) (.con (.int 0))) (.cons (.var 1) (.cons (.ix (.var 3) (.bin .Mod (.bin .FloorDiv (.var 4) (.con (.int 42))) (.bi .len (.cons (.var 3) (.nil))))) (.nil))))))) (.nil)) (.nil)) (.cons (.ifs (.cmp .NotEq (.var 2) (.lst true (.nil))) (.cons (.ret (.tup (.cons (.con (.str "send")) (.cons (.ix (.var 0) (.con (.int 0))) (.cons (.var 1) (.cons (.ix (.var 2) (.bin .Mod (.bin .FloorDiv (.var 4) (.con (.int 42))) (.bi .len (.cons (.var 2) (.nil))))) (.nil))))))) (.nil)) (.nil)) (.cons (.set 6 (.bin .Sub (.bin .Mod (.bin .FloorDiv (.var 4) (.con (.int 42))) (.bin .Pow (.con (.int 10)) (.con (.int 30)))) (.con (.int 500)))) (.cons (.ret (.tup (.cons (.con (.str "sight")) (.cons (.ix (.var 0) (.con (.int 0))) (.cons (.var 1) (.cons (.var 6) (.cons (.bin .Add (.var 6) (.bin .Mod (.bin .FloorDiv (.var 4) (.con (.int 5))) (.con (.int 3)))) (.nil)))))))) (.nil))))))
noncomputable def bZ:ISs:=.cons (.set 8 (.bin .Mod (.var 7) (.var 0))) (.cons (.ixset (.var 3) (.var 8) (.bin .Add (.ix (.var 3) (.var 8)) (.ix (.lst true (.cons (.con (.int 0)) (.cons (.con (.int 1)) (.cons (.bin .Mod (.bin .FloorDiv (.var 7) (.con (.int 42))) (.con (.int 50))) (.cons (.bin .Mod (.bin .FloorDiv (.var 7) (.con (.int 42))) (.bin .Pow (.con (.int 10)) (.con (.int 30)))) (.nil)))))) (.bin .Mod (.bin .FloorDiv (.var 7) (.con (.int 7))) (.con (.int 4)))))) (.cons (.set 9 (.tup (.cons (.var 8) (.cons (.ix (.var 4) (.var 8)) (.nil))))) (.cons (.set 10 (.comp true ["_law_one","_law_other","_law_hand"] [none,none,some 8] (.tup [0,1]) (.seq (.var 1)) (.yes (.cmp .Eq (.var 0) (.var 2))) (.var 1))) (.cons (.set 11 (.comp true ["_law_name","_law_to","_law_hand"] [none,none,some 8] (.tup [0,1]) (.seq (.var 5)) (.yes (.cmp .Eq (.var 1) (.var 2))) (.var 0))) (.cons (.set 12 (.call 30 (.cons (.var 9) (.cons (.ix (.var 3) (.var 8)) (.cons (.var 10) (.cons (.var 11) (.cons (.var 7) (.nil)))))))) (.cons (.ifs (.cmp .Eq (.ix (.var 12) (.con (.int 0))) (.con (.str "send"))) (.cons (.app (.var 5) (.tup (.cons (.var 9) (.cons (.ix (.var 12) (.con (.int 3))) (.nil))))) (.nil)) (.nil)) (.cons (.ifs (.cmp .Eq (.ix (.var 12) (.con (.int 0))) (.con (.str "take"))) (.cons (.set 5 (.comp false ["_law_pair","_law_row_here"] [none,some 12] (.name 0) (.seq (.var 5)) (.yes (.cmp .NotEq (.ix (.var 0) (.con (.int 0))) (.ix (.var 1) (.con (.int 3))))) (.var 0))) (.nil)) (.nil)) (.cons (.ixset (.var 4) (.var 8) (.bin .Add (.ix (.var 4) (.var 8)) (.con (.int 1)))) (.cons (.app (.var 6) (.var 12)) (.nil))))))))))
noncomputable def dA:ISs:=.cons (.set 3 (.comp false ["_law_k","_law_cells"] [none,some 2] (.name 0) (.rng1 (.var 0)) (.no) (.ifx (.cmp .Lt (.var 0) (.bi .len (.cons (.var 1) (.nil)))) (.bin .Sub (.bin .Mod (.ix (.var 1) (.var 0)) (.con (.int 2001))) (.con (.int 1000))) (.con (.int 0))))) (.cons (.set 4 (.rep false (.lst true (.cons (.con (.int 0)) (.nil))) (.var 0))) (.cons (.set 5 (.lst false (.nil))) (.cons (.set 6 (.lst false (.nil))) (.cons (.for_ (.name 7) (.seq (.var 2)) bZ) (.cons (.ret (.frz (.var 6))) (.nil))))))
noncomputable def bh:ISs:=.cons (.ixset (.var 1) (.ix (.var 3) (.con (.int 1))) (.bin .Add (.bm .get (.var 1) (.cons (.ix (.var 3) (.con (.int 1))) (.cons (.con (.int 0)) (.nil)))) (.con (.int 1)))) (.cons (.app (.var 2) (.tup (.cons (.ix (.var 3) (.con (.int 1))) (.cons (.bin .Sub (.ix (.var 1) (.ix (.var 3) (.con (.int 1)))) (.con (.int 1))) (.nil))))) (.nil))
noncomputable def cr:ISs:=.cons (.set 1 (.dnew false)) (.cons (.set 2 (.lst false (.nil))) (.cons (.for_ (.name 3) (.seq (.var 0)) bh) (.cons (.ret (.frz (.var 2))) (.nil))))
noncomputable def bR:ISs:=.cons (.set 4 (.ix (.var 0) (.var 3))) (.cons (.ifs (.or (.not (.val (.isB (.var 4) .int))) (.or (.val (.isB (.var 4) .bool)) (.cmp .Lt (.var 4) (.con (.int 0))))) (.cons (.ret (.con (.bl false))) (.nil)) (.nil)) (.cons (.ifs (.and (.cmp .Gt (.var 4) (.con (.int 0))) (.cmp .NotIn (.tup (.cons (.var 3) (.cons (.bin .Sub (.var 4) (.con (.int 1))) (.nil)))) (.var 2))) (.cons (.ret (.con (.bl false))) (.nil)) (.nil)) (.nil)))
noncomputable def bX:ISs:=.cons (.ifs (.or (.not (.val (.isB (.var 0) .list))) (.cmp .NotEq (.bi .len (.cons (.var 0) (.nil))) (.var 1))) (.cons (.ret (.con (.bl false))) (.nil)) (.nil)) (.cons (.for_ (.name 3) (.rng1 (.var 1)) bR) (.cons (.ret (.con (.bl true))) (.nil)))
noncomputable def bo:ISs:=.cons (.ifs (.and (.cmp .Lt (.ix (.var 7) (.con (.int 1))) (.ix (.var 3) (.ix (.var 7) (.con (.int 0))))) (.cmp .Eq (.ix (.var 6) (.con (.int 0))) (.con (.str "take")))) (.cons (.app (.var 4) (.ix (.var 6) (.con (.int 3)))) (.nil)) (.nil)) (.cons (.ifs (.cmp .Eq (.ix (.var 6) (.con (.int 0))) (.con (.str "send"))) (.cons (.app (.var 5) (.var 7)) (.nil)) (.nil)) (.nil))
noncomputable def dc:ISs:=.cons (.ifs (.cmp .GtE (.var 9) (.ix (.var 3) (.var 8))) (.cons (.ret (.con (.bl false))) (.nil)) (.nil)) (.nil)
noncomputable def bp:ISs:=.cons (.set 10 (.tup (.cons (.var 8) (.cons (.bin .Sub (.ix (.var 3) (.var 8)) (.con (.int 1))) (.nil))))) (.cons (.ifs (.and (.cmp .NotEq (.var 8) (.ix (.var 2) (.con (.int 0)))) (.and (.cmp .Gt (.ix (.var 3) (.var 8)) (.con (.int 0))) (.or (.cmp .NotIn (.var 10) (.var 5)) (.cmp .NotIn (.var 10) (.var 4))))) (.cons (.ret (.con (.bl false))) (.nil)) (.nil)) (.nil))
noncomputable def cq:ISs:=.cons (.ifs (.cmp .NotEq (.ix (.var 3) (.ix (.var 2) (.con (.int 0)))) (.bin .Add (.ix (.var 2) (.con (.int 1))) (.con (.int 1)))) (.cons (.ret (.con (.bl false))) (.nil)) (.nil)) (.cons (.set 4 (.lst false (.nil))) (.cons (.set 5 (.lst false (.nil))) (.cons (.for_ (.tup [6,7]) (.zip (.var 0) (.var 1)) bo) (.cons (.for_ (.tup [8,9]) (.seq (.var 4)) dc) (.cons (.for_ (.name 8) (.rng1 (.bi .len (.cons (.var 3) (.nil)))) bp) (.cons (.ret (.con (.bl true))) (.nil)))))))
noncomputable def bL:ISs:=.cons (.set 3 (.con (.str "told"))) (.cons (.try_ (.cons (.expr (.call 17 (.cons (.var 0) (.cons (.var 1) (.cons (.var 2) (.nil)))))) (.nil)) (.cons 0 (some 4) (.cons (.set 3 (.con (.str "other"))) (.cons (.ifs (.and (.val (.isC (.var 4) 5)) (.not (.val (.isC (.var 4) 1)))) (.cons (.set 3 (.con (.str "none"))) (.nil)) (.nil)) (.nil))) (.nil))) (.cons (.ret (.cmp .Eq (.var 3) (.con (.str "none")))) (.nil)))
noncomputable def eu:ISs:=.cons (.set 8 (.bi (.list true) (.cons (.var 3) (.nil)))) (.cons (.set 9 (.call 17 (.cons (.var 5) (.cons (.var 8) (.cons (.var 7) (.nil)))))) (.cons (.ifs (.or (.cmp .NotEq (.var 8) (.var 3)) (.not (.val (.call 33 (.cons (.var 9) (.cons (.var 1) (.cons (.var 4) (.nil)))))))) (.cons (.ret (.con (.bl false))) (.nil)) (.nil)) (.cons (.ifs (.not (.val (.call 34 (.cons (.var 3) (.cons (.var 4) (.cons (.var 7) (.cons (.var 9) (.nil)))))))) (.cons (.ret (.con (.bl false))) (.nil)) (.nil)) (.nil))))
noncomputable def me:ISs:=.cons (.set 1 (.bin .Add (.con (.int 1)) (.bin .Mod (.call 28 (.cons (.var 0) (.cons (.con (.int 0)) (.nil)))) (.con (.int 6))))) (.cons (.set 2 (.call 29 (.cons (.var 1) (.cons (.bin .FloorDiv (.call 28 (.cons (.var 0) (.cons (.con (.int 0)) (.nil)))) (.con (.int 6))) (.nil))))) (.cons (.set 3 (.call 31 (.cons (.var 1) (.cons (.var 2) (.cons (.sl true (.var 0) (.yes (.con (.int 3))) (.yes (.con (.int 60)))) (.nil)))))) (.cons (.set 4 (.call 32 (.cons (.var 3) (.nil)))) (.cons (.set 5 (.make true 5 (.cons (.rep true (.lst true (.cons (.tup (.cons (.con (.int 1)) (.cons (.con (.int 2)) (.nil)))) (.nil))) (.var 1)) (.cons (.comp true ["_law_one","_law_other"] [none,none] (.tup [0,1]) (.seq (.var 2)) (.no) (.tup (.cons (.var 0) (.cons (.var 1) (.cons (.con (.int 0)) (.cons (.con .non) (.nil))))))) (.nil))))) (.cons (.set 6 (.sl true (.var 4) (.yes (.neg (.con (.int 1)))) (.no))) (.cons (.ifs (.cmp .NotEq (.var 4) (.lst true (.nil))) (.cons (.set 6 (.cat true (.var 6) (.comp true ["_law_cell","_law_there"] [none,some 4] (.name 0) (.seq (.sl true (.var 0) (.yes (.con (.int 1))) (.yes (.con (.int 6))))) (.no) (.ix (.var 1) (.bin .Mod (.var 0) (.bi .len (.cons (.var 1) (.nil)))))))) (.nil)) (.nil)) (.cons (.for_ (.name 7) (.seq (.var 6)) eu) (.cons (.ret (.and (.call 35 (.cons (.var 5) (.cons (.bi (.list true) (.cons (.var 3) (.nil))) (.cons (.tup (.cons (.neg (.con (.int 1))) (.cons (.con (.int 0)) (.nil)))) (.nil))))) (.call 35 (.cons (.var 5) (.cons (.bi (.list true) (.cons (.var 3) (.nil))) (.cons (.tup (.cons (.bin .Sub (.var 1) (.con (.int 1))) (.cons (.con (.int 60)) (.nil)))) (.nil))))))) (.nil)))))))))
noncomputable def k9:FL:={name:="is_whole",qual:="is_whole",glob:=true,cl:=true,st:=top 9,N:=["thing"],ps:=["thing"],body:=cT}
noncomputable def d9:FL:={name:="__init__",qual:="Happening.__init__",glob:=false,cl:=true,st:=af (top 11) 0,N:=["self","hand","reading"],ps:=["self","hand","reading"],body:=aq}
noncomputable def iu:FL:={name:="__init__",qual:="Look.__init__",glob:=false,cl:=true,st:=af (top 12) 0,N:=["self","hand","reading"],ps:=["self","hand","reading"],body:=bG}
noncomputable def kS:FL:={name:="row",qual:="Look.row",glob:=false,cl:=true,st:=af (top 12) 1,N:=["self"],ps:=["self"],body:=hU}
noncomputable def gk:FL:={name:="__init__",qual:="Sight.__init__",glob:=false,cl:=true,st:=af (top 13) 0,N:=["self","hand","reading","early","late"],ps:=["self","hand","reading","early","late"],body:=bn}
noncomputable def ku:FL:={name:="row",qual:="Sight.row",glob:=false,cl:=true,st:=af (top 13) 1,N:=["self"],ps:=["self"],body:=fO}
noncomputable def iw:FL:={name:="__init__",qual:="Send.__init__",glob:=false,cl:=true,st:=af (top 14) 0,N:=["self","hand","reading","to"],ps:=["self","hand","reading","to"],body:=bI}
noncomputable def kQ:FL:={name:="row",qual:="Send.row",glob:=false,cl:=true,st:=af (top 14) 1,N:=["self"],ps:=["self"],body:=gM}
noncomputable def iJ:FL:={name:="__init__",qual:="Take.__init__",glob:=false,cl:=true,st:=af (top 15) 0,N:=["self","hand","reading","letter"],ps:=["self","hand","reading","letter"],body:=bJ}
noncomputable def kU:FL:={name:="row",qual:="Take.row",glob:=false,cl:=true,st:=af (top 15) 1,N:=["self"],ps:=["self"],body:=g9}
noncomputable def jv:FL:={name:="are_wholes",qual:="are_wholes",glob:=true,cl:=true,st:=top 16,N:=["things","number"],ps:=["things","number"],body:=b8}
noncomputable def j2:FL:={name:="is_letter",qual:="is_letter",glob:=true,cl:=true,st:=top 17,N:=["thing"],ps:=["thing"],body:=cu}
noncomputable def jZ:FL:={name:="happening",qual:="happening",glob:=true,cl:=true,st:=top 18,N:=["row","word"],ps:=["row"],body:=aQ}
noncomputable def kT:FL:={name:="count_on",qual:="count_on",glob:=true,cl:=true,st:=top 20,N:=["counts","hand","ahead"],ps:=["counts","hand"],body:=cM}
noncomputable def rl:FL:={name:="names",qual:="names",glob:=true,cl:=true,st:=top 21,N:=["log","counts","told","row"],ps:=["log"],body:=f8}
noncomputable def rH:FL:={name:="place",qual:="place",glob:=true,cl:=true,st:=top 22,N:=["log","name","where","other"],ps:=["log","name"],body:=eI}
noncomputable def gh:FL:={name:="count_letter",qual:="count_letter",glob:=true,cl:=true,st:=top 23,N:=["counts","one","sender"],ps:=["counts","one"],body:=aA}
noncomputable def uT:FL:={name:="past",qual:="past",glob:=true,cl:=true,st:=top 24,N:=["world","log","name","where","counts","heads","other","row"],ps:=["world","log","name"],body:=gO}
noncomputable def gm:FL:={name:="refuse_clock",qual:="refuse_clock",glob:=true,cl:=true,st:=top 27,N:=["short","long"],ps:=["short","long"],body:=br}
noncomputable def fw:FL:={name:="refuse_lengths",qual:="refuse_lengths",glob:=true,cl:=true,st:=top 28,N:=["least","most"],ps:=["least","most"],body:=aU}
noncomputable def gw:FL:={name:="__init__",qual:="World.__init__",glob:=false,cl:=false,st:=af (top 29) 0,N:=["self","clocks","ways","short","long","one","other","least","most"],ps:=["self","clocks","ways"],body:=bq}
noncomputable def eN:FL:={name:="enter_way",qual:="World.enter_way",glob:=false,cl:=true,st:=af (top 29) 1,N:=["self","one","other","least","most"],ps:=["self","one","other","least","most"],body:=aO}
noncomputable def dG:FL:={name:="refuse_hand",qual:="World.refuse_hand",glob:=false,cl:=true,st:=af (top 29) 2,N:=["self","hand"],ps:=["self","hand"],body:=aH}
noncomputable def dH:FL:={name:="refuse_pair",qual:="World.refuse_pair",glob:=false,cl:=true,st:=af (top 29) 3,N:=["self","one","other"],ps:=["self","one","other"],body:=aG}
noncomputable def iC:FL:={name:="hands",qual:="World.hands",glob:=false,cl:=true,st:=af (top 29) 4,N:=["self"],ps:=["self"],body:=aY}
noncomputable def fv:FL:={name:="has_hand",qual:="World.has_hand",glob:=false,cl:=true,st:=af (top 29) 5,N:=["self","hand"],ps:=["self","hand"],body:=aT}
noncomputable def fR:FL:={name:="has_way",qual:="World.has_way",glob:=false,cl:=true,st:=af (top 29) 6,N:=["self","one","other"],ps:=["self","one","other"],body:=cZ}
noncomputable def kG:FL:={name:="way",qual:="World.way",glob:=false,cl:=true,st:=af (top 29) 8,N:=["self","one","other"],ps:=["self","one","other"],body:=fN}
noncomputable def iB:FL:={name:="_law_cell_at",qual:="_law_cell_at",glob:=true,cl:=true,st:=top 31,N:=["_law_script","_law_k"],ps:=["_law_script","_law_k"],body:=aZ}
noncomputable def kP:FL:={name:="_law_ways",qual:="_law_ways",glob:=true,cl:=true,st:=top 32,N:=["_law_hands","_law_cell","_law_ways_here","_law_number","_law_one","_law_other"],ps:=["_law_hands","_law_cell"],body:=cI}
noncomputable def nH:FL:={name:="_law_row",qual:="_law_row",glob:=true,cl:=true,st:=top 33,N:=["_law_here","_law_reading","_law_tos","_law_letters","_law_cell","_law_kind","_law_early"],ps:=["_law_here","_law_reading","_law_tos","_law_letters","_law_cell"],body:=aJ}
noncomputable def mO:FL:={name:="_law_log",qual:="_law_log",glob:=true,cl:=true,st:=top 34,N:=["_law_hands","_law_ways_here","_law_cells","_law_readings","_law_many","_law_letters","_law_log_here","_law_cell","_law_hand","_law_here","_law_tos","_law_mine","_law_row_here"],ps:=["_law_hands","_law_ways_here","_law_cells"],body:=dA}
noncomputable def ky:FL:={name:="_law_names",qual:="_law_names",glob:=true,cl:=true,st:=top 35,N:=["_law_log_here","_law_many","_law_found","_law_row_here"],ps:=["_law_log_here"],body:=cr}
noncomputable def jp:FL:={name:="_law_counts",qual:="_law_counts",glob:=true,cl:=true,st:=top 36,N:=["_law_counts_here","_law_hands","_law_there","_law_hand","_law_many"],ps:=["_law_counts_here","_law_hands","_law_there"],body:=bX}
noncomputable def kj:FL:={name:="_law_right",qual:="_law_right",glob:=true,cl:=true,st:=top 37,N:=["_law_log_here","_law_there","_law_name","_law_counts_here","_law_taken","_law_sends","_law_row_here","_law_here","_law_hand","_law_k","_law_last"],ps:=["_law_log_here","_law_there","_law_name","_law_counts_here"],body:=cq}
noncomputable def iF:FL:={name:="_law_refused",qual:="_law_refused",glob:=true,cl:=true,st:=top 38,N:=["_law_made","_law_log_here","_law_name","_law_word","e"],ps:=["_law_made","_law_log_here","_law_name"],body:=bL}
noncomputable def l_law:FL:={name:="law",qual:="law",glob:=true,cl:=true,st:=top 39,N:=["_law_script","_law_hands","_law_ways_here","_law_log_here","_law_there","_law_made","_law_asked","_law_name","_law_handed","_law_counts_here"],ps:=["_law_script"],body:=me}
noncomputable def L:List FL:=[k9,d9,iu,kS,gk,ku,iw,kQ,iJ,kU,jv,j2,jZ,kT,rl,rH,gh,uT,gm,fw,gw,eN,dG,dH,iC,fv,fR,kG,iB,kP,nH,mO,ky,jp,kj,iF,l_law]
noncomputable def xinT:List (Nat×Nat):=[]
noncomputable def nm:NM:=⟨["DriftError","NoHand","NoClock","NoWay","NoHappening","NoName"],["Happening","Look","Sight","Send","Take","World"],["MOST_HANDS"],xinT⟩
noncomputable def xin(i:Nat):Option Nat:=xinT.lookup i
noncomputable def subT:List (List Bool):=[[true,false,false,false,false,false],[true,true,false,false,false,false],[true,false,true,false,false,false],[true,false,false,true,false,false],[true,false,false,false,true,false],[true,false,false,false,false,true]]
noncomputable def sub(i j:Nat):Bool:=(subT.getD i []).getD j false
noncomputable def ksubT:List (List Bool):=[[true,false,false,false,false,false],[true,true,false,false,false,false],[true,false,true,false,false,false],[true,false,false,true,false,false],[true,false,false,false,true,false],[false,false,false,false,false,true]]
noncomputable def ksub(i j:Nat):Bool:=(ksubT.getD i []).getD j false
noncomputable def fokT:List (List Nat):=[[211529960,456806758904562],[211529960,456806758904562],[32709062885,213725420,211529960,456806758904562],[14324,211529960,456806758904562],[3944367338220,211529960,456806758904562],[136762133858116729320171,8355170983792620267]]
noncomputable def fok(i f:Nat):Bool:=(fokT.getD i []).contains f
noncomputable def mthT:List (List (Nat×Nat)):=[[],[(1964018,3)],[(1964018,5)],[(1964018,7)],[(1964018,9)],[(8774101686596482917,21),(31081607400,24),(56782141471387880,25),(535528667410664,26),(119080781550527859766002,22),(135562951883986971505394,23),(1994999,27)]]
noncomputable def mth(i m:Nat):Option Nat:=(mthT.getD i []).lookup m
noncomputable def Cn:List Nat:=[1,2,4,6,8,20]
noncomputable def ini(i:Nat):Option Nat:=Cn[i]?
noncomputable def gloT:List D:=[.int 6]
noncomputable def glo(k:Nat):D:=gloT.getD k .non
noncomputable def B(cls kls fad:Nat->Addr):WB:={ne:=6,cls:=cls,sub:=sub,nk:=6,kls:=kls,ksub:=ksub,fok:=fok,mth:=mth,ini:=ini,xin:=xin,glo:=glo,fad:=fad}
section
variable {cls kls fad:Nat->Addr}
@[simp] theorem HA:(B cls kls fad).ne=6:=rfl
@[simp] theorem Gc:(B cls kls fad).cls=cls:=rfl
@[simp] theorem Gp:(B cls kls fad).sub=sub:=rfl
@[simp] theorem HE:(B cls kls fad).nk=6:=rfl
@[simp] theorem GT:(B cls kls fad).kls=kls:=rfl
@[simp] theorem E1:(B cls kls fad).ksub=ksub:=rfl
@[simp] theorem GA:(B cls kls fad).fok=fok:=rfl
@[simp] theorem GC:(B cls kls fad).mth=mth:=rfl
@[simp] theorem Ho:(B cls kls fad).ini=ini:=rfl
@[simp] theorem GF:(B cls kls fad).xin=xin:=rfl
@[simp] theorem Hf:(B cls kls fad).glo=glo:=rfl
end
@[simp] theorem D8:sub 0 0=true:=rfl
@[simp] theorem Dq:sub 0 1=false:=rfl
@[simp] theorem DS:sub 0 2=false:=rfl
@[simp] theorem Ec:sub 0 3=false:=rfl
@[simp] theorem D0:sub 0 4=false:=rfl
@[simp] theorem C0:sub 0 5=false:=rfl
@[simp] theorem DB:sub 1 0=true:=rfl
@[simp] theorem DF:sub 1 1=true:=rfl
@[simp] theorem CJ:sub 1 2=false:=rfl
@[simp] theorem CG:sub 1 3=false:=rfl
@[simp] theorem Dk:sub 1 4=false:=rfl
@[simp] theorem DE:sub 1 5=false:=rfl
@[simp] theorem Ee:sub 2 0=true:=rfl
@[simp] theorem D9:sub 2 1=false:=rfl
@[simp] theorem Cq:sub 2 2=true:=rfl
@[simp] theorem Dc:sub 2 3=false:=rfl
@[simp] theorem DP:sub 2 4=false:=rfl
@[simp] theorem DX:sub 2 5=false:=rfl
@[simp] theorem DY:sub 3 0=true:=rfl
@[simp] theorem Dj:sub 3 1=false:=rfl
@[simp] theorem Du:sub 3 2=false:=rfl
@[simp] theorem C6:sub 3 3=true:=rfl
@[simp] theorem Dw:sub 3 4=false:=rfl
@[simp] theorem CP:sub 3 5=false:=rfl
@[simp] theorem CW:sub 4 0=true:=rfl
@[simp] theorem CN:sub 4 1=false:=rfl
@[simp] theorem CO:sub 4 2=false:=rfl
@[simp] theorem DC:sub 4 3=false:=rfl
@[simp] theorem Cv:sub 4 4=true:=rfl
@[simp] theorem D7:sub 4 5=false:=rfl
@[simp] theorem DI:sub 5 0=true:=rfl
@[simp] theorem CL:sub 5 1=false:=rfl
@[simp] theorem DK:sub 5 2=false:=rfl
@[simp] theorem D6:sub 5 3=false:=rfl
@[simp] theorem Dv:sub 5 4=false:=rfl
@[simp] theorem Db:sub 5 5=true:=rfl
@[simp] theorem zP:ksub 0 0=true:=rfl
@[simp] theorem Bx:ksub 0 1=false:=rfl
@[simp] theorem AS:ksub 0 2=false:=rfl
@[simp] theorem AZ:ksub 0 3=false:=rfl
@[simp] theorem AY:ksub 0 4=false:=rfl
@[simp] theorem Aq:ksub 0 5=false:=rfl
@[simp] theorem tj:fok 0 211529960=true:=by decide
@[simp] theorem p8:fok 0 456806758904562=true:=by decide
@[simp] theorem Gj:ini 0=some 1:=rfl
@[simp] theorem AB:ksub 1 0=true:=rfl
@[simp] theorem zW:ksub 1 1=true:=rfl
@[simp] theorem AA:ksub 1 2=false:=rfl
@[simp] theorem Bh:ksub 1 3=false:=rfl
@[simp] theorem As:ksub 1 4=false:=rfl
@[simp] theorem BL:ksub 1 5=false:=rfl
@[simp] theorem u9:fok 1 211529960=true:=by decide
@[simp] theorem p4:fok 1 456806758904562=true:=by decide
@[simp] theorem yn:mth 1 1964018=some 3:=by decide
@[simp] theorem GX:ini 1=some 2:=rfl
@[simp] theorem Cf:ksub 2 0=true:=rfl
@[simp] theorem zE:ksub 2 1=false:=rfl
@[simp] theorem yO:ksub 2 2=true:=rfl
@[simp] theorem zZ:ksub 2 3=false:=rfl
@[simp] theorem By:ksub 2 4=false:=rfl
@[simp] theorem Al:ksub 2 5=false:=rfl
@[simp] theorem sM:fok 2 32709062885=true:=by decide
@[simp] theorem tZ:fok 2 213725420=true:=by decide
@[simp] theorem uw:fok 2 211529960=true:=by decide
@[simp] theorem p7:fok 2 456806758904562=true:=by decide
@[simp] theorem yl:mth 2 1964018=some 5:=by decide
@[simp] theorem Hg:ini 2=some 4:=rfl
@[simp] theorem BC:ksub 3 0=true:=rfl
@[simp] theorem A0:ksub 3 1=false:=rfl
@[simp] theorem zM:ksub 3 2=false:=rfl
@[simp] theorem A3:ksub 3 3=true:=rfl
@[simp] theorem AL:ksub 3 4=false:=rfl
@[simp] theorem AI:ksub 3 5=false:=rfl
@[simp] theorem Cl:fok 3 14324=true:=by decide
@[simp] theorem uZ:fok 3 211529960=true:=by decide
@[simp] theorem pZ:fok 3 456806758904562=true:=by decide
@[simp] theorem yp:mth 3 1964018=some 7:=by decide
@[simp] theorem Gb:ini 3=some 6:=rfl
@[simp] theorem AC:ksub 4 0=true:=rfl
@[simp] theorem A4:ksub 4 1=false:=rfl
@[simp] theorem A5:ksub 4 2=false:=rfl
@[simp] theorem Bs:ksub 4 3=false:=rfl
@[simp] theorem Cg:ksub 4 4=true:=rfl
@[simp] theorem B9:ksub 4 5=false:=rfl
@[simp] theorem rM:fok 4 3944367338220=true:=by decide
@[simp] theorem xV:fok 4 211529960=true:=by decide
@[simp] theorem p6:fok 4 456806758904562=true:=by decide
@[simp] theorem yo:mth 4 1964018=some 9:=by decide
@[simp] theorem GO:ini 4=some 8:=rfl
@[simp] theorem AH:ksub 5 0=false:=rfl
@[simp] theorem zh:ksub 5 1=false:=rfl
@[simp] theorem zI:ksub 5 2=false:=rfl
@[simp] theorem AV:ksub 5 3=false:=rfl
@[simp] theorem yL:ksub 5 4=false:=rfl
@[simp] theorem Ai:ksub 5 5=true:=rfl
@[simp] theorem md:fok 5 136762133858116729320171=true:=by decide
@[simp] theorem nI:fok 5 8355170983792620267=true:=by decide
@[simp] theorem nJ:mth 5 8774101686596482917=some 21:=by decide
@[simp] theorem ss:mth 5 31081607400=some 24:=by decide
@[simp] theorem pI:mth 5 56782141471387880=some 25:=by decide
@[simp] theorem p5:mth 5 535528667410664=some 26:=by decide
@[simp] theorem lR:mth 5 119080781550527859766002=some 22:=by decide
@[simp] theorem l7:mth 5 135562951883986971505394=some 23:=by decide
@[simp] theorem ym:mth 5 1994999=some 27:=by decide
@[simp] theorem Gr:ini 5=some 20:=rfl
@[simp] theorem GZ:glo 0=.int 6:=rfl
noncomputable def T:List FB:=[⟨1,1,true,cT⟩,⟨3,3,true,aq⟩,⟨3,3,true,bG⟩,⟨1,1,true,hU⟩,⟨5,5,true,bn⟩,⟨1,1,true,fO⟩,⟨4,4,true,bI⟩,⟨1,1,true,gM⟩,⟨4,4,true,bJ⟩,⟨1,1,true,g9⟩,⟨2,2,true,b8⟩,⟨1,1,true,cu⟩,⟨1,2,true,aQ⟩,⟨2,3,true,cM⟩,⟨1,4,true,f8⟩,⟨2,4,true,eI⟩,⟨2,3,true,aA⟩,⟨3,8,true,gO⟩,⟨2,2,true,br⟩,⟨2,2,true,aU⟩,⟨3,9,false,bq⟩,⟨5,5,true,aO⟩,⟨2,2,true,aH⟩,⟨3,3,true,aG⟩,⟨1,1,true,aY⟩,⟨2,2,true,aT⟩,⟨3,3,true,cZ⟩,⟨3,3,true,fN⟩,⟨2,2,true,aZ⟩,⟨2,6,true,cI⟩,⟨5,7,true,aJ⟩,⟨3,13,true,dA⟩,⟨1,4,true,cr⟩,⟨3,5,true,bX⟩,⟨4,11,true,cq⟩,⟨3,5,true,bL⟩,⟨1,10,true,me⟩]
theorem Em:L.map FL.fb=T:=rfl
section
variable {B:WB}{M:MH}{Q:VK3}{E:XN}{n:Nat}
theorem kO{x0:D}:aa T B (n+1) 0 [x0] M Q E=ar {toWB:=B,call:=aa T B n} cT {nx:=fun _ M'=>Q .non (ae M M'),rt:=fun v M'=>Q v (ae M M')} (fun _ i M'=>E i (ae M M')) [some x0] M:=propext ⟨fun h=>h.2,fun h=>⟨rfl,h⟩⟩
theorem aM{x0 x1 x2:D}:aa T B (n+1) 1 [x0,x1,x2] M Q E=ar {toWB:=B,call:=aa T B n} aq {nx:=fun _ M'=>Q .non (ae M M'),rt:=fun v M'=>Q v (ae M M')} (fun _ i M'=>E i (ae M M')) [some x0,some x1,some x2] M:=propext ⟨fun h=>h.2,fun h=>⟨rfl,h⟩⟩
theorem iz{x0 x1 x2:D}:aa T B (n+1) 2 [x0,x1,x2] M Q E=ar {toWB:=B,call:=aa T B n} bG {nx:=fun _ M'=>Q .non (ae M M'),rt:=fun v M'=>Q v (ae M M')} (fun _ i M'=>E i (ae M M')) [some x0,some x1,some x2] M:=propext ⟨fun h=>h.2,fun h=>⟨rfl,h⟩⟩
theorem gS{x0 x1 x2 x3 x4:D}:aa T B (n+1) 4 [x0,x1,x2,x3,x4] M Q E=ar {toWB:=B,call:=aa T B n} bn {nx:=fun _ M'=>Q .non (ae M M'),rt:=fun v M'=>Q v (ae M M')} (fun _ i M'=>E i (ae M M')) [some x0,some x1,some x2,some x3,some x4] M:=propext ⟨fun h=>h.2,fun h=>⟨rfl,h⟩⟩
theorem iK{x0 x1 x2 x3:D}:aa T B (n+1) 6 [x0,x1,x2,x3] M Q E=ar {toWB:=B,call:=aa T B n} bI {nx:=fun _ M'=>Q .non (ae M M'),rt:=fun v M'=>Q v (ae M M')} (fun _ i M'=>E i (ae M M')) [some x0,some x1,some x2,some x3] M:=propext ⟨fun h=>h.2,fun h=>⟨rfl,h⟩⟩
theorem iG{x0 x1 x2 x3:D}:aa T B (n+1) 8 [x0,x1,x2,x3] M Q E=ar {toWB:=B,call:=aa T B n} bJ {nx:=fun _ M'=>Q .non (ae M M'),rt:=fun v M'=>Q v (ae M M')} (fun _ i M'=>E i (ae M M')) [some x0,some x1,some x2,some x3] M:=propext ⟨fun h=>h.2,fun h=>⟨rfl,h⟩⟩
theorem jK{x0 x1:D}:aa T B (n+1) 10 [x0,x1] M Q E=ar {toWB:=B,call:=aa T B n} b8 {nx:=fun _ M'=>Q .non (ae M M'),rt:=fun v M'=>Q v (ae M M')} (fun _ i M'=>E i (ae M M')) [some x0,some x1] M:=propext ⟨fun h=>h.2,fun h=>⟨rfl,h⟩⟩
theorem j3{x0:D}:aa T B (n+1) 11 [x0] M Q E=ar {toWB:=B,call:=aa T B n} cu {nx:=fun _ M'=>Q .non (ae M M'),rt:=fun v M'=>Q v (ae M M')} (fun _ i M'=>E i (ae M M')) [some x0] M:=propext ⟨fun h=>h.2,fun h=>⟨rfl,h⟩⟩
theorem cx{x0:D}:aa T B (n+1) 12 [x0] M Q E=ar {toWB:=B,call:=aa T B n} aQ {nx:=fun _ M'=>Q .non (ae M M'),rt:=fun v M'=>Q v (ae M M')} (fun _ i M'=>E i (ae M M')) [some x0,none] M:=propext ⟨fun h=>h.2,fun h=>⟨rfl,h⟩⟩
theorem lu{x0 x1:D}:aa T B (n+1) 13 [x0,x1] M Q E=ar {toWB:=B,call:=aa T B n} cM {nx:=fun _ M'=>Q .non (ae M M'),rt:=fun v M'=>Q v (ae M M')} (fun _ i M'=>E i (ae M M')) [some x0,some x1,none] M:=propext ⟨fun h=>h.2,fun h=>⟨rfl,h⟩⟩
theorem qJ{x0:D}:aa T B (n+1) 14 [x0] M Q E=ar {toWB:=B,call:=aa T B n} f8 {nx:=fun _ M'=>Q .non (ae M M'),rt:=fun v M'=>Q v (ae M M')} (fun _ i M'=>E i (ae M M')) [some x0,none,none,none] M:=propext ⟨fun h=>h.2,fun h=>⟨rfl,h⟩⟩
theorem lI{x0 x1:D}:aa T B (n+1) 15 [x0,x1] M Q E=ar {toWB:=B,call:=aa T B n} eI {nx:=fun _ M'=>Q .non (ae M M'),rt:=fun v M'=>Q v (ae M M')} (fun _ i M'=>E i (ae M M')) [some x0,some x1,none,none] M:=propext ⟨fun h=>h.2,fun h=>⟨rfl,h⟩⟩
theorem bg{x0 x1:D}:aa T B (n+1) 16 [x0,x1] M Q E=ar {toWB:=B,call:=aa T B n} aA {nx:=fun _ M'=>Q .non (ae M M'),rt:=fun v M'=>Q v (ae M M')} (fun _ i M'=>E i (ae M M')) [some x0,some x1,none] M:=propext ⟨fun h=>h.2,fun h=>⟨rfl,h⟩⟩
theorem oz{x0 x1 x2:D}:aa T B (n+1) 17 [x0,x1,x2] M Q E=ar {toWB:=B,call:=aa T B n} gO {nx:=fun _ M'=>Q .non (ae M M'),rt:=fun v M'=>Q v (ae M M')} (fun _ i M'=>E i (ae M M')) [some x0,some x1,some x2,none,none,none,none,none] M:=propext ⟨fun h=>h.2,fun h=>⟨rfl,h⟩⟩
theorem gB{x0 x1:D}:aa T B (n+1) 18 [x0,x1] M Q E=ar {toWB:=B,call:=aa T B n} br {nx:=fun _ M'=>Q .non (ae M M'),rt:=fun v M'=>Q v (ae M M')} (fun _ i M'=>E i (ae M M')) [some x0,some x1] M:=propext ⟨fun h=>h.2,fun h=>⟨rfl,h⟩⟩
theorem fk{x0 x1:D}:aa T B (n+1) 19 [x0,x1] M Q E=ar {toWB:=B,call:=aa T B n} aU {nx:=fun _ M'=>Q .non (ae M M'),rt:=fun v M'=>Q v (ae M M')} (fun _ i M'=>E i (ae M M')) [some x0,some x1] M:=propext ⟨fun h=>h.2,fun h=>⟨rfl,h⟩⟩
theorem gC{x0 x1 x2:D}:aa T B (n+1) 20 [x0,x1,x2] M Q E=ar {toWB:=B,call:=aa T B n} bq {nx:=fun _ M'=>Q .non M',rt:=fun v M'=>Q v M'} (fun _ i M'=>E i (ae M M')) [some x0,some x1,some x2,none,none,none,none,none,none] M:=propext ⟨fun h=>h.2,fun h=>⟨rfl,h⟩⟩
theorem eA{x0 x1 x2 x3 x4:D}:aa T B (n+1) 21 [x0,x1,x2,x3,x4] M Q E=ar {toWB:=B,call:=aa T B n} aO {nx:=fun _ M'=>Q .non (ae M M'),rt:=fun v M'=>Q v (ae M M')} (fun _ i M'=>E i (ae M M')) [some x0,some x1,some x2,some x3,some x4] M:=propext ⟨fun h=>h.2,fun h=>⟨rfl,h⟩⟩
theorem dJ{x0 x1:D}:aa T B (n+1) 22 [x0,x1] M Q E=ar {toWB:=B,call:=aa T B n} aH {nx:=fun _ M'=>Q .non (ae M M'),rt:=fun v M'=>Q v (ae M M')} (fun _ i M'=>E i (ae M M')) [some x0,some x1] M:=propext ⟨fun h=>h.2,fun h=>⟨rfl,h⟩⟩
theorem dI{x0 x1 x2:D}:aa T B (n+1) 23 [x0,x1,x2] M Q E=ar {toWB:=B,call:=aa T B n} aG {nx:=fun _ M'=>Q .non (ae M M'),rt:=fun v M'=>Q v (ae M M')} (fun _ i M'=>E i (ae M M')) [some x0,some x1,some x2] M:=propext ⟨fun h=>h.2,fun h=>⟨rfl,h⟩⟩
theorem dO{x0:D}:aa T B (n+1) 24 [x0] M Q E=ar {toWB:=B,call:=aa T B n} aY {nx:=fun _ M'=>Q .non (ae M M'),rt:=fun v M'=>Q v (ae M M')} (fun _ i M'=>E i (ae M M')) [some x0] M:=propext ⟨fun h=>h.2,fun h=>⟨rfl,h⟩⟩
theorem fx{x0 x1:D}:aa T B (n+1) 25 [x0,x1] M Q E=ar {toWB:=B,call:=aa T B n} aT {nx:=fun _ M'=>Q .non (ae M M'),rt:=fun v M'=>Q v (ae M M')} (fun _ i M'=>E i (ae M M')) [some x0,some x1] M:=propext ⟨fun h=>h.2,fun h=>⟨rfl,h⟩⟩
theorem dN{x0 x1:D}:aa T B (n+1) 28 [x0,x1] M Q E=ar {toWB:=B,call:=aa T B n} aZ {nx:=fun _ M'=>Q .non (ae M M'),rt:=fun v M'=>Q v (ae M M')} (fun _ i M'=>E i (ae M M')) [some x0,some x1] M:=propext ⟨fun h=>h.2,fun h=>⟨rfl,h⟩⟩
theorem lf{x0 x1:D}:aa T B (n+1) 29 [x0,x1] M Q E=ar {toWB:=B,call:=aa T B n} cI {nx:=fun _ M'=>Q .non (ae M M'),rt:=fun v M'=>Q v (ae M M')} (fun _ i M'=>E i (ae M M')) [some x0,some x1,none,none,none,none] M:=propext ⟨fun h=>h.2,fun h=>⟨rfl,h⟩⟩
theorem bb{x0 x1 x2 x3 x4:D}:aa T B (n+1) 30 [x0,x1,x2,x3,x4] M Q E=ar {toWB:=B,call:=aa T B n} aJ {nx:=fun _ M'=>Q .non (ae M M'),rt:=fun v M'=>Q v (ae M M')} (fun _ i M'=>E i (ae M M')) [some x0,some x1,some x2,some x3,some x4,none,none] M:=propext ⟨fun h=>h.2,fun h=>⟨rfl,h⟩⟩
theorem my{x0 x1 x2:D}:aa T B (n+1) 31 [x0,x1,x2] M Q E=ar {toWB:=B,call:=aa T B n} dA {nx:=fun _ M'=>Q .non (ae M M'),rt:=fun v M'=>Q v (ae M M')} (fun _ i M'=>E i (ae M M')) [some x0,some x1,some x2,none,none,none,none,none,none,none,none,none,none] M:=propext ⟨fun h=>h.2,fun h=>⟨rfl,h⟩⟩
theorem kC{x0:D}:aa T B (n+1) 32 [x0] M Q E=ar {toWB:=B,call:=aa T B n} cr {nx:=fun _ M'=>Q .non (ae M M'),rt:=fun v M'=>Q v (ae M M')} (fun _ i M'=>E i (ae M M')) [some x0,none,none,none] M:=propext ⟨fun h=>h.2,fun h=>⟨rfl,h⟩⟩
theorem jt{x0 x1 x2:D}:aa T B (n+1) 33 [x0,x1,x2] M Q E=ar {toWB:=B,call:=aa T B n} bX {nx:=fun _ M'=>Q .non (ae M M'),rt:=fun v M'=>Q v (ae M M')} (fun _ i M'=>E i (ae M M')) [some x0,some x1,some x2,none,none] M:=propext ⟨fun h=>h.2,fun h=>⟨rfl,h⟩⟩
theorem j5{x0 x1 x2 x3:D}:aa T B (n+1) 34 [x0,x1,x2,x3] M Q E=ar {toWB:=B,call:=aa T B n} cq {nx:=fun _ M'=>Q .non (ae M M'),rt:=fun v M'=>Q v (ae M M')} (fun _ i M'=>E i (ae M M')) [some x0,some x1,some x2,some x3,none,none,none,none,none,none,none] M:=propext ⟨fun h=>h.2,fun h=>⟨rfl,h⟩⟩
theorem iH{x0 x1 x2:D}:aa T B (n+1) 35 [x0,x1,x2] M Q E=ar {toWB:=B,call:=aa T B n} bL {nx:=fun _ M'=>Q .non (ae M M'),rt:=fun v M'=>Q v (ae M M')} (fun _ i M'=>E i (ae M M')) [some x0,some x1,some x2,none,none] M:=propext ⟨fun h=>h.2,fun h=>⟨rfl,h⟩⟩
theorem zA{x0:D}:aa T B (n+1) 36 [x0] M Q E=ar {toWB:=B,call:=aa T B n} me {nx:=fun _ M'=>Q .non (ae M M'),rt:=fun v M'=>Q v (ae M M')} (fun _ i M'=>E i (ae M M')) [some x0,none,none,none,none,none,none,none,none,none] M:=propext ⟨fun h=>h.2,fun h=>⟨rfl,h⟩⟩
end
theorem top_mk{P:Params}{h:Heap}{mg:Str->Option Value}(X:(HD.K P).In h)(Gn:h.Ns mainGlobals mg)
  {qt0:Tok}
  (gl0:PySem.W.nsIn (HD.K P) mainGlobals "MOST_HANDS"=some (some (.int (6) qt0)))
  : ∃cls kls fad,Top (HD.K P) mg L nm (B cls kls fad):=by
 refine⟨fun i=>([31,44,56,68,80,92]:List Nat).getD i 0,fun i=>([118,153,186,219,252,395]:List Nat).getD i 0,fun i=>([101,115,136,143,169,176,202,209,235,242,259,266,273,280,287,294,301,308,315,322,336,343,350,357,364,371,378,392,406,413,420,425,432,439,446,453,458]:List Nat).getD i 0,Top.of (fT:=fokT) (mT:=mthT) (iT:=Cn) X Gn (by kernel_rfl) (by kernel_rfl) (by kernel_rfl) (ixc (n1 (by intros;rfl)) (ixc (n3 (by intros;rfl)) (ixc (n3 (by intros;rfl)) (ixc (n1 (by intros;rfl)) (ixc (n5 (by intros;rfl)) (ixc (n1 (by intros;rfl)) (ixc (n4 (by intros;rfl)) (ixc (n1 (by intros;rfl)) (ixc (n4 (by intros;rfl)) (ixc (n1 (by intros;rfl)) (ixc (n2 (by intros;rfl)) (ixc (n1 (by intros;rfl)) (ixc (n1 (by intros;rfl)) (ixc (n2 (by intros;rfl)) (ixc (n1 (by intros;rfl)) (ixc (n2 (by intros;rfl)) (ixc (n2 (by intros;rfl)) (ixc (n3 (by intros;rfl)) (ixc (n2 (by intros;rfl)) (ixc (n2 (by intros;rfl)) (ixc (n3 (by intros;rfl)) (ixc (n5 (by intros;rfl)) (ixc (n2 (by intros;rfl)) (ixc (n3 (by intros;rfl)) (ixc (n1 (by intros;rfl)) (ixc (n2 (by intros;rfl)) (ixc (n3 (by intros;rfl)) (ixc (n3 (by intros;rfl)) (ixc (n2 (by intros;rfl)) (ixc (n2 (by intros;rfl)) (ixc (n5 (by intros;rfl)) (ixc (n3 (by intros;rfl)) (ixc (n1 (by intros;rfl)) (ixc (n3 (by intros;rfl)) (ixc (n4 (by intros;rfl)) (ixc (n3 (by intros;rfl)) (ixc (n1 (by intros;rfl)) (ixn)))))))))))))))))))))))))))))))))))))) (by kernel_rfl) (by kernel_rfl) (by kernel_rfl) (by kernel_rfl) (fun _ _=>rfl) (fun _ _=>rfl) (fun _=>rfl) (by kernel_rfl) ?_ ?_ ?_⟩
 ·intro k x hi
  match k,hi with
  |0,hi=>cases hi;exact⟨_,.int (6),PySem.W.mg_of X Gn gl0,⟨_,rfl⟩,fun H=>rfl⟩
  |n+1,hi=>simp[nm]at hi
 ·intro i f hx
  cases (show ([]:List (Nat×Nat)).lookup i=some f from hx)
 ·intro i f hi hx
  cases (show ([]:List (Nat×Nat)).lookup i=some f from hx)
end G
namespace G
open L2
section
variable {cls kls fad:Nat->PySem.Addr}{M:MH}{Q:VK3}{E:XN}{n:Nat}{p q d:PySem.Addr}{cl ds:List D}{ks:List (List Int)}
noncomputable abbrev fC:Nat:=136762133858116729320171
noncomputable abbrev fW:Nat:=8355170983792620267
structure Wd (kls:Nat->PySem.Addr) (M:MH) (p q d:PySem.Addr) (cl:List D) (ks:List (List Int)) (ds:List D):Prop where
 ip:M p=some (.ins 5 (kls 5) [fC,fW] [.ref q,.ref d])
 iq:M q=some (.lst cl)
 id:M d=some (.dt ks ds)
theorem B8(h:Wd kls M p q d cl ks ds):dE (B cls kls fad) fC (.ref p) M Q=Q (.ref q) M:=by
 simp[dE,h.ip,gj,fC,fW]
theorem sm(h:Wd kls M p q d cl ks ds):dE (B cls kls fad) fW (.ref p) M Q=Q (.ref d) M:=by
 simp[dE,h.ip,gj,fC,fW]
theorem e8{m f:Nat}{R:Nat->Prop}(h:Wd kls M p q d cl ks ds)(hm:mth 5 m=some f)(h1:fC≠m)(h2:fW≠m):dX (B cls kls fad) m (.ref p) M R=R f:=by
 simp[dX,h.ip,hm,h1,h2,dF]
theorem rG(h:Wd kls M p q d cl ks ds):aa T (B cls kls fad) (n+1) 24 [.ref p] M Q E=Q (.int cl.length) M:=by
 simp[dO,aY,B8 h]
 simp[rBi,aj,aw,h.iq]
theorem lE{i:Int}(h:Wd kls M p q d cl ks ds):aa T (B cls kls fad) (n+2) 25 [.ref p,.int i] M Q E=Q (.bl (decide (0<=i)&&decide (i < cl.length))) M:=by
 simp[fx,aT]
 by_cases h0:0<=i
 ·simp[h0]
  rw[e8 h (f:=24) (by decide) (by decide) (by decide),rG h]
  simp
 ·simp[h0]
noncomputable def okH(n:Nat)(i:Int):Bool:=decide (0<=i)&&decide (i < n)
theorem dM{i:Int}(h:Wd kls M p q d cl ks ds):aa T (B cls kls fad) (n+3) 22 [.ref p,.int i] M Q E=if okH cl.length i=true then Q .non M else E ⟨1,none⟩ M:=by
 simp[dJ,aH]
 rw[e8 h (f:=25) (by decide) (by decide) (by decide),lE h]
 unfold okH
 cases (decide (0<=i)&&decide (i < (cl.length:Int)))<;>simp[au]
theorem iy{i j:Int}(h:Wd kls M p q d cl ks ds):aa T (B cls kls fad) (n+4) 23 [.ref p,.int i,.int j] M Q E=if okH cl.length i=true/\okH cl.length j=true/\i≠j then Q .non M else E ⟨1,none⟩ M:=by
 simp[dI,aG]
 rw[e8 h (f:=22) (by decide) (by decide) (by decide),dM h]
 by_cases h1:okH cl.length i=true
 ·simp[h1]
  rw[e8 h (f:=22) (by decide) (by decide) (by decide),dM h]
  by_cases h2:okH cl.length j=true
  ·simp[h2]
   by_cases h3:i=j<;>simp[h3,au]
  ·simp[h2]
 ·simp[h1]
noncomputable def lC(l:Int)(m:Option Int):Bool:=decide (l < 0)||(match m with|some m=>decide (m < l)|none=>false)
theorem mR{l:Int}{m:Option Int}:aa T (B cls kls fad) (n+1) 19 [.int l,oi m] M Q E=if lC l m=true then E ⟨3,none⟩ M else Q .non M:=by
 simp[fk,aU]
 by_cases h1:l < 0
 ·simp[h1,lC,au]
 ·cases m with
  |none=>simp[h1,lC,oi]
  |some m=>
   simp[h1,lC,oi]
   by_cases h2:m < l<;>simp[h2,au]
noncomputable def pq(p:Int×Int):Bool:=decide (p.1 < 1)||decide (p.2 < p.1)
theorem q9{a b:Int}:aa T (B cls kls fad) (n+1) 18 [.int a,.int b] M Q E=if pq (a,b)=true then E ⟨2,none⟩ M else Q .non M:=by
 simp[gB,br]
 by_cases h1:a < 1
 ·simp[h1,pq,au]
 ·by_cases h2:b < a<;>simp[h1,h2,pq,au]
theorem BW{i j:Int}(h:Wd kls M p q d cl ks ds)(hl:ks.length=ds.length):am .In (.tup [.int i,.int j]) (.ref d) M Q=Q (.bl (decide ([i,j]∈ks))) M:=by
 have e:(getD ks ds [i,j]).isSome=decide ([i,j]∈ks):=by
  clear h
  induction ks generalizing ds with
  |nil=>cases ds<;>simp[getD]
  |cons k ks ih=>
   cases ds with
   |nil=>simp at hl
   |cons x ds=>
    simp only[getD]
    by_cases e:k=[i,j]
    ·simp[e]
    ·rw[if_neg e,ih (by simpa using hl)]
     simp[Ne.symm e]
 simp[am,ka,aw,aj,h.id,fP,gY,iA,pc,jd,e]
theorem kz{k:List Int}:∀{ks:List (List Int)},k∉ks->ao ks k=ks++[k]
 |[],_=>rfl
 |a::ks,h=>by
  have h1:a≠k:=fun e=>h (by simp[e])
  have h2:k∉ks:=fun e=>h (by simp[e])
  simp[ao,h1,kz h2]
noncomputable def way(l:Int)(m:Option Int):D:=.tup [.int l,oi m]
theorem qo{i j l:Int}{m:Option Int}(h:Wd kls M p q d cl ks ds)(hl:ks.length=ds.length)(hz:ks.length < 1000):aa T (B cls kls fad) (n+5) 21 [.ref p,.int i,.int j,.int l,oi m] M Q E =
  if okH cl.length i=true/\okH cl.length j=true/\i≠j then if [i,j]∈ks then E ⟨3,none⟩ M else if lC l m=true then E ⟨3,none⟩ M else Q .non (put M d (.dt (ao ks [i,j]) (az ks ds [i,j] (way l m)))) else E ⟨1,none⟩ M:=by
 have hs:ks.length < PySem.sizeLine:=Nat.lt_of_lt_of_le hz (by decide)
 simp[eA,aO]
 rw[e8 h (f:=23) (by decide) (by decide) (by decide),iy h]
 by_cases h1:okH cl.length i=true/\okH cl.length j=true/\i≠j
 ·simp[h1,au]
  rw[show dE (B cls kls fad) 8355170983792620267 (.ref p) M _=_ from sm h]
  rw[BW h hl]
  by_cases h2:[i,j]∈ks
  ·simp[h2,au]
  ·simp[h2]
   rw[mR]
   by_cases h3:lC l m=true
   ·simp[h3]
   ·simp[h3,au]
    rw[show dE (B cls kls fad) 8355170983792620267 (.ref p) M _=_ from sm h]
    simp[bD,h.id,pc,jd,hs,g6 h.id,way]
 ·have h1':¬ (okH cl.length i=true/\okH cl.length j=true/\¬ i=j):=h1
  simp[h1']
noncomputable def cD(p:Int×Int):D:=.tup [.int p.1,.int p.2]
structure Wy where
 i:Int
 j:Int
 l:Int
 m:Option Int
noncomputable def wD(w:Wy):D:=.tup [.int w.i,.int w.j,.int w.l,oi w.m]
theorem eS{M:MH}{a b:PySem.Addr}{x y z:DO}(h:a≠b):put (put (put M a x) b y) a z=put (put M a z) b y:=by
 funext c
 unfold put
 by_cases h1:c=a
 ·subst h1;simp[h]
 ·simp[h1]
theorem nc{M:MH}{a b c:PySem.Addr}{x y w z:DO}(h:a≠b)(h':a≠c):put (put (put (put M a x) b y) c w) a z=put (put (put M a z) b y) c w:=by
 funext e
 unfold put
 by_cases h1:e=a
 ·subst h1;simp[h,h']
 ·simp[h1]
theorem ms{R:MH->Prop}{f:Nat}{y:D}{i:Nat}{C:PySem.Addr}{ns:List Nat}{es:List D}(h:M p=some (.ins i C ns es)):gz (B cls kls fad) f y R (.ref p) M=((C=(B cls kls fad).kls i/\i < (B cls kls fad).nk/\(B cls kls fad).fok i f=true/\ns.length < 1000)/\R (put M p (.ins i C (bT f ns) (bS f y ns es)))):=by
 simp[gz,h]
noncomputable def pr(w:Wy):List Int:=[w.i,w.j]
noncomputable def wv(w:Wy):D:=way w.l w.m
structure Wy.good (n:Nat) (w:Wy):Prop where
 i:okH n w.i=true
 j:okH n w.j=true
 ne:w.i≠w.j
 l:lC w.l w.m=false
theorem kn{k:List Int}{v:D}:∀{ks:List (List Int)}{ds:List D},ks.length=ds.length->k∉ks->az ks ds k v=ds++[v]
 |[],[],_,_=>rfl
 |a::ks,e::ds,hl,h=>by
  have h1:a≠k:=fun z=>h (by simp[z])
  have h2:k∉ks:=fun z=>h (by simp[z])
  simp[az,h1,kn (by simpa using hl) h2]
theorem jb{S:MH->Prop}(hS:S M){De:Ends3}{ES:St3->XN}{R:Prop}{x0 x1 x2 x5 x6 x7 x8:Option D}:∀(cks:List (Int×Int)) (x3 x4:Option D),(∀c∈cks,pq c=false)->(∀x y,De.nx [x0,x1,x2,x,y,x5,x6,x7,x8] M=R)->
  bN ⟨(B cls kls fad),aa T (B cls kls fad) (n+1)⟩ (.tup [3,4]) bw ES S De (cks.map cD) [x0,x1,x2,x3,x4,x5,x6,x7,x8] M=R
 |[],x3,x4,_,hR=>by simp[ba,hR,hS]
 |(c1,c2)::r,x3,x4,hc,hR=>by
  have ih:=jb hS (De:=De) (ES:=ES) (R:=R) (x0:=x0) (x1:=x1) (x2:=x2) (x5:=x5) (x6:=x6) (x7:=x7) (x8:=x8) r (some (.int c1)) (some (.int c2)) (fun c h=>hc c (List.mem_cons_of_mem _ h)) hR
  have h':=hc (c1,c2) List.mem_cons_self
  rw[List.map_cons,aC]
  simp only[bw,cD]at ih ⊢
  rw[<-ih]
  simp[q9,h',hS]
theorem hJ{S:MH->Prop}{Mb:MH}(hS:∀ks ds,S (put Mb d (.dt ks ds)))(hw:∀ks ds,Wd kls (put Mb d (.dt ks ds)) p q d cl ks ds){De:Ends3}{ES:St3->XN}{R:Prop}{x1 x2 x3 x4:Option D}:∀(wy:List Wy) (ks:List (List Int)) (ds:List D) (x5 x6 x7 x8:Option D),ks.length=ds.length->ks.length+wy.length < 500->
  (∀w∈wy,w.good cl.length)->(wy.map pr).Nodup->(∀w∈wy,pr w∉ks)->(∀x5 x6 x7 x8,De.nx [some (.ref p),x1,x2,x3,x4,x5,x6,x7,x8] (put Mb d (.dt (ks++wy.map pr) (ds++wy.map wv)))=R)->
  bN ⟨(B cls kls fad),aa T (B cls kls fad) (n+5)⟩ (.tup [5,6,7,8]) bv ES S De (wy.map wD) [some (.ref p),x1,x2,x3,x4,x5,x6,x7,x8] (put Mb d (.dt ks ds))=R
 |[],ks,ds,x5,x6,x7,x8,hl,hz,hg,hn,hk,hR=>by
  have:=hR x5 x6 x7 x8
  simp at this
  simp[ba,this,hS]
 |w::r,ks,ds,x5,x6,x7,x8,hl,hz,hg,hn,hk,hR=>by
  simp only[List.length_cons]at hz
  have g:=hg w List.mem_cons_self
  have hin:[w.i,w.j]∉ks:=hk w List.mem_cons_self
  rw[List.map_cons,List.nodup_cons]at hn
  have ih:=hJ hS hw (De:=De) (ES:=ES) (R:=R) (x1:=x1) (x2:=x2) (x3:=x3) (x4:=x4) r (ks++[[w.i,w.j]]) (ds++[way w.l w.m]) (some (.int w.i)) (some (.int w.j)) (some (.int w.l)) (some (oi w.m)) (by simp[hl]) (by simp;omega) (fun v hv=>hg v (List.mem_cons_of_mem _ hv)) hn.2 (fun v hv=>by
   intro z
   rcases List.mem_append.mp z with z|z
   ·exact hk v (List.mem_cons_of_mem _ hv) z
   ·exact hn.1 (by rw[show pr w=pr v from (List.mem_singleton.mp z).symm];exact List.mem_map_of_mem hv)) (fun a b c e=>by
    have:=hR a b c e
    simpa [pr,wv] using this)
  rw[List.map_cons,aC]
  simp only[bv,wD]at ih ⊢
  have h1:okH cl.length w.i=true/\okH cl.length w.j=true/\w.i≠w.j:=⟨g.i,g.j,g.ne⟩
  simp[qQ,hS]
  rw[e8 (hw ks ds) (f:=21) (by decide) (by decide) (by decide),qo (hw ks ds) hl (by omega),if_pos h1,if_neg hin,g.l,if_neg Bool.false_ne_true,cn,kz hin,kn hl hin]
  simpa using ih
noncomputable def wO(kls:Nat->PySem.Addr)(cks:List (Int×Int))(wy:List Wy):D:=.obj 5 (kls 5) [fC,fW] [.rol (cks.map cD),.dit (wy.map pr) (wy.map wv)]
theorem qC{cks:List (Int×Int)}{wy:List Wy}(hM:Fm M)(h1:1<=cks.length)(h6:cks.length<=6)(hc:∀c∈cks,pq c=false)(h2:wy.length < 400)(hw1:∀w∈wy,w.good cks.length)(hn:(wy.map pr).Nodup) :
  (∀p,M p=none->aa T (B cls kls fad) (n+6) 20 [.ref p,.rol (cks.map cD),.rol (wy.map wD)] (put M p (.ins 5 (kls 5) [] [])) (fun v M2=>v=.non/\aW Q (.ref p) M2) (fun i M'=>E i (del M' p)))=Q (wO kls cks wy) M:=by
 refine aE hM fun p hp=>?_
 have hz:cks.length<=PySem.sizeLine:=Nat.le_trans (show cks.length<=1000 by omega) (by decide)
 have hB:¬ (cks.length:Int) < 1:=by omega
 have hC:¬ (6:Int) < cks.length:=by omega
 have hB':¬ cks.length < 1:=by omega
 have hC':¬ 6 < cks.length:=by omega
 have hne:¬ cks=[]:=fun z=>by simp[z]at h1
 simp[gC,bq,hB,hC,hB',hC',hne]
 refine iff_of_eq (jb (S:=fun _=>True) trivial cks none none hc fun x y=>?_)
 simp[rBi,aw,aj,hz]
 refine iff_of_eq (aE (hM.put _ _) fun q hq=>?_)
 obtain⟨hqp,hq⟩:=bP hq
 rw[show gz (B cls kls fad) 136762133858116729320171 (.ref q) _ (.ref p) (put (put M p (.ins 5 (kls 5) [] [])) q (.lst (cks.map cD)))=_ from ms (by rw[ak (Ne.symm hqp),ag])]
 simp
 rw[eS (Ne.symm hqp)]
 refine iff_of_eq (aE ((hM.put _ _).put _ _) fun d hd=>?_)
 obtain⟨hdq,hd⟩:=bP hd
 obtain⟨hdp,hd⟩:=bP hd
 rw[show gz (B cls kls fad) 8355170983792620267 (.ref d) _ (.ref p) (put (put (put M p (.ins 5 (kls 5) [136762133858116729320171] [.ref q])) q (.lst (cks.map cD))) d (.dt [] []))=_ from ms (by rw[ak (Ne.symm hdp),ak (Ne.symm hqp),ag])]
 simp
 rw[nc (Ne.symm hqp) (Ne.symm hdp)]
 have hw:∀ks ds,Wd kls (put (put (put M p (.ins 5 (kls 5) [fC,fW] [.ref q,.ref d])) q (.lst (cks.map cD))) d (.dt ks ds)) p q d (cks.map cD) ks ds:=fun ks ds=>
  ⟨by rw[ak (Ne.symm hdp),ak (Ne.symm hqp),ag],by rw[ak (Ne.symm hdq),ag],ag⟩
 refine iff_of_eq (hJ (S:=fun _=>True) (fun ks ds=>trivial) hw wy [] [] none none none none rfl (by simp;omega) (by simpa using hw1) hn (fun w _ z=>by cases z) fun x5 x6 x7 x8=>?_)
 rw[List.nil_append,List.nil_append]
 simp only[aW]
 rw[(hw _ _).ip]
 simp only[bM]
 have e1:∀ks' ds',del (put (put (put M p (.ins 5 (kls 5) [fC,fW] [.ref q,.ref d])) q (.lst (cks.map cD))) d (.dt ks' ds')) p q=some (.lst (cks.map cD)):=fun ks' ds'=>by
  unfold del;rw[if_neg hqp];exact (hw ks' ds').iq
 rw[e1]
 have e2:∀ks' ds',del (del (put (put (put M p (.ins 5 (kls 5) [fC,fW] [.ref q,.ref d])) q (.lst (cks.map cD))) d (.dt ks' ds')) p) q d=some (.dt ks' ds'):=fun ks' ds'=>by
  unfold del;rw[if_neg hdq,if_neg hdp];exact (hw ks' ds').id
 simp only[e2]
 have e3:∀ks' ds',del (del (del (put (put (put M p (.ins 5 (kls 5) [fC,fW] [.ref q,.ref d])) q (.lst (cks.map cD))) d (.dt ks' ds')) p) q) d=M:=fun ks' ds'=>by
  funext a
  unfold del put
  by_cases a1:a=d
  ·subst a1;simp[hd]
  ·by_cases a2:a=q
   ·subst a2;simp[hq,a1]
   ·by_cases a3:a=p
    ·subst a3;simp[hp,a1,a2]
    ·simp[a1,a2,a3]
 rw[e3]
 rfl
theorem tO(ns:List Int)(k:Nat):∃x:Int,∀{n:Nat}{M:MH}{Q:VK3}{E:XN},aa T (B cls kls fad) (n+1) 28 [scr ns,.int k] M Q E=Q (.int x) M:=by
 by_cases h:k < ns.length
 ·obtain⟨x,hx⟩:=zK (cs:=ns) (i:=k) (by omega) (by omega)
  refine⟨x,?_⟩
  intro n M Q E
  have h':(k:Int) < ns.length:=by omega
  simp[dN,aZ,scr,bU hx,h]
 ·refine⟨0,?_⟩
  intro n M Q E
  simp[dN,aZ,scr,h]
theorem kM(lo:Int)(k:Nat):rng lo (k+1)=.int lo::rng (lo+1) k:=by
 simp only[rng,List.range_succ_eq_map,List.map_cons,List.map_map]
 congr 1
 ·simp
 ·apply List.map_congr_left;intro i _;simp;omega
variable {cks:List (Int×Int)}{wy:List Wy}
theorem o_c:dE (B cls kls fad) 136762133858116729320171 (wO kls cks wy) M Q=Q (.rol (cks.map cD)) M:=by simp[wO,fC,fW]
theorem o_m{m f:Nat}{R:Nat->Prop}(hm:mth 5 m=some f)(h1:fC≠m)(h2:fW≠m):dX (B cls kls fad) m (wO kls cks wy) M R=R f:=by
 simp[wO,hm,h1,h2]
theorem o1{R:Nat->Prop}:dX (B cls kls fad) 31081607400 (wO kls cks wy) M R=R 24:=o_m (by decide) (by decide) (by decide)
theorem oF:aa T (B cls kls fad) (n+1) 24 [wO kls cks wy] M Q E=Q (.int cks.length) M:=by
 simp[dO,aY,o_c]
end
end G
namespace G
open L2
section
variable {cls kls fad:Nat->PySem.Addr}{M:MH}{Q:VK3}{E:XN}{n:Nat}{p q:PySem.Addr}{cks:List (Int×Int)}{wy:List Wy}
theorem gA{i:Int}:aa T (B cls kls fad) (n+1) 0 [.int i] M Q E=Q (.bl true) M:=by
 simp[kO,cT]
theorem tY{a b:Int}{E:PySem.Addr->XN}(hM:Fm M):(∀p,M p=none->aa T (B cls kls fad) (n+2) 2 [.ref p,.int a,.int b] (put M p (.ins 1 (kls 1) [] [])) (fun v M2=>v=.non/\aW Q (.ref p) M2) (E p))=Q (.obj 1 (kls 1) [211529960,456806758904562] [.int a,.int b]) M:=
 aE hM fun p hp=>by simp[iz,bG,aM,aq,hp]
theorem qy{a b c d:Int}{E:PySem.Addr->XN}(hM:Fm M):(∀p,M p=none->aa T (B cls kls fad) (n+2) 4 [.ref p,.int a,.int b,.int c,.int d] (put M p (.ins 2 (kls 2) [] [])) (fun v M2=>v=.non/\aW Q (.ref p) M2) (E p))=Q (.obj 2 (kls 2) [211529960,456806758904562,32709062885,213725420] [.int a,.int b,.int c,.int d]) M:=
 aE hM fun p hp=>by simp[gS,bn,aM,aq,hp]
theorem vc{a b c:Int}{E:PySem.Addr->XN}(hM:Fm M):(∀p,M p=none->aa T (B cls kls fad) (n+2) 6 [.ref p,.int a,.int b,.int c] (put M p (.ins 3 (kls 3) [] [])) (fun v M2=>v=.non/\aW Q (.ref p) M2) (E p))=Q (.obj 3 (kls 3) [211529960,456806758904562,14324] [.int a,.int b,.int c]) M:=
 aE hM fun p hp=>by simp[iK,bI,aM,aq,hp]
theorem uf{a b:Int}{c:List D}{E:PySem.Addr->XN}(hM:Fm M):(∀p,M p=none->aa T (B cls kls fad) (n+2) 8 [.ref p,.int a,.int b,.tup c] (put M p (.ins 4 (kls 4) [] [])) (fun v M2=>v=.non/\aW Q (.ref p) M2) (E p))=Q (.obj 4 (kls 4) [211529960,456806758904562,3944367338220] [.int a,.int b,.tup c]) M:=
 aE hM fun p hp=>by simp[iG,bJ,aM,aq,hp]
inductive Rw where
 |look (h r:Int)|sight (h r e l:Int)|send (h r t:Int)|take (h r a b:Int)
noncomputable def Rw.d:Rw->D
 |.look h r=>.tup [.str "look",.int h,.int r]
 |.sight h r e l=>.tup [.str "sight",.int h,.int r,.int e,.int l]
 |.send h r t=>.tup [.str "send",.int h,.int r,.int t]
 |.take h r a b=>.tup [.str "take",.int h,.int r,.tup [.int a,.int b]]
noncomputable def Rw.o(kls:Nat->PySem.Addr):Rw->D
 |.look h r=>.obj 1 (kls 1) [211529960,456806758904562] [.int h,.int r]
 |.sight h r e l=>.obj 2 (kls 2) [211529960,456806758904562,32709062885,213725420] [.int h,.int r,.int e,.int l]
 |.send h r t=>.obj 3 (kls 3) [211529960,456806758904562,14324] [.int h,.int r,.int t]
 |.take h r a b=>.obj 4 (kls 4) [211529960,456806758904562,3944367338220] [.int h,.int r,.tup [.int a,.int b]]
theorem lA{ns:List Int}{k:Int}(hM:Fm M)(hl:ns.length < 1000):aa T (B cls kls fad) (n+2) 10 [.tup (ns.map D.int),.int k] M Q E=Q (.bl (decide ((ns.length:Int)=k))) M:=by
 simp[jK,b8]
 by_cases h:(ns.length:Int)=k
 ·simp[h,aP]
  rw[iL (fun _=>.bl true) hM (by rw[List.length_map];omega) (fun d hd M' hM' Q'=>by
   obtain⟨i,_,rfl⟩:=List.mem_map.mp hd
   simp[gA])]
  rw[qX (fun _=>true) (fun _ _=>rfl)]
  have:∀l:List Int,(l.all fun _=>true)=true:=fun l=>List.all_eq_true.mpr fun _ _=>rfl
  simp[this]
 ·simp[h]
theorem xc{a b k:Int}(hM:Fm M):aa T (B cls kls fad) (n+2) 10 [.tup [.int a,.int b],.int k] M Q E=Q (.bl (decide (2=k))) M:=lA (ns:=[a,b]) hM (by simp)
theorem Ez{a b c k:Int}(hM:Fm M):aa T (B cls kls fad) (n+2) 10 [.tup [.int a,.int b,.int c],.int k] M Q E=Q (.bl (decide (3=k))) M:=lA (ns:=[a,b,c]) hM (by simp)
theorem ET{a b c d k:Int}(hM:Fm M):aa T (B cls kls fad) (n+2) 10 [.tup [.int a,.int b,.int c,.int d],.int k] M Q E=Q (.bl (decide (4=k))) M:=lA (ns:=[a,b,c,d]) hM (by simp)
theorem oH{a b:Int}(hM:Fm M):aa T (B cls kls fad) (n+3) 11 [.tup [.int a,.int b]] M Q E=Q (.bl true) M:=by
 simp[j3,cu,xc hM]
theorem jT(r:Rw)(hM:Fm M):aa T (B cls kls fad) (n+4) 12 [r.d] M Q E=Q (r.o kls) M:=by
 cases r with
 |look h r=>simp +decide [cx,aQ,Rw.d,Rw.o,whole,HT.sIx,bj,xc hM,tY hM,ni,nt,nv]
 |sight h r e l=>simp +decide [cx,aQ,Rw.d,Rw.o,whole,HT.sIx,bj,ET hM,qy hM,ni,nt,nv,pp]
 |send h r t=>simp +decide [cx,aQ,Rw.d,Rw.o,whole,HT.sIx,bj,Ez hM,vc hM,ni,nt,nv,pp]
 |take h r a b=>simp +decide [cx,aQ,Rw.d,Rw.o,whole,HT.sIx,bj,xc hM,oH hM,uf hM,ni,nt,nv,pp]
end
end G
namespace G
open L2
section
variable {cls kls fad:Nat->PySem.Addr}{M:MH}{Q:VK3}{E:XN}{n:Nat}{p q a b d m:PySem.Addr}{cks:List (Int×Int)}{wy:List Wy}{M0:MH}
noncomputable def Rw.h:Rw->Int
 |.look h _=>h
 |.sight h _ _ _=>h
 |.send h _ _=>h
 |.take h _ _ _=>h
noncomputable def Rw.r:Rw->Int
 |.look _ r=>r
 |.sight _ r _ _=>r
 |.send _ r _=>r
 |.take _ r _ _=>r
variable {r:Rw}
theorem rF{ks:List Key}{ds:List D}{h c:Int}(hM:M a=some (.dk ks ds))(hz:ks.length < 1000)(hc:(getD ks ds (.inl h)).getD (.int 0)=.int c) :
  aa T (B cls kls fad) (n+1) 13 [.ref a,.int h] M Q E=Q (.tup [.int h,.int c]) (put M a (.dk (ao ks (.inl h)) (az ks ds (.inl h) (.int (c+1))))):=by
 have hs:ks.length < PySem.sizeLine:=Nat.lt_of_lt_of_le hz (by decide)
 simp[lu,cM,pb hM,lV hM,hc,kh hM,hs,g6 hM,au]
noncomputable def c7(c:Int->Nat)(h:Int):Int->Nat:=fun x=>if x=h then c x+1 else c x
noncomputable def nmF:List Int->(Int->Nat)->List (Int×Nat)
 |[],_=>[]
 |h::r,c=>(h,c h)::nmF r (c7 c h)
noncomputable def nD(p:Int×Nat):D:=.tup [.int p.1,.int p.2]
theorem sC:ax r.d (.int 1) M Q=Q (.int r.h) M:=by cases r<;>simp[Rw.d,Rw.h]
theorem ij{a b:PySem.Addr}(hab:a≠b){M0:MH}{De:Ends3}{ES:St3->XN}{R:Prop}{log:Option D}:∀(rs:List Rw) (ks:List Key) (ds acc:List D) (c:Int->Nat) (x3:Option D),ks.length=ds.length->ks.length+rs.length < 500->acc.length+rs.length < 500->(∀h,(getD ks ds (.inl h)).getD (.int 0)=.int (c h))->
  (∀ks' ds' x,De.nx [log,some (.ref a),some (.ref b),x] (put (put M0 a (.dk ks' ds')) b (.lst (acc++(nmF (rs.map Rw.h) c).map nD)))=R)->
  bN ⟨(B cls kls fad),aa T (B cls kls fad) (n+1)⟩ (.name 3) cO ES (fun _=>True) De (rs.map Rw.d) [log,some (.ref a),some (.ref b),x3] (put (put M0 a (.dk ks ds)) b (.lst acc))=R
 |[],ks,ds,acc,c,x3,_,_,_,_,hR=>by
  have:=hR ks ds x3
  simp[nmF]at this
  simp[ba,this]
 |r::rs,ks,ds,acc,c,x3,hl,h1,h2,hc,hR=>by
  have ha:(put (put M0 a (.dk ks ds)) b (.lst acc)) a=some (.dk ks ds):=by rw[ak hab,ag]
  simp only[List.length_cons]at h1 h2
  have hs:acc.length < PySem.sizeLine:=Nat.lt_of_lt_of_le (show acc.length < 1000 by omega) (by decide)
  have ih:=ij hab (M0:=M0) (De:=De) (ES:=ES) (R:=R) (log:=log) rs (ao ks (.inl r.h)) (az ks ds (.inl r.h) (.int (c r.h+1))) (acc++[nD (r.h,c r.h)]) (c7 c r.h) (some r.d) (fy hl) (by have:=dD (ks:=ks) (k:=(.inl r.h:Key));omega) (by simp;omega) (fun x=>by
    rw[eB hl]
    by_cases e:r.h=x
    ·subst e;simp[c7]
    ·have e2:¬ ((Sum.inl r.h:Key)=Sum.inl x):=fun z=>e (Sum.inl.inj z)
     rw[if_neg e2,hc x];simp[c7,Ne.symm e]) (by
    intro ks' ds' x
    have:=hR ks' ds' x
    simpa [nmF] using this)
  have i1:=fun {M:MH}{Q:VK3}=>sC (M:=M) (Q:=Q) (r:=r)
  rw[List.map_cons,aC]
  simp[cO,↓i1,rF (n:=n) ha (by omega) (hc r.h),eS hab,hs]
  simpa [nD,cO] using ih
theorem jm(rs:List Rw)(hl:rs.length < 400)(hM:Fm M):aa T (B cls kls fad) (n+2) 14 [.rol (rs.map Rw.d)] M Q E=Q (.rol ((nmF (rs.map Rw.h) fun _=>0).map nD)) M:=by
 simp[qJ,f8]
 refine iff_of_eq (aE hM fun a ha=>?_)
 simp[au]
 refine iff_of_eq (aE (hM.put _ _) fun b hb=>?_)
 obtain⟨hab,hb⟩:=bP hb
 refine ij (Ne.symm hab) rs [] [] [] _ _ rfl (by simp;omega) (by simp;omega) (fun h=>rfl) fun ks' ds' x=>?_
 simp[ha,hb,ak hab]
theorem oJ:∀(hs:List Int) (c:Int->Nat) (h:Int),nmF (hs++[h]) c=nmF hs c++[(h,c h+hs.count h)]
 |[],c,h=>by simp[nmF]
 |x::hs,c,h=>by
  rw[List.cons_append,nmF,nmF,oJ hs (c7 c x) h]
  have:c7 c x h+hs.count h=c h+(x::hs).count h:=by
   unfold c7
   by_cases z:h=x
   ·subst z;simp;omega
   ·rw[if_neg z,List.count_cons_of_ne (Ne.symm z)]
  rw[this]
  rfl
theorem mh{De:Ends3}{ES:St3->XN}{R:Prop}{W:WC}{log:Option D}{h v:Int}:∀(l:List (Int×Nat)) (k:Nat) (x2 x3:Option D),(∀p∈l,¬ (p.1=h/\(p.2:Int)=v))->(∀x y,De.nx [log,some (.tup [.int h,.int v]),x,y] M=R)->
  bN W (.tup [2,3]) bz ES (fun _=>True) De (ck k (l.map nD)) [log,some (.tup [.int h,.int v]),x2,x3] M=R
 |[],k,x2,x3,_,hR=>by simp[ck,ba,hR]
 |p::l,k,x2,x3,hn,hR=>by
  have ih:=mh (De:=De) (ES:=ES) (R:=R) (W:=W) (log:=log) l (k+1) (some (.int k)) (some (nD p)) (fun q hq=>hn q (List.mem_cons_of_mem _ hq)) hR
  have h0:=hn p List.mem_cons_self
  rw[List.map_cons,ck,aC]
  have e:(decide (p.1=h)&&decide ((p.2:Int)=v))=false:=by
   rw[Bool.and_eq_false_iff];by_cases e1:p.1=h<;>by_cases e2:(p.2:Int)=v<;>simp_all
  simp[bz,nD,am,cG,rs,aj,plN,eqD,cb,e]at ih ⊢
  simpa [e] using ih
theorem pC{De:Ends3}{ES:St3->XN}{W:WC}{log:Option D}{h:Int}{c:Nat}:∀(pre post:List (Int×Nat)) (k:Nat) (x2 x3:Option D),(∀p∈pre,¬ (p.1=h/\p.2=c))->
  bN W (.tup [2,3]) bz ES (fun _=>True) De (ck k ((pre++(h,c)::post).map nD)) [log,some (.tup [.int h,.int c]),x2,x3] M=De.rt (.int ((k+pre.length:Nat):Int)) M
 |[],post,k,x2,x3,_=>by
  rw[List.nil_append,List.map_cons,ck,aC]
  simp[bz,nD,am,cG,rs,aj,plN,eqD,cb]
 |p::l,post,k,x2,x3,hn=>by
  have ih:=pC (De:=De) (ES:=ES) (W:=W) (log:=log) l post (k+1) (some (.int k)) (some (nD p)) (fun q hq=>hn q (List.mem_cons_of_mem _ hq))
  have h0:=hn p List.mem_cons_self
  rw[List.cons_append,List.map_cons,ck,aC]
  have e:(decide (p.1=h)&&decide ((p.2:Int)=(c:Int)))=false:=by
   rw[Bool.and_eq_false_iff];by_cases e1:p.1=h
   ·exact .inr (decide_eq_false fun z=>h0 ⟨e1,by omega⟩)
   ·exact .inl (decide_eq_false e1)
  have e3:k+(p::l).length=k+1+l.length:=by simp;omega
  rw[e3,<-ih]
  simp[bz,nD,am,cG,rs,aj,plN,eqD,cb,e]
theorem jE:∀(hs:List Int) (c:Int->Nat) (p:Int×Nat),p∈nmF hs c->p.1∈hs/\c p.1<=p.2/\p.2 < c p.1+hs.count p.1
 |[],_,_,h=>by cases h
 |h::r,c,p,hp=>by
  rcases List.mem_cons.mp hp with rfl|hp
  ·simp
  ·obtain⟨h1,h2,h3⟩:=jE r _ p hp
   unfold c7 at h2 h3
   by_cases e:p.1=h
   ·subst e;simp at h2 h3 ⊢;omega
   ·rw[if_neg e]at h2 h3
    rw[List.count_cons_of_ne (Ne.symm e)]
    exact⟨List.mem_cons_of_mem _ h1,h2,h3⟩
theorem sy:∀(hs:List Int) (c:Int->Nat) (j:Nat) (h:Int),hs[j]?=some h->nmF hs c=nmF (hs.take j) c++(h,c h+(hs.take j).count h)::(nmF hs c).drop (j+1)/\∀p∈nmF (hs.take j) c,¬ (p.1=h/\p.2=c h+(hs.take j).count h)
 |[],_,_,_,e=>by simp at e
 |x::r,c,0,h,e=>by
  simp at e;subst e
  simp[nmF]
 |x::r,c,j+1,h,e=>by
  have e':r[j]?=some h:=by simpa using e
  obtain⟨h1,h2⟩:=sy r (c7 c x) j h e'
  have hb:c7 c x h+(r.take j).count h=c h+((x::r).take (j+1)).count h:=by
   unfold c7
   by_cases z:h=x
   ·subst z;simp;omega
   ·rw[if_neg z,List.take_succ_cons,List.count_cons_of_ne (Ne.symm z)]
  rw[hb]at h1 h2
  refine⟨?_,fun p hp hq=>?_⟩
  ·simp only[nmF,List.take_succ_cons,List.cons_append,List.drop_succ_cons]
   rw[List.take_succ_cons]at h1
   rw[<-h1]
  ·rw[List.take_succ_cons]at hp
   rcases List.mem_cons.mp hp with rfl|hp
   ·obtain⟨q1,q2⟩:=hq
    simp at q1 q2
    subst q1
    simp at q2<;>omega
   ·exact h2 p hp hq
theorem eZ:∀(hs:List Int) (c:Int->Nat),(nmF hs c).length=hs.length
 |[],_=>rfl
 |h::r,c=>by simp[nmF,eZ r]
theorem li{rs:List Rw}(hl:rs.length < 400)(hM:Fm M){j:Nat}{h:Int}(hj:(rs.map Rw.h)[j]?=some h):aa T (B cls kls fad) (n+3) 15 [.rol (rs.map Rw.d),.tup [.int h,.int (((rs.map Rw.h).take j).count h:Nat)]] M Q E=Q (.int j) M:=by
 obtain⟨h1,h2⟩:=sy _ (fun _=>0) j h hj
 have hlen:(nmF ((rs.map Rw.h).take j) (fun _=>0)).length=j:=by
  rw[eZ,List.length_take];have:=(List.getElem?_eq_some_iff.mp hj).1;omega
 simp[lI,eI,jm rs hl hM]
 rw[Nat.zero_add]at h1 h2
 rw[h1]
 refine iff_of_eq ((pC _ _ 0 none none h2).trans ?_)
 rw[hlen]
 simp
theorem lj{rs:List Rw}(hl:rs.length < 400)(hM:Fm M){h v:Int}(hn:h∈rs.map Rw.h->v < 0\/((rs.map Rw.h).count h:Int)<=v):aa T (B cls kls fad) (n+3) 15 [.rol (rs.map Rw.d),.tup [.int h,.int v]] M Q E=E ⟨5,none⟩ M:=by
 simp[lI,eI,jm rs hl hM]
 refine iff_of_eq (mh _ 0 none none (fun p hp hq=>?_) fun x y=>?_)
 ·obtain⟨h1,h2,h3⟩:=jE _ _ p hp
  obtain⟨q1,q2⟩:=hq
  rw[q1]at h1 h3
  have:=hn h1
  simp at h3
  omega
 ·simp[au]
structure PS (H:Nat) (i j:Nat) (ps:List (Nat×Nat)):Prop where
 nd:ps.Nodup
 gd:∀x∈ps,x.1 < H/\x.2 < H/\x.1≠x.2
 lo:∀x∈ps,x.1 < i\/(x.1=i/\x.2 < j)
noncomputable def qD(x:Nat×Nat):D:=.tup [.int x.1,.int x.2]
theorem yY{H one:Nat}(hH:H<=6)(ho:one < H)(ha:M a=none){De:Ends3}{ES:St3->XN}{y0 y1:Option D}:∀(k j:Nat) (ps:List (Nat×Nat)) (num:Int) (x5:Option D),j+k=H->ps.length+k < 400->PS H one j ps->0<=num->num < 10 ^ 12->
  (∀(ps':List (Nat×Nat)) (num':Int) x5,ps'.length<=ps.length+k->PS H (one+1) 0 ps'->0<=num'->num' < 10 ^ 12->De.nx [y0,y1,some (.ref a),some (.int num'),some (.int one),x5] (put M a (.lst (ps'.map qD))))->
  bN ⟨(B cls kls fad),aa T (B cls kls fad) n⟩ (.name 5) bK ES (fun _=>True) De (rng j k) [y0,y1,some (.ref a),some (.int num),some (.int one),x5] (put M a (.lst (ps.map qD)))
 |0,j,ps,num,x5,h1,h2,hW,n0,n1,hR=>by
  show bN _ _ _ _ _ _ [] _ _
  rw[ba]
  refine⟨trivial,hR ps num _ (by omega) ⟨hW.nd,hW.gd,fun x hx=>?_⟩ n0 n1⟩
  rcases hW.lo x hx with h|h<;>omega
 |k+1,j,ps,num,x5,h1,h2,hW,n0,n1,hR=>by
  have c1:ig num num=True:=si (by omega) (by omega) (by omega) (by omega)
  have c2:ig 48271 num=True:=si (by decide) (by decide) (by omega) (by omega)
  have hm:0<=(num * num+48271 * num+(j:Int)) % 2147483647/\(num * num+48271 * num+(j:Int)) % 2147483647 < 2147483647:=⟨Int.emod_nonneg _ (by decide),Int.emod_lt_of_pos _ (by decide)⟩
  generalize hx:(num * num+48271 * num+(j:Int)) % 2147483647=x at hm
  have lz:ps.length < PySem.sizeLine:=by rw[PySem.sizeLine_eq];omega
  rw[kM,aC]
  refine⟨trivial,?_⟩
  have nx:=fun (ps':List (Nat×Nat)) (hw:ps'.length<=ps.length+1) (hW':PS H one (j+1) ps') (x5:Option D)=>yY hH ho ha (De:=De) (ES:=ES) (y0:=y0) (y1:=y1) k (j+1) ps' x x5 (by omega) (by omega) hW' hm.1 (by omega) (fun p2 n2 x hw2 hW2=>hR p2 n2 x (by omega) hW2)
  push_cast at nx
  generalize bN ⟨(B cls kls fad),aa T (B cls kls fad) n⟩ (.name 5) bK ES (fun _=>True) De (rng ((j:Int)+1) k)=K at nx ⊢
  simp only[bK]
  have sk:PS H one (j+1) ps:=⟨hW.nd,hW.gd,fun x hx=>by rcases hW.lo x hx with h|h<;>omega⟩
  by_cases e1:one=j
  ·subst e1
   simp[c1,c2,hx,cg]
   exact nx ps (by omega) sk _
  ·have e1':¬ (one:Int)=(j:Int):=fun z=>e1 (by omega)
   by_cases e2:0 < x % 3
   ·simp[c1,c2,hx,cg,e1',e2,kr,ik,ag,lz,au]
    have hn:(one,j)∉ps:=fun z=>by rcases hW.lo _ z with h|h<;>simp at h<;>omega
    have:=nx (ps++[(one,j)]) (by simp) ⟨by
      rw[List.nodup_append]
      refine⟨hW.nd,by simp,fun a ha b hb=>?_⟩
      rw[List.mem_singleton.mp hb]
      exact fun z=>hn (z▸ha),fun x hx=>by
      rcases List.mem_append.mp hx with h|h
      ·exact hW.gd x h
      ·rw[List.mem_singleton.mp h];exact⟨ho,by show j < H;omega,e1⟩,fun x hx=>by
      rcases List.mem_append.mp hx with h|h
      ·rcases hW.lo x h with h|h<;>omega
      ·rw[List.mem_singleton.mp h];exact .inr ⟨rfl,by show j < j+1;omega⟩⟩
    simpa [qD] using this _
   ·simp[c1,c2,hx,cg,e1',e2]
    exact nx ps (by omega) sk _
theorem sv{H:Nat}(hH:H<=6)(ha:M a=none){De:Ends3}{ES:St3->XN}{y1:Option D}:∀(k j:Nat) (ps:List (Nat×Nat)) (num:Int) (x4 x5:Option D),j+k=H->ps.length<=j * 6->PS H j 0 ps->0<=num->num < 10 ^ 12->
  (∀(ps':List (Nat×Nat)) (num':Int) x4 x5,ps'.length<=36->PS H H 0 ps'->De.nx [some (.int H),y1,some (.ref a),some (.int num'),x4,x5] (put M a (.lst (ps'.map qD))))->
  bN ⟨(B cls kls fad),aa T (B cls kls fad) n⟩ (.name 4) bH ES (fun _=>True) De (rng j k) [some (.int H),y1,some (.ref a),some (.int num),x4,x5] (put M a (.lst (ps.map qD)))
 |0,j,ps,num,x4,x5,h1,h2,hW,n0,n1,hR=>by
  show bN _ _ _ _ _ _ [] _ _
  rw[ba]
  have e:j=H:=by omega
  subst e
  exact⟨trivial,hR ps num _ _ (by omega) hW⟩
 |k+1,j,ps,num,x4,x5,h1,h2,hW,n0,n1,hR=>by
  have hb4:(H:Int) < 4611686018427387904:=by omega
  rw[kM,aC]
  refine⟨trivial,?_⟩
  have nx:=fun (ps':List (Nat×Nat)) (num:Int) (hw:ps'.length<=(j+1) * 6) (hW':PS H (j+1) 0 ps') (n0:0<=num) (n1:num < 10 ^ 12) (x5:Option D)=>sv hH ha (De:=De) (ES:=ES) (y1:=y1) k (j+1) ps' num (some (.int j)) x5 (by omega) hw hW' n0 n1 hR
  push_cast at nx
  generalize bN ⟨(B cls kls fad),aa T (B cls kls fad) n⟩ (.name 4) bH ES (fun _=>True) De (rng ((j:Int)+1) k)=K at nx ⊢
  simp only[bH]
  simp[hb4]
  have key:=yY (cls:=cls) (kls:=kls) (fad:=fad) (n:=n) hH (one:=j) (by omega) ha (De:={De with nx:=K,ct:=K,bk:=De.nx}) (ES:=ES) (y0:=some (.int H)) (y1:=y1) H 0 ps num x5 (by omega) (by omega) hW n0 n1 (fun ps' num' x5 hw hW2 n0 n1=>nx ps' num' (by omega) hW2 n0 n1 _)
  simpa using key
theorem uB{c:Int}{H:Nat}(hH:H<=6)(h:∀ps:List (Nat×Nat),ps.length<=36->PS H H 0 ps->Q (.rol (ps.map qD)) M):aa T (B cls kls fad) (n+1) 29 [.int H,.int c] M Q E:=by
 have h0:=Int.emod_nonneg c (show (2147483647:Int)≠0 by decide)
 have h1:=Int.emod_lt_of_pos c (show (0:Int) < 2147483647 by decide)
 have hb4:(H:Int) < 4611686018427387904:=by omega
 simp[lf,cI,hb4,cg]
 intro a ha
 refine sv hH ha H 0 [] _ none none (by omega) (by simp) ⟨by simp,fun x hx=>(by cases hx),fun x hx=>(by cases hx)⟩ (by omega) (by omega) (fun ps num x4 x5 l1 l2=>?_)
 have z:ps.length<=PySem.sizeLine:=by rw[PySem.sizeLine_eq];omega
 simp[aW,ag,dB ha,ha,z]
 exact h ps l1 l2
end
end G
namespace G
open L2
section
variable {cls kls fad:Nat->PySem.Addr}{M:MH}{Q:VK3}{E:XN}{n:Nat}{p q a b c d m:PySem.Addr}{cks:List (Int×Int)}{wy:List Wy}{M0:MH}{r:Rw}
noncomputable def upC(C:List Int):Rw->List Int
 |.take _ _ a b=>C.set a.toNat (max (C.getD a.toNat 0) (b+1))
 |_=>C
noncomputable def Rw.ltr(H:Nat):Rw->Prop
 |.take _ _ a _=>0<=a/\a < H
 |_=>True
theorem mj{C:List Int}:(upC C r).length=C.length:=by cases r<;>simp[upC]
theorem f9{k m:Nat}(h:k < m):ixN m (k:Int)=some k:=by
 have h1:(k:Int) < m:=by omega
 simp[ixN,h]
theorem fq{C:List Int}{k:Nat}(h:k < C.length):atI (C.map D.int) (k:Int)=some (.int (C.getD k 0)):=bu (by simp[h])
theorem EL{C:List Int}(hM:M c=some (.lst (C.map D.int)))(hr:r.ltr C.length):aa T (B cls kls fad) (n+1) 16 [.ref c,r.o kls] M Q E=Q .non (put M c (.lst ((upC C r).map D.int))):=by
 have e0:put M c (.lst (C.map D.int))=M:=by
  funext x
  unfold put
  by_cases e:x=c
  ·subst e;simp[hM]
  ·simp[e]
 cases r with
 |take h r a b=>
  obtain⟨h0,h1⟩:=hr
  obtain⟨k,rfl⟩:∃k:Nat,a=k:=⟨a.toNat,by omega⟩
  have hk:k < C.length:=by omega
  have i1:∀{Q:VK3},ax (.ref c) (.int (k:Int)) M Q=Q (.int (C.getD k 0)) M:=fun {Q}=>by rw[dQ hM,bU (fq hk)]
  have i2:∀{y:D}{R:MH->Prop},bD (.ref c) (.int (k:Int)) y M R=R (put M c (.lst ((C.map D.int).set k y))):=fun {y R}=>dC hM (f9 (by simpa using hk))
  have hm:∀x y:Int,(if x < y then y else x)=max x y:=fun x y=>by split<;>omega
  simp[bg,aA,Rw.o,upC,↓i1,↓i2,rBi,g6 hM,List.map_set,hm]
 |look h r=>simp[bg,aA,Rw.o,upC,e0]
 |sight h r e l=>simp[bg,aA,Rw.o,upC,e0]
 |send h r t=>simp[bg,aA,Rw.o,upC,e0]
noncomputable def c5(C:List Int)(x:(Int×Nat)×Rw):List Int:=if (x.1.2:Int) < C.getD x.1.1.toNat 0 then upC C x.2 else C
theorem mz{C:List Int}{x:(Int×Nat)×Rw}:(c5 C x).length=C.length:=by
 unfold c5;split
 ·exact mj
 ·rfl
noncomputable def pD(x:(Int×Nat)×Rw):D:=.tup [nD x.1,x.2.d]
theorem i9{De:Ends3}{ES:St3->XN}{R:Prop}{y0 y1 y2 y3 y5:Option D}(hM:Fm M0){H:Nat}:∀(L:List ((Int×Nat)×Rw)) (C:List Int) (x6 x7:Option D),C.length=H->(∀x∈L,0<=x.1.1/\x.1.1 < H/\x.2.ltr H)->
  (∀x6 x7,De.nx [y0,y1,y2,y3,some (.ref c),y5,x6,x7] (put M0 c (.lst ((L.foldl c5 C).map D.int)))=R)->
  bN ⟨(B cls kls fad),aa T (B cls kls fad) (n+4)⟩ (.tup [6,7]) cH ES (fun _=>True) De (L.map pD) [y0,y1,y2,y3,some (.ref c),y5,x6,x7] (put M0 c (.lst (C.map D.int)))=R
 |[],C,x6,x7,_,_,hR=>by
  have:=hR x6 x7
  simp at this
  simp[ba,this]
 |x::L,C,x6,x7,hl,hx,hR=>by
  obtain⟨h0,h1,h2⟩:=hx x List.mem_cons_self
  obtain⟨⟨h,k⟩,r⟩:=x
  simp only at h0 h1 h2
  obtain⟨j,rfl⟩:∃j:Nat,h=j:=⟨h.toNat,by omega⟩
  have hj:j < C.length:=by omega
  have hput:put M0 c (.lst (C.map D.int)) c=some (.lst (C.map D.int)):=ag
  have i1:∀{Q:VK3},ax (.ref c) (.int (j:Int)) (put M0 c (.lst (C.map D.int))) Q=Q (.int (C.getD j 0)) (put M0 c (.lst (C.map D.int))):=fun {Q}=>by rw[dQ hput,bU (fq hj)]
  have ih:=i9 (De:=De) (ES:=ES) (R:=R) (y0:=y0) (y1:=y1) (y2:=y2) (y3:=y3) (y5:=y5) hM L (c5 C ((j,k),r)) (some (nD (j,k))) (some r.d) (by rw[mz];exact hl) (fun x hx'=>hx x (List.mem_cons_of_mem _ hx')) (by simpa using hR)
  rw[List.map_cons,aC]
  generalize bN ⟨(B cls kls fad),aa T (B cls kls fad) (n+4)⟩ (.tup [6,7]) cH ES (fun _=>True) De (L.map pD)=K at ih ⊢
  have hh:∀{M:MH}{Q:VK3}{E:XN},Fm M->aa T (B cls kls fad) (n+4) 12 [r.d] M Q E=Q (r.o kls) M:=fun {M Q E} hM=>jT r hM
  have hc:∀{Q:VK3}{E:XN},aa T (B cls kls fad) (n+4) 16 [.ref c,r.o kls] (put M0 c (.lst (C.map D.int))) Q E=Q .non (put (put M0 c (.lst (C.map D.int))) c (.lst ((upC C r).map D.int))):=fun {Q E}=>EL (n:=n+3) hput (by rw[hl];exact h2)
  rw[<-ih]
  by_cases e:(k:Int) < C.getD j 0
  ·have e':c5 C (((j:Int),k),r)=upC C r:=by simp only[c5,Int.toNat_natCast];rw[if_pos e]
   rw[e']
   simp only[cH,pD,nD]
   simp[↓i1,↓hh (hM.put _ _),↓hc,e,cn,nD]
   intro z
   exact absurd z (by simp at e;omega)
  ·have e':c5 C (((j:Int),k),r)=C:=by simp only[c5,Int.toNat_natCast];rw[if_neg e]
   rw[e']
   simp only[cH,pD,nD]
   simp[↓i1,e,nD]
   intro z
   exact absurd z (by simpa using e)
noncomputable def nms(rs:List Rw):List (Int×Nat):=nmF (rs.map Rw.h) fun _=>0
noncomputable def cQ(H:Nat)(h:Int)(k:Nat):List Int:=(List.replicate H (0:Int)).set h.toNat ((k:Int)+1)
noncomputable def eE(H:Nat)(rs:List Rw)(j:Nat)(h:Int)(k:Nat):List Int:=(((nms rs).zip rs).take (j+1)).reverse.foldl c5 (cQ H h k)
theorem pM(xs:List D)(j:Nat)(h:j < xs.length):bj xs none (some ((j:Int)+1))=xs.take (j+1):=by
 have:HT.sIx xs.length xs.length (some ((j:Int)+1))=j+1:=by
  unfold HT.sIx
  simp
  split<;>omega
 simp only[bj,this]
 simp[HT.sIx]
theorem vN{rs:List Rw}(hl:rs.length < 400)(hM:Fm M)(h1:1<=cks.length)(h6:cks.length<=6){j:Nat}{h:Int}(hj:(rs.map Rw.h)[j]?=some h)(hr:∀r∈rs,0<=r.h/\r.h < cks.length/\r.ltr cks.length) :
  aa T (B cls kls fad) (n+5) 17 [wO kls cks wy,.rol (rs.map Rw.d),.tup [.int h,.int (((rs.map Rw.h).take j).count h:Nat)]] M Q E=Q (.rol ((eE cks.length rs j h (((rs.map Rw.h).take j).count h)).map D.int)) M:=by
 have hjl:j < rs.length:=by have:=(List.getElem?_eq_some_iff.mp hj).1;simpa using this
 have hh:0<=h/\h < cks.length:=by
  obtain⟨x,hx,e⟩:=List.mem_map.mp (List.mem_of_getElem? hj)
  rw[<-e];exact⟨(hr x hx).1,(hr x hx).2.1⟩
 obtain⟨k,rfl⟩:∃k:Nat,h=k:=⟨h.toNat,by omega⟩
 have hk:k < cks.length:=by omega
 have hf:(List.replicate cks.length [D.int 0]).flatten=(List.replicate cks.length (0:Int)).map D.int:=by
  rw[List.flatten_replicate_singleton];simp
 have hs:cks.length<=PySem.sizeLine:=by rw[PySem.sizeLine_eq];omega
 have hp:∀{M:MH}{Q:VK3}{E:XN},Fm M->aa T (B cls kls fad) (n+4) 15 [.rol (rs.map Rw.d),.tup [.int (k:Int),.int (((rs.map Rw.h).take j).count (k:Int):Nat)]] M Q E=Q (.int j) M:=fun {M Q E} hM=>li (n:=n+1) hl hM hj
 have hn:∀{M:MH}{Q:VK3}{E:XN},Fm M->aa T (B cls kls fad) (n+4) 14 [.rol (rs.map Rw.d)] M Q E=Q (.rol ((nms rs).map nD)) M:=fun {M Q E} hM=>jm (n:=n+2) rs hl hM
 have hw:∀{M:MH}{Q:VK3}{E:XN},aa T (B cls kls fad) (n+4) 24 [wO kls cks wy] M Q E=Q (.int cks.length) M:=fun {M Q E}=>oF (n:=n+3)
 have hb1 : -(2 ^ 63:Int)<=cks.length:=by omega
 have hb2:(cks.length:Int) < 2 ^ 63:=by omega
 generalize hcc:((rs.map Rw.h).take j).count (k:Int)=cc at hp ⊢
 simp only[oz,gO]
 simp[↓hp hM,↓o1,↓hw,eF,aj,hf,hs,be]
 have hb3:(cks.length:Int) < 9223372036854775808:=by omega
 have sz1:1<=PySem.sizeLine:=by decide
 simp only[hb3,sz1,true_and]
 refine iff_of_eq (aE hM fun c hc=>?_)
 have e1:(List.replicate cks.length (D.int 0)).set k (.int ((cc:Int)+1))=(cQ cks.length (k:Int) cc).map D.int:=by
  unfold cQ;rw[List.map_set,Int.toNat_natCast];simp
 rw[dC ag (j:=k) (f9 (by simpa using hk)),cn,e1,hn (hM.put _ _)]
 have ez:dY ((nms rs).map nD) (rs.map Rw.d)=((nms rs).zip rs).map pD:=by
  unfold dY
  rw[List.zip_map,List.map_map]
  rfl
 have zl:((nms rs).zip rs).length=rs.length:=by simp[nms,eZ]
 have z1:(((nms rs).zip rs).map pD).length<=PySem.sizeLine:=by rw[List.length_map,zl,PySem.sizeLine_eq];omega
 have z2:((((nms rs).zip rs).map pD).take (j+1)).length<=PySem.sizeLine:=Nat.le_trans (by rw[List.length_take];omega) z1
 have ec:=pM (((nms rs).zip rs).map pD) j (by rw[List.length_map,zl];exact hjl)
 simp only[rLz,be,ez,z1,true_and,if_true,fS,aj,ec,z2]
 rw[<-List.map_take,<-List.map_reverse]
 refine i9 hM (H:=cks.length) _ _ none none (by simp[cQ]) (fun x hx=>?_) fun x6 x7=>?_
 ·obtain⟨x1,x2⟩:=x
  have hx':=List.of_mem_zip (List.mem_of_mem_take (List.mem_reverse.mp hx))
  obtain⟨y,hy,ey⟩:=List.mem_map.mp (jE _ _ _ hx'.1).1
  have g:=hr y hy
  rw[ey]at g
  exact⟨g.1,g.2.1,(hr x2 hx'.2).2.2⟩
 ·simp[aW,ag,dB hc,hc,eE]
end
end G
namespace G
open L2
section
theorem fZ:∀(hs:List Int) (c:Int->Nat) (i i':Nat) (h:Int) (k k':Nat),i < i'->(nmF hs c)[i]?=some (h,k)->(nmF hs c)[i']?=some (h,k')->k < k'
 |[],_,_,_,_,_,_,_,e,_=>by simp[nmF]at e
 |x::r,c,0,i'+1,h,k,k',_,e1,e2=>by
  simp[nmF]at e1 e2
  obtain⟨rfl,rfl⟩:=e1
  have:=(jE r _ _ (List.mem_of_getElem? e2)).2.1
  simp[c7]at this
  omega
 |x::r,c,i+1,i'+1,h,k,k',hi,e1,e2=>by
  simp[nmF]at e1 e2
  exact fZ r _ i i' h k k' (by omega) e1 e2
 |x::r,c,i,0,_,_,_,hi,_,_=>by omega
theorem pU:∀(hs:List Int) (c:Int->Nat) (j:Nat) (h:Int),hs[j]?=some h->(nmF hs c)[j]?=some (h,c h+(hs.take j).count h)
 |[],_,_,_,e=>by simp at e
 |x::r,c,0,h,e=>by
  simp at e;subst e
  simp[nmF]
 |x::r,c,j+1,h,e=>by
  have e':r[j]?=some h:=by simpa using e
  have:=pU r (c7 c x) j h e'
  have hb:c7 c x h+(r.take j).count h=c h+((x::r).take (j+1)).count h:=by
   unfold c7
   by_cases z:h=x
   ·subst z;simp;omega
   ·rw[if_neg z,List.take_succ_cons,List.count_cons_of_ne (Ne.symm z)]
  rw[hb]at this
  simpa [nmF] using this
theorem qj{rs:List Rw}{j:Nat}{r:Rw}(e:rs[j]?=some r):(nms rs)[j]?=some (r.h,((rs.map Rw.h).take j).count r.h):=by
 have:=pU (rs.map Rw.h) (fun _=>0) j r.h (by rw[List.getElem?_map,e];rfl)
 rw[Nat.zero_add]at this
 exact this
theorem lN{rs:List Rw}{j:Nat}{h:Int}{k:Nat}(e:(nms rs)[j]?=some (h,k)):∃r,rs[j]?=some r/\r.h=h/\k=((rs.map Rw.h).take j).count h:=by
 have hl:j < rs.length:=by
  have:=(List.getElem?_eq_some_iff.mp e).1
  simpa [nms,eZ] using this
 have er:rs[j]?=some rs[j]:=List.getElem?_eq_getElem hl
 have:=qj er
 rw[e]at this
 simp at this
 exact⟨rs[j],er,this.1.symm,by rw[this.1];exact this.2⟩
noncomputable def g(C:List Int)(h:Int):Int:=C.getD h.toNat 0
structure WFL (H:Nat) (rs:List Rw):Prop where
 hd:∀r∈rs,0<=r.h/\r.h < H
 tk:∀(i:Nat) h r a b,rs[i]?=some (.take h r a b)->∃(i' k:Nat) (r' t':Int),i' < i/\(nms rs)[i']?=some (a,k)/\b=(k:Int)/\rs[i']?=some (.send a r' t')
structure PI (H:Nat) (rs:List Rw) (j:Nat) (nh:Int) (nk:Nat) (t:Nat) (C:List Int):Prop where
 len:C.length=H
 a0:∀h,0<=g C h
 a1:∀h:Int,0<=h->h < H->0 < g C h->∃(i k:Nat),i<=j/\(nms rs)[i]?=some (h,k)/\g C h=(k:Int)+1
 b:g C nh=(nk:Int)+1
 c:∀(i:Nat) h (k:Nat) h' r a b,t<=i->rs[i]?=some (.take h' r a b)->(nms rs)[i]?=some (h,k)->(k:Int) < g C h->b < g C a
 d:∀h:Int,0<=h->h < H->h≠nh->0 < g C h->(∃(i' k:Nat) (r' t':Int),rs[i']?=some (.send h r' t')/\(nms rs)[i']?=some (h,k)/\g C h=(k:Int)+1)/\
  ∃(i k':Nat) (h' hh r b:Int),rs[i]?=some (.take hh r h b)/\b+1=g C h/\(nms rs)[i]?=some (h',k')/\(k':Int) < g C h'
variable {H:Nat}{rs:List Rw}{j t:Nat}{nh:Int}{nk:Nat}{C:List Int}
theorem WFL.nm(W:WFL H rs){i:Nat}{h:Int}{k:Nat}(e:(nms rs)[i]?=some (h,k)):0<=h/\h < H:=by
 obtain⟨r,e1,e2,_⟩:=lN e
 rw[<-e2];exact W.hd r (List.mem_of_getElem? e1)
theorem PI.start(W:WFL H rs)(hj:(nms rs)[j]?=some (nh,nk)):PI H rs j nh nk (j+1) (cQ H nh nk):=by
 obtain⟨h0,h1⟩:=W.nm hj
 have hg:∀y:Int,g (cQ H nh nk) y=if y.toNat=nh.toNat then (nk:Int)+1 else 0:=fun y=>by
  unfold g cQ
  have hl:nh.toNat < H:=by omega
  by_cases e:y.toNat=nh.toNat
  ·rw[if_pos e,e];simp[hl]
  ·rw[if_neg e]
   rw[List.getD_eq_getElem?_getD,List.getElem?_set_ne (Ne.symm e)]
   by_cases z:y.toNat < H
   ·simp[z]
   ·simp[List.getElem?_eq_none (show (List.replicate H (0:Int)).length<=y.toNat by simp;omega)]
 refine⟨by simp[cQ],fun h=>?_,fun h h0' h1' hp=>?_,?_,fun i h k h' r a b hi hr hn hk=>?_,fun h h0' h1' hne hp=>?_⟩
 ·rw[hg];split<;>omega
 ·rw[hg]at hp
  split at hp
  ·rename_i e
   have e':h=nh:=by omega
   subst e'
   exact⟨j,nk,Nat.le_refl _,hj,by rw[hg,if_pos rfl]⟩
  ·omega
 ·rw[hg,if_pos rfl]
 ·exfalso
  rw[hg]at hk
  split at hk
  ·rename_i e
   have hh:=(W.nm hn).1
   have e':h=nh:=by omega
   subst e'
   have:=fZ _ _ j i h nk k (by omega) hj hn
   omega
  ·omega
 ·exfalso
  rw[hg]at hp
  split at hp
  ·omega
  ·omega
theorem PI.same{h:Int}{k:Nat}(I:PI H rs j nh nk (t+1) C)(hn:(nms rs)[t]?=some (h,k))(hx:∀h' r a b,rs[t]?=some (.take h' r a b)->¬ (k:Int) < g C h):PI H rs j nh nk t C:=
 ⟨I.len,I.a0,I.a1,I.b,fun i h2 k2 h' r a b hi hr hn2 hk=>by
  by_cases e:i=t
  ·subst e
   rw[hn]at hn2
   cases hn2
   exact absurd hk (hx _ _ _ _ hr)
  ·exact I.c i h2 k2 h' r a b (by omega) hr hn2 hk,I.d⟩
theorem PI.step(W:WFL H rs)(hj:(nms rs)[j]?=some (nh,nk))(ht:t<=j){h:Int}{k:Nat}{r:Rw}(hn:(nms rs)[t]?=some (h,k))(hr:rs[t]?=some r)(I:PI H rs j nh nk (t+1) C):PI H rs j nh nk t (c5 C ((h,k),r)):=by
 unfold c5
 by_cases hk:(k:Int) < C.getD h.toNat 0
 ·show PI H rs j nh nk t (if (k:Int) < C.getD h.toNat 0 then upC C r else C)
  rw[if_pos hk]
  cases r with
  |look h1 r1=>exact I.same hn fun h' r a b e=>by rw[hr]at e;cases e
  |sight h1 r1 e1 l1=>exact I.same hn fun h' r a b e=>by rw[hr]at e;cases e
  |send h1 r1 t1=>exact I.same hn fun h' r a b e=>by rw[hr]at e;cases e
  |take h1 r1 a b=>
   obtain⟨i',kb,rb,tb,l1,l2,rfl,l4⟩:=W.tk t _ _ _ _ hr
   obtain⟨a0,a1⟩:=W.nm l2
   have hal:a.toNat < C.length:=by rw[I.len];omega
   have hg:∀y:Int,g (upC C (.take h1 r1 a kb)) y=if y.toNat=a.toNat then max (g C a) ((kb:Int)+1) else g C y:=fun y=>by
    unfold g upC
    by_cases e:y.toNat=a.toNat
    ·rw[if_pos e,e];simp[hal]
    ·rw[if_neg e,List.getD_eq_getElem?_getD,List.getElem?_set_ne (Ne.symm e),List.getD_eq_getElem?_getD]
   have hge:∀y,g C y<=g (upC C (.take h1 r1 a kb)) y:=fun y=>by
    rw[hg];split
    ·rename_i e
     have:g C y=g C a:=by unfold g;rw[e]
     omega
    ·omega
   have hk':(k:Int) < g C h:=hk
   refine⟨by rw[mj];exact I.len,fun y=>Int.le_trans (I.a0 y) (hge y),fun y y0 y1 hp=>?_,?_,fun i h2 k2 h' r a2 b2 hi hr2 hn2 hk2=>?_,fun y y0 y1 hne hp=>?_⟩
   ·rw[hg]at hp ⊢
    split at hp
    ·rename_i e
     have e':y=a:=by omega
     subst e'
     rw[if_pos rfl]
     by_cases z:g C y < (kb:Int)+1
     ·exact⟨i',kb,by omega,l2,by omega⟩
     ·have q:=I.a0 y
      obtain⟨i,k,q1,q2,q3⟩:=I.a1 y y0 y1 (by omega)
      exact⟨i,k,q1,q2,by omega⟩
    ·rename_i e
     rw[if_neg e]
     exact I.a1 y y0 y1 hp
   ·rw[hg]
    have hb:=I.b
    split
    ·rename_i e
     have n0:=(W.nm hj).1
     have e':nh=a:=by omega
     subst e'
     have:=fZ _ _ i' j nh kb nk (by omega) l2 hj
     omega
    ·exact hb
   ·by_cases e:i=t
    ·subst e
     rw[hr]at hr2
     cases hr2
     rw[hg,if_pos rfl]
     omega
    ·have h20:=(W.nm hn2).1
     have:(k2:Int) < g C h2:=by
      rw[hg]at hk2
      split at hk2
      ·rename_i e2
       have e':h2=a:=by omega
       subst e'
       have:=fZ _ _ i' i h2 kb k2 (by omega) l2 hn2
       omega
      ·exact hk2
     have:=I.c i h2 k2 h' r a2 b2 (by omega) hr2 hn2 this
     have:=hge a2
     omega
   ·have up:∀{h:Int},(∃(i k':Nat) (h' hh r b:Int),rs[i]?=some (.take hh r h b)/\b+1=g C h/\(nms rs)[i]?=some (h',k')/\(k':Int) < g C h')->g (upC C (.take h1 r1 a kb)) h=g C h->∃(i k':Nat) (h' hh r b:Int),rs[i]?=some (.take hh r h b)/\b+1=g (upC C (.take h1 r1 a kb)) h/\(nms rs)[i]?=some (h',k')/\(k':Int) < g (upC C (.take h1 r1 a kb)) h':=fun {h} ⟨i,k',h',hh,r,b,q1,q2,q3,q4⟩ e=>⟨i,k',h',hh,r,b,q1,by rw[e];exact q2,q3,by have:=hge h';omega⟩
    have hgy:=hg y
    split at hgy
    ·rename_i e
     have e':y=a:=by omega
     subst e'
     by_cases z:g C y < (kb:Int)+1
     ·exact⟨⟨i',kb,rb,tb,l4,l2,by omega⟩,t,k,h,h1,r1,kb,hr,by omega,hn,by have:=hge h;omega⟩
     ·have q:=I.a0 y
      obtain⟨⟨i2,k2,r2,t2,q1,q2,q3⟩,w⟩:=I.d y y0 y1 hne (by omega)
      exact⟨⟨i2,k2,r2,t2,q1,q2,by omega⟩,up w (by omega)⟩
    ·rw[hgy]at hp
     obtain⟨⟨i2,k2,r2,t2,q1,q2,q3⟩,w⟩:=I.d y y0 y1 hne hp
     exact⟨⟨i2,k2,r2,t2,q1,q2,by omega⟩,up w hgy⟩
 ·show PI H rs j nh nk t (if (k:Int) < C.getD h.toNat 0 then _ else _)
  rw[if_neg hk]
  exact I.same hn fun h' r a b e=>hk
theorem PI.all(W:WFL H rs)(hj:(nms rs)[j]?=some (nh,nk)):∀(l pre:List ((Int×Nat)×Rw)),((nms rs).zip rs).take (j+1)=pre++l->PI H rs j nh nk pre.length (l.foldr (fun x C=>c5 C x) (cQ H nh nk))
 |[],pre,e=>by
  have hl:pre.length=j+1:=by
   have:=congrArg List.length e
   have hjl:=(List.getElem?_eq_some_iff.mp hj).1
   simp[nms,eZ]at this hjl
   omega
  rw[hl]
  exact PI.start W hj
 |x::l,pre,e=>by
  have ih:=PI.all W hj l (pre++[x]) (by rw[e];simp)
  rw[List.length_append,List.length_singleton]at ih
  have hx:(((nms rs).zip rs).take (j+1))[pre.length]?=some x:=by rw[e];simp
  have hlt:pre.length < j+1:=by
   have:=(List.getElem?_eq_some_iff.mp hx).1
   simp at this
   omega
  rw[List.getElem?_take_of_lt hlt]at hx
  obtain⟨⟨h,k⟩,r⟩:=x
  obtain⟨e1,e2⟩:=List.getElem?_zip_eq_some.mp hx
  rw[List.foldr_cons]
  exact ih.step W hj (by omega) e1 e2
theorem PI.past(W:WFL H rs)(hj:(nms rs)[j]?=some (nh,nk)):PI H rs j nh nk 0 (eE H rs j nh nk):=by
 have:=PI.all W hj _ [] (List.nil_append _).symm
 unfold eE
 rw[List.foldl_reverse]
 exact this
end
end G
namespace G
open L2
section
variable {cls kls fad:Nat->PySem.Addr}{M:MH}{Q:VK3}{E:XN}{n:Nat}
noncomputable def mD(p:Int×Int):D:=.tup [.int p.1,.int p.2]
theorem pE{l:List Int}{op:Bool}:cG op (.rol (l.map D.int)) (.rol []) M Q=Q (.bl (op ^^ l.isEmpty)) M:=by
 have hp:plN 8 (.rol (l.map D.int))=true:=by simp[plN]
 have hq:pls (l.map D.int)=true:=by simp[plN]
 cases l<;>simp[cG,rs,aj,plN,eqD,cb]
theorem AW{l:List (Int×Int)}{op:Bool}:cG op (.rol (l.map mD)) (.rol []) M Q=Q (.bl (op ^^ l.isEmpty)) M:=by
 have hq:pls (l.map mD)=true:=by simp[plN,mD]
 have hp:plN 8 (.rol (l.map mD))=true:=by simp[plN,mD]
 cases l<;>simp[cG,rs,aj,plN,eqD,cb,mD]
theorem zN(h mm r c:Int)(tos:List Int)(mine:List (Int×Int)):∃x:Rw,x.h=h/\(∀h' r' a b,x=.take h' r' a b->(a,b)∈mine)/\∀{n:Nat}{M:MH}{Q:VK3}{E:XN},aa T (B cls kls fad) (n+1) 30 [.tup [.int h,.int mm],.int r,.rol (tos.map D.int),.rol (mine.map mD),.int c] M Q E=Q x.d M:=by
 have e1:∀{M:MH}{Q:VK3},am .Eq (.rol (tos.map D.int)) (.rol []) M Q=Q (.bl (tos.isEmpty)) M:=fun {M Q}=>by simp only[am];rw[pE];simp
 have e2:∀{M:MH}{Q:VK3},am .NotEq (.rol (tos.map D.int)) (.rol []) M Q=Q (.bl (!tos.isEmpty)) M:=fun {M Q}=>by simp only[am];rw[pE];simp
 have e3:∀{M:MH}{Q:VK3},am .NotEq (.rol (mine.map mD)) (.rol []) M Q=Q (.bl (!mine.isEmpty)) M:=fun {M Q}=>by simp only[am];rw[AW];simp
 by_cases k1:c / 6 % 7 < 2
 ·refine⟨.look h r,rfl,(fun _ _ _ _ e=>by cases e),?_⟩
  intro n M Q E
  simp[bb,aJ,cg,k1,au,Rw.d]
 ·by_cases k2:c / 6 % 7=2/\tos.isEmpty=true
  ·refine⟨.look h r,rfl,(fun _ _ _ _ e=>by cases e),?_⟩
   intro n M Q E
   simp[bb,aJ,cg,k1,k2.1,↓e1,k2.2,au,Rw.d]
  ·by_cases k3:3 < c / 6 % 7/\mine≠[]
   ·obtain⟨k3,k4⟩:=k3
    have hlen:(0:Int) < mine.length:=by
     cases mine with
     |nil=>exact absurd rfl k4
     |cons=>simp
    obtain⟨j,hj⟩:∃j:Nat,c / 42 % (mine.length:Int)=j:=⟨(c / 42 % (mine.length:Int)).toNat,by have:=Int.emod_nonneg (c / 42) (show (mine.length:Int)≠0 by omega);omega⟩
    have hj2:j < mine.length:=by have:=Int.emod_lt_of_pos (c / 42) hlen;omega
    refine⟨.take h r mine[j].1 mine[j].2,rfl,(fun _ _ _ _ e=>by cases e;exact List.getElem_mem hj2),?_⟩
    intro n M Q E
    have hat:atI (mine.map mD) (j:Int)=some (mD mine[j]):=bu (by simp[hj2])
    have hemp:mine.isEmpty=false:=by cases mine<;>simp_all
    have k5:¬ c / 6 % 7=2:=by omega
    simp[bb,aJ,cg,k1,k3,k5,↓e3,hemp,hj,bU hat,au,Rw.d,mD,show ¬ (mine.length:Int)=0 by omega,show 0 < mine.length by omega]
   ·have k3':3 < c / 6 % 7->mine.isEmpty=true:=fun z=>by
     cases mine with
     |nil=>rfl
     |cons x r=>exact absurd ⟨z,by simp⟩ k3
    by_cases k6:tos=[]
    ·subst k6
     have k7:¬ c / 6 % 7=2:=fun z=>k2 ⟨z,rfl⟩
     refine⟨.sight h r (c / 42 % 10 ^ 30 - 500) (c / 42 % 10 ^ 30 - 500+c / 5 % 3),rfl,(fun _ _ _ _ e=>by cases e),?_⟩
     intro n M Q E
     have e2':∀{M:MH}{Q:VK3},am .NotEq (.rol []) (.rol []) M Q=Q (.bl false) M:=fun {M Q}=>by have:=@e2 M Q;simpa using this
     simp only[List.map_nil]
     by_cases k5:3 < c / 6 % 7
     ·simp[bb,aJ,cg,wL,k1,k5,k7,↓e3,↓e2',k3' k5,au,Rw.d]
     ·simp[bb,aJ,cg,wL,k1,k5,k7,↓e2',au,Rw.d]
    ·have hlen:(0:Int) < tos.length:=by
      cases tos with
      |nil=>exact absurd rfl k6
      |cons=>simp
     have hemp:tos.isEmpty=false:=by cases tos<;>simp_all
     obtain⟨j,hj⟩:∃j:Nat,c / 42 % (tos.length:Int)=j:=⟨(c / 42 % (tos.length:Int)).toNat,by have:=Int.emod_nonneg (c / 42) (show (tos.length:Int)≠0 by omega);omega⟩
     have hj2:j < tos.length:=by have:=Int.emod_lt_of_pos (c / 42) hlen;omega
     have hat:atI (tos.map D.int) (j:Int)=some (.int tos[j]):=bu (by simp[hj2])
     refine⟨.send h r tos[j],rfl,(fun _ _ _ _ e=>by cases e),?_⟩
     intro n M Q E
     have w1:¬ (tos.length:Int)=0:=by omega
     have w2:0 < tos.length:=by omega
     by_cases k7:c / 6 % 7=2
     ·simp[bb,aJ,cg,k7,↓e1,↓e2,hemp,hj,bU hat,au,Rw.d,w1,w2]
     ·by_cases k5:3 < c / 6 % 7
      ·simp[bb,aJ,cg,k1,k5,k7,↓e3,↓e2,hemp,k3' k5,hj,bU hat,au,Rw.d,w1,w2]
      ·simp[bb,aJ,cg,k1,k5,k7,↓e2,hemp,hj,bU hat,au,Rw.d,w1,w2]
theorem lH{rs:List Rw}{x:Rw}:nms (rs++[x])=nms rs++[(x.h,(rs.map Rw.h).count x.h)]:=by
 unfold nms
 rw[List.map_append,List.map_cons,List.map_nil,oJ,Nat.zero_add]
theorem gc{rs:List Rw}:(nms rs).length=rs.length:=by simp[nms,eZ]
theorem gG{rs:List Rw}{x:Rw}{i:Nat}{v:Int×Nat}(h:(nms rs)[i]?=some v):(nms (rs++[x]))[i]?=some v:=by
 rw[lH,List.getElem?_append_left (List.getElem?_eq_some_iff.mp h).1];exact h
theorem jB{rs:List Rw}{x r:Rw}{i:Nat}(h:rs[i]?=some r):(rs++[x])[i]?=some r:=by
 rw[List.getElem?_append_left (List.getElem?_eq_some_iff.mp h).1];exact h
theorem ph{rs:List Rw}{x:Rw}:(nms (rs++[x]))[rs.length]?=some (x.h,(rs.map Rw.h).count x.h):=by
 rw[lH,List.getElem?_append_right (by rw[gc];exact Nat.le_refl _)]
 simp[gc]
noncomputable def Sent(rs:List Rw)(a b:Int):Prop:=∃(i' k:Nat) (r' t':Int),(nms rs)[i']?=some (a,k)/\b=(k:Int)/\rs[i']?=some (.send a r' t')
theorem Sent.left{rs:List Rw}{x:Rw}{a b:Int}(h:Sent rs a b):Sent (rs++[x]) a b:=by
 obtain⟨i',k,r',t',h1,h2,h3⟩:=h
 exact⟨i',k,r',t',gG h1,h2,jB h3⟩
theorem WFL.app{H:Nat}{rs:List Rw}{x:Rw}(W:WFL H rs)(hx:0<=x.h/\x.h < H)(ht:∀h r a b,x=.take h r a b->Sent rs a b):WFL H (rs++[x]):=by
 refine⟨fun r hr=>?_,fun i h r a b e=>?_⟩
 ·rcases List.mem_append.mp hr with z|z
  ·exact W.hd r z
  ·rw[List.mem_singleton.mp z];exact hx
 ·by_cases hi:i < rs.length
  ·rw[List.getElem?_append_left hi]at e
   obtain⟨i',k,r',t',l1,l2,l3,l4⟩:=W.tk i h r a b e
   exact⟨i',k,r',t',l1,gG l2,l3,jB l4⟩
  ·have hl:=(List.getElem?_eq_some_iff.mp e).1
   rw[List.length_append,List.length_singleton]at hl
   have ei:i=rs.length:=by omega
   subst ei
   rw[List.getElem?_append_right (Nat.le_refl _)]at e
   simp at e
   obtain⟨i',k,r',t',l1,l2,l3⟩:=ht h r a b e
   exact⟨i',k,r',t',(List.getElem?_eq_some_iff.mp l3).1,gG l1,l2,jB l3⟩
structure LP (H:Nat) (rs:List Rw) (mn:List Int) (ls:List (Int×Int×Int)):Prop where
 W:WFL H rs
 mn:∀k:Nat,k < H->mn.getD k 0=((rs.map Rw.h).count (k:Int):Int)
 ls:∀p∈ls,Sent rs p.1 p.2.1
end
end G
namespace G
open L2
section
variable {cls kls fad:Nat->PySem.Addr}{M:MH}{Q:VK3}{E:XN}{n:Nat}
noncomputable def lD(p:Int×Int×Int):D:=.tup [.tup [.int p.1,.int p.2.1],.int p.2.2]
theorem yK(a b c d:D)(i:Int)(h0:0<=i)(h3:i < 4):∃x,(x=a\/x=b\/x=c\/x=d)/\∀{M:MH}{Q:VK3},ax (.rol [a,b,c,d]) (.int i) M Q=Q x M:=by
 have:i=0\/i=1\/i=2\/i=3:=by omega
 rcases this with rfl|rfl|rfl|rfl
 ·exact⟨a,.inl rfl,by intro M Q;simp⟩
 ·exact⟨b,.inr (.inl rfl),by intro M Q;simp⟩
 ·exact⟨c,.inr (.inr (.inl rfl)),by intro M Q;simp⟩
 ·exact⟨d,.inr (.inr (.inr rfl)),by intro M Q;simp⟩
noncomputable def Rw.s:Rw->PySem.Str
 |.look ..=>"look"
 |.sight ..=>"sight"
 |.send ..=>"send"
 |.take ..=>"take"
theorem At{x:Rw}:ax x.d (.int 0) M Q=Q (.str x.s) M:=by cases x<;>simp[Rw.d,Rw.s]
structure LS (M:MH) (H:Nat) (a b d a4:PySem.Addr) (rd mn:List Int) (ls:List (Int×Int×Int)) (rs:List Rw) (M':MH):Prop where
 h1:rd.length=H
 h2:mn.length=H
 ia:M' a=some (.lst (rd.map D.int))
 ib:M' b=some (.lst (mn.map D.int))
 ic:M' a4=some (.lst (ls.map lD))
 id:M' d=some (.lst (rs.map Rw.d))
 ab:a≠b
 ac:a≠a4
 ad:a≠d
 bc:b≠a4
 bd:b≠d
 cd:a4≠d
 old:∀x o,M x=some o->M' x=some o
 fa:M a=none
 fb:M b=none
 fc:M a4=none
 fd:M d=none
 fm:Fm M'
variable {H:Nat}{a b d a4:PySem.Addr}{rd mn:List Int}{ls:List (Int×Int×Int)}{rs:List Rw}{M':MH}
theorem bV{p:PySem.Addr}{o:DO}(h:∀x u,M x=some u->M' x=some u)(hp:M p=none):∀x u,M x=some u->put M' p o x=some u:=fun x u e=>by
 rw[ak (fun z=>by rw[z,hp]at e;cases e)];exact h x u e
theorem LS.sa(I:LS M H a b d a4 rd mn ls rs M'){rd':List Int}(h:rd'.length=H):LS M H a b d a4 rd' mn ls rs (put M' a (.lst (rd'.map D.int))):=
 ⟨h,I.h2,ag,by rw[ak (Ne.symm I.ab)];exact I.ib,by rw[ak (Ne.symm I.ac)];exact I.ic,by rw[ak (Ne.symm I.ad)];exact I.id,I.ab,I.ac,I.ad,I.bc,I.bd,I.cd,bV I.old I.fa,I.fa,I.fb,I.fc,I.fd,I.fm.put _ _⟩
theorem LS.sb(I:LS M H a b d a4 rd mn ls rs M'){mn':List Int}(h:mn'.length=H):LS M H a b d a4 rd mn' ls rs (put M' b (.lst (mn'.map D.int))):=
 ⟨I.h1,h,by rw[ak I.ab];exact I.ia,ag,by rw[ak (Ne.symm I.bc)];exact I.ic,by rw[ak (Ne.symm I.bd)];exact I.id,I.ab,I.ac,I.ad,I.bc,I.bd,I.cd,bV I.old I.fb,I.fa,I.fb,I.fc,I.fd,I.fm.put _ _⟩
theorem LS.sc(I:LS M H a b d a4 rd mn ls rs M'){ls':List (Int×Int×Int)}:LS M H a b d a4 rd mn ls' rs (put M' a4 (.lst (ls'.map lD))):=
 ⟨I.h1,I.h2,by rw[ak I.ac];exact I.ia,by rw[ak I.bc];exact I.ib,ag,by rw[ak (Ne.symm I.cd)];exact I.id,I.ab,I.ac,I.ad,I.bc,I.bd,I.cd,bV I.old I.fc,I.fa,I.fb,I.fc,I.fd,I.fm.put _ _⟩
theorem LS.sn(I:LS M H a b d a4 rd mn ls rs M'){ls':List (Int×Int×Int)}{p:PySem.Addr}(hp:M' p=none):LS M H a b d p rd mn ls' rs (put M' p (.lst (ls'.map lD))):=by
 have n1:a≠p:=fun z=>by have:=I.ia;rw[z,hp]at this;cases this
 have n2:b≠p:=fun z=>by have:=I.ib;rw[z,hp]at this;cases this
 have n3:d≠p:=fun z=>by have:=I.id;rw[z,hp]at this;cases this
 have fp:M p=none:=by
  cases e:M p with
  |none=>rfl
  |some o=>have:=I.old _ _ e;rw[hp]at this;cases this
 exact⟨I.h1,I.h2,by rw[ak n1];exact I.ia,by rw[ak n2];exact I.ib,ag,by rw[ak n3];exact I.id,I.ab,n1,I.ad,n2,I.bd,Ne.symm n3,bV I.old fp,I.fa,I.fb,fp,I.fd,I.fm.put _ _⟩
theorem LS.sd(I:LS M H a b d a4 rd mn ls rs M'){x:Rw}:LS M H a b d a4 rd mn ls (rs++[x]) (put M' d (.lst ((rs++[x]).map Rw.d))):=
 ⟨I.h1,I.h2,by rw[ak I.ad];exact I.ia,by rw[ak I.bd];exact I.ib,by rw[ak I.cd];exact I.ic,ag,I.ab,I.ac,I.ad,I.bc,I.bd,I.cd,bV I.old I.fd,I.fa,I.fb,I.fc,I.fd,I.fm.put _ _⟩
theorem jl{W:WC}{e:IE}{De:Ends3}{E:XN}{σ:St3}{p:PySem.Addr}{ds:List D}(h:M p=some (.lst ds)):kr W e De E σ (.ref p) M=wpE W e σ M (ik p De σ) E:=by
 unfold kr;simp only[h];rfl
theorem gL{De:Ends3}{σ:St3}{p:PySem.Addr}{ds:List D}{y:D}(h:M p=some (.lst ds)):ik p De σ y M=(ds.length < PySem.sizeLine/\De.nx σ (put M p (.lst (ds++[y])))):=by
 unfold ik;simp only[h]
theorem LP.app{H:Nat}{rs:List Rw}{mn:List Int}{ls ls':List (Int×Int×Int)}{k:Nat}{x:Rw}(P:LP H rs mn ls)(hl:mn.length=H)(hk:k < H)(hx:x.h=k)(ht:∀h r a b,x=.take h r a b->Sent rs a b)(hls:∀p∈ls',Sent (rs++[x]) p.1 p.2.1):LP H (rs++[x]) (mn.set k (mn.getD k 0+1)) ls':=by
 refine⟨P.W.app (by rw[hx];omega) ht,fun j hj=>?_,hls⟩
 rw[List.map_append,List.map_cons,List.map_nil,List.count_append,hx]
 by_cases e:j=k
 ·subst e
  have:=P.mn j hj
  simp[hl,hj]
  have e2:mn[j]?.getD 0=mn.getD j 0:=by rw[List.getD_eq_getElem?_getD]
  simp[hl,hj]at this
  omega
 ·have:=P.mn j hj
  rw[List.getD_eq_getElem?_getD,List.getElem?_set_ne (Ne.symm e),<-List.getD_eq_getElem?_getD,this]
  have:List.count (j:Int) [(k:Int)]=0:=by
   rw[List.count_singleton]
   have:¬ (k:Int)=j:=by omega
   simp[this]
  omega
theorem jR{mm:Nat}(hmm:mm < 400)(hH:0 < H){ps:List (Nat×Nat)}(hps:ps.length<=36){De:Ends3}{ES:St3->XN}{cl:Option D}(hR:∀rd mn ls (rs:List Rw) a4 M' x7 x8 x9 x10 x11 x12,rs.length=mm->LS M H a b d a4 rd mn ls rs M'->LP H rs mn ls->De.nx [some (.int H),some (.rol (ps.map qD)),cl,some (.ref a),some (.ref b),some (.ref a4),some (.ref d),x7,x8,x9,x10,x11,x12] M'):∀(cs:List Int) {rd mn ls a4 M'} {rs:List Rw} (x7 x8 x9 x10 x11 x12:Option D),rs.length+cs.length=mm->ls.length<=rs.length->LS M H a b d a4 rd mn ls rs M'->LP H rs mn ls->
  bN ⟨(B cls kls fad),aa T (B cls kls fad) (n+1)⟩ (.name 7) bZ ES (fun _=>True) De (cs.map D.int) [some (.int H),some (.rol (ps.map qD)),cl,some (.ref a),some (.ref b),some (.ref a4),some (.ref d),x7,x8,x9,x10,x11,x12] M'
 |[],rd,mn,ls,a4,M',rs,x7,x8,x9,x10,x11,x12,hl,hz,I,P=>by
  rw[List.map_nil,ba]
  exact⟨trivial,hR _ _ _ _ _ _ _ _ _ _ _ _ (by simpa using hl) I P⟩
 |c::cs,rd,mn,ls,a4,M',rs,x7,x8,x9,x10,x11,x12,hl,hz,I,P=>by
  simp only[List.length_cons]at hl
  have hm0:0<=c % (H:Int):=Int.emod_nonneg _ (by omega)
  have hm1:c % (H:Int) < H:=Int.emod_lt_of_pos _ (by omega)
  obtain⟨k,hk⟩:∃k:Nat,c % (H:Int)=k:=⟨(c % (H:Int)).toNat,by omega⟩
  have hkH:k < H:=by omega
  have hkr:k < rd.length:=by rw[I.h1];omega
  have hkm:k < mn.length:=by rw[I.h2];omega
  obtain⟨g,hg1,hg⟩:=yK (.int 0) (.int 1) (.int (c / 42 % 50)) (.int (c / 42 % 1000000000000000000000000000000)) (c / 7 % 4) (by omega) (by omega)
  obtain⟨g,rfl⟩:∃i:Int,g=.int i:=by rcases hg1 with h|h|h|h<;>exact⟨_,h⟩
  have hx:atI (rd.map D.int) (k:Int)=some (.int rd[k]):=bu (by simp[hkr])
  have hi:ixN (rd.map D.int).length (k:Int)=some k:=f9 (by simpa using hkr)
  have I1:LS M H a b d a4 (rd.set k (rd[k]+g)) mn ls rs (put M' a (.lst ((rd.set k (rd[k]+g)).map D.int))):=I.sa (by simpa using I.h1)
  have e1:(rd.map D.int).set k (.int (rd[k]+g))=(rd.set k (rd[k]+g)).map D.int:=by simp[List.map_set]
  have hx2:atI ((rd.set k (rd[k]+g)).map D.int) (k:Int)=some (.int (rd[k]+g)):=bu (by simp[hkr])
  have hHi:(0:Int) < H:=by omega
  have hHz:¬ (H:Int)=0:=by omega
  have hmx:atI (mn.map D.int) (k:Int)=some (.int (mn.getD k 0)):=fq hkm
  generalize hM1:put M' a (.lst ((rd.set k (rd[k]+g)).map D.int))=M1 at I1
  obtain⟨tos,htos⟩:∃tos:List Int,tos=(ps.filter fun p=>decide ((p.1:Int)=(k:Int))).map fun p=>((p.2:Nat):Int):=⟨_,rfl⟩
  obtain⟨mine,hmine⟩:∃mine:List (Int×Int),mine=(ls.filter fun p=>decide (p.2.2=(k:Int))).map fun p=>(p.1,p.2.1):=⟨_,rfl⟩
  obtain⟨row,hr1,hr2,hr3⟩:=zN (cls:=cls) (kls:=kls) (fad:=fad) (k:Int) (mn.getD k 0) (rd[k]+g) c tos mine
  have hr3':∀{M:MH}{Q:VK3}{E:XN},aa T (B cls kls fad) (n+1) 30 [.tup [.int k,.int (mn.getD k 0)],.int (rd[k]+g),.rol (tos.map D.int),.rol (mine.map mD),.int c] M Q E=Q row.d M:=hr3
  have hls:ls.length < 400:=by omega
  have hct:∀{Q:VK3},iM ⟨(B cls kls fad),aa T (B cls kls fad) (n+1)⟩ (.tup [0,1]) (.yes (.cmp .Eq (.var 0) (.var 2))) (.var 1) (fun _=>True) Q (ps.map qD) [none,none,some (.int k)] M1=Q (.rol (tos.map D.int)) M1:=fun {Q}=>by
   rw[dm (fun σ=>∃a b,σ=[a,b,some (.int k)]) (fun d=>match d with
     |.tup [a,b]=>[some a,some b,some (.int k)]
     |_=>[]) (fun d=>match d with
     |.tup [.int t,_]=>decide (t=(k:Int))
     |_=>false) (fun d=>match d with
     |.tup [_,x]=>x
     |_=>.non) ⟨_,_,rfl⟩ I1.fm (by simp;omega) (fun d hd=>by
      obtain⟨p,_,rfl⟩:=List.mem_map.mp hd
      refine⟨⟨_,_,rfl⟩,fun σ ⟨a,b,e⟩ M k=>?_⟩
      subst e
      simp[wpG,qD]) (fun d hd M' hE Q=>by
      obtain⟨p,_,rfl⟩:=List.mem_map.mp hd
      simp[qD]) (fun d hd _ M' hE Q=>by
      obtain⟨p,_,rfl⟩:=List.mem_map.mp hd
      simp[qD]) (fun M' hE=>trivial)]
   rw[htos]
   rw[List.filter_map,List.map_map,List.map_map]
   rfl
  have hcomp:∀{Q:VK3},iM ⟨(B cls kls fad),aa T (B cls kls fad) (n+1)⟩ (.tup [0,1]) (.yes (.cmp .Eq (.var 1) (.var 2))) (.var 0) (fun M=>M a4=some (.lst (ls.map lD))) Q (ls.map lD) [none,none,some (.int k)] M1=Q (.rol (mine.map mD)) M1:=fun {Q}=>by
   rw[dm (fun σ=>∃a b,σ=[a,b,some (.int k)]) (fun d=>match d with
     |.tup [a,b]=>[some a,some b,some (.int k)]
     |_=>[]) (fun d=>match d with
     |.tup [_,.int t]=>decide (t=(k:Int))
     |_=>false) (fun d=>match d with
     |.tup [x,_]=>x
     |_=>.non) ⟨_,_,rfl⟩ I1.fm (by simp;omega) (fun d hd=>by
      obtain⟨p,_,rfl⟩:=List.mem_map.mp hd
      refine⟨⟨_,_,rfl⟩,fun σ ⟨a,b,e⟩ M k=>?_⟩
      subst e
      simp[wpG,lD]) (fun d hd M' hE Q=>by
      obtain⟨p,_,rfl⟩:=List.mem_map.mp hd
      simp[lD]) (fun d hd _ M' hE Q=>by
      obtain⟨p,_,rfl⟩:=List.mem_map.mp hd
      simp[lD]) (fun M' hE=>hE.2 _ _ I1.ic)]
   rw[hmine]
   rw[List.filter_map,List.map_map,List.map_map]
   rfl
  have htk:∀h r a b,row=.take h r a b->Sent rs a b:=fun h r a b e=>by
   have:=hr2 h r a b e
   rw[hmine]at this
   obtain⟨p,hp,ep⟩:=List.mem_map.mp this
   cases ep
   exact P.ls p (List.mem_filter.mp hp).1
  rw[List.map_cons,aC]
  refine⟨trivial,?_⟩
  generalize hK:bN ⟨(B cls kls fad),aa T (B cls kls fad) (n+1)⟩ (.name 7) bZ ES (fun _=>True) De (cs.map D.int)=K
  simp only[bZ]
  have q1:∀{Q:VK3},ax (.ref a) (.int (k:Int)) M' Q=Q (.int rd[k]) M':=fun {Q}=>by rw[dQ I.ia,bU hx]
  have q2:∀{R:MH->Prop},bD (.ref a) (.int (k:Int)) (.int (rd[k]+g)) M' R=R M1:=fun {R}=>by rw[dC I.ia hi,e1,hM1]
  have q3:∀{Q:VK3},ax (.ref a) (.int (k:Int)) M1 Q=Q (.int (rd[k]+g)) M1:=fun {Q}=>by rw[dQ I1.ia,bU hx2]
  have q0:∀{M:MH}{Q:VK3},ed .Mod (.int c) (.int H) M Q=Q (.int k) M:=fun {M Q}=>by simp[hHi,hH,hk,hHz]
  have w1:∀{Q:VK3},ax (.ref b) (.int (k:Int)) M1 Q=Q (.int (mn.getD k 0)) M1:=fun {Q}=>by rw[dQ I1.ib,bU hmx]
  generalize hmk:mn.getD k 0=mk at hr3' hmx w1
  simp[↓q0,↓q1,↓q2,↓hg,cg,wL,au]
  simp[↓w1,aP,↓hct,gN I1.ic,↓hcomp,↓q3,↓hr3',↓At,au]
  have him:ixN (mn.map D.int).length (k:Int)=some k:=f9 (by simpa using hkm)
  have em:(mn.map D.int).set k (.int (mk+1))=(mn.set k (mk+1)).map D.int:=by simp[List.map_set]
  have hsz:rs.length < PySem.sizeLine:=Nat.lt_of_lt_of_le (show rs.length < 1000 by omega) (by decide)
  have hsl:ls.length < PySem.sizeLine:=Nat.lt_of_lt_of_le (show ls.length < 1000 by omega) (by decide)
  have fin:∀{ls':List (Int×Int×Int)}{p:PySem.Addr}{M2:MH},ls'.length<=rs.length+1->(∀q∈ls',Sent (rs++[row]) q.1 q.2.1)->LS M H a b d p (rd.set k (rd[k]+g)) mn ls' rs M2->
    ar ⟨(B cls kls fad),aa T (B cls kls fad) (n+1)⟩ (.cons (.ixset (.var 4) (.var 8) (.bin .Add (.ix (.var 4) (.var 8)) (.con (.int 1)))) (.cons (.app (.var 6) (.var 12)) .nil)) {nx:=K,rt:=De.rt,bk:=De.nx,ct:=K} ES
     [some (.int H),some (.rol (ps.map qD)),cl,some (.ref a),some (.ref b),some (.ref p),some (.ref d),some (.int c),some (.int k),some (.tup [.int k,.int mk]),some (.rol (tos.map D.int)),some (.rol (mine.map mD)),some row.d] M2:=fun {ls' p M2} hl' hls' I2=>by
   have P2:=P.app (k:=k) (x:=row) (ls':=ls') I.h2 hkH hr1 htk hls'
   rw[hmk]at P2
   have ih:=jR hmm hH hps (ES:=ES) hR cs (some (.int c)) (some (.int k)) (some (.tup [.int k,.int mk])) (some (.rol (tos.map D.int))) (some (.rol (mine.map mD))) (some row.d) (rs:=rs++[row]) (by simp;omega) (by simp;exact hl') ((I2.sb (mn':=mn.set k (mk+1)) (by simpa using I2.h2)).sd) P2
   rw[hK]at ih
   have hdd:put M2 b (.lst ((mn.set k (mk+1)).map D.int)) d=some (.lst (rs.map Rw.d)):=by rw[ak (Ne.symm I2.bd)];exact I2.id
   have w1:∀{Q:VK3},ax (.ref b) (.int (k:Int)) M2 Q=Q (.int mk) M2:=fun {Q}=>by rw[dQ I2.ib,bU hmx]
   have w2:∀{R:MH->Prop},bD (.ref b) (.int (k:Int)) (.int (mk+1)) M2 R=R (put M2 b (.lst ((mn.set k (mk+1)).map D.int))):=fun {R}=>by rw[dC I2.ib him,em]
   generalize put M2 b (.lst ((mn.set k (mk+1)).map D.int))=M3 at ih hdd w2
   simp[↓w1,↓w2]
   rw[jl hdd]
   simp
   rw[gL hdd]
   simp[hsz]
   simpa using ih
  have d1:¬ PySem.Str.ofString "take"=PySem.Str.ofString "send":=by decide
  have d2:¬ PySem.Str.ofString "send"=PySem.Str.ofString "take":=by decide
  have d3:¬ PySem.Str.ofString "look"=PySem.Str.ofString "take":=by decide
  have d4:¬ PySem.Str.ofString "look"=PySem.Str.ofString "send":=by decide
  have d5:¬ PySem.Str.ofString "sight"=PySem.Str.ofString "take":=by decide
  have d6:¬ PySem.Str.ofString "sight"=PySem.Str.ofString "send":=by decide
  have old:∀q∈ls,Sent (rs++[row]) q.1 q.2.1:=fun q hq=>(P.ls q hq).left
  cases hrow:row with
  |take h r x y=>
   subst hrow
   have n1:¬ (Rw.take h r x y).s=PySem.Str.ofString "send":=d1
   have n2:(Rw.take h r x y).s=PySem.Str.ofString "take":=rfl
   rw[if_neg n1,if_pos n2]
   intro p hp
   rw[dq (fun σ=>∃a,σ=[a,some (Rw.take h r x y).d]) (fun d=>[some d,some (Rw.take h r x y).d]) (fun d=>match d with
     |.tup [y',_]=>!eqD y' (.tup [.int x,.int y])
     |_=>false) (fun d=>d) _ [] _ ⟨_,rfl⟩ I1.fm hp (by simp;exact Nat.lt_of_lt_of_le (show ls.length < 1000 by omega) (by decide)) (fun M' hE=>hE.2 _ _ I1.ic) (fun d hd=>⟨⟨_,rfl⟩,fun σ ⟨a,e⟩ M k=>by subst e;rfl⟩) (fun d hd M' hE Q=>by
      obtain⟨p,_,rfl⟩:=List.mem_map.mp hd
      simp[lD,Rw.d,am,cG,L2.rs,aj,plN]) (fun d hd _ M' hE Q=>by simp)]
   have ef:((ls.map lD).filter fun d=>match d with
     |.tup [y',_]=>!eqD y' (.tup [.int x,.int y])
     |_=>false).map (fun d=>d)=(ls.filter fun p=>!eqD (.tup [.int p.1,.int p.2.1]) (.tup [.int x,.int y])).map lD:=by
    rw[List.filter_map,List.map_id']
    rfl
   rw[List.nil_append,ef]
   have:=fin (ls':=ls.filter fun p=>!eqD (.tup [.int p.1,.int p.2.1]) (.tup [.int x,.int y])) (by have:=List.length_filter_le (fun p:Int×Int×Int=>!eqD (.tup [.int p.1,.int p.2.1]) (.tup [.int x,.int y])) ls;omega) (fun q hq=>old q (List.mem_filter.mp hq).1) (I1.sn hp)
   simp at this
   exact this
  |send h r x=>
   subst hrow
   have n1:(Rw.send h r x).s=PySem.Str.ofString "send":=rfl
   have r3:∀{M:MH}{Q:VK3},ax (Rw.send h r x).d (.int 3) M Q=Q (.int x) M:=fun {M Q}=>by simp[Rw.d]
   rw[if_pos n1,jl I1.ic]
   simp[↓r3,au]
   rw[gL I1.ic]
   have r0:∀{M:MH}{Q:VK3},ax (Rw.send h r x).d (.int 0) M Q=Q (.str "send") M:=fun {M Q}=>by simp[Rw.d]
   simp[hsl,↓r0,d2]
   have hh:h=(k:Int):=hr1
   have:=fin (ls':=ls++[((k:Int),mk,x)]) (by simp;exact hz) (fun q hq=>by
    rcases List.mem_append.mp hq with z|z
    ·exact old q z
    ·rw[List.mem_singleton.mp z]
     have hm:=P.mn k hkH
     rw[hmk]at hm
     refine⟨rs.length,(rs.map Rw.h).count (k:Int),r,x,by rw[ph,hr1],hm,?_⟩
     ·rw[List.getElem?_append_right (Nat.le_refl _)]
      simp[hh]) I1.sc
   simpa [lD] using this
  |look h r=>
   subst hrow
   rw[if_neg (show ¬ (Rw.look h r).s=PySem.Str.ofString "send" from d4),if_neg (show ¬ (Rw.look h r).s=PySem.Str.ofString "take" from d3)]
   have:=fin (by omega) old I1
   simpa [↓w1] using this
  |sight h r e l=>
   subst hrow
   rw[if_neg (show ¬ (Rw.sight h r e l).s=PySem.Str.ofString "send" from d6),if_neg (show ¬ (Rw.sight h r e l).s=PySem.Str.ofString "take" from d5)]
   have:=fin (by omega) old I1
   simpa [↓w1] using this
theorem Av(hH:0 < H)(h6:H < 10){ps:List (Nat×Nat)}(hps:ps.length<=36)(cs:List Int)(hl:cs.length < 300)(hM:Fm M)(hQ:∀rs:List Rw,rs.length=cs.length->WFL H rs->Q (.rol (rs.map Rw.d)) M):aa T (B cls kls fad) (n+2) 31 [.int H,.rol (ps.map qD),.rol (cs.map D.int)] M Q E:=by
 have hf:(List.replicate H [D.int 0]).flatten=(List.replicate H (0:Int)).map D.int:=by
  induction H with
  |zero=>rfl
  |succ k _=>simp[List.flatten_replicate_singleton]
 have hs:H<=PySem.sizeLine:=Nat.le_trans (show H<=1000 by omega) (by decide)
 have hb1 : -(2 ^ 63)<=(H:Int):=by omega
 have hb2:(H:Int) < 9223372036854775808:=by omega
 have hb3:(H:Int) < 4611686018427387904:=by omega
 simp[my,dA,hb3,aP]
 intro a ha
 rw[dq (fun σ=>∃x,σ=[x,some (.rol (cs.map D.int))]) (fun d=>[some d,some (.rol (cs.map D.int))]) (fun _=>true) (fun d=>match d with
   |.int i=>if h:i.toNat < cs.length then .int (cs[i.toNat] % 2001 - 1000) else .int 0
   |_=>.non) _ [] _ ⟨_,rfl⟩ hM ha (by simp[rng];exact Nat.lt_of_le_of_lt (show H<=1000 by omega) (by decide)) (fun M' hE=>trivial) (fun d hd=>⟨⟨_,rfl⟩,fun σ ⟨a,e⟩ M k=>by subst e;rfl⟩) (fun d hd M' hE Q=>rfl) (fun d hd _ M' hE Q=>by
    simp only[rng,List.mem_map,List.mem_range]at hd
    obtain⟨i,hi,rfl⟩:=hd
    simp only[Int.zero_add,Int.toNat_natCast]
    by_cases h:i < cs.length
    ·have hat:atI (cs.map D.int) (i:Int)=some (.int cs[i]):=bu (by simp[h])
     simp[h,bU hat]
    ·simp[h])]
 have ef:∃rd:List Int,rd.length=H/\((rng 0 H).filter fun _=>true).map (fun d=>match d with
   |.int i=>if h:i.toNat < cs.length then .int (cs[i.toNat] % 2001 - 1000) else .int 0
   |_=>.non)=rd.map D.int:=by
  refine⟨(List.range H).map fun i=>if h:i < cs.length then cs[i] % 2001 - 1000 else 0,by simp,?_⟩
  rw[List.filter_eq_self.mpr (fun _ _=>rfl)]
  simp only[rng,List.map_map]
  apply List.map_congr_left
  intro i _
  simp only[Function.comp,Int.zero_add,Int.toNat_natCast]
  split<;>rfl
 obtain⟨rd0,hrd0,ef⟩:=ef
 rw[List.nil_append,ef]
 simp[eF,aj,au,hb1,hb2,hs,hf]
 intro b hb c hc d hd
 obtain⟨hba,hb'⟩:=bP hb
 obtain⟨hcb,hc'⟩:=bP hc
 obtain⟨hca,hc''⟩:=bP hc'
 obtain⟨hdc,hd'⟩:=bP hd
 obtain⟨hdb,hd''⟩:=bP hd'
 obtain⟨hda,hd3⟩:=bP hd''
 refine jR (mm:=cs.length) (by omega) (a:=a) (b:=b) (d:=d) (M:=M) hH hps (fun rd mn ls rs a4 M' x6 x7 x8 x9 x10 x11 hl I P=>?_) cs (rd:=rd0) (mn:=List.replicate H 0) (ls:=[]) (rs:=[]) (a4:=c) _ _ _ _ _ _ (by simp) (by simp) ?_ ?_
 ·simp[aW,I.id]
  have e:ae M (del M' d)=M:=by
   funext x
   unfold ae
   split
   ·rename_i o e
    unfold L2.del
    rw[if_neg (fun z=>by rw[z,I.fd]at e;cases e),I.old _ _ e,e]
   ·rename_i e;rw[e]
  rw[e]
  exact hQ rs hl P.W
 ·refine⟨hrd0,by simp,?_,?_,?_,?_,Ne.symm hba,Ne.symm hca,Ne.symm hda,Ne.symm hcb,Ne.symm hdb,Ne.symm hdc,?_,ha,hb',hc'',hd3,(((hM.put _ _).put _ _).put _ _).put _ _⟩
  ·rw[ak (Ne.symm hda),ak (Ne.symm hca),ak (Ne.symm hba),ag]
  ·rw[ak (Ne.symm hdb),ak (Ne.symm hcb),ag];simp
  ·rw[ak (Ne.symm hdc),ag];rfl
  ·rw[ag];rfl
  ·exact bV (bV (bV (bV (fun _ _ e=>e) ha) hb') hc'') hd3
 ·exact⟨⟨(fun _ h=>by cases h),(fun i _ _ _ _ e=>by simp at e)⟩,(fun k hk=>by simp[hk]),(fun _ h=>by cases h)⟩
end
end G
namespace G
open L2
section
variable {cls kls fad:Nat->PySem.Addr}{M:MH}{Q:VK3}{E:XN}{n:Nat}{cks:List (Int×Int)}{wy:List Wy}{H:Nat}
theorem fA{a b:PySem.Addr}(hab:a≠b){M0:MH}{De:Ends3}{ES:St3->XN}{R:Prop}{log:Option D}{W:WC}:∀(rs:List Rw) (ks:List Key) (ds acc:List D) (c:Int->Nat) (x3:Option D),ks.length=ds.length->ks.length+rs.length < 500->acc.length+rs.length < 500->(∀h,(getD ks ds (.inl h)).getD (.int 0)=.int (c h))->
  (∀ks' ds' x,De.nx [log,some (.ref a),some (.ref b),x] (put (put M0 a (.dk ks' ds')) b (.lst (acc++(nmF (rs.map Rw.h) c).map nD)))=R)->
  bN W (.name 3) bh ES (fun _=>True) De (rs.map Rw.d) [log,some (.ref a),some (.ref b),x3] (put (put M0 a (.dk ks ds)) b (.lst acc))=R
 |[],ks,ds,acc,c,x3,_,_,_,_,hR=>by
  have:=hR ks ds x3
  simp[nmF]at this
  simp[ba,this]
 |r::rs,ks,ds,acc,c,x3,hl,h1,h2,hc,hR=>by
  have ha:(put (put M0 a (.dk ks ds)) b (.lst acc)) a=some (.dk ks ds):=by rw[ak hab,ag]
  simp only[List.length_cons]at h1 h2
  have hs:acc.length < PySem.sizeLine:=Nat.lt_of_lt_of_le (show acc.length < 1000 by omega) (by decide)
  have hks:ks.length < PySem.sizeLine:=Nat.lt_of_lt_of_le (show ks.length < 1000 by omega) (by decide)
  have ih:=fA hab (M0:=M0) (De:=De) (ES:=ES) (R:=R) (log:=log) (W:=W) rs (ao ks (.inl r.h)) (az ks ds (.inl r.h) (.int (c r.h+1))) (acc++[nD (r.h,c r.h)]) (c7 c r.h) (some r.d) (fy hl) (by have:=dD (ks:=ks) (k:=(.inl r.h:Key));omega) (by simp;omega) (fun x=>by
    rw[eB hl]
    by_cases e:r.h=x
    ·subst e;simp[c7]
    ·have e2:¬ ((Sum.inl r.h:Key)=Sum.inl x):=fun z=>e (Sum.inl.inj z)
     rw[if_neg e2,hc x];simp[c7,Ne.symm e]) (by
    intro ks' ds' x
    have:=hR ks' ds' x
    simpa [nmF] using this)
  have i1:=fun {M:MH}{Q:VK3}=>sC (M:=M) (Q:=Q) (r:=r)
  have ha2:(put (put M0 a (.dk (ao ks (.inl r.h)) (az ks ds (.inl r.h) (.int (c r.h+1))))) b (.lst acc)) a=some (.dk (ao ks (.inl r.h)) (az ks ds (.inl r.h) (.int (c r.h+1)))):=by rw[ak hab,ag]
  have i2:∀{Q:VK3},ax (.ref a) (.int r.h) (put (put M0 a (.dk (ao ks (.inl r.h)) (az ks ds (.inl r.h) (.int (c r.h+1))))) b (.lst acc)) Q=Q (.int (c r.h+1)) (put (put M0 a (.dk (ao ks (.inl r.h)) (az ks ds (.inl r.h) (.int (c r.h+1))))) b (.lst acc)):=fun {Q}=>by
   simp[ax,aw,aj,ha2,fP,gY,mY,eB hl]
  rw[List.map_cons,aC]
  simp[bh,↓i1,pb ha,lV ha,hc r.h,kh ha,hks,eS hab,↓i2,hs,au]
  simpa [nD,bh] using ih
theorem ou(rs:List Rw)(hl:rs.length < 400)(hM:Fm M):aa T (B cls kls fad) (n+1) 32 [.rol (rs.map Rw.d)] M Q E=Q (.rol ((nms rs).map nD)) M:=by
 simp[kC,cr]
 refine iff_of_eq (aE hM fun a ha=>?_)
 simp[au]
 refine iff_of_eq (aE (hM.put _ _) fun b hb=>?_)
 obtain⟨hab,hb⟩:=bP hb
 refine fA (Ne.symm hab) rs [] [] [] _ _ rfl (by simp;omega) (by simp;omega) (fun h=>rfl) fun ks' ds' x=>?_
 simp[ha,hb,ak hab,nms]
theorem zB{l:List (Int×Int)}{x y:Int}:((l.map mD).any fun d=>eqD d (.tup [.int x,.int y]))=decide ((x,y)∈l):=by
 induction l with
 |nil=>rfl
 |cons p l ih=>
  rw[List.map_cons,List.any_cons,ih]
  obtain⟨a,b⟩:=p
  by_cases e:a=x/\b=y
  ·obtain⟨rfl,rfl⟩:=e
   simp[mD,eqD,cb]
  ·have:¬ ((x,y)=(a,b)):=fun z=>e ⟨(congrArg Prod.fst z).symm,(congrArg Prod.snd z).symm⟩
   have e':(decide (a=x)&&decide (b=y))=false:=by
    rw[Bool.and_eq_false_iff];by_cases e1:a=x
    ·exact .inr (decide_eq_false fun z=>e ⟨e1,z⟩)
    ·exact .inl (decide_eq_false e1)
   simp[mD,eqD,cb,this]
   exact fun z1 z2=>absurd ⟨z1,z2⟩ e
theorem jw{l:List (Int×Int)}{x y:Int}{z:D}(h:aw M z=some (l.map mD)):am .NotIn (.tup [.int x,.int y]) z M Q=Q (.bl (!decide ((x,y)∈l))) M:=by
 have hp:pls (l.map mD)=true:=by simp[plN,mD]
 have hr:res M (.tup [.int x,.int y])=.tup [.int x,.int y]:=rfl
 have hx:pl (.tup [.int x,.int y])=true:=by simp[plN]
 simp only[am,ka,h,hp,hr,hx,true_and]
 rw[zB]
 simp
noncomputable def pz(p:Int×Nat):Int×Int:=(p.1,p.2)
theorem z8{l:List (Int×Nat)}:l.map nD=(l.map pz).map mD:=by rw[List.map_map];rfl
theorem nZ{C:List Int}{N:List (Int×Int)}(hl:C.length=H)(h6:H<=6)(h:∀k:Nat,k < H->0<=C.getD k 0/\(0 < C.getD k 0->((k:Int),C.getD k 0 - 1)∈N))(hQ:Q (.bl true) M):aa T (B cls kls fad) (n+1) 33 [.rol (C.map D.int),.int H,.rol (N.map mD)] M Q E:=by
 have hb:(H:Int) < 4611686018427387904:=by omega
 simp[jt,bX,hl,hb]
 refine jo (fun σ=>∃y3 y4,σ=[some (.rol (C.map D.int)),some (.int H),some (.rol (N.map mD)),y3,y4]) ⟨_,_,rfl⟩ (fun d hd σ hσ k hk=>?_) fun σ ⟨y3,y4,e⟩=>?_
 ·obtain⟨y3,y4,rfl⟩:=hσ
  simp only[rng,List.mem_map,List.mem_range]at hd
  obtain⟨i,hi,rfl⟩:=hd
  rw[Int.zero_add]
  obtain⟨h0,h1⟩:=h i hi
  have hat:∀{M:MH}{Q:VK3},ax (.rol (C.map D.int)) (.int (i:Int)) M Q=Q (.int (C.getD i 0)) M:=fun {M Q}=>bU (fq (by omega))
  have hin:∀{M:MH}{Q:VK3},am .NotIn (.tup [.int (i:Int),.int (C.getD i 0 - 1)]) (.rol (N.map mD)) M Q=Q (.bl (!decide (((i:Int),C.getD i 0 - 1)∈N))) M:=fun {M Q}=>jw rfl
  generalize C.getD i 0=v at h0 h1 hat hin
  have hn:¬ v < 0:=by omega
  by_cases hp:0 < v
  ·simp[bR,wpG,↓hat,hn,hp,↓hin,h1 hp,au]
   exact hk _ ⟨_,_,rfl⟩
  ·simp[bR,wpG,↓hat,hn,hp,au]
   exact hk _ ⟨_,_,rfl⟩
 ·subst e
  simpa using hQ
end
end G
namespace G
open L2
section
variable {cls kls fad:Nat->PySem.Addr}{M:MH}{Q:VK3}{E:XN}{n:Nat}{cks:List (Int×Int)}{wy:List Wy}{H:Nat}
noncomputable def tkF(C:List Int)(x:Rw×(Int×Nat)):Option (Int×Int):=match x.1 with
 |.take _ _ a b=>if (x.2.2:Int) < g C x.2.1 then some (a,b) else none
 |_=>none
noncomputable def sdF(x:Rw×(Int×Nat)):Option (Int×Int):=match x.1 with
 |.send ..=>some (pz x.2)
 |_=>none
noncomputable def rD(x:Rw×(Int×Nat)):D:=.tup [x.1.d,nD x.2]
noncomputable def oc(o:Option (Int×Int)):List (Int×Int):=match o with
 |some p=>[p]
 |none=>[]
theorem lK{α:Type}{f:α->Option (Int×Int)}{x:α}{l:List α}:(x::l).filterMap f=oc (f x)++l.filterMap f:=by
 cases h:f x<;>simp[h,oc]
theorem F7{W:WC}{De:Ends3}{E:XN}{σ:St3}{e:IE}{p:PySem.Addr}{ds:List D}{y:D}(h:M p=some (.lst ds))(hl:ds.length < PySem.sizeLine)(he:∀{Q:VK3},wpE W e σ M Q E=Q y M):kr W e De E σ (.ref p) M=De.nx σ (put M p (.lst (ds++[y]))):=by
 rw[jl h,he,gL h]
 simp[hl]
theorem lL{p q:PySem.Addr}(hpq:p≠q){M0:MH}{C:List Int}{De:Ends3}{ES:St3->XN}{R:Prop}{y0 y1 y2 y8 y9 y10:Option D}{W:WC}:∀(L:List (Rw×(Int×Nat))) (t s:List (Int×Int)) (x6 x7:Option D),t.length+L.length < 900->s.length+L.length < 900->(∀x∈L,0<=x.2.1/\x.2.1 < C.length)->
  (∀x6 x7,De.nx [y0,y1,y2,some (.rol (C.map D.int)),some (.ref p),some (.ref q),x6,x7,y8,y9,y10] (put (put M0 p (.lst ((t++L.filterMap (tkF C)).map mD))) q (.lst ((s++L.filterMap sdF).map mD)))=R)->
  bN W (.tup [6,7]) bo ES (fun _=>True) De (L.map rD) [y0,y1,y2,some (.rol (C.map D.int)),some (.ref p),some (.ref q),x6,x7,y8,y9,y10] (put (put M0 p (.lst (t.map mD))) q (.lst (s.map mD)))=R
 |[],t,s,x6,x7,_,_,_,hR=>by
  have:=hR x6 x7
  simp at this
  simp[ba,this]
 |x::L,t,s,x6,x7,h1,h2,hx,hR=>by
  obtain⟨z0,z1⟩:=hx x List.mem_cons_self
  obtain⟨r,h,k⟩:=x
  simp only at z0 z1
  obtain⟨j,rfl⟩:∃j:Nat,h=j:=⟨h.toNat,by omega⟩
  simp only[List.length_cons]at h1 h2
  have hlt:(oc (tkF C (r,((j:Int),k)))).length<=1:=by cases tkF C (r,((j:Int),k))<;>simp[oc]
  have hls:(oc (sdF (r,((j:Int),k)))).length<=1:=by cases sdF (r,((j:Int),k))<;>simp[oc]
  have ih:=lL hpq (M0:=M0) (C:=C) (De:=De) (ES:=ES) (R:=R) (y0:=y0) (y1:=y1) (y2:=y2) (y8:=y8) (y9:=y9) (y10:=y10) (W:=W) L (t++oc (tkF C (r,((j:Int),k)))) (s++oc (sdF (r,((j:Int),k)))) (some r.d) (some (nD ((j:Int),k))) (by rw[List.length_append];omega) (by rw[List.length_append];omega) (fun x hx'=>hx x (List.mem_cons_of_mem _ hx')) (by
   intro x6 x7
   have:=hR x6 x7
   rw[lK,lK]at this
   rw[List.append_assoc,List.append_assoc]
   exact this)
  have hat:∀{M:MH}{Q:VK3},ax (.rol (C.map D.int)) (.int (j:Int)) M Q=Q (.int (C.getD j 0)) M:=fun {M Q}=>bU (fq (by omega))
  have hp:put (put M0 p (.lst (t.map mD))) q (.lst (s.map mD)) p=some (.lst (t.map mD)):=by rw[ak hpq,ag]
  have hst:(t.map mD).length < PySem.sizeLine:=by rw[List.length_map,PySem.sizeLine_eq];omega
  have hss:(s.map mD).length < PySem.sizeLine:=by rw[List.length_map,PySem.sizeLine_eq];omega
  have hgC:g C (j:Int)=C.getD j 0:=by unfold g;rw[Int.toNat_natCast]
  rw[List.map_cons,aC]
  generalize bN W (.tup [6,7]) bo ES (fun _=>True) De (L.map rD)=K at ih ⊢
  have d1:¬ PySem.Str.ofString "take"=PySem.Str.ofString "send":=by decide
  have d2:¬ PySem.Str.ofString "send"=PySem.Str.ofString "take":=by decide
  have d3:¬ PySem.Str.ofString "look"=PySem.Str.ofString "take":=by decide
  have d4:¬ PySem.Str.ofString "look"=PySem.Str.ofString "send":=by decide
  have d5:¬ PySem.Str.ofString "sight"=PySem.Str.ofString "take":=by decide
  have d6:¬ PySem.Str.ofString "sight"=PySem.Str.ofString "send":=by decide
  have r0:=fun {M:MH}{Q:VK3}=>At (M:=M) (Q:=Q) (x:=r)
  generalize hc:C.getD j 0=cj at hat hgC
  simp only[bo,rD,nD]
  rw[<-ih]
  cases r with
  |look h r=>
   simp only[tkF,sdF,oc,List.append_nil]
   by_cases e:(k:Int) < cj<;>simp[wpG,↓hat,↓r0,Rw.s,d3,d4,e,nD]
  |sight h r e l=>
   simp only[tkF,sdF,oc,List.append_nil]
   by_cases e:(k:Int) < cj<;>simp[wpG,↓hat,↓r0,Rw.s,d5,d6,e,nD]
  |send h r x=>
   simp only[tkF,sdF,oc,List.append_nil]
   have hss':s.length < PySem.sizeLine:=by rw[List.length_map]at hss;exact hss
   by_cases e:(k:Int) < cj<;>simp[wpG,↓hat,↓r0,Rw.s,d2,e,nD,hss',mD,pz]
  |take h r a b=>
   have r3:∀{M:MH}{Q:VK3},ax (Rw.take h r a b).d (.int 3) M Q=Q (.tup [.int a,.int b]) M:=fun {M Q}=>by simp[Rw.d]
   simp only[tkF,sdF,oc,List.append_nil,hgC]
   have ap:∀{De:Ends3}{E:XN}{σ:St3}{y:D},(∀{M:MH}{Q:VK3},wpE W (.ix (.var 6) (.con (.int 3))) σ M Q E=Q y M)->kr W (.ix (.var 6) (.con (.int 3))) De E σ (.ref p) (put (put M0 p (.lst (t.map mD))) q (.lst (s.map mD)))=De.nx σ (put (put M0 p (.lst (t.map mD++[y]))) q (.lst (s.map mD))):=fun {De E σ y} he=>by
    rw[F7 hp hst he,eS hpq]
   by_cases e:(k:Int) < cj
   ·simp[wpG,↓hat,↓r0,Rw.s,d1,e,nD]
    rw[ap (y:=.tup [.int a,.int b]) (fun {M Q}=>by simp[↓r3])]
    simp[↓r0,Rw.s,d1,mD]
   ·simp[wpG,↓hat,↓r0,Rw.s,d1,e,nD]
theorem vD{rs:List Rw}{N:List (Int×Nat)}:dY (rs.map Rw.d) (N.map nD)=(rs.zip N).map rD:=by
 unfold dY
 rw[List.zip_map,List.map_map]
 rfl
theorem qd{C:List Int}{rs:List Rw}{nh:Int}{nk:Nat}(hl:rs.length < 400)(hM:Fm M)(h6:H<=6)(hC:C.length=H)(W:WFL H rs)(hn:0<=nh/\nh < H)(hb:g C nh=(nk:Int)+1)
  (h1:∀p∈(rs.zip (nms rs)).filterMap (tkF C),0<=p.1/\p.1 < H/\p.2 < g C p.1)
  (h2:∀k:Nat,k < H->(k:Int)≠nh->0 < g C k->((k:Int),g C k - 1)∈(rs.zip (nms rs)).filterMap sdF/\((k:Int),g C k - 1)∈(rs.zip (nms rs)).filterMap (tkF C)) (hQ:Q (.bl true) M) :
  aa T (B cls kls fad) (n+1) 34 [.rol (rs.map Rw.d),.rol ((nms rs).map nD),.tup [.int nh,.int nk],.rol (C.map D.int)] M Q E:=by
 obtain⟨j,rfl⟩:∃j:Nat,nh=j:=⟨nh.toNat,by omega⟩
 have hgn:∀k:Nat,g C (k:Int)=C.getD k 0:=fun k=>by unfold g;rw[Int.toNat_natCast]
 have hat:∀{k:Nat},k < H->∀{M:MH}{Q:VK3},ax (.rol (C.map D.int)) (.int (k:Int)) M Q=Q (.int (g C k)) M:=fun {k} hk {M Q}=>by rw[hgn];exact bU (fq (by omega))
 have ha:=fun {M:MH}{Q:VK3}=>hat (k:=j) (by omega) (M:=M) (Q:=Q)
 have hb4:(H:Int) < 4611686018427387904:=by omega
 simp only[j5,cq]
 simp[↓ha,hb,au]
 intro p hp q hq
 obtain⟨hqp,hq'⟩:=bP hq
 rw[vD]
 have zl:(rs.zip (nms rs)).length < 400:=by rw[List.length_zip];omega
 refine of_eq_true (lL (Ne.symm hqp) (C:=C) (R:=True) _ [] [] none none (by simp;omega) (by simp;omega) (fun x hx=>?_) fun x6 x7=>eq_true ?_)
 ·obtain⟨r,h,k⟩:=x
  have hm:=(List.of_mem_zip hx).2
  obtain⟨i,hi⟩:=List.mem_iff_getElem?.mp hm
  rw[hC]
  exact W.nm hi
 ·rw[List.nil_append,List.nil_append]
  generalize (rs.zip (nms rs)).filterMap (tkF C)=tk at h1 h2 ⊢
  generalize (rs.zip (nms rs)).filterMap sdF=sd at h2 ⊢
  have gp:put (put M p (.lst (tk.map mD))) q (.lst (sd.map mD)) p=some (.lst (tk.map mD)):=by rw[ak (Ne.symm hqp),ag]
  simp[gN gp]
  refine oE (fun σ=>∃y8 y9,σ=[some (.rol (rs.map Rw.d)),some (.rol ((nms rs).map nD)),some (.tup [.int (j:Int),.int nk]),some (.rol (C.map D.int)),some (.ref p),some (.ref q),x6,x7,y8,y9,none]) gp ⟨_,_,rfl⟩ (fun d hd σ hσ k hk=>?_) fun σ ⟨y8,y9,e⟩=>?_
  ·obtain⟨y8,y9,rfl⟩:=hσ
   obtain⟨⟨a,b⟩,hab,rfl⟩:=List.mem_map.mp hd
   obtain⟨a0,a1,a2⟩:=h1 _ hab
   simp only at a0 a1 a2
   obtain⟨i,rfl⟩:∃i:Nat,a=i:=⟨a.toNat,by omega⟩
   have hi:=fun {M:MH}{Q:VK3}=>hat (k:=i) (by omega) (M:=M) (Q:=Q)
   have a3:¬ g C (i:Int)<=b:=by omega
   simp[dc,wpG,mD,↓hi,a3]
   exact hk _ ⟨_,_,rfl⟩
  ·subst e
   simp[hC,hb4]
   refine jo (fun σ=>∃y8 y10,σ=[some (.rol (rs.map Rw.d)),some (.rol ((nms rs).map nD)),some (.tup [.int (j:Int),.int nk]),some (.rol (C.map D.int)),some (.ref p),some (.ref q),x6,x7,y8,y9,y10]) ⟨_,_,rfl⟩ (fun d hd σ hσ k hk=>?_) fun σ ⟨y8,y10,e⟩=>?_
   ·obtain⟨y8,y10,rfl⟩:=hσ
    simp only[rng,List.mem_map,List.mem_range]at hd
    obtain⟨i,hi,rfl⟩:=hd
    rw[Int.zero_add]
    have hi':=fun {M:MH}{Q:VK3}=>hat (k:=i) hi (M:=M) (Q:=Q)
    have n1:∀{Q:VK3},am .NotIn (.tup [.int (i:Int),.int (g C i - 1)]) (.ref p) (put (put M p (.lst (tk.map mD))) q (.lst (sd.map mD))) Q=Q (.bl (!decide (((i:Int),g C i - 1)∈tk))) (put (put M p (.lst (tk.map mD))) q (.lst (sd.map mD))):=fun {Q}=>jw (by simp[aw,aj,gp])
    have n2:∀{Q:VK3},am .NotIn (.tup [.int (i:Int),.int (g C i - 1)]) (.ref q) (put (put M p (.lst (tk.map mD))) q (.lst (sd.map mD))) Q=Q (.bl (!decide (((i:Int),g C i - 1)∈sd))) (put (put M p (.lst (tk.map mD))) q (.lst (sd.map mD))):=fun {Q}=>jw (by simp[aw,aj,ag])
    have h2':=h2 i hi
    generalize g C (i:Int)=v at hi' n1 n2 h2'
    by_cases e1:(i:Int)=j
    ·simp[bp,wpG,↓hi',e1,au]
     have:=hk [some (.rol (rs.map Rw.d)),some (.rol ((nms rs).map nD)),some (.tup [.int (j:Int),.int nk]),some (.rol (C.map D.int)),some (.ref p),some (.ref q),x6,x7,some (.int (i:Int)),y9,some (.tup [.int (i:Int),.int (v - 1)])] ⟨_,_,rfl⟩
     rw[e1]at hi' this
     simpa [↓hi'] using this
    ·by_cases e2:0 < v
     ·obtain⟨m1,m2⟩:=h2' e1 e2
      have e1':¬ i=j:=fun z=>e1 (by rw[z])
      simp[bp,wpG,↓hi',e1,e1',e2,↓n1,↓n2,m1,m2,au]
      exact hk _ ⟨_,_,rfl⟩
     ·have e1':¬ i=j:=fun z=>e1 (by rw[z])
      simp[bp,wpG,↓hi',e1,e1',e2,au]
      exact hk _ ⟨_,_,rfl⟩
   ·subst e
    simp[hp,hq']
    exact hQ
theorem m8{rs:List Rw}(hl:rs.length < 400)(hM:Fm M){h v:Int}(hn:h∈rs.map Rw.h->v < 0\/((rs.map Rw.h).count h:Int)<=v):aa T (B cls kls fad) (n+4) 17 [wO kls cks wy,.rol (rs.map Rw.d),.tup [.int h,.int v]] M Q E=E ⟨5,none⟩ M:=by
 simp only[oz,gO]
 have:=fun {Q:VK3}{E:XN}=>lj (cls:=cls) (kls:=kls) (fad:=fad) (n:=n) (Q:=Q) (E:=E) hl hM hn
 simp[↓this]
theorem iU{rs:List Rw}(hl:rs.length < 400)(hM:Fm M){h v:Int}(hn:h∈rs.map Rw.h->v < 0\/((rs.map Rw.h).count h:Int)<=v):aa T (B cls kls fad) (n+5) 35 [wO kls cks wy,.rol (rs.map Rw.d),.tup [.int h,.int v]] M Q E=Q (.bl true) M:=by
 simp[iH,bL]
 rw[m8 hl hM hn]
 simp
 exact iff_of_eq (aE hM fun a ha=>by simp +decide [ha])
end
end G
namespace G
open L2
section
variable {cls kls fad:Nat->PySem.Addr}{M:MH}{Q:VK3}{E:XN}{n:Nat}{cks:List (Int×Int)}{wy:List Wy}{H:Nat}
theorem wt{α:Type}{f:α->Option (Int×Int)}{l:List α}{p:Int×Int}(h:p∈l.filterMap f):∃x∈l,f x=some p:=List.mem_filterMap.mp h
theorem tQ{rs:List Rw}{x:Rw×(Int×Nat)}(h:x∈rs.zip (nms rs)):∃i:Nat,rs[i]?=some x.1/\(nms rs)[i]?=some x.2:=by
 obtain⟨i,hi⟩:=List.mem_iff_getElem?.mp h
 exact⟨i,List.getElem?_zip_eq_some.mp hi⟩
theorem nY{rs:List Rw}{i:Nat}{r:Rw}{v:Int×Nat}(h1:rs[i]?=some r)(h2:(nms rs)[i]?=some v):(r,v)∈rs.zip (nms rs):=
 List.mem_of_getElem? (List.getElem?_zip_eq_some.mpr ⟨h1,h2⟩)
theorem ow{rs:List Rw}{j:Nat}{nh:Int}{nk:Nat}{σ0 σ2:Option D}{y8 y9:Option D}{De:Ends3}{ES:St3->XN}{k:St3->MH->Prop}{asked:Option D}(W:WFL cks.length rs)(hl:rs.length < 400)(hM:Fm M)(h1:1<=cks.length)(h6:cks.length<=6)(hj:(nms rs)[j]?=some (nh,nk))
  (hk:∀y8 y9,k [σ0,some (.int cks.length),σ2,some (.rol (rs.map Rw.d)),some (.rol ((nms rs).map nD)),some (wO kls cks wy),asked,some (nD (nh,nk)),y8,y9] M) :
  ar ⟨(B cls kls fad),aa T (B cls kls fad) (n+5)⟩ eu {De with nx:=k,ct:=k,bk:=De.nx} ES [σ0,some (.int cks.length),σ2,some (.rol (rs.map Rw.d)),some (.rol ((nms rs).map nD)),some (wO kls cks wy),asked,some (nD (nh,nk)),y8,y9] M:=by
 have P:=PI.past W hj
 obtain⟨r,hr,hrh,hrk⟩:=lN hj
 have hlt:∀r∈rs,0<=r.h/\r.h < cks.length/\r.ltr cks.length:=fun r hr=>by
  obtain⟨a,b⟩:=W.hd r hr
  refine⟨a,b,?_⟩
  cases r with
  |take h' r' x y=>
   obtain⟨i,hi⟩:=List.mem_iff_getElem?.mp hr
   obtain⟨i',k,_,_,_,l2,_,_⟩:=W.tk i _ _ _ _ hi
   exact W.nm l2
  |_=>trivial
 have hp:∀{Q:VK3}{E:XN},aa T (B cls kls fad) (n+5) 17 [wO kls cks wy,.rol (rs.map Rw.d),nD (nh,nk)] M Q E=Q (.rol ((eE cks.length rs j nh nk).map D.int)) M:=fun {Q E}=>by
  have:=vN (cls:=cls) (kls:=kls) (fad:=fad) (n:=n) (Q:=Q) (E:=E) (wy:=wy) hl hM h1 h6 (j:=j) (h:=nh) (by rw[List.getElem?_map,hr];simp[hrh]) hlt
  rw[<-hrk]at this
  exact this
 have hz:(rs.map Rw.d).length<=PySem.sizeLine:=by rw[List.length_map,PySem.sizeLine_eq];omega
 have hcp:∀{M:MH}{Q:VK3},rBi (.list true) [.rol (rs.map Rw.d)] M Q=Q (.rol (rs.map Rw.d)) M:=fun {M Q}=>by
  simp only[rBi,aw,aj,be,hz,true_and,if_true]
 have hpl:plN 8 (.rol (rs.map Rw.d))=true:=by
  simp only[plN,List.all_map,List.all_eq_true]
  intro r _
  cases r<;>simp[Rw.d,plN]
 have hpls:pls (rs.map Rw.d)=true:=by
  simp only[List.all_map,List.all_eq_true]
  intro r _
  cases r<;>simp[Rw.d,plN]
 have hres:L2.rs M (.rol (rs.map Rw.d))=.rol (rs.map Rw.d):=by simp[L2.rs,aj,hpls]
 have heq:∀{Q:VK3},am .NotEq (.rol (rs.map Rw.d)) (.rol (rs.map Rw.d)) M Q=Q (.bl false) M:=fun {Q}=>by
  have e:eqD (.rol (rs.map Rw.d)) (.rol (rs.map Rw.d))=true:=kf 8 hpl
  simp only[am,cG,hres,hpl,e,true_and]
  rfl
 have hcnt:∀{Q:VK3}{E:XN},Q (.bl true) M->aa T (B cls kls fad) (n+5) 33 [.rol ((eE cks.length rs j nh nk).map D.int),.int cks.length,.rol ((nms rs).map nD)] M Q E:=fun {Q E} hq=>by
  rw[z8]
  refine nZ (n:=n+4) P.len h6 (fun k hk=>?_) hq
  have e:(eE cks.length rs j nh nk).getD k 0=g (eE cks.length rs j nh nk) (k:Int):=by unfold g;rw[Int.toNat_natCast]
  rw[e]
  refine⟨P.a0 _,fun h0=>?_⟩
  obtain⟨i,kk,_,q2,q3⟩:=P.a1 (k:Int) (by omega) (by omega) h0
  rw[q3,show (kk:Int)+1 - 1=kk by omega]
  exact List.mem_map.mpr ⟨_,List.mem_of_getElem? q2,rfl⟩
 have hrt:∀{Q:VK3}{E:XN},Q (.bl true) M->aa T (B cls kls fad) (n+5) 34 [.rol (rs.map Rw.d),.rol ((nms rs).map nD),nD (nh,nk),.rol ((eE cks.length rs j nh nk).map D.int)] M Q E:=fun {Q E} hq=>by
  refine qd (n:=n+4) (H:=cks.length) hl hM h6 P.len W (W.nm hj) P.b (fun p hp=>?_) (fun k hk hne h0=>?_) hq
  ·obtain⟨⟨r,h,k⟩,hx,e⟩:=wt hp
   obtain⟨i,i1,i2⟩:=tQ hx
   cases r with
   |take h' r' a b=>
    simp only[tkF]at e
    split at e
    ·rename_i hk
     cases e
     obtain⟨i',kk,_,_,_,l2,_,_⟩:=W.tk i _ _ _ _ i1
     obtain⟨a0,a1⟩:=W.nm l2
     exact⟨a0,a1,P.c i h k h' r' a b (Nat.zero_le _) i1 i2 hk⟩
    ·cases e
   |_=>simp[tkF]at e
  ·obtain⟨⟨i',kk,r',t',q1,q2,q3⟩,i,k',h',hh,r,b,w1,w2,w3,w4⟩:=P.d (k:Int) (by omega) (by omega) hne h0
   refine⟨List.mem_filterMap.mpr ⟨_,nY q1 q2,?_⟩,List.mem_filterMap.mpr ⟨_,nY w1 w3,?_⟩⟩
   ·simp only[sdF,pz];rw[q3];congr 2;omega
   ·simp only[tkF];rw[if_pos w4];congr 2;omega
 simp only[eu]
 simp[↓hcp,↓hp,↓heq]
 refine hcnt ?_
 simp
 refine hrt ?_
 simp
 exact hk _ _
end
end G
namespace G
open L2
section
variable {cls kls fad:Nat->PySem.Addr}
theorem vO(ns:List Int)(lo hi:Option Int):∃cs:List Int,bj (ns.map D.int) lo hi=cs.map D.int/\cs.length<=ns.length:=by
 refine⟨(ns.drop (HT.sIx ns.length 0 lo)).take (HT.sIx ns.length ns.length hi - HT.sIx ns.length 0 lo),?_,?_⟩
 ·simp[bj,List.map_take,List.map_drop]
 ·rw[List.length_take,List.length_drop];omega
theorem BA(ns:List Int):∃cs:List Int,bj (ns.map D.int) (some 3) (some 60)=cs.map D.int/\cs.length<=60:=by
 refine⟨(ns.drop (HT.sIx ns.length 0 (some 3))).take (HT.sIx ns.length ns.length (some 60) - HT.sIx ns.length 0 (some 3)),?_,?_⟩
 ·simp[bj,List.map_take,List.map_drop]
 ·have:HT.sIx ns.length ns.length (some 60)<=60:=by
   unfold HT.sIx
   simp
   omega
  rw[List.length_take];omega
theorem ml{xs:List D}{lo hi:Option Int}{d:D}(h:d∈bj xs lo hi):d∈xs:=List.mem_of_mem_drop (List.mem_of_mem_take h)
noncomputable def wq(x:Nat×Nat):Wy:=⟨x.1,x.2,0,none⟩
noncomputable def cpF(d:D):D:=match d with
 |.tup [a,b]=>.tup [a,b,.int 0,.non]
 |_=>.non
theorem main(cls kls fad:Nat->PySem.Addr)(ns:List Int)(hl:ns.length<=63):aa (L.map FL.fb) (B cls kls fad) 7 36 [scr ns] (fun _=>none) (fun d _=>d=.bl true) (fun _ _=>False):=by
 rw[Em]
 simp only[zA,me]
 obtain⟨c0,h0⟩:=tO (cls:=cls) (kls:=kls) (fad:=fad) ns 0
 have h0':∀{M:MH}{Q:VK3}{E:XN},aa T (B cls kls fad) 6 28 [scr ns,.int 0] M Q E=Q (.int c0) M:=h0
 obtain⟨H,hH⟩:∃H:Nat,1+c0 % 6=H:=⟨(1+c0 % 6).toNat,by omega⟩
 have H2:1<=H:=by omega
 have H6:H<=6:=by omega
 simp[h0',cg,hH]
 refine uB (n:=5) H6 fun ps l36 hW=>?_
 obtain⟨cs,hcs,hcl⟩:=BA ns
 have hzc:cs.length<=PySem.sizeLine:=by rw[PySem.sizeLine_eq];omega
 simp[fS,aj,be,scr,hcs,hzc]
 refine Av (n:=4) (by omega) (by omega) l36 cs (by omega) Fm.nil fun rs hrl W=>?_
 have hln:∀{Q:VK3}{E:XN},aa T (B cls kls fad) 6 32 [.rol (rs.map Rw.d)] (fun _=>none) Q E=Q (.rol ((nms rs).map nD)) (fun _=>none):=fun {Q E}=>ou (n:=5) rs (by omega) Fm.nil
 have hz:H<=PySem.sizeLine:=by rw[PySem.sizeLine_eq];omega
 obtain⟨cks,hcks⟩:∃cks,cks=List.replicate H ((1:Int),(2:Int)):=⟨_,rfl⟩
 have lk:cks.length=H:=by rw[hcks];exact List.length_replicate
 have er:∀{M:MH}{Q:VK3},eF true (.rol [.tup [.int 1,.int 2]]) (.int H) M Q=Q (.rol (cks.map cD)) M:=fun {M Q}=>by
  have e:(List.replicate H [D.tup [.int 1,.int 2]]).flatten=cks.map cD:=by
   rw[hcks,List.map_replicate]
   clear hz hW H2 H6 hH lk hcks W hln
   induction H with
   |zero=>rfl
   |succ k ih=>rw[List.replicate_succ,List.flatten_cons,ih];rfl
  have a1 : -9223372036854775808<=(H:Int):=by omega
  have a2:(H:Int) < 9223372036854775808:=by omega
  have a3:cks.length<=PySem.sizeLine:=by rw[lk];exact hz
  simp[eF,aj,be,e,a1,a2,hz,a3]
 simp[↓hln,↓er,aP,au]
 rw[dm (fun σ=>∃a b,σ=[a,b]) (fun d=>match d with
   |.tup [a,b]=>[some a,some b]
   |_=>[]) (fun _=>true) cpF ⟨_,_,rfl⟩ Fm.nil (by
    simp;omega) (fun d hd=>by
    obtain⟨x,hp,rfl⟩:=List.mem_map.mp hd
    refine⟨⟨_,_,rfl⟩,fun σ ⟨a,b,e⟩ M k=>?_⟩
    subst e
    simp[wpG,qD]) (fun d hd M' hE Q=>rfl) (fun d hd _ M' hE Q=>by
    obtain⟨x,hp,rfl⟩:=List.mem_map.mp hd
    simp[cpF,qD,au])]
 obtain⟨wy,hwy⟩:∃wy,wy=ps.map wq:=⟨_,rfl⟩
 have ef:((ps.map qD).filter fun _=>true).map cpF=wy.map wD:=by
  rw[List.filter_eq_self.mpr (fun _ _=>rfl),hwy,List.map_map,List.map_map]
  rfl
 rw[ef]
 have lw:wy.length < 400:=by rw[hwy,List.length_map];omega
 have hg:∀w∈wy,w.good cks.length:=fun w hw=>by
  rw[hwy]at hw
  obtain⟨x,hx,rfl⟩:=List.mem_map.mp hw
  obtain⟨g1,g2,g3⟩:=hW.gd x hx
  rw[lk]
  exact⟨by simp[okH,wq];omega,by simp[okH,wq];omega,fun e=>g3 (Int.ofNat_inj.mp e),rfl⟩
 have nd:(wy.map pr).Nodup:=by
  rw[hwy,List.map_map]
  refine List.Pairwise.map _ (fun x y h e=>h ?_) hW.nd
  simp[pr,wq]at e
  exact Prod.ext (by omega) (by omega)
 have mk:=fun {Q:VK3}{E:XN}=>qC (cls:=cls) (kls:=kls) (fad:=fad) (M:=fun _=>none) (n:=0) (Q:=Q) (E:=E) (cks:=cks) (wy:=wy) Fm.nil (by omega) (by omega) (fun c hc=>by rw[hcks]at hc;rw[List.eq_of_mem_replicate hc];rfl) lw hg nd
 rw[show ∀{Q:VK3},(∀p,(fun _=>none:MH) p=none->aa T (B cls kls fad) 6 20 [.ref p,.rol (cks.map cD),.rol (wy.map wD)] (put (fun _=>none) p (.ins 5 (kls 5) [] [])) (fun v M2=>v=.non/\aW Q (.ref p) M2) fun i M'=>False)=Q (wO kls cks wy) (fun _=>none) from fun {Q}=>mk (E:=fun _ _=>False)]
 have hcn:∀{lo hi:Option Int},(bj ((nms rs).map nD) lo hi).length<=PySem.sizeLine:=fun {lo hi}=>by
  have:(bj ((nms rs).map nD) lo hi).length<=(nms rs).length:=by
   unfold bj;rw[List.length_take,List.length_drop,List.length_map];omega
  rw[gc]at this
  rw[PySem.sizeLine_eq];omega
 have hW':WFL cks.length rs:=by rw[lk];exact W
 have key:∀{xs:List D}{asked:Option D},(∀d∈xs,d∈(nms rs).map nD)->bN ⟨B cls kls fad,aa T (B cls kls fad) 6⟩ (.name 7) eu (fun _ _ _=>False) (fun _=>True)
   {nx:=fun σ' M'=>ar ⟨B cls kls fad,aa T (B cls kls fad) 6⟩ (.cons (.ret (.and (.call 35 (.cons (.var 5) (.cons (.bi (.list true) (.cons (.var 3) (.nil))) (.cons (.tup (.cons (.neg (.con (.int 1))) (.cons (.con (.int 0)) (.nil)))) (.nil))))) (.call 35 (.cons (.var 5) (.cons (.bi (.list true) (.cons (.var 3) (.nil))) (.cons (.tup (.cons (.bin .Sub (.var 1) (.con (.int 1))) (.cons (.con (.int 60)) (.nil)))) (.nil))))))) .nil)
     {nx:=fun _ _=>False,rt:=fun d _=>d=.bl true} (fun _ _ _=>False) σ' M',rt:=fun d _=>d=.bl true} xs
   [some (.rol (ns.map D.int)),some (.int H),some (.rol (ps.map qD)),some (.rol (rs.map Rw.d)),some (.rol ((nms rs).map nD)),some (wO kls cks wy),asked,none,none,none] (fun _=>none):=fun {xs asked} hxs=>by
  refine jo (fun σ=>∃y7 y8 y9,σ=[some (.rol (ns.map D.int)),some (.int H),some (.rol (ps.map qD)),some (.rol (rs.map Rw.d)),some (.rol ((nms rs).map nD)),some (wO kls cks wy),asked,y7,y8,y9]) ⟨_,_,_,rfl⟩ (fun d hd σ hσ k hk=>?_) fun σ ⟨y7,y8,y9,e⟩=>?_
  ·obtain⟨y7,y8,y9,rfl⟩:=hσ
   obtain⟨⟨nh,nk⟩,hp,rfl⟩:=List.mem_map.mp (hxs d hd)
   obtain⟨j,hj⟩:=List.mem_iff_getElem?.mp hp
   rw[rh]
   rw[<-lk]
   refine ow (n:=1) hW' (by omega) Fm.nil (by omega) (by omega) hj fun y8 y9=>?_
   exact hk _ ⟨_,_,_,by rw[lk]⟩
  ·subst e
   have hzr:(rs.map Rw.d).length<=PySem.sizeLine:=by rw[List.length_map,PySem.sizeLine_eq];omega
   have hcp:∀{M:MH}{Q:VK3},rBi (.list true) [.rol (rs.map Rw.d)] M Q=Q (.rol (rs.map Rw.d)) M:=fun {M Q}=>by
    simp only[rBi,aw,aj,be,hzr,true_and,if_true]
   have r1:∀{Q:VK3}{E:XN},aa T (B cls kls fad) 6 35 [wO kls cks wy,.rol (rs.map Rw.d),.tup [.int (-1),.int 0]] (fun _=>none) Q E=Q (.bl true) (fun _=>none):=fun {Q E}=>iU (n:=1) (by omega) Fm.nil (fun z=>by
    obtain⟨r,hr,e⟩:=List.mem_map.mp z
    have:=(W.hd r hr).1
    omega)
   have r2:∀{Q:VK3}{E:XN},aa T (B cls kls fad) 6 35 [wO kls cks wy,.rol (rs.map Rw.d),.tup [.int ((H:Int) - 1),.int 60]] (fun _=>none) Q E=Q (.bl true) (fun _=>none):=fun {Q E}=>iU (n:=1) (by omega) Fm.nil (fun z=>.inr (by
    have:=List.count_le_length (a:=(H:Int) - 1) (l:=rs.map Rw.h)
    rw[List.length_map]at this
    omega))
   simp[↓hcp,↓r1,↓r2,au]
 refine⟨hcn,?_⟩
 have hem:∀{M:MH}{Q:VK3},am .NotEq (.rol ((nms rs).map nD)) (.rol []) M Q=Q (.bl (!(nms rs).isEmpty)) M:=fun {M Q}=>by
  rw[z8];simp only[am];rw[AW];simp
 rw[hem]
 by_cases he:nms rs=[]
 ·simp[he]
  have:=key (xs:=bj ((nms rs).map nD) (some (-1)) none) (asked:=some (.rol (bj ((nms rs).map nD) (some (-1)) none))) (fun d hd=>ml hd)
  simpa [he] using this
 ·have hlen:0 < (nms rs).length:=by
   cases h:nms rs with
   |nil=>exact absurd h he
   |cons=>simp
  have hem2:(!(nms rs).isEmpty)=true:=by
   cases h:nms rs with
   |nil=>exact absurd h he
   |cons=>rfl
  obtain⟨ds,hds,hdl⟩:=vO ns (some 1) (some 6)
  simp only[hem2,if_true]
  rw[hds]
  refine⟨by rw[List.length_map,PySem.sizeLine_eq];omega,?_⟩
  rw[iL (fun d=>match d with
   |.int i=>((nms rs).map nD).getD (i % ((nms rs).length:Int)).toNat .non
   |_=>.non) Fm.nil (by rw[List.length_map];omega) (fun d hd M' hE Q'=>by
    obtain⟨i,hi,rfl⟩:=List.mem_map.mp hd
    have m0:=Int.emod_nonneg i (show ((nms rs).length:Int)≠0 by omega)
    have m1:=Int.emod_lt_of_pos i (show (0:Int) < (nms rs).length by omega)
    obtain⟨j,hj⟩:∃j:Nat,i % ((nms rs).length:Int)=j:=⟨(i % ((nms rs).length:Int)).toNat,by omega⟩
    have hjl:j < ((nms rs).map nD).length:=by rw[List.length_map];omega
    have hat:atI ((nms rs).map nD) (j:Int)=some (((nms rs).map nD).getD j .non):=bu (by rw[List.getD_eq_getElem?_getD,List.getElem?_eq_getElem hjl];rfl)
    have w1:¬ ((nms rs).length:Int)=0:=by omega
    have w2:(0:Int) < (nms rs).length:=by omega
    simp[w1,w2,hlen,hj,bU hat])]
  have hsz:(bj ((nms rs).map nD) (some (-1)) none).length+ds.length<=PySem.sizeLine:=by
   have:(bj ((nms rs).map nD) (some (-1)) none).length<=(nms rs).length:=by
    unfold bj;rw[List.length_take,List.length_drop,List.length_map];omega
   rw[gc]at this
   rw[PySem.sizeLine_eq];omega
  simp[cA,aj,be,hsz]
  refine key fun d hd=>?_
  rcases List.mem_append.mp hd with z|z
  ·exact ml z
  ·obtain⟨i,hi,rfl⟩:=List.mem_map.mp z
   have m0:=Int.emod_nonneg i (show ((nms rs).length:Int)≠0 by omega)
   have m1:=Int.emod_lt_of_pos i (show (0:Int) < (nms rs).length by omega)
   have hjl:(i % ((nms rs).length:Int)).toNat < (nms rs).length:=by omega
   simp[hjl]
   exact⟨_,_,List.getElem_mem hjl,rfl⟩
end
end G
open PySem PySem.W PyProof.Rows
set_option maxRecDepth 100000 in
set_option maxHeartbeats 0 in
theorem PySem.Challenge.cw_driftmeet_k19_what_is_past_holds : PySem.Challenge.rw_driftmeet_k19_what_is_past.Holds := by
 w_on;o_law
 refine holds_open (q:=HD.view) (loose:=HD.loose) (Xt:=HD.Xt) (XP:=XL HD.view []) (Yf:=Hook.obs (kHook HD.K HD.as HD.as_eq)) (Ya:=Hook.val (kHook HD.K HD.as HD.as_eq)) (YP:=Hook.says (kHook HD.K HD.as HD.as_eq)) (N:=7978) HD.left (Hook.of (kHook HD.K HD.as HD.as_eq)) (Hook.keeps (kHook HD.K HD.as HD.as_eq)) (fun s e=>xl_of s (Bool.and_eq_true_iff.mp e).1) XL.keeps (by rfl) (by rfl) (by rfl) (fun s e=>recFacts_of (Bool.and_eq_true_iff.mp e).2) (by kernel_rfl) (by first|assumption|decide +kernel) (by decide +kernel) ⟨rfl,rfl,rfl,rfl,rfl,by decide +kernel⟩ ?hw ?hc
 (case hw=>w_witness2)
 k_fill
 refine L2.walkD (l:=PySem.Challenge.rw_driftmeet_k19_what_is_past) (k:=7) (f:=36) (fl:=G.l_law) (x:="_law_script") (L:=G.L) (nm:=G.nm) (BB:=G.B) rfl rfl ⟨rfl,by decide,by decide⟩ (fun w h Y=>PySem.W.kIn_of Y) rfl rfl rfl rfl ?F (fun cls kls fad ns hl=>G.main cls kls fad ns hl)
 case F=>
  intro w mg h KX Gn
  refine' G.top_mk KX Gn ?gl0
  (case gl0=>k_is)
