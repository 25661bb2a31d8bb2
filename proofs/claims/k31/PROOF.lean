import PyProof.Rows.All
import Wide.All
import OpenK.AllK
import Wide.FinOn
import Lean
import PyProof.EqAt
import PyProof.EqKinds
import PyProof.TupleCall
import PySem.Challenge.RW_driftmeet_k31_bounds_told
set_option Elab.async false
set_option linter.all false
set_option maxRecDepth 100000
namespace L2
open PySem PySem.Spec PyProof.Rows
noncomputable abbrev Key:=Sum Int Str
noncomputable def km:Key->Value->Bool
 |.inl k,v=>Value.isInt k v
 |.inr x,v=>Value.isStrOf x v
noncomputable def EF(w:World):Key->Int
 |.inl k=>hashInt k
 |.inr x=>hashStr w x
theorem aF:∀{k:Key}{v:Value},km k v=true->(∃i t,k=Sum.inl i/\v=Value.int i t)\/(∃x t,k=Sum.inr x/\v=Value.str x t)
 |.inl i,v,h=>by
  obtain⟨t,e⟩:=Value.isInt_shape (k:=i) (v:=v) h;exact .inl ⟨i,t,rfl,e⟩
 |.inr x,v,h=>by
  obtain⟨t,e⟩:=Value.isStrOf_shape (x:=x) (v:=v) h;exact .inr ⟨x,t,rfl,e⟩
theorem pE(i:Int)(t:Tok):km (.inl i) (.int i t)=true:=by simp[km,Value.isInt]
theorem oQ(x:Str)(t:Tok):km (.inr x) (.str x t)=true:=by simp[km,Value.isStrOf]
theorem yI(a b:Int):decide ((Sum.inl a:Key)=Sum.inl b)=(a == b):=by
 by_cases e:a=b
 ·subst e;simp
 ·have h:¬ (Sum.inl a:Key)=Sum.inl b:=fun q=>e (Sum.inl.inj q)
  rw[decide_eq_false h];exact (beq_eq_false_iff_ne.mpr e).symm
theorem yt(a b:Str):decide ((Sum.inr a:Key)=Sum.inr b)=decide (a=b):=by
 by_cases e:a=b
 ·subst e;simp
 ·have h:¬ (Sum.inr a:Key)=Sum.inr b:=fun q=>e (Sum.inr.inj q)
  rw[decide_eq_false h,decide_eq_false e]
theorem yS(a:Int)(b:Str):decide ((Sum.inl a:Key)=Sum.inr b)=false:=decide_eq_false (fun q=>nomatch q)
theorem wm(a:Str)(b:Int):decide ((Sum.inr a:Key)=Sum.inl b)=false:=decide_eq_false (fun q=>nomatch q)
noncomputable def aE(prog:Program)(w:World):PySem.KeyKind prog w Key where
 is:=km
 hash:=EF w
 inj:=fun v a b ha hb=>by
  rcases aF ha with ⟨i,t,rfl,rfl⟩|⟨x,t,rfl,rfl⟩
  ·rcases aF hb with ⟨j,u,rfl,e⟩|⟨y,u,rfl,e⟩
   ·injection e with e1 _;rw[e1]
   ·exact nomatch e
  ·rcases aF hb with ⟨j,u,rfl,e⟩|⟨y,u,rfl,e⟩
   ·exact nomatch e
   ·injection e with e1 _;rw[e1]
 byValue:=fun k v h=>by
  rcases aF h with ⟨i,t,rfl,rfl⟩|⟨x,t,rfl,rfl⟩<;>rfl
 pyHash:=fun hv h=>by
  rcases aF hv with ⟨i,t,rfl,rfl⟩|⟨x,t,rfl,rfl⟩
  ·exact wpAny_pyHash_int h
  ·exact wpAny_pyHash_str h
 eqBool:=fun hu hv h=>by
  rcases aF hu with ⟨i,t,rfl,rfl⟩|⟨x,t,rfl,rfl⟩
  ·rcases aF hv with ⟨j,u,rfl,rfl⟩|⟨y,u,rfl,rfl⟩
   ·rw[yI]at h;exact wpAny_eqBool_int h
   ·rw[yS]at h;exact SeqAt.EqAt.int_str i t y u _ _ _ _ h
  ·rcases aF hv with ⟨j,u,rfl,rfl⟩|⟨y,u,rfl,rfl⟩
   ·rw[wm]at h;exact SeqAt.EqAt.str_int x t j u _ _ _ _ h
   ·rw[yt]at h;exact wpAny_eqBool_str h
 «strs»:=fun k x t v h=>by
  rcases aF h with ⟨i,u,rfl,e⟩|⟨y,u,rfl,e⟩
  ·exact nomatch e
  ·injection e with e1 _
   subst e1;cases v<;>rfl
theorem lV(prog:Program)(w:World)(i:Int)(t:Tok):(aE prog w).is (.inl i) (.int i t)=true:=pE i t
theorem lz(prog:Program)(w:World)(x:Str)(t:Tok):(aE prog w).is (.inr x) (.str x t)=true:=oQ x t
end L2
namespace L2
open PySem PySem.Spec PyProof.Rows
inductive V where
 |non|bl (b:Bool)|int (i:Int)|str (x:Str)|byt (b:Array UInt8)|flt (b:UInt64)|ref (a:Addr)|ty (n:String)
 deriving DecidableEq
noncomputable def RelV:V->Value->Prop
 |.non,u=>u=Value.none
 |.bl b,u=>u=Value.bool b
 |.int i,u=>∃t,u=Value.int i t
 |.str x,u=>∃t,u=Value.str x t
 |.byt b,u=>∃t,u=Value.bytes b t
 |.flt b,u=>∃t,u=Value.float b t
 |.ref a,u=>u=Value.ref a
 |.ty n,u=>u=Value.type n
noncomputable abbrev Vals:List V->List Value->Prop:=Paired RelV
theorem Vals.length{xs:List V}{us:List Value}(r:Vals xs us):xs.length=us.length:=Paired.length r
theorem Vals.get:∀{xs:List V}{us:List Value}{i:Nat}{x:V},Vals xs us->xs[i]?=some x->∃u,us[i]?=some u/\RelV x u
 |_,_,_,_,.nil,e=>by simp at e
 |_,_,0,_,.cons r _,e=>by simp at e;subst e;exact⟨_,rfl,r⟩
 |_,_,i+1,x,.cons _ t,e=>by
  obtain⟨u,h1,h2⟩:=Vals.get (i:=i) (x:=x) t (by simpa using e)
  exact⟨u,by simpa using h1,h2⟩
theorem Vals.set(r:RelV x u):∀{xs:List V}{us:List Value} (i:Nat),Vals xs us->Vals (xs.set i x) (us.set i u)
 |_,_,_,.nil=>.nil
 |_,_,0,.cons _ t=>.cons r t
 |_,_,i+1,.cons q t=>.cons q (Vals.set r i t)
theorem Vals.append:∀{xs ys:List V}{us ws:List Value},Vals xs us->Vals ys ws->Vals (xs++ys) (us++ws)
 |_,_,_,_,.nil,s=>s
 |_,_,_,_,.cons r t,s=>.cons r (Vals.append t s)
theorem Vals.take:∀{xs:List V}{us:List Value} (n:Nat),Vals xs us->Vals (xs.take n) (us.take n)
 |_,_,0,_=>.nil
 |_,_,_+1,.nil=>.nil
 |_,_,n+1,.cons r t=>.cons r (Vals.take n t)
theorem Vals.drop:∀{xs:List V}{us:List Value} (n:Nat),Vals xs us->Vals (xs.drop n) (us.drop n)
 |_,_,0,r=>r
 |_,_,_+1,.nil=>.nil
 |_,_,n+1,.cons _ t=>Vals.drop n t
noncomputable def RelO:Option V->Option Value->Prop
 |some v,some u=>RelV v u
 |none,none=>True
 |_,_=>False
noncomputable def KV:List (κ×V)->List (κ×Value)->Prop:=Paired fun (p:κ×V) (q:κ×Value)=>p.1=q.1/\RelV p.2 q.2
noncomputable def kV:Key->V
 |.inl i=>.int i
 |.inr x=>.str x
inductive HO where
 |lst (xs:List V)
 |tup (xs:List V)
 |dK (kvs:List (Key×V))|dT (kvs:List (List Key×V))
 |set (S:Int->Bool) (n:Nat)
 |ins (C dx:Addr) (fs:List (Str×V))
 |own (x:Addr)
 |xd (fs:List (Str×V))
 |met (f x:Addr)
 |rng (lo hi:Int)
 |frz (o:Obj) (u:HO)
 |tbl (ps:Array Value)
 |ext (φ:Heap->Prop)
noncomputable abbrev Hp:=Addr->Option HO
noncomputable def upd(H:Hp)(a:Addr)(o:HO):Hp:=fun b=>if b=a then some o else H b
theorem ai:upd H a o a=some o:=by unfold upd;rw[if_pos rfl]
theorem ag(h:b≠a):upd H a o b=H b:=by unfold upd;rw[if_neg h]
theorem c4{H:Hp}{a b:Addr}{o u:HO}(h:H a=some o)(h':H b=some u)(d:o≠u):a≠b:=by
 intro e;subst e;rw[h]at h';exact d (Option.some.inj h')
theorem ay{H:Hp}{a b:Addr}{o:HO}(h:H a=some o)(h':H b=none):a≠b:=by
 intro e;subst e;rw[h]at h';cases h'
section
variable (P:Program) (w:World)
noncomputable def ObjOk(H:Hp)(h:Heap)(a:Addr):HO->Prop
 |.lst xs=>xs.length<=sizeLine/\∃(its:List Value) (n:Nat),Vals xs its/\h.get? a=some {cls:=.type "list",data:=.seq its.toArray n}
 |.tup xs=>xs.length<=sizeLine/\∃its:List Value,Vals xs its/\IsTup h a its.toArray
 |.dK kvs=>kvs.length<=sizeLine/\(a == sysModules)=false/\∃vs,KV kvs vs/\h.DictOf (aE P w) a vs
 |.dT kvs=>kvs.length<=sizeLine/\(a == sysModules)=false/\∃xs:List (List Key×Addr×Value),
   Paired (fun (p:List Key×V) (q:List Key×Addr×Value)=>p.1=q.1/\H q.2.1=some (.tup (p.1.map kV))/\RelV p.2 q.2.2) kvs xs/\
   ∃o es ep,h.get? a=some o/\o.ExactDict/\o.data=.dict es ep/\es.toList=xs.map (entryOfKey (tupleKind (aE P w)))/\(xs.map (·.1)).Nodup
 |.set S n=>h.SetOf (intKind P w) a S n
 |.ins C dx fs=>H dx=some (.own a)/\fs.length<=1000/\dx≠a/\h.get? a=some (PySem.W.instObj C dx)/\
   ∃mA,h.Ns1 dx mA/\(∀f,RelO (fs.lookup f) (mA f))/\PySem.Within mA (fs.map (·.1))
 |.own _=>∃o,h.get? a=some o
 |.xd fs=>∃mA,h.Ns1 a mA/\∀f,RelO (fs.lookup f) (mA f)
 |.rng lo hi=>∃t u v,h.get? a=some {cls:=.type "range",data:=.fields #[.int lo t,.int hi u,.int 1 v]}
 |.frz o u=>h.get? a=some o/\ObjOk H h a u
 |.tbl ps=>h.get? a=some {cls:=.none,data:=.fields ps}
 |.met f x=>h.get? a=some (PySem.W.methodObj (.ref f) (.ref x))
 |.ext φ=>φ h/\(∃o,h.get? a=some o)/\∀h1 h2:Heap,φ h1->(∀o,h1.get? a=some o->h2.get? a=some o)->φ h2
noncomputable def HOk(H:Hp)(h:Heap):Prop:=∀a o,H a=some o->ObjOk P w H h a o
end
section
variable {P:Program}{w:World}{H H':Hp}{h h':Heap}{a:Addr}{o:HO}
theorem ObjOk.lt(x:ObjOk P w H h a o):a < h.objs.size:=by
 cases o with
 |lst xs=>obtain⟨_,_,_,_,e⟩:=x;exact Heap.lt_size e
 |tup xs=>obtain⟨_,_,_,p⟩:=x;exact p.lt
 |dK kvs=>obtain⟨_,_,_,_,o,_,_,e,_⟩:=x;exact Heap.lt_size e
 |dT kvs=>obtain⟨_,_,_,_,o,_,_,e,_⟩:=x;exact Heap.lt_size e
 |set S n=>obtain⟨o,_,_,_,e,_⟩:=x;exact Heap.lt_size e
 |ins C dx fs=>obtain⟨_,_,_,e,_⟩:=x;exact Heap.lt_size e
 |own y=>obtain⟨_,e⟩:=x;exact Heap.lt_size e
 |xd fs=>obtain⟨_,⟨_,_,_,e,_⟩,_⟩:=x;exact Heap.lt_size e
 |rng lo hi=>obtain⟨_,_,_,e⟩:=x;exact Heap.lt_size e
 |frz ob u=>obtain⟨e,_⟩:=x;exact Heap.lt_size e
 |tbl ps=>exact Heap.lt_size (show h.get? a=some _ from x)
 |met f y=>exact Heap.lt_size (show h.get? a=some _ from x)
 |ext φ=>obtain⟨_,⟨_,e⟩,_⟩:=x;exact Heap.lt_size e
theorem Paired.mapP:∀{l₁:List α}{l₂:List β},Paired F l₁ l₂->(∀a b,F a b->G a b)->Paired G l₁ l₂
 |_,_,.nil,_=>.nil
 |_,_,.cons r t,f=>.cons (f _ _ r) (Paired.mapP t f)
theorem ObjOk.stay(x:ObjOk P w H h a o)(k:∀b u,(b=a\/H b=some (.own a))->h.get? b=some u->h'.get? b=some u)
  (ho:∀b,H b=some (.own a)->H' b=some (.own a)) (ht:∀b xs,H b=some (.tup xs)->H' b=some (.tup xs)):ObjOk P w H' h' a o:=by
 induction o with
 |lst xs=>obtain⟨z,its,n,r,e⟩:=x;exact⟨z,its,n,r,k _ _ (.inl rfl) e⟩
 |tup xs=>obtain⟨z,its,r,ob,e,c⟩:=x;exact⟨z,its,r,ob,k _ _ (.inl rfl) e,c⟩
 |dK kvs=>obtain⟨z,y,vs,r,ob,es,ep,e,c⟩:=x;exact⟨z,y,vs,r,ob,es,ep,k _ _ (.inl rfl) e,c⟩
 |dT kvs=>
  obtain⟨z,y,xs,r,ob,es,ep,e,c⟩:=x;exact⟨z,y,xs,Paired.mapP r fun p q z=>⟨z.1,ht _ _ z.2.1,z.2.2⟩,ob,es,ep,k _ _ (.inl rfl) e,c⟩
 |set S n=>obtain⟨ob,es,ep,t,e,c⟩:=x;exact⟨ob,es,ep,t,k _ _ (.inl rfl) e,c⟩
 |ins C dx fs=>
  obtain⟨d,z,ne,e,mA,⟨od,es,ep,e2,c⟩,r⟩:=x;exact⟨ho _ d,z,ne,k _ _ (.inl rfl) e,mA,⟨od,es,ep,k _ _ (.inr d) e2,c⟩,r⟩
 |own y=>obtain⟨ob,e⟩:=x;exact⟨ob,k _ _ (.inl rfl) e⟩
 |xd fs=>obtain⟨mA,⟨od,es,ep,e,c⟩,r⟩:=x;exact⟨mA,⟨od,es,ep,k _ _ (.inl rfl) e,c⟩,r⟩
 |rng lo hi=>obtain⟨t,u,v,e⟩:=x;exact⟨t,u,v,k _ _ (.inl rfl) e⟩
 |frz ob u ih=>obtain⟨e,q⟩:=x;exact⟨k _ _ (.inl rfl) e,ih q⟩
 |tbl ps=>
  have e:h.get? a=some {cls:=.none,data:=.fields ps}:=x;show h'.get? a=some {cls:=.none,data:=.fields ps};exact k a _ (.inl rfl) e
 |met f y=>
  have e:h.get? a=some (PySem.W.methodObj (.ref f) (.ref y)):=x;show h'.get? a=some (PySem.W.methodObj (.ref f) (.ref y));exact k a _ (.inl rfl) e
 |ext φ=>obtain⟨p,⟨o,e⟩,st⟩:=x;exact⟨st _ _ p fun o q=>k _ _ (.inl rfl) q,⟨o,k _ _ (.inl rfl) e⟩,st⟩
theorem HOk.lt(x:HOk P w H h)(e:H a=some o):a < h.objs.size:=(x a o e).lt
theorem HOk.fresh(x:HOk P w H h)(e:h.objs.size<=a):H a=none:=by
 cases q:H a with
 |none=>rfl
 |some u=>exact absurd (Nat.lt_of_lt_of_le (x.lt q) e) (Nat.lt_irrefl _)
theorem HOk.kept(x:HOk P w H h)(k:∀b u,h.get? b=some u->h'.get? b=some u):HOk P w H h':=fun a o e=>
 (x a o e).stay (fun b u _ q=>k b u q) (fun _ q=>q) fun _ _ q=>q
theorem HOk.laid(x:HOk P w H h)(k:∀b u,h.get? b=some u->h'.get? b=some u)(hp:h.objs.size<=a)(new:ObjOk P w (upd H a o) h' a o):HOk P w (upd H a o) h':=fun b u e=>by
 have hn:=x.fresh hp;by_cases hb:b=a
 ·subst hb;rw[ai]at e;cases e;exact new
 ·rw[ag hb]at e;exact (x b u e).stay (fun c v _ q=>k c v q) (fun c q=>by rw[ag (ay q hn)];exact q) fun c xs q=>by rw[ag (ay q hn)];exact q
end
noncomputable def Rd(H:Hp)(a:Addr)(u:HO):Prop:=H a=some u\/∃o,H a=some (.frz o u)
theorem Rd.ok{P:Program}{w:World}{H:Hp}{h:Heap}{a:Addr}{u:HO}(r:Rd H a u)(x:HOk P w H h):ObjOk P w H h a u:=by
 rcases r with r|⟨o,r⟩
 ·exact x a u r
 ·obtain⟨_,q⟩:=x a _ r;exact q
noncomputable def Mut:Option HO->Prop
 |some (.lst _)=>True
 |some (.dK _)=>True
 |some (.dT _)=>True
 |some (.set _ _)=>True
 |some (.ins _ _ _)=>True
 |some (.ext _)=>True
 |_=>False
section
variable {P:Program}{w:World}{h h':Heap}{x e:Addr}
theorem HOk.write(ok:HOk P w H h)(mu:Mut (H x))(he:e=x\/H e=some (.own x))(k:∀b u,b≠e->h.get? b=some u->h'.get? b=some u)(heo:∃u,h'.get? e=some u)
  (new:ObjOk P w (upd H x o') h' x o'):HOk P w (upd H x o') h':=fun b u q=>by
 have nown:∀c y,H c=some (.own y)->c≠x:=fun c y r z=>by subst z;rw[r]at mu;exact mu
 have uk:∀c xs,H c=some (.tup xs)->c≠x:=fun c xs r z=>by subst z;rw[r]at mu;exact mu
 by_cases hb:b=x
 ·subst hb;rw[ai]at q;cases q;exact new
 ·rw[ag hb]at q;by_cases hbe:b=e
  ·have q':H b=some (.own x):=by
    rcases he with z|z
    ·exact absurd (hbe.trans z) hb
    ·rw[hbe];exact z
   rw[q]at q';cases q';obtain⟨v,hv⟩:=heo;exact⟨v,by rw[hbe];exact hv⟩
  ·refine (ok b u q).stay (fun c v hc r=>k c v ?_ r) (fun c r=>by rw[ag (nown c b r)];exact r) fun c xs r=>by rw[ag (uk c xs r)];exact r
   rcases hc with rfl|hc
   ·exact hbe
   ·rintro rfl;rcases he with z|z
    ·exact nown c b hc z
    ·rw[hc]at z;cases z;exact hb rfl
end
structure Un (fs ex:List Addr)(H H':Hp)(h h':Heap):Prop where
 keep:∀b o,h.get? b=some o->H b=none->b∉fs->b∉ex->h'.get? b=some o
 slot:∀b o,h.get? b=some o->H b=none->b∈fs->b∉ex->∃sl,h'.get? b=some {o with slots:=sl}
 free:∀b o,h.get? b=some o->H b=none->b∉ex->H' b=none
 there:∀b o,h.get? b=some o->b∉ex->∃o',h'.get? b=some o'
 tups:∀b xs,H b=some (.tup xs)->H' b=some (.tup xs)
 frzs:∀b o u,H b=some (.frz o u)->H' b=some (.frz o u)
 tbls:∀b ps,H b=some (.tbl ps)->∃more,H' b=some (.tbl (ps++more))
section
variable {fs fs' ex ex':List Addr}{H H1 H2:Hp}{h h1 h2 h':Heap}{a x e:Addr}{o:HO}
theorem Un.any(u:Un fs ex H H1 h h1)(q:h.get? b=some ob)(n:H b=none)(hx:b∉ex):∃sl,h1.get? b=some {ob with slots:=sl}:=by
 by_cases hb:b∈fs
 ·exact u.slot b ob q n hb hx
 ·exact⟨ob.slots,u.keep b ob q n hb hx⟩
theorem Un.trans(a:Un fs ex H H1 h h1)(b:Un fs ex H1 H2 h1 h2):Un fs ex H H2 h h2 where
 keep:=fun c ob q n hc hx=>b.keep c ob (a.keep c ob q n hc hx) (a.free c ob q n hx) hc hx
 slot:=fun c ob q n hc hx=>by
  obtain⟨sl,e1⟩:=a.slot c ob q n hc hx;obtain⟨sl',e2⟩:=b.slot c _ e1 (a.free c ob q n hx) hc hx;exact⟨sl',e2⟩
 free:=fun c ob q n hx=>by
  obtain⟨o',e1⟩:=a.there c ob q hx;exact b.free c o' e1 (a.free c ob q n hx) hx
 there:=fun c ob q hx=>by
  obtain⟨o',e1⟩:=a.there c ob q hx;exact b.there c o' e1 hx
 tups:=fun c xs q=>b.tups c xs (a.tups c xs q)
 frzs:=fun c ob xs q=>b.frzs c ob xs (a.frzs c ob xs q)
 tbls:=fun c ps q=>by
  obtain⟨m1,e1⟩:=a.tbls c ps q;obtain⟨m2,e2⟩:=b.tbls c _ e1;exact⟨m1++m2,by rw[e2,Array.append_assoc]⟩
theorem Un.kept(k:∀b u,h.get? b=some u->h'.get? b=some u):Un fs ex H H h h':=
 ⟨fun b ob q _ _ _=>k b ob q,fun b ob q _ _ _=>⟨ob.slots,k b ob q⟩,fun _ _ _ n _=>n,fun b ob q _=>⟨ob,k b ob q⟩,fun _ _ q=>q,fun _ _ _ q=>q,fun _ ps q=>⟨#[],by rw[q];simp⟩⟩
theorem Un.refl:Un fs ex H H h h:=Un.kept fun _ _ q=>q
theorem Un.laid(k:∀b u,h.get? b=some u->h'.get? b=some u)(hp:h.objs.size<=a)(hn:H a=none):Un fs ex H (upd H a o) h h' where
 keep:=fun b u q _ _ _=>k b u q
 slot:=fun b u q _ _ _=>⟨u.slots,k b u q⟩
 free:=fun b u q n _=>by rw[ag (Nat.ne_of_lt (Nat.lt_of_lt_of_le (Heap.lt_size q) hp))];exact n
 there:=fun b u q _=>⟨u,k b u q⟩
 tups:=fun b xs q=>by rw[ag (ay q hn)];exact q
 frzs:=fun b u xs q=>by rw[ag (ay q hn)];exact q
 tbls:=fun b ps q=>⟨#[],by rw[ag (ay q hn),q];simp⟩
theorem Un.write(mu:Mut (H x))(he:e=x\/H e=some (.own x))(k:∀b u,b≠e->h.get? b=some u->h'.get? b=some u)(heo:∃u,h'.get? e=some u):Un fs ex H (upd H x o) h h':=by
 have hx:∀b,H b=none->b≠x:=fun b n z=>by subst z;rw[n]at mu;exact mu
 have hb:∀b,H b=none->b≠e:=fun b n z=>by
  subst z;rcases he with r|r
  ·exact hx b n r
  ·rw[n]at r;cases r
 have hm:∀b u,H b=some u->¬ Mut (some u)->b≠x:=fun b u q nm z=>by subst z;rw[q]at mu;exact nm mu
 refine⟨fun b u q n _ _=>k b u (hb b n) q,fun b u q n _ _=>⟨u.slots,k b u (hb b n) q⟩,fun b u q n _=>by rw[ag (hx b n)];exact n,fun b u q _=>?_,
  fun b xs q=>by rw[ag (hm b _ q fun z=>z)];exact q,fun b u xs q=>by rw[ag (hm b _ q fun z=>z)];exact q,fun b ps q=>⟨#[],by rw[ag (hm b _ q fun z=>z),q];simp⟩⟩
 by_cases hbe:b=e
 ·subst hbe;exact heo
 ·exact⟨u,k b u hbe q⟩
end
noncomputable def trk(h:Heap)(H:Hp):List Addr:=(List.range h.objs.size).filter fun a=>(H a).isSome
noncomputable def ll(h:Heap)(H:Hp):Heap:=PySem.W.hideAll h (trk h H)
theorem pC(h:Heap)(H:Hp):(ll h H).objs.size=h.objs.size:=PySem.W.hideAll_size _ _
theorem rF{h:Heap}(e:h.get? b=some o)(n:H b=none):(ll h H).get? b=some o:=
 PySem.W.hideAll_get _ e fun hm=>by
  have q:(H b).isSome=true:=(List.mem_filter.mp hm).2;rw[n]at q;simp at q
theorem uN{h:Heap}(e:(ll h H).get? b=some o):h.get? b=some o/\H b=none:=by
 have e':h.get? b=some o:=PySem.W.of_hideAll (trk h H) e;refine⟨e',?_⟩;cases q:H b with
 |none=>rfl
 |some x=>
  have hm:b∈trk h H:=List.mem_filter.mpr ⟨List.mem_range.mpr (Heap.lt_size e'),by simp[q]⟩
  have z:(ll h H).get? b=none:=PySem.W.hideAll_none (trk h H) hm;rw[z]at e;cases e
noncomputable def uI(g h:Heap)(L:Addr):List (Addr×Obj):=(List.range h.objs.size).filterMap fun a=>if a=L\/(g.get? a).isSome=true then none else (h.get? a).map fun o=>(a,o)
noncomputable def ax(g h:Heap)(L d:Addr):List (Addr×Obj):=(uI g h L).filter fun p=>decide (p.1≠d)
end L2
namespace L2
open PySem PySem.Spec PyProof.Rows
structure Mod (K:PySem.W.Frag)(mg:Str->Option Value)(base:Heap):Prop where
 kin:K.In base
 glob:base.Ns mainGlobals mg
 blt:∃mb,base.Ns builtinsNs mb/\∀x:Str,x≠"__name__"->mb x=bootBuiltins x
 nolimit:base.NoLimit
structure Cx where
 prog:Program
 w:World
 K:PySem.W.Frag
 mg:Str->Option Value
 base:Heap
 A:Around
 N:List Str
 s₀:Shared
 H₀:Hp
 env:Env
 outer:List Env
 stack:List Env
 ex:List Addr
 fn:Str->Bool
 calm:Bool
 pn:List (Addr×Obj)
 xe:Value->Shared->Prop
noncomputable def frs(l:List Env):List Addr:=l.filterMap (·.frame)
noncomputable abbrev Cx.fs(X:Cx):List Addr:=frs X.outer
noncomputable def Vis(sc:Scope)(x:Str):Prop:=sc.names.lookup x=some .local\/sc.names.lookup x=some .cell\/sc.names.lookup x=some .free
noncomputable def Loc(sc:Scope)(x:Str):Prop:=sc.names.lookup x=some .local\/sc.names.lookup x=some .cell
noncomputable def Dc(env:Env)(h:Heap)(m:Str->Option Value)(x:Str)(u:Value):Prop:=
 (env.kindOf x=some .local/\m x=some u)\/((env.kindOf x=some .cell\/env.kindOf x=some .free)/\∃c,env.cells.lookup x=some c/\h.IsCell c (some u))
structure Cx.Ok (X:Cx):Prop where
 mod:Mod X.K X.mg X.base
 kind:X.env.scope.kind=.function
 glob:X.env.globals=mainGlobals
 blt:X.env.builtins=builtinsNs
 above:X.s₀.heap.objs.size<=X.env.locals
 inj:∀x y c,X.env.cells.lookup x=some c->X.env.cells.lookup y=some c->x=y
 has:∀x,(X.env.kindOf x=some .cell\/X.env.kindOf x=some .free)->∃c,X.env.cells.lookup x=some c
 cab:∀x c,X.fn x=true->X.env.cells.lookup x=some c->X.s₀.heap.objs.size<=c
 hd:X.calm=true->X.A.handled=none
 frames:X.A.frames=some X.stack
 stk:X.stack=X.outer\/(X.stack=X.env::X.outer/\X.env.frame=some X.env.locals)
 exf:∀b∈X.ex,b≠X.env.locals/\∀x c,X.env.cells.lookup x=some c->c≠b
 bs:∀b o,X.base.get? b=some o->X.s₀.heap.get? b=some o/\X.H₀ b=none
 bsz:X.base.objs.size<=X.s₀.heap.objs.size
 noex:∀b o,X.base.get? b=some o->b∉X.ex
 exfs:∀b∈X.ex,b∉X.fs
 funs:X.s₀.heap.FunFrames X.base X.outer
 frf:∀b∈X.fs,X.H₀ b=none
structure Inv (X:Cx) (pins:List (Addr×Obj)) (σ:List (Option V)) (H:Hp)(s:Shared):Prop where
 ok:X.Ok
 os:s.os=X.s₀.os
 bare:AllBare s.gens
 base:Un X.fs X.ex X.H₀ H X.s₀.heap s.heap
 loc:∃m,s.heap.Ns X.env.locals m/\∀(i:Nat)(x:Str)(v:V),X.N[i]?=some x->σ[i]?=some (some v)->Vis X.env.scope x->∃u,RelV v u/\Dc X.env s.heap m x u
 cell:∀x c,X.env.cells.lookup x=some c->∃v,s.heap.IsCell c v
 free:H X.env.locals=none
 freeC:∀x c,X.env.cells.lookup x=some c->H c=none
 pin:∀p∈X.pn++pins,s.heap.get? p.1=some p.2/\H p.1=none/\p.1≠X.env.locals/\p.1∉X.fs/\∀v,p.2.data≠.cell v
 hok:HOk X.prog X.w H s.heap
 len:σ.length=X.N.length
section
variable {X:Cx}{σ:List (Option V)}{s:Shared}{h':Heap}
theorem Cx.Ok.nofr(ok:X.Ok)(e:X.base.get? b=some o):b∉X.fs:=fun hb=>by
 have:=(ok.funs.mem hb).1;rw[e]at this;cases this
theorem Inv.bs(I:Inv X pins σ H s):∀b o,X.base.get? b=some o->s.heap.get? b=some o/\H b=none:=fun b o e=>
 ⟨I.base.keep b o (I.ok.bs b o e).1 (I.ok.bs b o e).2 (I.ok.nofr e) (I.ok.noex b o e),I.base.free b o (I.ok.bs b o e).1 (I.ok.bs b o e).2 (I.ok.noex b o e)⟩
theorem Inv.bk(I:Inv X pins σ H s):∀b o,X.base.get? b=some o->s.heap.get? b=some o:=fun b o e=>(I.bs b o e).1
theorem Inv.mod(I:Inv X pins σ H s):Mod X.K X.mg X.base:=I.ok.mod
theorem Inv.kIn(I:Inv X pins σ H s):X.K.In s.heap:=I.ok.mod.kin.keeps I.bk
theorem Inv.nolimit(I:Inv X pins σ H s):s.heap.NoLimit:=I.ok.mod.nolimit.keeps I.bk
theorem Inv.lt(I:Inv X pins σ H s):X.env.locals < s.heap.objs.size:=let ⟨_,hn,_⟩:=I.loc;hn.lt
theorem Inv.sz(I:Inv X pins σ H s):X.s₀.heap.objs.size<=s.heap.objs.size:=Nat.le_trans I.ok.above (Nat.le_of_lt I.lt)
theorem Inv.nofs(I:Inv X pins σ H s)(h:s.heap.objs.size<=a):a∉X.fs:=fun hb=>by
 obtain⟨_,o,ho,_⟩:=I.ok.funs.mem hb;exact absurd (Nat.lt_of_lt_of_le (Heap.lt_size ho) (Nat.le_trans I.sz h)) (Nat.lt_irrefl _)
theorem Inv.cne(I:Inv X pins σ H s):∀x c,X.env.cells.lookup x=some c->c≠X.env.locals:=fun x c e z=>by
 obtain⟨v,o,ho,hd⟩:=I.cell x c e;obtain⟨m,⟨o',es,ep,ho',hd',_⟩,_⟩:=I.loc;rw[z,ho']at ho;cases ho;rw[hd']at hd;cases hd
theorem Inv.funs(I:Inv X pins σ H s):s.heap.FunFrames X.base X.outer:=by
 have all:∀(l:List Env),(∀b∈frs l,b∈X.fs)->X.s₀.heap.FunFrames X.base l->s.heap.FunFrames X.base l:=by
  intro l
  induction l with
  |nil=>intro _ _;trivial
  |cons env r ih=>
   intro hs hl;obtain⟨hk,⟨L,o,hf,hn,ho,hd⟩,hr⟩:=hl;have hL:L∈X.fs:=hs L (by unfold frs;rw[List.filterMap_cons,hf];exact List.mem_cons_self)
   obtain⟨sl,e⟩:=I.base.slot L o ho (I.ok.frf L hL) hL fun z=>I.ok.exfs L z hL
   exact⟨hk,⟨L,_,hf,hn,e,hd⟩,ih (fun b hb=>hs b (by unfold frs;rw[List.filterMap_cons,hf];exact List.mem_cons_of_mem _ hb)) hr⟩
 exact all X.outer (fun _ hb=>hb) I.ok.funs
theorem Inv.stack(I:Inv X pins σ H s):s.heap.FunFrames X.base X.stack:=by
 rcases I.ok.stk with e|⟨e,hf⟩
 ·rw[e];exact I.funs
 ·rw[e];obtain⟨m,hn,_⟩:=I.loc;refine .cons (by rw[I.ok.kind];decide) hf hn ?_ I.funs
  exact Heap.get?_none_of_le (Nat.le_trans I.ok.bsz I.ok.above)
theorem Inv.stkSub(I:Inv X pins σ H s):∀b∈frs X.stack,b∈X.env.locals::X.fs:=fun b hb=>by
 rcases I.ok.stk with e|⟨e,hf⟩
 ·rw[e]at hb;exact List.mem_cons_of_mem _ hb
 ·rw[e]at hb;unfold frs at hb;rw[List.filterMap_cons,hf]at hb;exact hb
theorem Inv.stkFree(I:Inv X pins σ H s):∀b∈frs X.stack,H b=none:=fun b hb=>by
 rcases List.mem_cons.mp (I.stkSub b hb) with e|hb
 ·rw[e];exact I.free
 ·obtain⟨_,o,ho,_⟩:=I.ok.funs.mem hb;exact I.base.free b o ho (I.ok.frf b hb) fun z=>I.ok.exfs b z hb
theorem Inv.step{g':Array GenState}{t':Nat}{d':Drawn}{ch:List Addr}(I:Inv X pins σ H s)
  (hch:∀b∈ch,(b∈X.ex\/X.s₀.heap.objs.size<=b)/\b≠X.env.locals/\(∀x c,X.env.cells.lookup x=some c->c≠b)/\∀p∈X.pn++pins,p.1≠b)
  (keep:∀b o,b≠X.env.locals->b∉X.fs->b∉ch->s.heap.get? b=some o->H b=none->h'.get? b=some o)
  (slot:∀b o,b≠X.env.locals->b∈X.fs->b∉ch->s.heap.get? b=some o->H b=none->∃sl,h'.get? b=some {o with slots:=sl}) (free:∀b o,b∉ch->s.heap.get? b=some o->H b=none->H' b=none)
  (there:∀b o,b∉ch->s.heap.get? b=some o->∃o',h'.get? b=some o')
  (tups:∀b xs,H b=some (.tup xs)->H' b=some (.tup xs)) (frzs:∀b o u,H b=some (.frz o u)->H' b=some (.frz o u)) (tbls:∀b ps,H b=some (.tbl ps)->∃more,H' b=some (.tbl (ps++more)))
  (ns:∀m,s.heap.Ns X.env.locals m->h'.Ns X.env.locals m)(hok:HOk X.prog X.w H' h')(hg:AllBare g') :
  Inv X pins σ H' {s with heap:=h',gens:=g',drawn:=d',toks:=t'}:=by
 have neL:∀b o,X.s₀.heap.get? b=some o->b≠X.env.locals:=fun b o e=>Nat.ne_of_lt (Nat.lt_of_lt_of_le (Heap.lt_size e) I.ok.above)
 have neC:∀b o,X.s₀.heap.get? b=some o->b∉X.ex->b∉ch:=fun b o e hx hb=>by
  rcases (hch b hb).1 with z|z
  ·exact hx z
  ·exact absurd (Nat.lt_of_lt_of_le (Heap.lt_size e) z) (Nat.lt_irrefl _)
 have cellK:∀x c,X.env.cells.lookup x=some c->∀v,s.heap.IsCell c v->h'.IsCell c v:=fun x c e v ⟨o,ho,hd⟩=>by
  have nch:c∉ch:=fun z=>(hch c z).2.2.1 x c e rfl
  by_cases hc:c∈X.fs
  ·obtain⟨sl,q⟩:=slot c o (I.cne x c e) hc nch ho (I.freeC x c e);exact⟨_,q,hd⟩
  ·exact⟨o,keep c o (I.cne x c e) hc nch ho (I.freeC x c e),hd⟩
 refine⟨I.ok,I.os,hg,⟨fun b o e n hb hx=>?_,fun b o e n hb hx=>?_,fun b o e n hx=>?_,fun b o e hx=>?_,fun b xs e=>tups b xs (I.base.tups b xs e),fun b o xs e=>frzs b o xs (I.base.frzs b o xs e),fun b ps e=>?_⟩,?_,fun x c e=>?_,?_,fun x c e=>?_,fun p hp=>?_,hok,I.len⟩
 ·exact keep b o (neL b o e) hb (neC b o e hx) (I.base.keep b o e n hb hx) (I.base.free b o e n hx)
 ·obtain⟨sl,e1⟩:=I.base.slot b o e n hb hx;obtain⟨sl',e2⟩:=slot b _ (neL b o e) hb (neC b o e hx) e1 (I.base.free b o e n hx);exact⟨sl',e2⟩
 ·obtain⟨o',e1⟩:=I.base.there b o e hx;exact free b o' (neC b o e hx) e1 (I.base.free b o e n hx)
 ·obtain⟨o',e1⟩:=I.base.there b o e hx;exact there b o' (neC b o e hx) e1
 ·obtain⟨m1,e1⟩:=I.base.tbls b ps e;obtain⟨m2,e2⟩:=tbls b _ e1;exact⟨m1++m2,by rw[e2,Array.append_assoc]⟩
 ·obtain⟨m,hn,hl⟩:=I.loc;refine⟨m,ns m hn,fun i x v e1 e2 e3=>?_⟩
  obtain⟨u,r,l⟩:=hl i x v e1 e2 e3;refine⟨u,r,?_⟩;rcases l with l|⟨k,c,e,z⟩
  ·exact .inl l
  ·exact .inr ⟨k,c,e,cellK x c e _ z⟩
 ·obtain⟨v,z⟩:=I.cell x c e;exact⟨v,cellK x c e v z⟩
 ·obtain⟨m,⟨o,_,_,ho,_⟩,_⟩:=I.loc;exact free _ o (fun z=>(hch _ z).2.1 rfl) ho I.free
 ·obtain⟨v,o,ho,hd⟩:=I.cell x c e;exact free c o (fun z=>(hch c z).2.2.1 x c e rfl) ho (I.freeC x c e)
 ·obtain⟨e,n,ne,nf,d⟩:=I.pin p hp;have nch:p.1∉ch:=fun z=>(hch p.1 z).2.2.2 p hp rfl
  exact⟨keep p.1 p.2 ne nf nch e n,free p.1 p.2 nch e n,ne,nf,d⟩
theorem Inv.un{t':Nat}(I:Inv X pins σ H s)(u:Un X.fs [] H H' s.heap h')(hok:HOk X.prog X.w H' h'):Inv X pins σ H' {s with heap:=h',toks:=t'}:=by
 obtain⟨m,⟨o,es,ep,ho,r⟩,_⟩:=id I.loc;obtain⟨sl,hL⟩:=u.any ho I.free (by simp)
 exact I.step (g':=s.gens) (d':=s.drawn) (ch:=[]) (fun _ z=>nomatch z) (fun b o _ hb _ e n=>u.keep b o e n hb (by simp)) (fun b o _ hb _ e n=>u.slot b o e n hb (by simp)) (fun b o _ e n=>u.free b o e n (by simp)) (fun b o _ e=>u.there b o e (by simp)) u.tups u.frzs u.tbls (fun m' hm=>by
  obtain⟨o',es',ep',ho',r'⟩:=hm;rw[ho]at ho';cases ho';exact⟨_,es',ep',hL,r'⟩) hok I.bare
theorem Inv.call{g':Array GenState}{t':Nat}{d':Drawn}{ch:List Addr}(I:Inv X pins σ H s)(u:Un (frs X.stack) ch H H' s.heap h')(hok:HOk X.prog X.w H' h')(hg:AllBare g')
  (hch:∀b∈ch,(b∈X.ex\/X.s₀.heap.objs.size<=b)/\b≠X.env.locals/\(∀x c,X.env.cells.lookup x=some c->c≠b)/\∀p∈X.pn++pins,p.1≠b) :
  Inv X pins σ H' {s with heap:=h',gens:=g',drawn:=d',toks:=t'}:=by
 obtain⟨m,⟨o,es,ep,ho,r⟩,_⟩:=id I.loc;obtain⟨sl,hL⟩:=u.any ho I.free fun z=>(hch _ z).2.1 rfl
 exact I.step (ch:=ch) hch (fun b o hL hb hc e n=>u.keep b o e n (fun z=>(List.mem_cons.mp (I.stkSub b z)).elim hL hb) hc) (fun b o _ _ hc e n=>u.any e n hc) (fun b o hc e n=>u.free b o e n hc) (fun b o hc e=>u.there b o e hc) u.tups u.frzs u.tbls (fun m' hm=>by
  obtain⟨o',es',ep',ho',r'⟩:=hm;rw[ho]at ho';cases ho';exact⟨_,es',ep',hL,r'⟩) hok hg
theorem Inv.turned{t':Nat}{it:Addr}(I:Inv X pins σ H s)(k:∀b o,b≠it->s.heap.get? b=some o->h'.get? b=some o)(hn:H it=none)(hL:it≠X.env.locals)
  (h1:it∈X.ex\/X.s₀.heap.objs.size<=it) (h2:∀x c,X.env.cells.lookup x=some c->c≠it) (h3:∀p∈X.pn++pins,p.1≠it):Inv X pins σ H {s with heap:=h',toks:=t'}:=by
 have nit:∀b u,H b=some u->b≠it:=fun b u e z=>by rw[z,hn]at e;cases e
 refine I.step (g':=s.gens) (d':=s.drawn) (ch:=[it]) (fun b hb=>?_) (fun b o _ _ hc e _=>k b o (fun z=>hc (by simp[z])) e) (fun b o _ _ hc e _=>⟨o.slots,k b o (fun z=>hc (by simp[z])) e⟩) (fun _ _ _ _ n=>n)
  (fun b o hc e=>⟨o,k b o (fun z=>hc (by simp[z])) e⟩) (fun _ _ e=>e) (fun _ _ _ e=>e) (fun b ps e=>⟨#[],by rw[e];simp⟩) (fun m hm=>?_) (fun b u e=>?_) I.bare
 ·have e:b=it:=by simpa using hb
  subst e;exact⟨h1,hL,h2,h3⟩
 ·obtain⟨o,es,ep,ho,r⟩:=hm;exact⟨o,es,ep,k _ o (Ne.symm hL) ho,r⟩
 ·refine (I.hok b u e).stay (fun c v hc q=>k c v ?_ q) (fun _ q=>q) fun _ _ q=>q
  rcases hc with z|z
  ·rw[z];exact nit b u e
  ·exact nit c _ z
theorem Inv.tok(I:Inv X pins σ H s)(t:Nat):Inv X pins σ H {s with toks:=t}:=I.un (h':=s.heap) (t':=t) Un.refl I.hok
theorem Inv.kept(I:Inv X pins σ H s)(k:∀b u,s.heap.get? b=some u->h'.get? b=some u):Inv X pins σ H {s with heap:=h',toks:=t'}:=I.un (Un.kept k) (I.hok.kept k)
theorem Inv.laid(I:Inv X pins σ H s)(k:∀b u,s.heap.get? b=some u->h'.get? b=some u)(hp:s.heap.objs.size<=a)(new:ObjOk X.prog X.w (upd H a o) h' a o) :
  Inv X pins σ (upd H a o) {s with heap:=h',toks:=t'}:=I.un (Un.laid k hp (I.hok.fresh hp)) (I.hok.laid k hp new)
theorem Inv.write(I:Inv X pins σ H s)(mu:Mut (H x))(he:e=x\/H e=some (.own x))(k:∀b u,b≠e->s.heap.get? b=some u->h'.get? b=some u)(heo:∃u,h'.get? e=some u)
  (new:ObjOk X.prog X.w (upd H x o) h' x o):Inv X pins σ (upd H x o) {s with heap:=h',toks:=t'}:=I.un (Un.write mu he k heo) (I.hok.write mu he k heo new)
theorem Inv.pins_of(I:Inv X pins σ H s)(h:∀p∈pins',s.heap.get? p.1=some p.2/\H p.1=none/\p.1≠X.env.locals/\p.1∉X.fs/\∀v,p.2.data≠.cell v):Inv X pins' σ H s:=
 ⟨I.ok,I.os,I.bare,I.base,I.loc,I.cell,I.free,I.freeC,fun p hp=>(List.mem_append.mp hp).elim (fun z=>I.pin p (List.mem_append_left _ z)) (h p),I.hok,I.len⟩
theorem hX{N:List Str}(hN:N.Nodup){i j:Nat}{x:Str}(a:N[i]?=some x)(b:N[j]?=some x):i=j:=by
 obtain⟨h1,e1⟩:=List.getElem?_eq_some_iff.mp a;obtain⟨h2,e2⟩:=List.getElem?_eq_some_iff.mp b;exact (List.getElem_inj hN).mp (e1.trans e2.symm)
theorem oZ{M:Model}{A:Around}{E:Value->Shared->Prop}{i:Nat}{x:Str}{v:V}{u:Value}{Q:Unit->Shared->Prop}(I:Inv X pins σ H s)(hN:X.N.Nodup)(hi:X.N[i]?=some x)(hx:Loc X.env.scope x)(r:RelV v u)
  (h:∀s',Inv X pins (σ.set i (some v)) H s'->(∃a,Heap.SameBut a s.heap s'.heap/\(a=X.env.locals\/X.env.cells.lookup x=some a))->Q () s') (hf:X.fn x=true\/X.env.scope.names.lookup x=some .local:=by first|exact .inl rfl|exact .inr rfl|assumption):wpAny M A (storeName X.env x u) Q E s:=by
 obtain⟨m,hn,hl⟩:=id I.loc;have hcls:(X.env.scope.kind == .class||(X.env.scope.kind == .module&&X.env.locals != X.env.globals))=false:=by rw[I.ok.kind];rfl
 have hiσ:i < σ.length:=by rw[I.len];exact (List.getElem?_eq_some_iff.mp hi).1
 have cne:=I.cne;have tracked:∀{a:Addr}{h':Heap},(∃o,s.heap.get? a=some o/\H a=none)->Heap.SameBut a s.heap h'->HOk X.prog X.w H h':=fun {a h'} ha hs b ob e=>by
  obtain⟨_,_,hfree⟩:=ha;refine (I.hok b ob e).stay (fun c w' hc q=>(hs.2 c ?_).trans q) (fun _ q=>q) fun _ _ q=>q
  rintro rfl;rcases hc with rfl|hc
  ·rw[hfree]at e;cases e
  ·rw[hfree]at hc;cases hc
 rcases hx with hk|hk
 ·refine wpAny_storeName_local hk hn (fun h' hn' hs=>?_) hcls
  obtain⟨oL,_,_,hoL,_⟩:=id hn;refine h _ ⟨I.ok,I.os,I.bare,⟨fun b o e n hb hx=>?_,fun b o e n hb hx=>?_,I.base.free,fun b o e hx=>?_,I.base.tups,I.base.frzs,I.base.tbls⟩,⟨_,hn',fun j y v' e1 e2 e3=>?_⟩,fun y c e=>?_,I.free,I.freeC,fun p hp=>?_,tracked ⟨oL,hoL,I.free⟩ hs,by simpa using I.len⟩ ⟨_,hs,.inl rfl⟩
  ·exact (hs.2 b (Nat.ne_of_lt (Nat.lt_of_lt_of_le (Heap.lt_size e) I.ok.above))).trans (I.base.keep b o e n hb hx)
  ·obtain⟨sl,e1⟩:=I.base.slot b o e n hb hx;exact⟨sl,(hs.2 b (Nat.ne_of_lt (Nat.lt_of_lt_of_le (Heap.lt_size e) I.ok.above))).trans e1⟩
  ·obtain⟨o',e1⟩:=I.base.there b o e hx;exact⟨o',(hs.2 b (Nat.ne_of_lt (Nat.lt_of_lt_of_le (Heap.lt_size e) I.ok.above))).trans e1⟩
  ·by_cases hj:j=i
   ·subst hj;rw[hi]at e1;cases e1;rw[List.getElem?_set_self hiσ]at e2;cases e2;exact⟨u,r,.inl ⟨hk,by simp⟩⟩
   ·rw[List.getElem?_set_ne (Ne.symm hj)]at e2;obtain⟨u',r',q⟩:=hl j y v' e1 e2 e3;refine⟨u',r',?_⟩;rcases q with ⟨k,e⟩|⟨k,c,e,z⟩
    ·refine .inl ⟨k,?_⟩;have:y≠x:=fun e=>hj (hX hN e1 (e▸hi))
     simp[this,e]
    ·exact .inr ⟨k,c,e,z.sameBut hs (cne y c e)⟩
  ·obtain⟨w',z⟩:=I.cell y c e;exact⟨w',z.sameBut hs (cne y c e)⟩
  ·obtain⟨e,n,ne,nf,d⟩:=I.pin p hp;exact⟨(hs.2 p.1 ne).trans e,n,ne,nf,d⟩
 ·have hfn:X.fn x=true:=by
   rcases hf with z|z
   ·exact z
   ·rw[z]at hk;cases hk
  obtain⟨c,hc⟩:=I.ok.has x (.inl hk);obtain⟨w',z⟩:=I.cell x c hc;refine wpAny_storeName_cell I.ok.kind hk hc z (fun h' hc' hs=>?_)
  obtain⟨oc,hoc,hocd⟩:=id z;refine h {s with heap:=h'} ⟨I.ok,I.os,I.bare,⟨fun b o e n hb hx=>?_,fun b o e n hb hx=>?_,I.base.free,fun b o e hx=>?_,I.base.tups,I.base.frzs,I.base.tbls⟩,⟨m,hn.sameBut hs (Ne.symm (cne x c hc)),fun j y v' e1 e2 e3=>?_⟩,fun y c' e=>?_,I.free,I.freeC,fun p hp=>?_,tracked ⟨oc,hoc,I.freeC x c hc⟩ hs,by simpa using I.len⟩ ⟨c,hs,.inr hc⟩
  ·exact (hs.2 b (Nat.ne_of_lt (Nat.lt_of_lt_of_le (Heap.lt_size e) (I.ok.cab x c hfn hc)))).trans (I.base.keep b o e n hb hx)
  ·obtain⟨sl,e1⟩:=I.base.slot b o e n hb hx;exact⟨sl,(hs.2 b (Nat.ne_of_lt (Nat.lt_of_lt_of_le (Heap.lt_size e) (I.ok.cab x c hfn hc)))).trans e1⟩
  ·obtain⟨o',e1⟩:=I.base.there b o e hx;exact⟨o',(hs.2 b (Nat.ne_of_lt (Nat.lt_of_lt_of_le (Heap.lt_size e) (I.ok.cab x c hfn hc)))).trans e1⟩
  ·by_cases hj:j=i
   ·subst hj;rw[hi]at e1;cases e1;rw[List.getElem?_set_self hiσ]at e2;cases e2;exact⟨u,r,.inr ⟨.inl hk,c,hc,hc'⟩⟩
   ·rw[List.getElem?_set_ne (Ne.symm hj)]at e2;obtain⟨u',r',q⟩:=hl j y v' e1 e2 e3;refine⟨u',r',?_⟩;rcases q with q|⟨k,c',e,z'⟩
    ·exact .inl q
    ·refine .inr ⟨k,c',e,z'.sameBut hs ?_⟩;rintro rfl;exact hj (hX hN e1 (I.ok.inj _ _ _ e hc▸hi))
  ·by_cases hcc:c'=c
   ·subst hcc;exact⟨_,hc'⟩
   ·obtain⟨w2,z2⟩:=I.cell y c' e;exact⟨w2,z2.sameBut hs hcc⟩
  ·obtain⟨e,n,ne,nf,d⟩:=I.pin p hp;refine⟨(hs.2 p.1 ?_).trans e,n,ne,nf,d⟩;intro q;rw[q,hoc]at e;have q':oc=p.2:=Option.some.inj e;exact d w' (by rw[<-q'];exact hocd)
theorem hZ(I:Inv X pins σ H s)(hN:X.N.Nodup)(hi:X.N[i]?=some x)(hx:Loc X.env.scope x)(r:RelV v u)
  (h:∀s',Inv X pins (σ.set i (some v)) H s'->Q () s') (hf:X.fn x=true\/X.env.scope.names.lookup x=some .local:=by first|exact .inl rfl|exact .inr rfl|assumption):wpAny M A (storeName X.env x u) Q E s:=
 oZ I hN hi hx r (fun s' I' _=>h s' I') hf
theorem Inv.call'{s':Shared}(I:Inv X pins σ H s)(ho:s'.os=s.os)(u:Un (frs X.stack) ch H H' s.heap s'.heap)(hok:HOk X.prog X.w H' s'.heap)(hg:AllBare s'.gens)
  (hch:∀b∈ch,(b∈X.ex\/X.s₀.heap.objs.size<=b)/\b≠X.env.locals/\(∀x c,X.env.cells.lookup x=some c->c≠b)/\∀p∈X.pn++pins,p.1≠b):Inv X pins σ H' s':=by
 obtain⟨h',g',d',t',o'⟩:=s';have e:o'=s.os:=ho;subst e;exact I.call (g':=g') (t':=t') (d':=d') u hok hg hch
end
noncomputable abbrev XK:=Value->Option Addr->Hp->Prop
noncomputable abbrev St:=List (Option V)
noncomputable abbrev VK:=V->Hp->Prop
noncomputable abbrev TE:=St->Hp->VK->Prop
noncomputable abbrev TT:=St->Hp->(Bool->Hp->Prop)->Prop
noncomputable abbrev TA:=St->Hp->(List V->Hp->Prop)->Prop
structure Ends where
 nx:St->Hp->Prop
 rt:VK
 bk:St->Hp->Prop:=fun _ _=>False
 ct:St->Hp->Prop:=fun _ _=>False
noncomputable abbrev TS:=Ends->St->Hp->Prop
noncomputable def EP(X:Cx)(pins:List (Addr×Obj))(σ:St)(Q:VK)(u:Value)(s':Shared):Prop:=∃v H',Inv X pins σ H' s'/\RelV v u/\Q v H'
noncomputable def TP(X:Cx)(pins:List (Addr×Obj))(σ:St)(Q:Bool->Hp->Prop)(b:Bool)(s':Shared):Prop:=∃H',Inv X pins σ H' s'/\Q b H'
noncomputable def AP(X:Cx)(pins:List (Addr×Obj))(σ:St)(Q:List V->Hp->Prop)(us:List Value)(s':Shared):Prop:=∃vs H',Inv X pins σ H' s'/\Vals vs us/\Q vs H'
noncomputable def SP(X:Cx)(pins:List (Addr×Obj))(D:Ends)(f:Flow)(s':Shared):Prop:=
 match f with
 |.next=>∃σ' H',Inv X pins σ' H' s'/\D.nx σ' H'
 |.brk=>∃σ' H',Inv X pins σ' H' s'/\D.bk σ' H'
 |.cont=>∃σ' H',Inv X pins σ' H' s'/\D.ct σ' H'
 |.ret u=>∃v σ' H',Inv X pins σ' H' s'/\RelV v u/\D.rt v H'
noncomputable def PE(X:Cx)(e:Expr)(t:TE):Prop:=
 ∀(pins:List (Addr×Obj)) (s:Shared)(σ:St)(H:Hp)(Q:VK),Inv X pins σ H s->t σ H Q->wpAny (model X.prog X.w) X.A (eval e X.env) (EP X pins σ Q) X.xe s
noncomputable def PT(X:Cx)(e:Expr)(t:TT):Prop:=
 ∀(pins:List (Addr×Obj)) (s:Shared)(σ:St)(H:Hp)(Q:Bool->Hp->Prop),Inv X pins σ H s->t σ H Q->wpAny (model X.prog X.w) X.A (isTrue e X.env (eval e X.env)) (TP X pins σ Q) X.xe s
noncomputable def PW(X:Cx)(e:Expr)(t:TT):Prop:=
 ∀(whole:Sem Value) (pins:List (Addr×Obj)) (s:Shared)(σ:St)(H:Hp)(Q:Bool->Hp->Prop),Inv X pins σ H s->t σ H Q->wpAny (model X.prog X.w) X.A (isTrue e X.env whole) (TP X pins σ Q) X.xe s
theorem PW.pt(h:PW X e t):PT X e t:=h _
noncomputable def PA(X:Cx)(es:List Expr)(t:TA):Prop:=
 ∀(pos:Pos) (pins:List (Addr×Obj)) (s:Shared)(σ:St)(H:Hp)(Q:List V->Hp->Prop),Inv X pins σ H s->t σ H Q->wpAny (model X.prog X.w) X.A (spliced (backTo pos (starEach es X.env))) (AP X pins σ Q) X.xe s
noncomputable def PS(X:Cx)(st:Stmt)(t:TS):Prop:=
 ∀(pins:List (Addr×Obj)) (s:Shared)(σ:St)(H:Hp)(D:Ends),Inv X pins σ H s->t D σ H->wpAny (model X.prog X.w) X.A (exec st X.env) (SP X pins D) X.xe s
noncomputable def PSs(X:Cx)(st:List Stmt)(t:TS):Prop:=
 ∀(pins:List (Addr×Obj)) (s:Shared)(σ:St)(H:Hp)(D:Ends),Inv X pins σ H s->t D σ H->wpAny (model X.prog X.w) X.A (execs st X.env) (SP X pins D) X.xe s
theorem thn{α:Type}{t:Sem α}{Q Q':α->Shared->Prop}{M:Model}{A:Around}{E:Value->Shared->Prop}{s:Shared}(h:wpAny M A t Q E s)(hQ:∀a s,Q a s->Q' a s):wpAny M A t Q' E s:=wpAny_mono h hQ fun _ _ x=>x
end L2
namespace L2
open PySem PySem.Spec PyProof.Rows
section
variable {X:Cx}
theorem bin{a b:Expr}{ta tb:TE}(ha:PE X a ta)(hb:PE X b tb){pins:List (Addr×Obj)}{s:Shared}{σ:St}{H:Hp}{R:V->V->Hp->Prop}(I:Inv X pins σ H s)(h:ta σ H fun x H1=>tb σ H1 fun y H2=>R x y H2)
  {α:Type}{Q:α->Shared->Prop}{f:Value->Value->Sem α}
  (hf:∀v u s2 x y H2,Inv X pins σ H2 s2->RelV x v->RelV y u->R x y H2->wpAny (model X.prog X.w) X.A (f v u) Q X.xe s2) :
  wpAny (model X.prog X.w) X.A (eval a X.env) (fun v s₁=>wpAny (model X.prog X.w) X.A (eval b X.env) (fun u s₂=>wpAny (model X.prog X.w) X.A (f v u) Q X.xe s₂) X.xe s₁) X.xe s:=by
 refine thn (ha pins s σ H _ I h) fun v s1 ⟨x,H1,I1,r1,q1⟩=>?_
 refine thn (hb pins s1 σ H1 _ I1 q1) fun u s2 ⟨y,H2,I2,r2,q2⟩=>?_
 exact hf v u s2 x y H2 I2 r1 r2 q2
noncomputable def FK(i:Nat):TE:=fun σ H Q=>∃v,σ[i]?=some (some v)/\Q v H
noncomputable def tC(v:V):TE:=fun _ H Q=>Q v H
theorem zG(hN:X.N[i]?=some x)(hv:Vis X.env.scope x)(hd:(x == ("__debug__" : Str))=false:=by decide)(hcd:(x == ("__classdict__" : Str))=false:=by decide):PE X (.Name x pos) (FK i):=by
 intro pins s σ H Q I h;obtain⟨v,e,h⟩:=h;obtain⟨m,hn,hl⟩:=I.loc;obtain⟨u,r,l⟩:=hl i x v hN e hv;have fin:EP X pins σ Q u s:=⟨v,H,I,r,h⟩;rcases l with ⟨hk,hm⟩|⟨hk,c,hc,hcell⟩
 ·exact wpAny_Name (wpAny_loadName_local I.ok.kind hk hn hm fin) hd
 ·rcases hk with hk|hk
  ·exact wpAny_Name (wpAny_loadName_cell I.ok.kind hk hc hcell fin) hd
  ·exact wpAny_Name (wpAny_loadName_free I.ok.kind hk hc hcell fin hcd) hd
theorem wS{i j pos}:PE X (.Constant (.int i) j pos) (tC (.int i)):=fun _ _ _ H _ I h=>wpAny_Constant_int ⟨.int i,H,I.tok _,⟨_,rfl⟩,h⟩
theorem Dt{b j pos}:PE X (.Constant (.bool b) j pos) (tC (.bl b)):=fun _ _ _ H _ I h=>Constant_bool ⟨.bl b,H,I,rfl,h⟩
theorem zA{j pos}:PE X (.Constant .none j pos) (tC .non):=fun _ _ _ H _ I h=>Constant_none ⟨.non,H,I,rfl,h⟩
theorem Ap{x j pos}:PE X (.Constant (.str x) j pos) (tC (.str x)):=fun _ _ _ H _ I h=>Calls.Constant_str ⟨.str x,H,I.tok _,⟨_,rfl⟩,h⟩
noncomputable def Gl(X:Cx)(x:Str):Prop:=X.env.kindOf x=some .globalImplicit
theorem bZ(I:Inv X pins σ H s)(hg:Gl X x)(hm:X.mg x=some u)(h:Q u s)
  (hd:(x == ("__debug__" : Str))=false:=by decide):wpAny (model X.prog X.w) X.A (eval (.Name x pos) X.env) Q E s:=
 Calls.Name_function_global I.ok.kind hg (Calls.loadGlobal_global (by rw[I.ok.glob];exact I.mod.glob.keeps I.bk) hm h) hd
theorem gw(I:Inv X pins σ H s)(hg:Gl X x)(hm:X.mg x=none)(hv:bootBuiltins x=some u)(h:Q u s)
  (hn:x≠"__name__":=by decide) (hd:(x == ("__debug__" : Str))=false:=by decide):wpAny (model X.prog X.w) X.A (eval (.Name x pos) X.env) Q E s:=by
 obtain⟨mb,h1,h2⟩:=I.mod.blt;exact Calls.Name_function_global I.ok.kind hg (Calls.loadGlobal_builtin (by rw[I.ok.glob];exact I.mod.glob.keeps I.bk) hm (by rw[I.ok.blt];exact h1.keeps I.bk) ((h2 x hn).trans hv) h) hd
theorem oq(hg:Gl X x)(hm:X.mg x=some u)(r:RelV v u)(hd:(x == ("__debug__" : Str))=false:=by decide):PE X (.Name x pos) (tC v):=
 fun _ _ _ H _ I h=>bZ I hg hm ⟨v,H,I,r,h⟩ hd
theorem ur(hg:Gl X x)(hm:X.mg x=none)(hv:bootBuiltins x=some u)(r:RelV v u)(hn:x≠"__name__":=by decide)(hd:(x == ("__debug__" : Str))=false:=by decide):PE X (.Name x pos) (tC v):=
 fun _ _ _ H _ I h=>gw I hg hm hv ⟨v,H,I,r,h⟩ hn hd
variable {a b:Expr}{ta tb:TE}{pos:Pos}
noncomputable def tB(t:TE):TT:=fun σ H Q=>t σ H fun x H1=>∃c,x=.bl c/\Q c H1
theorem xm{e:Expr}(h:PE X e t)(he:∀whole,isTrue e X.env whole=(do let v<-whole;standAt e.pos;holding [v] (truthy v)):=by intro _;rfl):PT X e (tB t):=by
 intro pins s σ H Q I hw;refine isTrue_plain (thn (h pins s σ H _ I hw) fun v s1 ⟨x,H1,I1,r1,q1⟩=>?_) (he _)
 obtain⟨d,rfl,q⟩:=q1;cases r1;exact wpAny_truthy_bool ⟨H1,I1,q⟩
variable {tA tB':TT}{ax:List Expr}
noncomputable def Fq(t u:TT):TT:=fun σ H Q=>t σ H fun c H1=>if c=true then u σ H1 Q else Q false H1
noncomputable def tOr(t u:TT):TT:=fun σ H Q=>t σ H fun c H1=>if c=true then Q true H1 else u σ H1 Q
noncomputable def Fj(t:TT):TT:=fun σ H Q=>t σ H fun c H1=>Q (!c) H1
theorem tV(ha:PT X a tA):PW X (.BoolOp .And [a] pos) tA:=by
 intro wh pins s σ H Q I h;refine isTrue_and (thn (ha pins s σ H Q I h) fun c s1 e=>?_)
 cases c with
 |true=>exact isTrue_and_nil e
 |false=>exact e
theorem v6(ha:PT X a tA):PW X (.BoolOp .Or [a] pos) tA:=by
 intro wh pins s σ H Q I h;refine isTrue_or (thn (ha pins s σ H Q I h) fun c s1 e=>?_)
 cases c with
 |false=>exact isTrue_or_nil e
 |true=>exact e
theorem yT(ha:PT X a tA)(hb:PW X (.BoolOp .And (b::ax) pos) tB'):PW X (.BoolOp .And (a::b::ax) pos) (Fq tA tB'):=by
 intro wh pins s σ H Q I h;refine isTrue_and (thn (ha pins s σ H _ I h) fun c s1 ⟨H1,I1,q1⟩=>?_)
 cases c with
 |true=>exact hb wh pins s1 σ H1 Q I1 q1
 |false=>exact⟨H1,I1,q1⟩
theorem CZ(ha:PT X a tA)(hb:PW X (.BoolOp .Or (b::ax) pos) tB'):PW X (.BoolOp .Or (a::b::ax) pos) (tOr tA tB'):=by
 intro wh pins s σ H Q I h;refine isTrue_or (thn (ha pins s σ H _ I h) fun c s1 ⟨H1,I1,q1⟩=>?_)
 cases c with
 |true=>exact⟨H1,I1,q1⟩
 |false=>exact hb wh pins s1 σ H1 Q I1 q1
theorem vy(ha:PT X a tA):PT X (.UnaryOp .Not a pos) (Fj tA):=by
 intro pins s σ H Q I h;exact isTrue_not (ha pins s σ H (fun c H1=>Q (!c) H1) I h)
noncomputable def B8(ta tb:TE):TE:=fun σ H Q=>ta σ H fun x H1=>∃c,x=.bl c/\if c=true then tb σ H1 Q else Q (.bl false) H1
noncomputable def FG(ta tb:TE):TE:=fun σ H Q=>ta σ H fun x H1=>∃c,x=.bl c/\if c=true then Q (.bl true) H1 else tb σ H1 Q
noncomputable def DC(ta:TE):TE:=fun σ H Q=>ta σ H fun x H1=>∃c,x=.bl c/\Q (.bl (!c)) H1
theorem zq{op}(h:PE X a t):PE X (.BoolOp op [a] pos) t:=fun pins s σ H Q I hw=>BoolOp_one (h pins s σ H Q I hw)
theorem wq(ha:PE X a ta)(hb:PE X (.BoolOp .And (b::ax) pos) tb):PE X (.BoolOp .And (a::b::ax) pos) (B8 ta tb):=by
 intro pins s σ H Q I h;refine BoolOp_and (thn (ha pins s σ H _ I h) fun v s1 ⟨x,H1,I1,r1,q1⟩=>?_)
 obtain⟨c,rfl,q1⟩:=q1;cases r1;refine wpAny_truthy_bool ?_;cases c with
 |true=>exact hb pins s1 σ H1 Q I1 q1
 |false=>exact⟨.bl false,H1,I1,rfl,q1⟩
theorem BF(ha:PE X a ta)(hb:PE X (.BoolOp .Or (b::ax) pos) tb):PE X (.BoolOp .Or (a::b::ax) pos) (FG ta tb):=by
 intro pins s σ H Q I h;refine BoolOp_or (thn (ha pins s σ H _ I h) fun v s1 ⟨x,H1,I1,r1,q1⟩=>?_)
 obtain⟨c,rfl,q1⟩:=q1;cases r1;refine wpAny_truthy_bool ?_;cases c with
 |false=>exact hb pins s1 σ H1 Q I1 q1
 |true=>exact⟨.bl true,H1,I1,rfl,q1⟩
theorem wM(ha:PE X a ta):PE X (.UnaryOp .Not a pos) (DC ta):=by
 intro pins s σ H Q I h;refine UnaryOp_ (thn (ha pins s σ H _ I h) fun v s1 ⟨x,H1,I1,r1,q1⟩=>?_)
 obtain⟨c,rfl,q1⟩:=q1;cases r1;exact not_of (wpAny_truthy_bool ⟨.bl (!c),H1,I1,rfl,q1⟩)
end
end L2
namespace L2
open PySem PySem.Spec PyProof.Rows
noncomputable def SqL(K:PySem.W.Frag)(H:Hp)(a:Addr)(xs:List V):Prop:=
 Rd H a (.lst xs)\/
  ∃(o:Obj) (its:Array Value) (n:Nat),K.lookup a=some o/\o.cls=.type "list"/\o.dict=none/\o.data=.seq its n/\its.size<=sizeLine/\Vals xs its.toList
noncomputable def SqT(K:PySem.W.Frag)(H:Hp)(a:Addr)(xs:List V):Prop:=
 Rd H a (.tup xs)\/
  ∃(o:Obj) (its:Array Value) (n:Nat),K.lookup a=some o/\o.cls=.type "tuple"/\o.data=.seq its n/\its.size<=sizeLine/\Vals xs its.toList
noncomputable def EI:Value->Option V
 |.none=>some .non
 |.bool b=>some (.bl b)
 |.int i _=>some (.int i)
 |.str x _=>some (.str x)
 |.bytes b _=>some (.byt b)
 |.float b _=>some (.flt b)
 |.ref a=>some (.ref a)
 |.type n=>some (.ty n)
 |_=>none
theorem RelV.abs(r:RelV x u):EI u=some x:=by
 cases x with
 |non=>cases r;rfl
 |bl _=>cases r;rfl
 |int _=>obtain⟨t,rfl⟩:=r;rfl
 |str _=>obtain⟨t,rfl⟩:=r;rfl
 |byt _=>obtain⟨t,rfl⟩:=r;rfl
 |flt _=>obtain⟨t,rfl⟩:=r;rfl
 |ref _=>cases r;rfl
 |ty _=>cases r;rfl
theorem RelV.inj(r:RelV x u)(q:RelV y u):x=y:=Option.some.inj (r.abs.symm.trans q.abs)
theorem Vals.inj:∀{xs ys:List V}{us:List Value},Vals xs us->Vals ys us->xs=ys
 |_,_,_,.nil,.nil=>rfl
 |_,_,_,.cons r t,.cons r' t'=>by rw[r.inj r',Vals.inj t t']
section
variable {X:Cx}{s:Shared}{a:Addr}{xs ys:List V}
theorem SqL.of{K:PySem.W.Frag}(h:H a=some (.lst xs)):SqL K H a xs:=.inl (.inl h)
theorem SqT.of{K:PySem.W.Frag}(h:H a=some (.tup xs)):SqT K H a xs:=.inl (.inl h)
theorem Inv.list(I:Inv X pins σ H s)(h:SqL X.K H a xs):∃its:List Value,Vals xs its/\PlainL s.heap a its.toArray/\xs.length<=sizeLine:=by
 rcases h with h|⟨o,its,n,hk,hc,hd,hs,hz,r⟩
 ·obtain⟨z,its,n,r,e⟩:=h.ok I.hok;exact⟨its,r,⟨_,n,e,rfl,rfl,rfl⟩,z⟩
 ·refine⟨its.toList,r,⟨o,n,I.kIn a o hk,hc,hd,by simpa using hs⟩,?_⟩
  have e:=r.length;simp only[Array.length_toList]at e;omega
theorem Inv.tuple(I:Inv X pins σ H s)(h:SqT X.K H a xs):∃its:List Value,Vals xs its/\IsTup s.heap a its.toArray/\xs.length<=sizeLine:=by
 rcases h with h|⟨o,its,n,hk,hc,hs,hz,r⟩
 ·obtain⟨z,its,r,p⟩:=h.ok I.hok;exact⟨its,r,p,z⟩
 ·refine⟨its.toList,r,⟨o,I.kIn a o hk,hc,n,by simpa using hs⟩,?_⟩
  have e:=r.length;simp only[Array.length_toList]at e;omega
theorem Inv.list_inj(I:Inv X pins σ H s)(h:SqL X.K H a xs)(h':SqL X.K H a ys):xs=ys:=by
 obtain⟨its,r,⟨o,n,e,_,_,d⟩,_⟩:=I.list h;obtain⟨its',r',⟨o',n',e',_,_,d'⟩,_⟩:=I.list h';rw[e]at e';cases e';rw[d]at d';injection d' with d1 _
 have:its=its':=by simpa using congrArg Array.toList d1
 subst this;exact r.inj r'
theorem Inv.tuple_inj(I:Inv X pins σ H s)(h:SqT X.K H a xs)(h':SqT X.K H a ys):xs=ys:=by
 obtain⟨its,r,⟨o,e,_,n,d⟩,_⟩:=I.tuple h;obtain⟨its',r',⟨o',e',_,n',d'⟩,_⟩:=I.tuple h';rw[e]at e';cases e';rw[d]at d';injection d' with d1 _
 have:its=its':=by simpa using congrArg Array.toList d1
 subst this;exact r.inj r'
end
section
variable {X:Cx}{s:Shared}
end
section
variable {X:Cx}{st:Stmt}{ax:List Stmt}{t u:TS}{e:Expr}{te:TE}{pos:Pos}
noncomputable def tNext:TS:=fun D σ H=>D.nx σ H
noncomputable def EN(t u:TS):TS:=fun D σ H=>t {D with nx:=u D} σ H
theorem pss_nil:PSs X [] tNext:=fun _ _ σ H _ I h=>wpAny_execs_nil ⟨σ,H,I,h⟩
theorem rW(h1:PS X st t)(h2:PSs X ax u):PSs X (st::ax) (EN t u):=by
 intro pins s σ H D I h;refine wpAny_execs_cons (thn (h1 pins s σ H {D with nx:=u D} I h) fun f s1 q=>?_)
 cases f with
 |next=>
  obtain⟨σ',H',I',q⟩:=q;exact h2 pins s1 σ' H' D I' q
 |ret v=>exact q
 |brk=>exact q
 |cont=>exact q
theorem Inv.quiet(I:Inv X pins σ H s):interactive X.env=false:=by simp[interactive,I.ok.kind]
noncomputable def Dm(te:TE):TS:=fun D σ H=>te σ H fun _ H1=>D.nx σ H1
theorem nR(he:PE X e te)(hs:swapsWith e none pos.line X.env=pure false:=by rfl):PS X (.Expr e pos) (Dm te):=by
 intro pins s σ H D I h;exact wpAny_Expr_any (thn (he pins s σ H _ I h) fun v s1 ⟨x,H1,I1,r1,q1⟩=>⟨σ,H1,I1,q1⟩) I.quiet hs
noncomputable def Ev(te:TE):TS:=fun D σ H=>te σ H D.rt
theorem yw(he:PE X e te):PS X (.Return (some e) pos) (Ev te):=by
 intro pins s σ H D I h;exact wpAny_Return_some (thn (he pins s σ H _ I h) fun v s1 ⟨x,H1,I1,r1,q1⟩=>⟨x,σ,H1,I1,r1,q1⟩)
noncomputable def EY(c:TT)(t u:TS):TS:=fun D σ H=>c σ H fun b H1=>if b=true then t D σ H1 else u D σ H1
theorem CL(hc:PT X c tc)(ha:PSs X a t)(hb:PSs X b u):PS X (.If c a b pos) (EY tc t u):=by
 intro pins s σ H D I h;refine wpAny_If (thn (hc pins s σ H _ I h) fun d s1 ⟨H1,I1,q1⟩=>?_)
 cases d with
 |true=>exact ha pins s1 σ H1 D I1 q1
 |false=>exact hb pins s1 σ H1 D I1 q1
end
noncomputable abbrev TG:=V->St->Hp->(St->Hp->Prop)->Prop
noncomputable abbrev TGs:=List V->St->Hp->(St->Hp->Prop)->Prop
noncomputable def PG(X:Cx)(target:Expr)(t:TG):Prop:=
 ∀(pins:List (Addr×Obj)) (s:Shared)(σ:St)(H:Hp)(v:V)(u:Value)(Q:St->Hp->Prop),Inv X pins σ H s->RelV v u->t v σ H Q->
  wpAny (model X.prog X.w) X.A (assign target X.env u) (fun _ s'=>∃σ' H',Inv X pins σ' H' s'/\Q σ' H') X.xe s
noncomputable def PGs(X:Cx)(ts:List Expr)(t:TGs):Prop:=
 ∀(pins:List (Addr×Obj)) (s:Shared)(σ:St)(H:Hp)(vs:List V)(us:List Value)(Q:St->Hp->Prop),Inv X pins σ H s->Vals vs us->t vs σ H Q->
  wpAny (model X.prog X.w) X.A (assignInOrder ((assignEach ts X.env).map (·.2)) us) (fun _ s'=>∃σ' H',Inv X pins σ' H' s'/\Q σ' H') X.xe s
noncomputable abbrev TSet:=V->V->V->Hp->(Hp->Prop)->Prop
noncomputable def yz(X:Cx)(t:TSet):Prop:=
 ∀(pins:List (Addr×Obj)) (s:Shared)(σ:St)(H:Hp)(o i v:V)(ov iv u:Value)(Q:Hp->Prop),Inv X pins σ H s->RelV o ov->RelV i iv->RelV v u->t o i v H Q->
  wpAny (model X.prog X.w) X.A (setItem ov iv u) (fun _ s'=>∃H',Inv X pins σ H' s'/\Q H') X.xe s
section
variable {X:Cx}{pos:Pos}
noncomputable def ot(i:Nat):TG:=fun v σ H Q=>Q (σ.set i (some v)) H
theorem g9(hN:X.N.Nodup)(hi:X.N[i]?=some x)(hx:Loc X.env.scope x)(hf:X.fn x=true\/X.env.scope.names.lookup x=some .local:=by first|exact .inl rfl|exact .inr rfl|assumption):PG X (.Name x pos) (ot i):=by
 intro pins s σ H v u Q I r h;exact wpAny_assign_Name (hZ I hN hi hx r (fun s' I'=>⟨_,H,I',h⟩) hf)
noncomputable def gNil:TGs:=fun vs σ H Q=>vs=[]/\Q σ H
noncomputable def BN(t:TG)(u:TGs):TGs:=fun vs σ H Q=>∃v r,vs=v::r/\t v σ H fun σ' H'=>u r σ' H' Q
theorem sU:PGs X [] gNil:=by
 intro pins s σ H vs us Q I r h;obtain⟨e,h⟩:=h;subst e;cases r;exact assignInOrder_nil ⟨σ,H,I,h⟩
theorem qm(h1:PG X e t)(h2:PGs X es u)
  (hs:(assignEach (e::es) X.env).map (·.2)=assign e X.env::(assignEach es X.env).map (·.2):=by rfl):PGs X (e::es) (BN t u):=by
 intro pins s σ H vs us Q I r h;obtain⟨v,vr,e1,h⟩:=h;subst e1;cases r with
 |cons r rr=>
  rw[hs];refine assignInOrder_cons (thn (h1 pins s σ H _ _ _ I r h) fun _ s1 ⟨σ1,H1,I1,q1⟩=>?_)
  exact h2 pins s1 σ1 H1 _ _ Q I1 rr q1
noncomputable def Fs(K:PySem.W.Frag)(n:Nat)(t:TGs):TG:=fun v σ H Q=>∃a xs,v=.ref a/\SqT K H a xs/\xs.length=n/\t xs σ H Q
theorem vO(hc:X.calm=true)(h:PGs X es t)
  (hn:(assignEach es X.env).length=n:=by rfl) (hst:(assignEach es X.env).findIdx? (·.1)=none:=by rfl):PG X (.Tuple es k pos) (Fs X.K n t):=by
 intro pins s σ H v u Q I r hw;obtain⟨a,xs,e1,hq,hl,hw⟩:=hw;subst e1;cases r;obtain⟨its,rv,ht,hz⟩:=I.tuple hq;refine assign_Tuple_tuple (I.ok.hd hc) ht (by simp[hn,<-hl,rv.length]) hst fun h' hx=>?_
 have I1:Inv X pins σ H {s with heap:=h'}:=I.kept (t':=s.toks) fun b o e=>hx b o (Nat.ne_of_lt (Heap.lt_size e)) e
 exact h pins _ σ H xs _ Q I1 (by simpa using rv) hw
noncomputable def Fg(to ti:TE)(t:TSet):TG:=fun v σ H Q=>to σ H fun o H1=>ti σ H1 fun i H2=>t o i v H2 fun H3=>Q σ H3
theorem zl(ho:PE X o to)(hi:PE X i ti)(hs:yz X t)
  (ha:∀v,assign (.Subscript o i pos) X.env v=(do
   let ov<-holding [v] (eval o X.env)
   let iv<-holding [v,ov] (eval i X.env)
   standAt pos
   holding [v,ov,iv] (setItem ov iv v)
   release [v,ov,iv] []):=by intro _;rfl):PG X (.Subscript o i pos) (Fg to ti t):=by
 intro pins s σ H v u Q I r h;rw[ha];refine wpAny_bind (wpAny_holding (thn (ho pins s σ H _ I h) fun ov s1 ⟨x,H1,I1,r1,q1⟩=>?_))
 refine wpAny_bind (wpAny_holding (thn (hi pins s1 σ H1 _ I1 q1) fun iv s2 ⟨y,H2,I2,r2,q2⟩=>?_))
 refine wpAny_bind (wpAny_standAt (wpAny_bind (wpAny_holding (thn (hs pins s2 σ H2 x y v ov iv u _ I2 r1 r2 r q2) fun _ s3 ⟨H3,I3,q3⟩=>?_))))
 exact wpAny_release ⟨σ,H3,I3,q3⟩
noncomputable def vU(te:TE)(g:TG):TS:=fun D σ H=>te σ H fun x H1=>g x σ H1 D.nx
theorem sr(he:PE X e te)(hg:PG X tg g)(hs:swapsWithSole [tg] e pos.line X.env=pure false:=by rfl)(hw:swappedStores [tg] e X.env=pure none:=by rfl)
  (h1:(assignEach [tg] X.env).map (·.2)=[assign tg X.env]:=by rfl):PS X (.Assign [tg] e pos) (vU te g):=by
 intro pins s σ H D I h;refine wpAny_Assign_stores (thn (he pins s σ H _ I h) fun v s1 ⟨x,H1,I1,r1,q1⟩=>?_) hs hw
 rw[h1];exact thn (hg pins s1 σ H1 x v _ I1 r1 q1) fun _ s2 q=>q
theorem wl(hN:X.N.Nodup)(hi:X.N[i]?=some x)(hx:Loc X.env.scope x)(he:PE X e te)(hs:swapsWith e (some (.Name x pos')) pos.line X.env=pure false:=by rfl)(hf:X.fn x=true\/X.env.scope.names.lookup x=some .local:=by first|exact .inl rfl|exact .inr rfl|assumption) :
  PS X (.Assign [.Name x pos'] e pos) (vU te (ot i)):=by
 intro pins s σ H D I h;refine wpAny_Assign_Name (thn (he pins s σ H _ I h) fun v s1 ⟨y,H1,I1,r1,q1⟩=>?_) hs
 exact hZ I1 hN hi hx r1 (fun s2 I2=>⟨_,H1,I2,q1⟩) hf
end
section
variable {X:Cx}{pos:Pos}
end
structure It where
 go:Nat->Hp->Prop
 yld:Nat->Hp->V->Hp->Prop
 stop:Nat->Hp->Prop
noncomputable def eX(X:Cx)(pins:List (Addr×Obj))(H:Hp)(b:Addr):Prop:=
 H b=none/\b≠X.env.locals/\b∉X.fs/\(b∈X.ex\/X.s₀.heap.objs.size<=b)/\(∀x c,X.env.cells.lookup x=some c->c≠b)/\∀p∈X.pn++pins,p.1≠b
theorem Inv.fpOk{s:Shared}(I:Inv X pins σ H s)(hb:s.heap.objs.size<=b)(hn:H' b=none):eX X pins H' b:=by
 refine⟨hn,Nat.ne_of_gt (Nat.lt_of_lt_of_le I.lt hb),I.nofs hb,.inr (Nat.le_trans I.sz hb),fun x c e z=>?_,fun p hp z=>?_⟩
 ·obtain⟨v,q⟩:=I.cell x c e;exact absurd (Nat.lt_of_lt_of_le q.lt (by rw[z];exact hb)) (Nat.lt_irrefl _)
 ·exact absurd (Nat.lt_of_lt_of_le (Heap.lt_size (I.pin p hp).1) (by rw[z];exact hb)) (Nat.lt_irrefl _)
structure Turn (P:Program)(w:World)(K:PySem.W.Frag)(tg:Expr)(J:It)(fp:List Addr)(it:Addr)(tn:Nat->Heap->Prop):Prop where
 mem:it∈fp
 obj:∀i h,tn i h->∀b∈fp,∃o,h.get? b=some o/\∀v,o.data≠.cell v
 keep:∀i h h',tn i h->(∀b∈fp,∀o,h.get? b=some o->h'.get? b=some o)->tn i h'
 item:∀(X:Cx),X.prog=P->X.w=w->X.K=K->X.calm=true->∀(i:Nat) (pins:List (Addr×Obj)) (s:Shared)(σ:St)(H:Hp)(E:Value->Shared->Prop),Inv X pins σ H s->(∀b∈fp,eX X pins H b)->tn i s.heap->J.go i H->
  wpAny (model P w) X.A (pyNext (.ref it)) (fun r s1=>∃u,r=some u/\
   wpAny (model P w) X.A (letOwnedTupleGo tg (.ref it) u) (fun _ s2=>∃x H',Inv X pins σ H' s2/\RelV x u/\J.yld i H x H'/\tn (i+1) s2.heap/\∀b∈fp,H' b=none) E s1) E s
 done:∀(X:Cx),X.prog=P->X.w=w->X.K=K->X.calm=true->∀(i:Nat) (pins:List (Addr×Obj)) (s:Shared)(σ:St)(H:Hp)(E:Value->Shared->Prop),Inv X pins σ H s->(∀b∈fp,eX X pins H b)->tn i s.heap->J.stop i H->
  wpAny (model P w) X.A (pyNext (.ref it)) (fun r s1=>r=none/\Inv X pins σ H s1) E s
 self:∀(A:Around)(i:Nat)(s:Shared)(Q:Value->Shared->Prop)(E:Value->Shared->Prop),tn i s.heap->Q (.ref it) s->wpAny (model P w) A (pyIter (.ref it)) Q E s
noncomputable abbrev TI:=St->Hp->(It->Hp->Prop)->Prop
noncomputable def PIE(X:Cx)(pins:List (Addr×Obj))(σ:St)(tg:Expr)(R:It->Hp->Prop)(itv:Value)(s2:Shared):Prop:=
 ∃(it:Addr)(fp:List Addr)(tn:Nat->Heap->Prop)(J:It)(H':Hp),itv=.ref it/\Inv X pins σ H' s2/\Turn X.prog X.w X.K tg J fp it tn/\tn 0 s2.heap/\(∀b∈fp,eX X pins H' b)/\R J H'
noncomputable def PI(X:Cx)(tg iter:Expr)(wi:TI):Prop:=
 ∀(pins:List (Addr×Obj)) (s:Shared)(σ:St)(H:Hp)(R:It->Hp->Prop),Inv X pins σ H s->wi σ H R->
  wpAny (model X.prog X.w) X.A (eval iter X.env) (fun v s1=>wpAny (model X.prog X.w) X.A (pyIter v) (PIE X pins σ tg R) X.xe s1) X.xe s
theorem oJ {s : Shared} {o : Obj} (ho : s.heap.get? it = some o) (hc : o.cls = .type n) (hd : o.data = .fields vs)
    (hn : ["enumerate", "zip", "dict_itemiterator", "dict_reverseitemiterator", "odict_iterator", "itertools.zip_longest", "itertools.pairwise"].contains n = false) (hQ : Q () s) : wpAny M A (letOwnedTupleGo tg (.ref it) u) Q E s := by
  unfold letOwnedTupleGo;cases tg <;> first
    | exact wpAny_pure hQ
    | (cases u <;> first
        | exact wpAny_pure hQ
        | (refine wpAny_bind (wpAny_load ho ?_)
           rw [hc, hd];show wpAny M A (if (["enumerate", "zip", "dict_itemiterator", "dict_reverseitemiterator", "odict_iterator", "itertools.zip_longest", "itertools.pairwise"].contains n && vs[0]? == some (rawInt _)) = true then _ else _) Q E s
           rw [if_neg (by intro h; rw [hn, Bool.false_and] at h; cases h)]
           exact wpAny_pure hQ))
noncomputable def Itl(K:PySem.W.Frag)(a:Addr):It:=
 ⟨fun i H=>∃xs x,SqL K H a xs/\xs[i]?=some x,fun i H x H'=>H'=H/\∀xs,SqL K H a xs->xs[i]?=some x,fun i H=>∃xs,SqL K H a xs/\xs.length<=i⟩
noncomputable def Itt(K:PySem.W.Frag)(a:Addr):It:=
 ⟨fun i H=>∃xs x,SqT K H a xs/\xs[i]?=some x,fun i H x H'=>H'=H/\∀xs,SqT K H a xs->xs[i]?=some x,fun i H=>∃xs,SqT K H a xs/\xs.length<=i⟩
noncomputable def Itr(lo:Int)(n:Nat):It:=⟨fun i _=>i < n,fun i H x H'=>H'=H/\x=.int (lo+i),fun i _=>n<=i⟩
theorem pV{K:PySem.W.Frag}(a it:Addr):Turn P w K tg (Itl K a) [it] it (fun i h=>h.IsListIter it a i) where
 mem:=by simp
 obj:=fun i h st b hb=>by
  have e:b=it:=by simpa using hb
  subst e;obtain⟨o,e,c,d⟩:=st;exact⟨o,e,fun v z=>by rw[d]at z;cases z⟩
 keep:=fun i h h' st k=>st.at fun o e=>k it (by simp) o e
 item:=by
  intro X hP hw hK hc i pins s σ H E I hf st hg;subst hP hw hK;obtain⟨xs,x,hq,hx⟩:=hg;obtain⟨its,rv,p,hz⟩:=I.list hq;obtain⟨u,hu,ru⟩:=rv.get hx;obtain⟨f0,f1,f2,f3,f4,f5⟩:=hf it (by simp)
  refine wpAny_pyNext_list_item st p.isList (x:=u) (by simpa using hu) fun h' st' sb=>?_
  have I1:Inv X pins σ H {s with heap:=h'}:=I.turned (t':=s.toks) (fun b o hb e=>(sb.2 b hb).trans e) f0 f1 f3 f4 f5
  obtain⟨o,e,c,d⟩:=id st';exact⟨u,rfl,oJ (s:={s with heap:=h'}) e c d (by decide) ⟨x,H,I1,ru,⟨rfl,fun ys hy=>by rw[I.list_inj hy hq];exact hx⟩,st',fun b hb=>(hf b hb).1⟩⟩
 done:=by
  intro X hP hw hK hc i pins s σ H E I hf st hg;subst hP hw hK;obtain⟨xs,hq,hx⟩:=hg;obtain⟨its,rv,p,hz⟩:=I.list hq;obtain⟨f0,f1,f2,f3,f4,f5⟩:=hf it (by simp)
  have hl:=rv.length;exact wpAny_pyNext_list_end (I.ok.hd hc) st p.isList (by simp;omega) fun h' eb=>⟨rfl,I.turned (t':=s.toks) (fun b o hb e=>eb b o hb e) f0 f1 f3 f4 f5⟩
 self:=fun _ _ _ _ _ st h=>wpAny_pyIter_listiter st h
theorem mX{K:PySem.W.Frag}(a it:Addr):Turn P w K tg (Itt K a) [it] it (fun i h=>h.IsTupleIter it a i) where
 mem:=by simp
 obj:=fun i h st b hb=>by
  have e:b=it:=by simpa using hb
  subst e;obtain⟨o,e,c,d⟩:=st;exact⟨o,e,fun v z=>by rw[d]at z;cases z⟩
 keep:=fun i h h' st k=>st.at fun o e=>k it (by simp) o e
 item:=by
  intro X hP hw hK hc i pins s σ H E I hf st hg;subst hP hw hK;obtain⟨xs,x,hq,hx⟩:=hg;obtain⟨its,rv,p,hz⟩:=I.tuple hq;obtain⟨u,hu,ru⟩:=rv.get hx;obtain⟨f0,f1,f2,f3,f4,f5⟩:=hf it (by simp)
  refine wpAny_pyNext_tuple_item st (show s.heap.IsTuple a its.toArray from p) (x:=u) (by simpa using hu) fun h' st' sb=>?_
  have I1:Inv X pins σ H {s with heap:=h'}:=I.turned (t':=s.toks) (fun b o hb e=>(sb.2 b hb).trans e) f0 f1 f3 f4 f5
  obtain⟨o,e,c,d⟩:=id st';exact⟨u,rfl,oJ (s:={s with heap:=h'}) e c d (by decide) ⟨x,H,I1,ru,⟨rfl,fun ys hy=>by rw[I.tuple_inj hy hq];exact hx⟩,st',fun b hb=>(hf b hb).1⟩⟩
 done:=by
  intro X hP hw hK hc i pins s σ H E I hf st hg;subst hP hw hK;obtain⟨xs,hq,hx⟩:=hg;obtain⟨its,rv,p,hz⟩:=I.tuple hq;obtain⟨f0,f1,f2,f3,f4,f5⟩:=hf it (by simp)
  have hl:=rv.length;exact wpAny_pyNext_tuple_end (I.ok.hd hc) st (show s.heap.IsTuple a its.toArray from p) (by simp;omega) fun h' eb=>⟨rfl,I.turned (t':=s.toks) (fun b o hb e=>eb b o hb e) f0 f1 f3 f4 f5⟩
 self:=fun _ _ _ _ _ st h=>wpAny_pyIter_tupleiter st h
theorem nE{K:PySem.W.Frag}(it:Addr)(lo:Int)(n:Nat):Turn P w K tg (Itr lo n) [it] it (fun i h=>IsRangeIter h it (lo+(i:Nat) * 1) ((n:Int) - (i:Nat)) 1) where
 mem:=by simp
 obj:=fun i h st b hb=>by
  have e:b=it:=by simpa using hb
  subst e;exact⟨_,st,fun v z=>by
   have z':Data.fields _=Data.cell v:=z;cases z'⟩
 keep:=fun i h h' st k=>k it (by simp) _ st
 item:=by
  intro X hP hw hK hc i pins s σ H E I hf st hg;subst hP hw hK;obtain⟨f0,f1,f2,f3,f4,f5⟩:=hf it (by simp)
  have W:=Walks.range (prog:=X.prog) (w:=X.w) (I.ok.hd hc) it lo 1 n;refine W.item i s _ _ hg st fun v h' tk hv st' kk=>?_
  obtain⟨t,rfl⟩:=hv;have I1:Inv X pins σ H {s with heap:=h',toks:=tk}:=I.turned (fun b o hb e=>kk b o (by simpa using hb) e) f0 f1 f3 f4 f5
  refine⟨_,rfl,oJ (s:={s with heap:=h',toks:=tk}) (n:="range_iterator") st' rfl rfl (by decide) ⟨.int (lo+i),H,I1,⟨t,?_⟩,⟨rfl,rfl⟩,st',fun b hb=>(hf b hb).1⟩⟩
  rw[Int.mul_one]
 done:=by
  intro X hP hw hK hc i pins s σ H E I hf st hg;subst hP hw hK;obtain⟨f0,f1,f2,f3,f4,f5⟩:=hf it (by simp)
  exact wpAny_pyNext_range_end (I.ok.hd hc) st (by have:n<=i:=hg;omega) fun h' eb=>⟨rfl,I.turned (t':=s.toks) (fun b o hb e=>eb b o hb e) f0 f1 f3 f4 f5⟩
 self:=fun _ _ _ _ _ st h=>wpAny_pyIter_rangeiter st h
end L2
namespace L2
open PySem PySem.Spec PyProof.Rows
section
variable {X:Cx}
theorem sg{s:Shared}{lo:Int}(I:Inv X pins σ H s)(h1 : -(2 ^ 62)<=lo)(h2:lo < 2 ^ 62)(h3 : -(2 ^ 62)<=hi)(h4:hi < 2 ^ 62)
  (q:R (Itr lo (hi - lo).toNat) H):wpAny (model X.prog X.w) X.A (pyIter (.ref s.heap.objs.size)) (PIE X pins σ tg R) E {s with heap:=s.heap.push {cls:=.type "range",data:=.fields #[.int lo t,.int hi u,.int 1 v]},toks:=tk}:=by
 refine wpAny_pyIter_range (IsRange.new ..) (small_one h1 h2 h3 h4) ?_;have I1:Inv X pins σ H {s with heap:=s.heap.push {cls:=.type "range",data:=.fields #[.int lo t,.int hi u,.int 1 v]},toks:=tk}:=I.kept fun b o e=>Heap.get?_push_of_some _ e
 refine⟨(s.heap.push {cls:=.type "range",data:=.fields #[.int lo t,.int hi u,.int 1 v]}).objs.size,[(s.heap.push {cls:=.type "range",data:=.fields #[.int lo t,.int hi u,.int 1 v]}).objs.size],_,_,H,rfl,
  I1.kept (t':=tk) fun b o e=>Heap.get?_push_of_some _ e,nE _ lo (hi - lo).toNat,?_,fun b hb=>?_,q⟩
 ·have e1:lo+((0:Nat):Int) * 1=lo:=by simp
  have e2:(((hi - lo).toNat:Nat):Int) - ((0:Nat):Int)=Builtin.Range.rangeSize lo hi 1:=by rw[rangeSize_one];split<;>omega
  show IsRangeIter _ _ (lo+((0:Nat):Int) * 1) ((((hi - lo).toNat:Nat):Int) - ((0:Nat):Int)) 1;rw[e1,e2];exact Heap.get?_push_size _ rfl
 ·have e:b=(s.heap.push {cls:=.type "range",data:=.fields #[.int lo t,.int hi u,.int 1 v]}).objs.size:=by simpa using hb
  subst e;exact I1.fpOk (Nat.le_refl _) (I1.hok.fresh (Nat.le_refl _))
noncomputable def C5(ta:TA):TI:=fun σ H R=>ta σ H fun vs H1=>∃j:Int,vs=[.int j]/\-(2 ^ 62)<=j/\j < 2 ^ 62/\R (Itr 0 j.toNat) H1
theorem pJ(hg:Gl X "range")(hm:X.mg "range"=none)(ha:PA X [a] ta)(hs:starEach [a] X.env=[(false,eval a X.env)]:=by rfl):PI X tg (.Call (.Name "range" p) [a] [] pos) (C5 ta):=by
 intro pins s σ H R I h;refine Call_ (gw I hg hm boot_range (PyProof.Rows.callWith_type1 (thn (ha pos pins s σ H _ I h) fun us s1 ⟨vs,H1,I1,r1,q1⟩=>?_) hs rfl))
 obtain⟨j,e,q1,q2,q⟩:=q1;subst e;cases r1 with
 |cons r rr=>
  cases rr;obtain⟨t,rfl⟩:=r;exact call_range_1 (sg I1 (by omega) (by omega) q1 q2 (by simpa using q))
noncomputable def Fk(wi:TI)(g:TG)(tb:TS):TS:=fun D σ H=>wi σ H fun J H1=>∃W:Nat->Nat->St->Hp->Prop,(∃m,W 0 m σ H1)/\∀i m σ H,W i m σ H->
 (J.stop i H/\D.nx σ H)\/(J.go i H/\∃N:St->Hp->Prop,(∀σ' H',N σ' H'->∃m',m' < m/\W (i+1) m' σ' H')/\∀x H',J.yld i H x H'->g x σ H' fun σ2 H2=>tb {D with nx:=N,ct:=N,bk:=D.nx} σ2 H2)
noncomputable def jg(fp:List Addr)(h:Heap):List (Addr×Obj):=fp.filterMap fun b=>(h.get? b).map fun o=>(b,o)
theorem db{h:Heap}(hb:b∈fp)(e:h.get? b=some o):(b,o)∈jg fp h:=List.mem_filterMap.mpr ⟨b,hb,by rw[e];rfl⟩
theorem pF{h:Heap}{p:Addr×Obj}(hp:p∈jg fp h):p.1∈fp/\h.get? p.1=some p.2:=by
 obtain⟨b,hb,e⟩:=List.mem_filterMap.mp hp;cases q:h.get? b with
 |none=>rw[q]at e;cases e
 |some o=>
  rw[q]at e;have e':(b,o)=p:=Option.some.inj e;subst e';exact⟨hb,q⟩
theorem Inv.pinned{s:Shared}(I:Inv X pins σ H s)(hf:∀b∈fp,eX X pins H b)(ho:∀b∈fp,∃o,s.heap.get? b=some o/\∀v,o.data≠.cell v):Inv X (pins++jg fp s.heap) σ H s:=
 I.pins_of fun p hp=>(List.mem_append.mp hp).elim (fun z=>I.pin p (List.mem_append_right _ z)) fun z=>by
  obtain⟨hb,e⟩:=pF z;obtain⟨f0,f1,f2,_⟩:=hf p.1 hb;obtain⟨o,e',d⟩:=ho p.1 hb;rw[e]at e';cases e';exact⟨e,f0,f1,f2,d⟩
theorem Inv.unpinned(I:Inv X (pins++pl) σ H s):Inv X pins σ H s:=I.pins_of fun p hp=>I.pin p (List.mem_append_right _ (List.mem_append_left _ hp))
theorem yL(hp:PassesOwn (model X.prog X.w) X.A X.env X.xe)(hc:X.calm=true)(hi:PI X tg iter wi)(hg:PG X tg g)(hb:PSs X body tb)
  (hs:∀x,foldedSetIterable iter X.env x=pure x:=by intro _;rfl):PS X (.For tg iter body [] pos) (Fk wi g tb):=by
 intro pins s σ H D I h;refine wpAny_For (thn (hi pins s σ H _ I h) fun v s1 h1=>thn h1 fun itv s2 h2=>?_) hs
 obtain⟨it,fp,tn,J,H2,e,I2,T,st2,f2,W,⟨m0,w0⟩,mV⟩:=h2;subst e;have stat:∀{H':Hp},(∀b∈fp,H' b=none)->∀b∈fp,eX X pins H' b:=fun hn b hb=>⟨hn b hb,(f2 b hb).2⟩
 refine codeAny_forLoop_any (fun n s'=>∃i σ' H',Inv X pins σ' H' s'/\tn i s'.heap/\(∀b∈fp,H' b=none)/\W i n σ' H') ?_ m0 ⟨0,σ,H2,I2,st2,fun b hb=>(f2 b hb).1,w0⟩
 rintro n s3 ⟨i,σ3,H3,I3,st3,fr3,w3⟩;rcases mV i n σ3 H3 w3 with ⟨stop,qn⟩|⟨go,N,hN,step⟩
 ·refine wpAny_passesOwn hp (thn (T.done X rfl rfl rfl hc i pins s3 σ3 H3 X.xe I3 (stat fr3) st3 stop) fun r s4 ⟨hr,I4⟩=>?_)
  subst hr;exact wpAny_execs_nil ⟨σ3,H3,I4,qn⟩
 ·refine wpAny_passesOwn hp (thn (T.item X rfl rfl rfl hc i pins s3 σ3 H3 X.xe I3 (stat fr3) st3 go) fun r s4 ⟨u,hr,h4⟩=>?_)
  subst hr;refine wpAny_passesOwn hp (thn h4 fun _ s5 ⟨x,H5,I5,r5,y5,st5,fr5⟩=>?_)
  have I5':=I5.pinned (stat fr5) (T.obj _ _ st5);refine wpAny_passesOwn hp (thn (hg _ s5 σ3 H5 x u _ I5' r5 (step x H5 y5)) fun _ s6 ⟨σ6,H6,I6,q6⟩=>?_)
  refine wpAny_passesOwn hp (thn (hb _ s6 σ6 H6 _ I6 q6) fun f s7 q7=>?_)
  have again:∀{σ7:St}{H7:Hp},Inv X (pins++jg fp s5.heap) σ7 H7 s7->N σ7 H7->∃m,m < n/\∃i σ' H',Inv X pins σ' H' s7/\tn i s7.heap/\(∀b∈fp,H' b=none)/\W i m σ' H':=fun {σ7 H7} I7 n7=>by
   obtain⟨m',hm,w7⟩:=hN σ7 H7 n7;refine⟨m',hm,i+1,σ7,H7,I7.unpinned,T.keep _ _ _ st5 fun b hb o e=>(I7.pin (b,o) (List.mem_append_right _ (List.mem_append_right _ (db hb e)))).1,fun b hb=>?_,w7⟩
   obtain⟨o,e,d⟩:=T.obj _ _ st5 b hb;exact (I7.pin (b,o) (List.mem_append_right _ (List.mem_append_right _ (db hb e)))).2.1
  cases f with
  |next=>obtain⟨σ7,H7,I7,n7⟩:=q7;exact again I7 n7
  |cont=>obtain⟨σ7,H7,I7,n7⟩:=q7;exact again I7 n7
  |brk=>obtain⟨σ7,H7,I7,q7⟩:=q7;exact⟨σ7,H7,I7.unpinned,q7⟩
  |ret v=>obtain⟨x7,σ7,H7,I7,r7,q7⟩:=q7;exact⟨x7,σ7,H7,I7.unpinned,r7,q7⟩
end
end L2
namespace L2
open PySem PySem.Spec PyProof.Rows
noncomputable abbrev R2:=V->V->Hp->VK->Prop
noncomputable def OpR(X:Cx)(f:Value->Value->Sem Value)(r:R2):Prop:=
 ∀(pins:List (Addr×Obj)) (s:Shared)(σ:St)(H:Hp)(x y:V)(v u:Value)(Q:VK),Inv X pins σ H s->RelV x v->RelV y u->r x y H Q->
  wpAny (model X.prog X.w) X.A (f v u) (EP X pins σ Q) X.xe s
noncomputable def UnR(X:Cx)(f:Value->Sem Value)(r:V->Hp->VK->Prop):Prop:=
 ∀(pins:List (Addr×Obj)) (s:Shared)(σ:St)(H:Hp)(x:V)(v:Value)(Q:VK),Inv X pins σ H s->RelV x v->r x H Q->
  wpAny (model X.prog X.w) X.A (f v) (EP X pins σ Q) X.xe s
noncomputable def CallR(X:Cx)(f:Value)(r:List V->Hp->VK->Prop):Prop:=
 ∀(pins:List (Addr×Obj)) (s:Shared)(σ:St)(H:Hp)(xs:List V)(us:List Value)(Q:VK),Inv X pins σ H s->Vals xs us->r xs H Q->
  wpAny (model X.prog X.w) X.A (call f us) (EP X pins σ Q) X.xe s
noncomputable def tOp(r:R2)(ta tb:TE):TE:=fun σ H Q=>ta σ H fun x H1=>tb σ H1 fun y H2=>r x y H2 Q
noncomputable def tUn(r:V->Hp->VK->Prop)(ta:TE):TE:=fun σ H Q=>ta σ H fun x H1=>r x H1 Q
noncomputable def rI(C:Int->Int->Prop)(g:Int->Int->V):R2:=fun x y H Q=>∃i j,x=.int i/\y=.int j/\C i j/\Q (g i j) H
noncomputable def rI0(g:Int->Int->V):R2:=fun x y H Q=>∃i j,x=.int i/\y=.int j/\Q (g i j) H
noncomputable def rU(g:Int->V):V->Hp->VK->Prop:=fun x H Q=>∃i,x=.int i/\Q (g i) H
section
variable {X:Cx}{a b c:Expr}{ta tb tc:TE}{pos:Pos}
theorem vT(ha:PE X a ta)(hb:PE X b tb){pins:List (Addr×Obj)}{s:Shared}{σ:St}{H:Hp}{R:V->V->Hp->Prop}(I:Inv X pins σ H s)
  (h:ta σ H fun x H1=>tb σ H1 fun y H2=>R x y H2) {Q:Value->Shared->Prop}{f:Value->Value->Sem Value}
  (hf:∀v u s2 x y H2,Inv X pins σ H2 s2->RelV x v->RelV y u->R x y H2->wpAny (model X.prog X.w) X.A (f v u) Q X.xe s2) :
  wpAny (model X.prog X.w) X.A (eval a X.env) (fun v s₁=>wpAny (model X.prog X.w) X.A (eval b X.env) (fun u s₂=>wpAny (model X.prog X.w) X.A (f v u) Q X.xe s₂) X.xe s₁) X.xe s:=by
 refine thn (ha pins s σ H _ I h) fun v s1 ⟨x,H1,I1,r1,q1⟩=>?_
 refine thn (hb pins s1 σ H1 _ I1 q1) fun u s2 ⟨y,H2,I2,r2,q2⟩=>?_
 exact hf v u s2 x y H2 I2 r1 r2 q2
theorem DG{op:Operator}{r:R2}(ho:OpR X (binaryOp op) r)(ha:PE X a ta)(hb:PE X b tb):PE X (.BinOp a op b pos) (tOp r ta tb):=by
 intro pins s σ H Q I h;exact wpAny_BinOp (vT ha hb I h fun v u s2 x y H2 I2 rx ry q=>ho pins s2 σ H2 x y v u Q I2 rx ry q)
theorem Df(ho:UnR X (unaryOp op) r)(ha:PE X a ta):PE X (.UnaryOp op a pos) (tUn r ta):=by
 intro pins s σ H Q I h;exact UnaryOp_ (thn (ha pins s σ H _ I h) fun v s1 ⟨x,H1,I1,r1,q1⟩=>ho pins s1 σ H1 x v Q I1 r1 q1)
theorem opI{f:Value->Value->Sem Value}{C:Int->Int->Prop}{g:Int->Int->Int}
  (rule:∀(i j:Int)(t u:Tok)(s:Shared)(Q:Value->Shared->Prop)(E:Value->Shared->Prop),C i j->Q (.int (g i j) s.toks) {s with toks:=s.toks+1}->wpAny (model X.prog X.w) X.A (f (.int i t) (.int j u)) Q E s) :
  OpR X f (rI C fun i j=>.int (g i j)):=by
 intro pins s σ H x y v u Q I rx ry h;obtain⟨i,j,rfl,rfl,hc,q⟩:=h;obtain⟨t,rfl⟩:=rx;obtain⟨t',rfl⟩:=ry;exact rule i j t t' s _ _ hc ⟨.int (g i j),H,I.tok _,⟨_,rfl⟩,q⟩
theorem yp{f:Value->Value->Sem Value}{g:Int->Int->Int}
  (rule:∀(i j:Int)(t u:Tok)(s:Shared)(Q:Value->Shared->Prop)(E:Value->Shared->Prop),Q (.int (g i j) s.toks) {s with toks:=s.toks+1}->wpAny (model X.prog X.w) X.A (f (.int i t) (.int j u)) Q E s) :
  OpR X f (rI0 fun i j=>.int (g i j)):=by
 intro pins s σ H x y v u Q I rx ry h;obtain⟨i,j,rfl,rfl,q⟩:=h;obtain⟨t,rfl⟩:=rx;obtain⟨t',rfl⟩:=ry;exact rule i j t t' s _ _ ⟨.int (g i j),H,I.tok _,⟨_,rfl⟩,q⟩
theorem sX{f:Value->Value->Sem Value}{g:Int->Int->Bool}
  (rule:∀(i j:Int)(t u:Tok)(s:Shared)(Q:Value->Shared->Prop)(E:Value->Shared->Prop),Q (.bool (g i j)) s->wpAny (model X.prog X.w) X.A (f (.int i t) (.int j u)) Q E s) :
  OpR X f (rI0 fun i j=>.bl (g i j)):=by
 intro pins s σ H x y v u Q I rx ry h;obtain⟨i,j,rfl,rfl,q⟩:=h;obtain⟨t,rfl⟩:=rx;obtain⟨t',rfl⟩:=ry;exact rule i j t t' s _ _ ⟨.bl (g i j),H,I,rfl,q⟩
noncomputable def rL(i j:Int):Prop:=0<=j/\j<=1000000/\i.natAbs < 2 ^ 64
theorem mS(k:Nat):(0:Int)<=2 ^ k:=by
 rw[two_pow_cast];exact Int.natCast_nonneg _
theorem zw:OpR X (binaryOp .Add) (rI0 fun i j=>.int (i+j)):=yp fun _ _ _ _ _ _ _ q=>add_int q
theorem vQ:OpR X (binaryOp .Sub) (rI0 fun i j=>.int (i - j)):=yp fun _ _ _ _ _ _ _ q=>sub_int q
theorem zC:OpR X (binaryOp .Mod) (rI (fun _ j=>0 < j) fun i j=>.int (i % j)):=opI fun i j _ _ _ _ _ hc q=>by
 have h1:(0:Int) < j:=hc;exact mod_int' (by omega) (by rw[Int.fmod_eq_emod_of_nonneg i (by omega)];exact q)
theorem Ak:OpR X (binaryOp .Pow) (rI rL fun i j=>.int (i ^ j.toNat)):=opI fun _ _ _ _ _ _ _ hc q=>pow_int_small hc.1 hc.2.1 hc.2.2 q
theorem yr:OpR X (binaryOp .RShift) (rI (fun _ j=>0<=j) fun i j=>.int (i / 2 ^ j.toNat)):=opI fun i j _ _ _ _ _ hc q=>
 rshift_int hc (by rw[Int.fdiv_eq_ediv_of_nonneg i (mS _)];exact q)
theorem vW:OpR X (binaryOp .BitAnd) (rI0 fun i j=>.int (Builtin.bitAnd i j)):=yp fun _ _ _ _ _ _ _ q=>and_int q
theorem unI{f:Value->Sem Value}{g:Int->Int}
  (rule:∀(i:Int)(t:Tok)(s:Shared)(Q:Value->Shared->Prop)(E:Value->Shared->Prop),Q (.int (g i) s.toks) {s with toks:=s.toks+1}->wpAny (model X.prog X.w) X.A (f (.int i t)) Q E s) :
  UnR X f (rU fun i=>.int (g i)):=by
 intro pins s σ H x v Q I rx h;obtain⟨i,rfl,q⟩:=h;obtain⟨t,rfl⟩:=rx;exact rule i t s _ _ ⟨.int (g i),H,I.tok _,⟨_,rfl⟩,q⟩
theorem z9:UnR X (unaryOp .USub) (rU fun i=>.int (-i)):=unI fun _ _ _ _ _ q=>neg_int q
end
section
variable {X:Cx}{a b c:Expr}{ta tb tc:TE}{pos:Pos}
theorem kP(I:Inv X pins σ H s)(q:Q (.bl k) H)(e:k=k'):EP X pins σ Q (.bool k') s:=by
 subst e;exact⟨.bl k,H,I,rfl,q⟩
theorem Dg:OpR X (compareOp .Lt) (rI0 fun i j=>.bl (decide (i < j))):=sX fun _ _ _ _ _ _ _ q=>lt_int q
theorem BE:OpR X (compareOp .LtE) (rI0 fun i j=>.bl (decide (i<=j))):=sX fun _ _ _ _ _ _ _ q=>le_int q
theorem Bs:OpR X (compareOp .Gt) (rI0 fun i j=>.bl (decide (j < i))):=sX fun _ _ _ _ _ _ _ q=>gt_int q
theorem B4:OpR X (compareOp .GtE) (rI0 fun i j=>.bl (decide (j<=i))):=sX fun _ _ _ _ _ _ _ q=>ge_int q
theorem pZ:OpR X (compareOp .In) (fun x y H Q=>∃i j,x=.str i/\y=.str j/\Q (.bl (!(Builtin.Str.occurrences j i 0 j.length 1).isEmpty)) H):=by
 intro pins s σ H x y v u Q I rx ry h;obtain⟨i,j,rfl,rfl,q⟩:=h;obtain⟨t,rfl⟩:=rx;obtain⟨t',rfl⟩:=ry;exact in_str (kP I q rfl)
theorem yG:OpR X (compareOp .Is) (fun x y H Q=>y=.non/\Q (.bl (decide (x=.non))) H):=by
 intro pins s σ H x y v u Q I rx ry h;obtain⟨rfl,q⟩:=h;cases ry;refine is_none_gen (kP I q ?_);cases x<;>first
  |(cases rx;rfl)
  |(obtain⟨t,rfl⟩:=rx;rfl)
theorem uj:OpR X (compareOp .IsNot) (fun x y H Q=>y=.non/\Q (.bl (!decide (x=.non))) H):=by
 intro pins s σ H x y v u Q I rx ry h;obtain⟨rfl,q⟩:=h;cases ry;refine isnot_none_gen (kP I q ?_);cases x<;>first
  |(cases rx;rfl)
  |(obtain⟨t,rfl⟩:=rx;rfl)
theorem ky:OpR X (compareOp .NotIn) (fun x y H Q=>∃i j,x=.str i/\y=.str j/\Q (.bl (!(!(Builtin.Str.occurrences j i 0 j.length 1).isEmpty))) H):=by
 intro pins s σ H x y v u Q I rx ry h;obtain⟨i,j,rfl,rfl,q⟩:=h;obtain⟨t,rfl⟩:=rx;obtain⟨t',rfl⟩:=ry;exact notIn_str (kP I q rfl)
theorem OpR.or(h:OpR X f r)(h':OpR X f r'):OpR X f (fun x y H Q=>r x y H Q\/r' x y H Q):=by
 intro pins s σ H x y v u Q I rx ry q;rcases q with q|q
 ·exact h pins s σ H x y v u Q I rx ry q
 ·exact h' pins s σ H x y v u Q I rx ry q
theorem uL{op:CmpOp}{r:R2}(ho:OpR X (compareOp op) r)(ha:PE X a ta)(hb:PE X b tb)(hm:behindInMarks op b=false):PE X (.Compare a [op] [b] pos) (tOp r ta tb):=by
 intro pins s σ H Q I h;exact wpAny_Compare1 (vT ha hb I h fun v u s2 x y H2 I2 rx ry q=>ho pins s2 σ H2 x y v u Q I2 rx ry q) hm
noncomputable def qO(t:TE):TT:=fun σ H Q=>t σ H fun x H'=>∃k,x=.bl k/\Q k H'
theorem t5(ho:OpR X (compareOp op) r)(ha:PE X a ta)(hb:PE X b tb)(hm:behindInMarks op b=false):PT X (.Compare a [op] [b] pos) (qO (tOp r ta tb)):=by
 intro pins s σ H Q I h;refine wpAny_isTrue_Compare1 (thn (ha pins s σ H _ I h) fun v s1 ⟨x,H1,I1,r1,q1⟩=>thn (hb pins s1 σ H1 _ I1 q1) fun u s2 ⟨y,H2,I2,r2,q2⟩=>
  thn (ho pins s2 σ H2 x y v u _ I2 r1 r2 q2) fun c s3 ⟨z,H3,I3,r3,k,e,q3⟩=>?_) hm
 subst e;cases r3;exact wpAny_truthy_bool ⟨H3,I3,q3⟩
noncomputable def rT(r r':R2)(ta tb tc:TE):TE:=fun σ H Q=>ta σ H fun x H1=>tb σ H1 fun y H2=>r x y H2 fun z H3=>∃k,z=.bl k/\
 (if k=true then tc σ H3 fun w' H4=>r' y w' H4 Q else Q (.bl false) H3)
theorem su(ho:OpR X (compareOp op) r)(ho':OpR X (compareOp op') r')(ha:PE X a ta)(hb:PE X b tb)(hc:PE X c tc)
  (hm:lastMarks [op,op'] [b,c]=false:=by with_unfolding_all rfl):PE X (.Compare a [op,op'] [b,c] pos) (rT r r' ta tb tc):=by
 intro pins s σ H Q I h;refine Compare_chain (thn (ha pins s σ H _ I h) fun v s1 ⟨x,H1,I1,r1,q1⟩=>chain_link (thn (hb pins s1 σ H1 _ I1 q1) fun u s2 ⟨y,H2,I2,r2,q2⟩=>
  thn (ho pins s2 σ H2 x y v u _ I2 r1 r2 q2) fun d s3 ⟨z,H3,I3,r3,k,e,q3⟩=>?_)) hm
 subst e;cases r3;refine wpAny_truthy_bool ?_;cases k with
 |false=>exact ite_ff ⟨.bl false,H3,I3,rfl,q3⟩
 |true=>exact ite_tt (chain_last (thn (hc pins s3 σ H3 _ I3 q3) fun w' s4 ⟨z',H4,I4,r4,q4⟩=>ho' pins s4 σ H4 y z' u w' Q I4 r2 r4 q4))
theorem qY(ho:OpR X (compareOp op) r)(ho':OpR X (compareOp op') r')(ha:PE X a ta)(hb:PE X b tb)(hc:PE X c tc)
  (hm:lastMarks [op,op'] [b,c]=false:=by with_unfolding_all rfl):PT X (.Compare a [op,op'] [b,c] pos) (qO (rT r r' ta tb tc)):=by
 intro pins s σ H Q I h;refine isTrue_chain (thn (ha pins s σ H _ I h) fun v s1 ⟨x,H1,I1,r1,q1⟩=>test_link (thn (hb pins s1 σ H1 _ I1 q1) fun u s2 ⟨y,H2,I2,r2,q2⟩=>
  thn (ho pins s2 σ H2 x y v u _ I2 r1 r2 q2) fun d s3 ⟨z,H3,I3,r3,k,e,q3⟩=>?_)) hm
 subst e;cases r3;refine wpAny_truthy_bool ?_;cases k with
 |false=>
  obtain⟨k',e',q'⟩:=q3;cases e';exact ite_ff ⟨H3,I3,q'⟩
 |true=>
  refine ite_tt (test_last (thn (hc pins s3 σ H3 _ I3 q3) fun w' s4 ⟨z',H4,I4,r4,q4⟩=>thn (ho' pins s4 σ H4 y z' u w' _ I4 r2 r4 q4) fun d' s5 ⟨z2,H5,I5,r5,k2,e2,q5⟩=>?_))
  subst e2;cases r5;exact wpAny_truthy_bool ⟨H5,I5,q5⟩
theorem f8:(sizeLine:Nat) < 2 ^ 63:=by rw[sizeLine_eq];decide
theorem nK:OpR X (binaryOp .Add) (fun x y H Q=>∃i j,x=.str i/\y=.str j/\i.length+j.length<=sizeLine/\Q (.str (i++j)) H):=by
 intro pins s σ H x y v u Q I rx ry h;obtain⟨i,j,rfl,rfl,hz,q⟩:=h;obtain⟨t,rfl⟩:=rx;obtain⟨t',rfl⟩:=ry;exact add_str (fun t' tk=>⟨.str (i++j),H,I.tok _,⟨_,rfl⟩,q⟩) hz
theorem gz(r:Vals [x] us):∃u,us=[u]/\RelV x u:=by
 cases r with
 |cons r1 r2=>cases r2;exact⟨_,rfl,r1⟩
theorem uO(r:Vals [x,y] us):∃u w',us=[u,w']/\RelV x u/\RelV y w':=by
 cases r with
 |cons r1 r2=>
  cases r2 with
  |cons r3 r4=>cases r4;exact⟨_,_,rfl,r1,r3⟩
theorem qf(hc:X.calm=true):CallR X (.builtin "max") (fun xs H Q=>∃i j,xs=[.int i,.int j]/\Q (.int (if j > i then j else i)) H):=by
 intro pins s σ H xs us Q I r h;obtain⟨i,j,rfl,q⟩:=h;obtain⟨u,w',rfl,⟨t,rfl⟩,⟨t',rfl⟩⟩:=uO r;refine max_two_ints (I.ok.hd hc) fun h' tk k=>⟨_,H,I.kept k,?_,q⟩
 by_cases hj:j > i
 ·rw[if_pos hj,if_pos hj];exact⟨_,rfl⟩
 ·rw[if_neg hj,if_neg hj];exact⟨_,rfl⟩
theorem oR(hc:X.calm=true):CallR X (.builtin "min") (fun xs H Q=>∃i j,xs=[.int i,.int j]/\Q (.int (if j < i then j else i)) H):=by
 intro pins s σ H xs us Q I r h;obtain⟨i,j,rfl,q⟩:=h;obtain⟨u,w',rfl,⟨t,rfl⟩,⟨t',rfl⟩⟩:=uO r;refine min_two_ints (I.ok.hd hc) fun h' tk k=>⟨_,H,I.kept k,?_,q⟩
 by_cases hj:j < i
 ·rw[if_pos hj,if_pos hj];exact⟨_,rfl⟩
 ·rw[if_neg hj,if_neg hj];exact⟨_,rfl⟩
end
end L2
namespace L2
open PySem PySem.Spec PyProof.Rows
structure ObjM (h:Heap)(x dx C:Addr)(mA:Str->Option Value):Prop where
 obj:h.get? x=some (PySem.W.instObj C dx)
 ns:h.Ns1 dx mA
 ne:dx≠x
theorem pG{h:Heap}(n:h.Ns1 dx mA):∃od,h.get? dx=some od/\∀name,PySem.W.lookIn name od=some (mA name):=by
 obtain⟨o,es,ep,ho,hd,hk,_,hm⟩:=n;refine⟨o,ho,fun name=>?_⟩
 have e:=hm name;unfold nsFind findBy at e;rw[<-Array.find?_toList]at e;unfold PySem.W.lookIn;rw[hd];dsimp only;split
 ·rename_i y q;rw[q]at e;exact congrArg some e
 ·rename_i q;rw[q]at e;have a:es.toList.any (·.refKey)=false:=by
   rw[List.any_eq_false];intro y hy;obtain⟨z,t,hkey⟩:=hk y (Array.mem_toList_iff.mp hy);simp[DictEntry.refKey,hkey]
  have a':¬ es.toList.any (·.refKey)=true:=by rw[a];exact Bool.false_ne_true
  rw[if_neg a'];exact congrArg some e
theorem ObjM.look(I:ObjM h x dx C mA):∃od,PySem.W.InstAt h x (PySem.W.instObj C dx) C (some od)/\∀name,PySem.W.lookIn name od=some (mA name):=
 let ⟨od,ho,hl⟩:=pG I.ns
 ⟨od,⟨I.obj,rfl,rfl,ho⟩,hl⟩
section
variable {w:World}{A:Around}{s:Shared}{K:PySem.W.Frag}{x:Addr}
theorem uw(X:K.In s.heap)(I:ObjM s.heap x dx C mA)(hg:PySem.W.plainGet K C name=true)(hh:PySem.W.hasDictIn K C=true)
  (ha:PySem.W.findIn K (.ref C) name=some none) (hv:mA name=some v) (hv':PySem.W.handedIn v=true) (h:Q v {s with toks:=s.toks+1}) :
  wpAny (model prog w) A (getAttr (.ref x) name expr) Q E s:=by
 obtain⟨od,J,hl⟩:=I.look;exact PySem.W.get_value X J (PySem.W.plainGet_of hg).1 (PySem.W.findObj_own hh ha rfl (by rw[hl,hv])) hv' h
theorem rM(X:K.In s.heap)(I:ObjM s.heap x dx C mA)(hg:PySem.W.plainGet K C name=true)
  (hf:PySem.W.findIn K (.ref C) name=some (some (.ref f))) (ht:PySem.W.isFn K (.ref f)=true) (hv:mA name=none) (h:Q (.ref f,[.ref x]) s) :
  wpAny (model prog w) A (getMethod (.ref x) name pl) Q E s:=by
 obtain⟨od,J,hl⟩:=I.look;exact PySem.W.method_fn X J (PySem.W.plainGet_of hg).1 (PySem.W.plainGet_of hg).2 hf (beq_iff_eq.mp ht) (by show (PySem.W.lookIn name od).map (·.isSome)=some false;rw[hl,hv];rfl) h
theorem ux{ns:List Str}(X:K.In s.heap)(I:ObjM s.heap x dx C mA)
  (hs:PySem.W.findIn K (.ref C) "__setattr__"=some (some (.builtin "object.__setattr__"))) (hp:PySem.W.plainOver K C=true) (ht:PySem.W.takerIn K C name=some none) (hh:PySem.W.hasDictIn K C=true)
  (hw:PySem.Within mA ns) (hsz:ns.length<=sizeLine)
  (h:∀h',ObjM h' x dx C (fun y=>if y=name then some v else mA y)->Heap.SameBut dx s.heap h'->Q () {s with heap:=h',toks:=s.toks+2}) :
  wpAny (model prog w) A (setAttr (.ref x) name v) Q E s:=by
 obtain⟨od,J,hl⟩:=I.look;refine PySem.W.set_plain X J hs (PySem.W.osa_open (s:={s with toks:=s.toks+1}) (r:=none) X J hp ht fun b=>?_)
 obtain⟨cd,hc,hd'⟩:=PySem.W.any_some hh;have hx:s.heap.get? x=some ⟨.ref C,some dx,.plain,#[]⟩:=I.obj;refine wpAny_bind (wpAny_pure (wpAny_bind (wpAny_bind (wpAny_loadPart hx (wpAny_bind (PySem.W.Looks.here (s:={s with toks:=s.toks+1}) (PySem.W.looks_clsIn X hc) ?_))))))
 rw[hd'];refine wpAny_pure (a:=some dx) (wpAny_bind (wpAny_pure (wpAny_bind ?_)));refine wpAny_nsSet1 (s:={s with toks:=s.toks+1}) I.ns fun h' hn2 hs2=>?_
 obtain⟨oD,esD,epD,hoD,hdD,hcD⟩:=hn2.count (PySem.Within.cons name v hw);refine wpAny_bind (wpAny_lookBehind hoD (by rw[hdD];exact pastItsLine_dict (Nat.le_trans hcD (by rw[List.length_cons];omega))) ?_)
 exact wpAny_pure (h _ ⟨(hs2.2 _ (Ne.symm I.ne)).trans I.obj,hn2,I.ne⟩ hs2)
theorem si(X:K.In s.heap)(hm:PySem.W.makesIn K C=true)
  (hi:PySem.W.findIn K (.ref C) "__init__"=some (some (.ref f))) (hf:PySem.W.typeIn K (.ref f)=some (.type "function"))
  (h:codeAny (model prog w) (A.under (.builtin "type.__call__" ⟨.ref C::vs,kw⟩)) (.call (.ref f) ⟨.ref (s.heap.objs.size+1)::vs,kw⟩) (PySem.W.InitBack (s.heap.objs.size+1) R)
   {s with heap:=(s.heap.push PySem.W.emptyDict).push (PySem.W.instObj C s.heap.objs.size)}) :
  codeAny (model prog w) A (.call (.ref C) ⟨vs,kw⟩) R s:=by
 obtain⟨hh,g,d,t,os⟩:=s;exact PySem.W.make_core (PySem.W.makes_of X hm) (PySem.W.looks_findIn X hi) (fun self=>PySem.W.bind_fn X self hf) (.inl rfl) h
end
noncomputable def cV(f:Str)(v:V):List (Str×V)->List (Str×V)
 |[]=>[(f,v)]
 |(g,x)::r=>if g=f then (g,v)::r else (g,x)::cV f v r
theorem gD(f g:Str)(v:V):∀fs:List (Str×V),(cV f v fs).lookup g=if g=f then some v else fs.lookup g
 |[]=>by
  show List.lookup g [(f,v)]=_;by_cases h:g=f
  ·have hb:(g == f)=true:=beq_iff_eq.mpr h;simp only[List.lookup,hb,if_pos h]
  ·have hb:(g == f)=false:=beq_eq_false_iff_ne.mpr h;simp only[List.lookup,hb,if_neg h]
 |(k,x)::r=>by
  have ih:=gD f g v r;rw[show cV f v ((k,x)::r)=(if k=f then (k,v)::r else (k,x)::cV f v r) from rfl]
  by_cases hk:k=f
  ·rw[if_pos hk];by_cases h:g=k
   ·have hb:(g == k)=true:=beq_iff_eq.mpr h;simp only[List.lookup,hb,if_pos (h.trans hk)]
   ·have hb:(g == k)=false:=beq_eq_false_iff_ne.mpr h;simp only[List.lookup,hb,if_neg (fun e:g=f=>h (e.trans hk.symm))]
  ·rw[if_neg hk];by_cases h:g=k
   ·have hb:(g == k)=true:=beq_iff_eq.mpr h;simp only[List.lookup,hb,if_neg (fun e:g=f=>hk (h.symm.trans e))]
   ·have hb:(g == k)=false:=beq_eq_false_iff_ne.mpr h;simp only[List.lookup,hb];exact ih
theorem fY(f:Str)(v:V):∀fs:List (Str×V),f∈(cV f v fs).map (·.1)/\∀g,g∈fs.map (·.1)->g∈(cV f v fs).map (·.1)
 |[]=>⟨by simp[cV],fun g h=>by simp at h⟩
 |(k,x)::r=>by
  obtain⟨i1,i2⟩:=fY f v r;rw[show cV f v ((k,x)::r)=(if k=f then (k,v)::r else (k,x)::cV f v r) from rfl]
  by_cases hk:k=f
  ·rw[if_pos hk];subst hk;exact⟨by simp,fun g h=>by simpa using h⟩
  ·rw[if_neg hk];refine⟨?_,fun g h=>?_⟩
   ·rw[List.map_cons];exact List.mem_cons_of_mem _ i1
   ·rw[List.map_cons]at h ⊢;rcases List.mem_cons.mp h with e|e
    ·exact List.mem_cons.mpr (.inl e)
    ·exact List.mem_cons_of_mem _ (i2 g e)
theorem gE(f:Str)(v:V):∀fs:List (Str×V),(cV f v fs).length<=fs.length+1
 |[]=>by simp[cV]
 |(k,x)::r=>by
  have ih:=gE f v r;rw[show cV f v ((k,x)::r)=(if k=f then (k,v)::r else (k,x)::cV f v r) from rfl]
  by_cases hk:k=f
  ·rw[if_pos hk,List.length_cons,List.length_cons];omega
  ·rw[if_neg hk,List.length_cons,List.length_cons];omega
theorem RelO.some_of(r:RelO (some v) o):∃u,o=some u/\RelV v u:=by
 cases o with
 |none=>exact (show False from r).elim
 |some u=>exact⟨u,rfl,r⟩
theorem RelO.none_of(r:RelO none o):o=none:=by
 cases o with
 |none=>rfl
 |some u=>exact (show False from r).elim
theorem oW(r:RelV v u):PySem.W.handedIn u=true:=by
 cases v with
 |non=>cases (show u=Value.none from r);rfl
 |bl b=>cases (show u=Value.bool b from r);rfl
 |int i=>obtain⟨t,e⟩:=(show ∃t,u=Value.int i t from r);cases e;rfl
 |str x=>obtain⟨t,e⟩:=(show ∃t,u=Value.str x t from r);cases e;rfl
 |byt b=>obtain⟨t,e⟩:=(show ∃t,u=Value.bytes b t from r);cases e;rfl
 |flt b=>obtain⟨t,e⟩:=(show ∃t,u=Value.float b t from r);cases e;rfl
 |ref a=>cases (show u=Value.ref a from r);rfl
 |ty n=>cases (show u=Value.type n from r);rfl
section
variable {P:Program}{w:World}{h h':Heap}{a:Addr}{fs:List (Str×V)}
theorem sQ(hok:HOk P w H h)(e:H a=some (.ins C dx fs)):∃mA,ObjM h a dx C mA/\(∀f,RelO (fs.lookup f) (mA f))/\PySem.Within mA (fs.map (·.1))/\fs.length<=1000/\H dx=some (.own a):=by
 obtain⟨d,z,ne,ob,mA,n,r,q⟩:=(show ObjOk P w H h a (.ins C dx fs) from hok a _ e);exact⟨mA,⟨ob,n,ne⟩,r,q,z,d⟩
end
structure Cls (K:PySem.W.Frag)(C:Addr):Prop where
 pg:PySem.W.plainGet K C Str.empty=true
 hd:PySem.W.hasDictIn K C=true
 po:PySem.W.plainOver K C=true
 sa:PySem.W.findIn K (.ref C) "__setattr__"=some (some (.builtin "object.__setattr__"))
theorem Cls.get{K:PySem.W.Frag}{C:Addr}(c:Cls K C)(f:Str):PySem.W.plainGet K C f=true:=c.pg
noncomputable def NoAttr(K:PySem.W.Frag)(C:Addr)(f:Str):Prop:=PySem.W.findIn K (.ref C) f=some none
theorem NoAttr.taker{K:PySem.W.Frag}(n:NoAttr K C f):PySem.W.takerIn K C f=some none:=by
 unfold PySem.W.takerIn;rw[show PySem.W.findIn K (.ref C) f=some none from n];rfl
structure Meth (K:PySem.W.Frag)(C:Addr)(m:Str)(f:Addr):Prop where
 at_:PySem.W.findIn K (.ref C) m=some (some (.ref f))
 fn:PySem.W.isFn K (.ref f)=true
 kp:PySem.W.keepIn K (.ref f)=true
section
variable {X:Cx}{s:Shared}{a:Addr}{fs:List (Str×V)}{A:Around}
theorem nw(I:Inv X pins σ H s)(e:H a=some (.ins C dx fs))(c:Cls X.K C)(n:NoAttr X.K C f)(hl:fs.length < 1000)(ry:RelV y u)
  (h:∀s',Inv X pins σ (upd H a (.ins C dx (cV f y fs))) s'->Q () s'):wpAny (model X.prog X.w) A (setAttr (.ref a) f u) Q E s:=by
 obtain⟨mA,O,r,wi,_,ho⟩:=sQ I.hok e;have hz:(fs.map (·.1)).length<=sizeLine:=by rw[List.length_map,sizeLine_eq];omega
 refine ux I.kIn O c.sa c.po n.taker c.hd wi hz fun h' O' sb=>h _ ?_
 have hd:∃o,h'.get? dx=some o:=let ⟨o,_,_,e',_⟩:=O'.ns;⟨o,e'⟩
 refine I.write (x:=a) (e:=dx) (by rw[e];exact True.intro) (.inr ho) (fun b q hb z=>(sb.2 b hb).trans z) hd ?_
 refine⟨by rw[ag O.ne];exact ho,?_,O.ne,O'.obj,_,O'.ns,fun g=>?_,fun g hg=>?_⟩
 ·have:=gE f y fs;omega
 ·show RelO ((cV f y fs).lookup g) (if g=f then some u else mA g)
  rw[gD];by_cases q:g=f
  ·rw[if_pos q,if_pos q];exact ry
  ·rw[if_neg q,if_neg q];exact r g
 ·by_cases q:g=f
  ·rw[q];exact (fY f y fs).1
  ·refine (fY f y fs).2 g (wi g fun z=>hg ?_)
   show (if g=f then some u else mA g)=none
   rw[if_neg q];exact z
theorem Inv.made(I:Inv X pins σ H s):Inv X pins σ (upd (upd H s.heap.objs.size (.own (s.heap.objs.size+1))) (s.heap.objs.size+1) (.ins C s.heap.objs.size []))
  {s with heap:=(s.heap.push PySem.W.emptyDict).push (PySem.W.instObj C s.heap.objs.size)}:=by
 have e1:(s.heap.push PySem.W.emptyDict).get? s.heap.objs.size=some PySem.W.emptyDict:=Heap.get?_push_size s.heap rfl;have e2:((s.heap.push PySem.W.emptyDict).push (PySem.W.instObj C s.heap.objs.size)).get? (s.heap.objs.size+1)=some (PySem.W.instObj C s.heap.objs.size):=by
  have:=Heap.get?_push_size (s.heap.push PySem.W.emptyDict) (o:=PySem.W.instObj C s.heap.objs.size) rfl
  rwa [Heap.size_push]at this
 have e3:(s.heap.push PySem.W.emptyDict).Ns s.heap.objs.size (fun _=>none):=⟨PySem.W.emptyDict,#[],_,e1,rfl,(fun e he=>absurd he (by simp)),fun _=>rfl⟩
 have I1:=I.laid (a:=s.heap.objs.size) (o:=.own (s.heap.objs.size+1)) (h':=s.heap.push PySem.W.emptyDict) (t':=s.toks) (fun b u q=>Heap.get?_push_of_some _ q) (Nat.le_refl _) ⟨_,e1⟩
 refine I1.laid (a:=s.heap.objs.size+1) (o:=.ins C s.heap.objs.size []) (t':=s.toks) (fun b u q=>Heap.get?_push_of_some _ q) (Nat.le_of_eq (Heap.size_push _ _)) ?_
 have ne:s.heap.objs.size≠s.heap.objs.size+1:=Nat.ne_of_lt (Nat.lt_succ_self _);refine⟨by rw[ag ne,ai],Nat.zero_le _,ne,e2,fun _=>none,(Heap.Ns1.of_empty e3).at fun o q=>Heap.get?_push_of_some _ q,fun _=>True.intro,fun y hy=>absurd rfl hy⟩
theorem sW(hb:attributeBase e f env (eval e env)=eval e env)
  (h:wpAny (model prog w) A (eval e env) (fun o s₁=>wpAny (model prog w) A (getAttr o f true) Q E s₁) E s):wpAny (model prog w) A (eval (.Attribute e f pos) env) Q E s:=
 Attribute_any_ h (by rw[arm_eval_Attribute,hb])
end
noncomputable def Fu(K:PySem.W.Frag)(ta tv:TE)(f:Str):TS:=fun D σ H=>tv σ H fun y H1=>ta σ H1 fun x H2=>∃a C dx fs,x=.ref a/\H2 a=some (.ins C dx fs)/\Cls K C/\NoAttr K C f/\fs.length < 1000/\
 D.nx σ (upd H2 a (.ins C dx (cV f y fs)))
section
variable {X:Cx}{o:Expr}{pos:Pos}
theorem wW(ha:PE X o ta)(hv:PE X value tv)(hs:swapsWith value (some (.Attribute o f pos')) pos.line X.env=pure false):PS X (.Assign [.Attribute o f pos'] value pos) (Fu X.K ta tv f):=by
 intro pins s σ H D I h;refine plainObj_wpAny_Assign_Attribute (thn (hv pins s σ H _ I h) fun u s1 ⟨y,H1,I1,ry,q⟩=>thn (ha pins s1 σ H1 _ I1 q) fun ov s2 ⟨x,H2,I2,rx,a,C,dx,fs,ex,ea,c,n,l,q2⟩=>?_) hs
 subst ex;obtain rfl:ov=Value.ref a:=rx;exact nw I2 ea c n l ry fun s3 I3=>⟨σ,_,I3,q2⟩
end
section
variable {X:Cx}{s:Shared}{A:Around}{c:Value}{b:Bool}
end
end L2
namespace L2
open PySem PySem.Spec PyProof.Rows
structure Room (k:Nat)(A:Around):Prop where
 hd:A.handled=none
 dp:A.depth+3 * k+5 < recursionLimit
 un:A.units+16 * k+200 < cLine
theorem Room.mono(r:Room k A)(h:j<=k):Room j A:=⟨r.hd,by have:=r.dp;omega,by have:=r.un;omega⟩
theorem Room.deeper{A:Around}(r:Room (k+1) A)(env:Env):Room k (A.deeper env):=
 ⟨r.hd,by have:=r.dp;show A.depth+1+3 * k+5 < _;omega,by have:=r.un;show A.units+3+16 * k+200 < _;omega⟩
theorem nh{A:Around}:(A.under (.builtin "type.__call__" ⟨.ref C::us,kw⟩)).depth=A.depth+1:=by
 first|rfl|simp[Around.under,Code.weight,Code.isCreation,Code.isGuard,Code.isCaller,Code.frames,Code.isFrame,guardIds]
theorem mZ{A:Around}:(A.under (.builtin "type.__call__" ⟨.ref C::us,kw⟩)).units=A.units+1:=by
 first|rfl|simp[Around.under,Code.cUnits,Code.frames,Code.isFrame]
theorem Room.make{A:Around}(r:Room (k+1) A)(C:Addr)(us:List Value)(kw:List (Str×Value)):Room k (A.under (.builtin "type.__call__" ⟨.ref C::us,kw⟩)):=
 ⟨r.hd,by have:=r.dp;rw[nh];omega,by have:=r.un;rw[mZ];omega⟩
theorem Room.depth{A:Around}(r:Room k A):A.depth < recursionLimit:=by have:=r.dp;omega
theorem Room.units{A:Around}(r:Room k A):A.units+64 < cLine:=by have:=r.un;omega
noncomputable def tNil:TA:=fun _ H Q=>Q [] H
noncomputable def AZ(ta:TE)(tr:TA):TA:=fun σ H Q=>ta σ H fun x H1=>tr σ H1 fun xs H2=>Q (x::xs) H2
section
variable {X:Cx}{pos:Pos}
theorem pa_nil:PA X [] tNil:=fun _ _ _ _ H Q I h=>Calls.spliced_nil ⟨[],H,I,.nil,h⟩
theorem ca(ha:PE X e te)(hr:PA X es t)(hs:starEach (e::es) X.env=(false,eval e X.env)::starEach es X.env:=by rfl):PA X (e::es) (AZ te t):=by
 intro pos pins s σ H Q I h;rw[hs];show wpAny _ _ (spliced ((false,eval e X.env)::backTo pos (starEach es X.env))) _ _ s;refine Calls.spliced_cons (thn (ha pins s σ H _ I h) fun u s1 ⟨x,H1,I1,r1,q1⟩=>?_)
 exact thn (hr pos pins s1 σ H1 _ I1 q1) fun us s2 ⟨xs,H2,I2,r2,q2⟩=>⟨x::xs,H2,I2,.cons r1 r2,q2⟩
noncomputable def EU(t:TA):TE:=fun σ H Q=>t σ H fun xs H1=>xs.length<=sizeLine/\∀p,H1 p=none->Q (.ref p) (upd H1 p (.tup xs))
noncomputable def Fc(t:TA):TE:=fun σ H Q=>t σ H fun xs H1=>xs.length<=sizeLine/\∀p,H1 p=none->Q (.ref p) (upd H1 p (.lst xs))
theorem Ax{x1}(h:PA X es t):PE X (.Tuple es x1 pos) (EU t):=by
 intro pins s σ H Q I hq;refine wpAny_Tuple_spliced (thn (h pos pins s σ H _ I hq) fun us s1 ⟨xs,H1,I1,r,z,q⟩=>⟨by rw[<-r.length];exact z,?_⟩)
 have hf:H1 s1.heap.objs.size=none:=I1.hok.fresh (Nat.le_refl _);refine⟨.ref s1.heap.objs.size,upd H1 s1.heap.objs.size (.tup xs),I1.laid (t':=s1.toks) (fun b u e=>Heap.get?_push_of_some _ e) (Nat.le_refl _) ?_,rfl,q _ hf⟩
 exact⟨z,us,r,⟨_,Heap.get?_push_size _ rfl,rfl,_,rfl⟩⟩
theorem xE(h:PA X es t):PE X (.List es pos) (Fc t):=by
 intro pins s σ H Q I hq;refine wpAny_List_spliced (thn (h pos pins s σ H _ I hq) fun us s1 ⟨xs,H1,I1,r,z,q⟩=>⟨by rw[<-r.length];exact z,?_⟩)
 have hf:H1 s1.heap.objs.size=none:=I1.hok.fresh (Nat.le_refl _);refine⟨.ref s1.heap.objs.size,upd H1 s1.heap.objs.size (.lst xs),I1.laid (t':=s1.toks) (fun b u e=>Heap.get?_push_of_some _ e) (Nat.le_refl _) ?_,rfl,q _ hf⟩
 exact⟨z,us,0,r,Heap.get?_push_size _ rfl⟩
end
noncomputable abbrev Sp:=List V->Hp->VK->XK->Prop
noncomputable abbrev CXT:=List Env->Hp->Shared->XK->Value->Shared->Prop
structure Env0 (P:Program)(w:World)(K:PySem.W.Frag)(mg:Str->Option Value)(base:Heap)(A:Around)(outer:List Env)(s:Shared)(H:Hp):Prop where
 frames:A.frames=some outer
 mod:Mod K mg base
 bs:∀b o,base.get? b=some o->s.heap.get? b=some o/\H b=none
 bsz:base.objs.size<=s.heap.objs.size
 funs:s.heap.FunFrames base outer
 frf:∀b∈frs outer,H b=none
 hok:HOk P w H s.heap
 bare:AllBare s.gens
noncomputable def CE(outer:List Env)(P:Program)(w:World)(H:Hp)(s:Shared)(Q:VK)(u:Value)(s':Shared):Prop:=
 ∃v H',s'.os=s.os/\AllBare s'.gens/\Un (frs outer) [] H H' s.heap s'.heap/\HOk P w H' s'.heap/\RelV v u/\Q v H'
noncomputable def CR(CX:CXT)(outer:List Env)(P:Program)(w:World)(H:Hp)(s:Shared)(Q:VK)(E:XK)(r:Result)(s':Shared):Prop:=
 match r with
 |.ok (.ret u)=>CE outer P w H s Q u s'
 |.ok _=>False
 |.error e=>CX outer H s E e s'
structure FnOk (P:Program)(w:World)(K:PySem.W.Frag)(mg:Str->Option Value)(base:Heap)(CX:CXT)(k:Nat)(f:Addr)(fd:FuncData)(ps:List Str)(sp:Sp):Prop where
 len:∀vs H Q E,sp vs H Q E->vs.length=ps.length
 run:∀(A:Around)(outer:List Env)(s:Shared)(H:Hp)(args:Args)(us:List Value)(vs:List V)(Q:VK)(E:XK),Room k A->Env0 P w K mg base A outer s H->BindsTo s fd args (ps.zip us)->Vals vs us->sp vs H Q E->
  codeAny (model P w) A (.call (.ref f) args) (CR CX outer P w H s Q E) s
theorem Env0.make{K:PySem.W.Frag}{A:Around}(e:Env0 P w K mg base A outer s H)(C:Addr)(us:List Value)(kw:List (Str×Value)) :
  Env0 P w K mg base (A.under (.builtin "type.__call__" ⟨.ref C::us,kw⟩)) outer s H:=⟨by first|exact e.frames|(simpa [Around.under,Code.envs,Code.isFrame,pushEnvs] using e.frames),e.mod,e.bs,e.bsz,e.funs,e.frf,e.hok,e.bare⟩
section
variable {X:Cx}{s:Shared}
theorem Inv.env0(I:Inv X pins σ H s):Env0 X.prog X.w X.K X.mg X.base X.A X.stack s H:=
 ⟨I.ok.frames,I.ok.mod,I.bs,Nat.le_trans I.ok.bsz I.sz,I.stack,I.stkFree,I.hok,I.bare⟩
theorem Inv.after(I:Inv X pins σ H s)(h:CE X.stack X.prog X.w H s Q u s'):EP X pins σ Q u s':=by
 obtain⟨v,H',os,bare,un,hok,r,q⟩:=h;obtain⟨hh,g,d,t,os'⟩:=s';obtain rfl:os'=s.os:=os;exact⟨v,H',I.call (h':=hh) (g':=g) (d':=d) (t':=t) (ch:=[]) un hok bare (fun b z=>absurd z (by simp)),r,q⟩
end
noncomputable def Binds(K:PySem.W.Frag)(fd:FuncData)(ps:List Str)(ds:List Value):Prop:=
 ∀(s:Shared)(us:List Value),K.In s.heap->(us++ds).length=ps.length->BindsTo s fd ⟨us,[]⟩ (ps.zip (us++ds))
theorem Binds.all{K:PySem.W.Frag}{ps:List Str}(h:∀us:List Value,us.length=ps.length->bindArgs fd ⟨us,[]⟩=pure (ps.zip us)):Binds K fd ps []:=fun s us _ hl=>by
 rw[List.append_nil]at hl ⊢;exact .of_eq (h us hl)
noncomputable def wX(CX:CXT)(X:Cx)(E:XK):Prop:=∀(pins:List (Addr×Obj)) (σ:St)(H:Hp)(s:Shared)(e:Value)(s':Shared),Inv X pins σ H s->CX X.stack H s E e s'->X.xe e s'
section
variable {X:Cx}{k:Nat}{ps:List Str}{x:Str}{p pos apos:Pos}{o:Expr}
structure Mk (K:PySem.W.Frag)(C f:Addr):Prop where
 makes:PySem.W.makesIn K C=true
 init:PySem.W.findIn K (.ref C) "__init__"=some (some (.ref f))
 fn:PySem.W.isFn K (.ref f)=true
 kp:PySem.W.keepIn K (.ref C)=true
end
section
variable {X:Cx}{k:Nat}{ps ks:List Str}{x:Str}{p pos apos:Pos}{o:Expr}
end
structure FnScope (N P:List Str)(sc:Scope):Prop where
 kind:sc.kind=.function
 co:sc.isCoroutine=false
 gen:sc.isGenerator=false
 nd:N.Nodup
 pre:N.take P.length=P
 par:∀x∈P,sc.names.lookup x=some .local\/sc.names.lookup x=some .cell
 nofree:∀y∈sc.names,y.2≠.free
theorem jP{kindOf:Str->Option NameKind}{x:Str}:∀{binds:List (Str×Value)}{m:Str->Option Value},(∀v,(x,v)∉binds)->bindL kindOf binds m x=m x
 |[],_,_=>rfl
 |(n,v)::r,m,h=>by
  unfold bindL;rw[jP fun w hw=>h w (List.mem_cons_of_mem _ hw)]
  split
  ·have:x≠n:=by rintro rfl;exact h v List.mem_cons_self
   simp[this]
  ·rfl
theorem jL{kindOf:Str->Option NameKind}{x:Str}:∀{binds:List (Str×Value)}{m:Str->Option Value},(∀v,(x,v)∉binds)->bindC kindOf binds m x=m x
 |[],_,_=>rfl
 |(n,v)::r,m,h=>by
  unfold bindC;rw[jL fun w hw=>h w (List.mem_cons_of_mem _ hw)]
  split
  ·rfl
  ·have:x≠n:=by rintro rfl;exact h v List.mem_cons_self
   simp[this]
theorem jZ{kindOf:Str->Option NameKind}{x:Str}{v:Value}:∀{P:List Str}{vs:List Value}{i:Nat}{m:Str->Option Value},P.Nodup->P[i]?=some x->vs[i]?=some v->kindOf x=some .local->
  bindL kindOf (P.zip vs) m x=some v
 |[],_,_,_,_,h,_,_=>by simp at h
 |_::_,[],_,_,_,_,h,_=>by simp at h
 |p::P,w::vs,0,m,nd,h1,h2,hk=>by
  simp at h1 h2;subst h1;subst h2;show bindL kindOf ((p,w)::P.zip vs) m p=_;unfold bindL;rw[jP fun v hv=>(List.nodup_cons.mp nd).1 (List.of_mem_zip hv).1,if_pos hk]
  simp
 |p::P,w::vs,i+1,m,nd,h1,h2,hk=>by
  show bindL kindOf ((p,w)::P.zip vs) m x=_;unfold bindL;exact jZ (i:=i) (List.nodup_cons.mp nd).2 (by simpa using h1) (by simpa using h2) hk
theorem jJ{kindOf:Str->Option NameKind}{x:Str}{v:Value}:∀{P:List Str}{vs:List Value}{i:Nat}{m:Str->Option Value},P.Nodup->P[i]?=some x->vs[i]?=some v->kindOf x≠some .local->
  bindC kindOf (P.zip vs) m x=some v
 |[],_,_,_,_,h,_,_=>by simp at h
 |_::_,[],_,_,_,_,h,_=>by simp at h
 |p::P,w::vs,0,m,nd,h1,h2,hk=>by
  simp at h1 h2;subst h1;subst h2;show bindC kindOf ((p,w)::P.zip vs) m p=_;unfold bindC;rw[jL fun v hv=>(List.nodup_cons.mp nd).1 (List.of_mem_zip hv).1,if_neg hk]
  simp
 |p::P,w::vs,i+1,m,nd,h1,h2,hk=>by
  show bindC kindOf ((p,w)::P.zip vs) m x=_;unfold bindC;exact jJ (i:=i) (List.nodup_cons.mp nd).2 (by simpa using h1) (by simpa using h2) hk
noncomputable def eJ(N:List Str)(vs:List V):St:=vs.map some++List.replicate (N.length - vs.length) none
noncomputable def cT(CX:CXT)(P:Program)(w:World)(K:PySem.W.Frag)(mg:Str->Option Value)(base:Heap)(N:List Str)(qual:Str)(scope:Scope)(f:Addr)(cd:Value)(A:Around)(outer:List Env)(s:Shared)(H:Hp)(E:XK):Cx where
 prog:=P
 w:=w
 K:=K
 mg:=mg
 base:=base
 A:=A.deeper (envOfC qual scope s.heap.objs.size f cd)
 N:=N
 s₀:=s
 H₀:=H
 env:=envOfC qual scope s.heap.objs.size f cd
 outer:=outer
 stack:=envOfC qual scope s.heap.objs.size f cd::outer
 ex:=[]
 calm:=true
 fn:=fun _=>true
 pn:=[]
 xe:=fun e s'=>wpAny (model P w) (A.deeper (envOfC qual scope s.heap.objs.size f cd)) (leaving (envOfC qual scope s.heap.objs.size f cd) e) (fun _ s''=>CX outer H s E e s'') (fun e' s''=>CX outer H s E e' s'') s'
theorem lR{sc:Scope}(h:sc.names.lookup x=some .cell):∃c,(cellsFrom n sc.names []).lookup x=some c:=by
 have q:=PySem.W.cellsFrom_some sc.names n [] (.inl h);exact Option.isSome_iff_exists.mp q
theorem pB{K:PySem.W.Frag}{ps:List Str}{scope:Scope}{A:Around}{s:Shared}{vs:List V}
  (S:FnScope N ps scope) (hd:A.handled=none) (e0:Env0 P w K mg base A outer s H) (hl:vs.length=ps.length) (r:Vals vs us)
  (x:InCallC s s.heap.objs.size (bindL (envOfC qual scope s.heap.objs.size f cd).kindOf (ps.zip us) fun _=>none) (cellsFrom (s.heap.objs.size+1) scope.names []) (bindC (envOfC qual scope s.heap.objs.size f cd).kindOf (ps.zip us) fun _=>none) s1) :
  Inv (cT CX P w K mg base N qual scope f cd A outer s H E) [] (eJ N vs) H s1:=by
 have hpl:ps.length<=N.length:=by have:=congrArg List.length S.pre;rw[List.length_take]at this;omega
 obtain⟨h1,tk,rfl,hk⟩:=x.done;have noA:∀b:Addr,b∉(cT CX P w K mg base N qual scope f cd A outer s H E).ex:=fun b z=>absurd (show b∈([]:List Addr) from z) (by simp)
 refine⟨⟨e0.mod,S.kind,rfl,rfl,Nat.le_refl _,fun y z c h1 h2=>?_,fun y hy=>?_,fun y c _ h=>?_,fun _=>hd,Around.frames_deeper e0.frames,.inr ⟨rfl,rfl⟩,fun b z=>absurd z (noA b),e0.bs,e0.bsz,fun b _ _=>noA b,fun b z=>absurd z (noA b),e0.funs,e0.frf⟩,
  rfl,e0.bare,Un.kept hk,⟨_,x.toInCall.ns,fun i y v h1 h2 h3=>?_⟩,fun y c h=>⟨_,x.cell y c h⟩,e0.hok.fresh (Nat.le_refl _),fun y c h=>?_,fun p hp=>absurd (show p∈([]:List (Addr×Obj)) from hp) (by simp),e0.hok.kept hk,?_⟩
 ·exact name_of_addr x.apart (PySem.mem_of_lookup h1) (PySem.mem_of_lookup h2)
 ·have hy:scope.names.lookup y=some .cell\/scope.names.lookup y=some .free:=hy;rcases hy with hy|hy
  ·exact lR hy
  ·exact absurd rfl (S.nofree _ (PySem.mem_of_lookup hy))
 ·exact Nat.le_of_lt (x.above y c (PySem.mem_of_lookup h))
 ·have hi:i < vs.length:=by
   unfold eJ at h2;by_cases hi:i < vs.length
   ·exact hi
   ·rw[List.getElem?_append_right (by simpa using hi)]at h2
    rw[List.getElem?_replicate]at h2;split at h2<;>cases h2
  have ha:vs[i]?=some v:=by
   unfold eJ at h2;rw[List.getElem?_append_left (by simpa using hi),List.getElem?_map]at h2
   cases e:vs[i]? with
   |none=>rw[e]at h2;cases h2
   |some a=>rw[e]at h2;cases h2;rfl
  obtain⟨u,hu,rv⟩:=r.get ha;have hp:ps[i]?=some y:=by
   rw[<-S.pre,List.getElem?_take_of_lt (by omega)];exact h1
  have ndP:ps.Nodup:=by rw[<-S.pre];exact S.nd.sublist (List.take_sublist _ _)
  refine⟨u,rv,?_⟩;rcases S.par y (List.mem_of_getElem? hp) with k|k
  ·exact .inl ⟨k,jZ ndP hp hu k⟩
  ·obtain⟨c,e⟩:=lR (n:=s.heap.objs.size+1) k;refine .inr ⟨.inl k,c,e,?_⟩;have q:=x.cell y c e;rw[jJ ndP hp hu (by show scope.names.lookup y≠_;rw[k];decide)]at q
   exact q
 ·exact e0.hok.fresh (Nat.le_of_lt (x.above y c (PySem.mem_of_lookup h)))
 ·unfold eJ;show _=N.length;rw[List.length_append,List.length_map,List.length_replicate];omega
theorem Bp{CX:CXT}{P:Program}{w:World}{K:PySem.W.Frag}{mg:Str->Option Value}{base:Heap}{k:Nat}{f:Addr}{name qual:Str}{params:Arguments}{body:List Stmt}{scope:Scope}{dV kV doc pm cdv ct oc:Value}{an od:Option Addr}
  {osl:Array (Option Value)}{N ps:List Str}{sp:Sp} (lk:K.lookup f=some ⟨oc,od,.func (PySem.W.fnOf name qual params body scope dV kV doc pm an cdv ct),osl⟩) (hcd:PySem.W.codeIn K cdv qual=true) (S:FnScope N ps scope)
  (len:∀vs H Q E,sp vs H Q E->vs.length=ps.length)
  (hbody:∀(A:Around)(outer:List Env)(s:Shared)(H:Hp)(vs:List V)(Q:VK)(E:XK),Room k (A.deeper (envOfC qual scope s.heap.objs.size f cdv))->sp vs H Q E->
   ∃t,PSs (cT CX P w K mg base N qual scope f cdv A outer s H E) body t/\t {nx:=fun _ H'=>Q .non H',rt:=Q} (eJ N vs) H) :
  FnOk P w K mg base CX (k+1) f (PySem.W.fnOf name qual params body scope dV kV doc pm an cdv ct) ps sp:=by
 refine⟨len,fun A outer s H args us vs Q E hr e0 hb r hsp=>?_⟩
 have hl:=len _ _ _ _ hsp;have KX:K.In s.heap:=e0.mod.kin.keeps fun b o e=>(e0.bs b o e).1
 have lim:s.heap.NoLimit:=e0.mod.nolimit.keeps fun b o e=>(e0.bs b o e).1
 have hkind:∀y∈ps.zip us,scope.names.lookup y.1=some .local\/(scope.names.lookup y.1=some .cell/\((cellsFrom (s.heap.objs.size+1) scope.names []).lookup y.1).isSome=true):=fun ⟨n,v⟩ hy=>by
  rcases S.par n (List.of_mem_zip hy).1 with q|q
  ·exact .inl q
  ·exact .inr ⟨q,PySem.W.cellsFrom_some _ _ _ (.inl q)⟩
 refine codeAny_call_function hr.depth (KX _ _ lk) rfl S.co S.gen rfl (PySem.W.codeRec_of KX hcd) (hb _ _ _ _ ?_);refine wpAny_newFunctionEnv_cells S.kind hkind fun env he s1 x=>?_
 subst he;refine⟨lim.keeps x.toInCall.keep,codeAny_func ?_⟩;obtain⟨t,ht,hq⟩:=hbody A outer s H vs Q E (hr.deeper _) hsp;have I:Inv (cT CX P w K mg base N qual scope f cdv A outer s H E) [] (eJ N vs) H s1:=pB S hr.hd e0 hl r x;refine wpAny_mono (ht [] s1 (eJ N vs) H _ I hq) (fun fl s' hs=>?_) fun e s' hs=>hs
 have fin:∀{σ':St}{H':Hp}{v:V}{u:Value},Inv (cT CX P w K mg base N qual scope f cdv A outer s H E) [] σ' H' s'->RelV v u->Q v H'->CE outer P w H s Q u s':=
  fun {σ' H' v u} J rv q=>⟨v,H',J.os,J.bare,J.base,J.hok,rv,q⟩
 cases fl with
 |ret u=>
  obtain⟨v,σ',H',J,rv,q⟩:=hs;exact fin J rv q
 |next=>
  obtain⟨σ',H',J,q⟩:=hs;exact fin (v:=V.non) (u:=Value.none) J rfl q
 |brk=>
  obtain⟨_,_,_,q⟩:=hs;exact False.elim q
 |cont=>
  obtain⟨_,_,_,q⟩:=hs;exact False.elim q
end L2
namespace L2
open PySem PySem.Spec PyProof.Rows
section
variable {X:Cx}{x:Str}{p pos:Pos}{id:String}
noncomputable def tCB(r:List V->Hp->VK->Prop)(t:TA):TE:=fun σ H Q=>t σ H fun vs H1=>r vs H1 Q
theorem iN(hc:CallR X (.builtin id) r)(hg:Gl X x)(hm:X.mg x=none)(hv:bootBuiltins x=some (.builtin id))(ha:PA X (e::es) t)(hn:x≠"__name__":=by decide)(hdb:(x == ("__debug__" : Str))=false:=by decide)
  (he:starEach (e::es) X.env=(false,eval e X.env)::starEach es X.env:=by rfl) (hpl:(backTo pos (starEach es X.env)).any (·.1)=false:=by rfl):PE X (.Call (.Name x p) (e::es) [] pos) (tCB r t):=by
 intro pins s σ H Q I h;refine wpAny_Call_Name_kw (gw I hg hm hv ?_ hn hdb);exact PyProof.Rows.callWith_builtin1 (thn (ha pos pins s σ H _ I h) fun us s1 ⟨vs,H1,I1,r1,q1⟩=>hc pins s1 σ H1 vs us Q I1 r1 q1) he hpl
theorem pS(hc:CallR X (.type T) r)(hg:Gl X x)(hm:X.mg x=none)(hv:bootBuiltins x=some (.type T))(ha:PA X (e::es) t)(hn:x≠"__name__":=by decide)(hdb:(x == ("__debug__" : Str))=false:=by decide)
  (he:starEach (e::es) X.env=(false,eval e X.env)::starEach es X.env:=by rfl) (hpl:(backTo pos (starEach es X.env)).any (·.1)=false:=by rfl):PE X (.Call (.Name x p) (e::es) [] pos) (tCB r t):=by
 intro pins s σ H Q I h;refine wpAny_Call_Name_kw (gw I hg hm hv ?_ hn hdb);exact PyProof.Rows.callWith_type1 (thn (ha pos pins s σ H _ I h) fun us s1 ⟨vs,H1,I1,r1,q1⟩=>hc pins s1 σ H1 vs us Q I1 r1 q1) he hpl
end
end L2
namespace L2
open PySem PySem.Spec PyProof.Rows
section
variable [DecidableEq κ]
noncomputable def cA(kvs:List (κ×V))(k:κ):Option V:=(kvs.find? fun kv=>decide (kv.1=k)).map (·.2)
noncomputable def cQ(kvs:List (κ×V))(k:κ)(v:V):List (κ×V):=
 if (kvs.any fun kv=>decide (kv.1=k))=true then kvs.map (fun kv=>if kv.1=k then (kv.1,v) else kv) else kvs++[(k,v)]
theorem dW{p:κ×V}(e:p.1=k):cA (p::r) k=some p.2:=by simp[cA,List.find?_cons,e]
theorem cW{p:κ×V}(e:¬ p.1=k):cA (p::r) k=cA r k:=by simp[cA,List.find?_cons,e]
theorem lO(k:κ):∀kvs:List (κ×V),(kvs.any fun kv=>decide (kv.1=k))=(cA kvs k).isSome
 |[]=>rfl
 |p::r=>by
  rw[List.any_cons];by_cases e:p.1=k
  ·simp only[dW e,decide_eq_true e,Bool.true_or,Option.isSome_some]
  ·rw[cW e,decide_eq_false e,Bool.false_or];exact lO k r
theorem dO(kvs:List (κ×V))(k:κ)(v:V):(cQ kvs k v).length<=kvs.length+1:=by
 unfold cQ;split
 ·rw[List.length_map];omega
 ·rw[List.length_append,List.length_cons,List.length_nil];omega
theorem RelO.isSome_eq{o:Option V}{u:Option Value}(r:RelO o u):o.isSome=u.isSome:=by
 cases o with
 |none=>cases u with
  |none=>rfl
  |some _=>exact (show False from r).elim
 |some _=>cases u with
  |none=>exact (show False from r).elim
  |some _=>rfl
theorem RelO.getD{o:Option V}{u:Option Value}(r:RelO o u)(rd:RelV d d'):RelV (o.getD d) (u.getD d'):=by
 cases o with
 |none=>cases u with
  |none=>exact rd
  |some _=>exact (show False from r).elim
 |some _=>cases u with
  |none=>exact (show False from r).elim
  |some _=>exact r
theorem KV.val(r:KV kvs vs)(k:κ):RelO (cA kvs k) (valueAt vs k):=by
 unfold KV at r
 induction r with
 |nil=>exact True.intro
 |@cons p q ps qs h t ih=>
  obtain⟨h1,h2⟩:=h;by_cases e:p.1=k
  ·have e':q.1=k:=h1.symm.trans e;have b:valueAt (q::qs) k=some q.2:=by simp[valueAt,List.find?_cons,e']
   rw[dW e,b];exact h2
  ·have e':¬ q.1=k:=fun z=>e (h1.trans z)
   have b:valueAt (q::qs) k=valueAt qs k:=by simp[valueAt,List.find?_cons,e']
   rw[cW e,b];exact ih
theorem KV.any{kvs:List (κ×V)}{vs:List (κ×Value)}(r:KV kvs vs)(k:κ):(kvs.any fun kv=>decide (kv.1=k))=vs.any fun kv=>decide (kv.1=k):=by
 unfold KV at r
 induction r with
 |nil=>rfl
 |cons h t ih=>rw[List.any_cons,List.any_cons,ih,h.1]
theorem KV.repl{kvs:List (κ×V)}{vs:List (κ×Value)}(r:KV kvs vs)(k:κ)(ry:RelV y u) :
  KV (kvs.map fun kv=>if kv.1=k then (kv.1,y) else kv) (vs.map fun kv=>if kv.1=k then (kv.1,u) else kv):=by
 unfold KV at r ⊢
 induction r with
 |nil=>exact .nil
 |@cons p q ps qs h t ih=>
  rw[List.map_cons,List.map_cons];refine .cons ?_ ih;obtain⟨h1,h2⟩:=h;by_cases e:p.1=k
  ·rw[if_pos e,if_pos (h1.symm.trans e)];exact⟨h1,ry⟩
  ·rw[if_neg e,if_neg (fun z=>e (h1.trans z))];exact⟨h1,h2⟩
theorem KV.put(r:KV kvs vs)(k:κ)(ry:RelV y u):KV (cQ kvs k y) (stored vs k u):=by
 unfold cQ stored;rw[r.any k];by_cases e:(vs.any fun kv=>decide (kv.1=k))=true
 ·rw[if_pos e,if_pos e];exact r.repl k ry
 ·rw[if_neg e,if_neg e];exact Paired.snoc r ⟨rfl,ry⟩
theorem KV.keys{kvs:List (κ×V)}{vs:List (κ×Value)}(r:KV kvs vs):kvs.map (·.1)=vs.map (·.1):=by
 unfold KV at r
 induction r with
 |nil=>rfl
 |cons h t ih=>rw[List.map_cons,List.map_cons,ih,h.1]
theorem KV.length{kvs:List (κ×V)}{vs:List (κ×Value)}(r:KV kvs vs):kvs.length=vs.length:=Paired.length r
end
theorem gC(r:RelV (kV k) u):(aE P w).is k u=true:=by
 cases k with
 |inl i=>obtain⟨t,e⟩:=(show ∃t,u=Value.int i t from r);subst e;exact lV P w i t
 |inr x=>obtain⟨t,e⟩:=(show ∃t,u=Value.str x t from r);subst e;exact lz P w x t
theorem kn:∀{ks:List Key}{us:List Value},Vals (ks.map kV) us->ItemsAre (aE P w) ks us
 |[],_,r=>by rw[List.map_nil]at r;cases r;exact .nil
 |k::ks,_,r=>by
  rw[List.map_cons]at r;cases r with
  |cons h t=>exact .cons (gC h) (kn t)
noncomputable abbrev KT(H:Hp):List (List Key×V)->List (List Key×Addr×Value)->Prop:=Paired fun p q=>p.1=q.1/\H q.2.1=some (.tup (p.1.map kV))/\RelV p.2 q.2.2
theorem KT.val(r:KT H kvs xs)(k:List Key):RelO (cA kvs k) ((atKey xs k).map (·.2)):=by
 induction r with
 |nil=>exact True.intro
 |@cons p q ps qs h t ih=>
  obtain⟨h1,_,h2⟩:=h;by_cases e:p.1=k
  ·have e':q.1=k:=h1.symm.trans e;have b:atKey (q::qs) k=some q.2:=by simp[atKey,List.find?_cons,e']
   rw[dW e,b];exact h2
  ·have e':¬ q.1=k:=fun z=>e (h1.trans z)
   have b:atKey (q::qs) k=atKey qs k:=by simp[atKey,List.find?_cons,e']
   rw[cW e,b];exact ih
theorem KT.repl{kvs:List (List Key×V)}{xs:List (List Key×Addr×Value)}(r:KT H kvs xs)(k:List Key)(ry:RelV y u) :
  KT H (kvs.map fun kv=>if kv.1=k then (kv.1,y) else kv) (xs.map (putAt k u)):=by
 induction r with
 |nil=>exact .nil
 |@cons p q ps qs h t ih=>
  rw[List.map_cons,List.map_cons];refine .cons ?_ ih;obtain⟨h1,h2,h3⟩:=h;unfold putAt;by_cases e:p.1=k
  ·rw[if_pos e,if_pos (h1.symm.trans e)];exact⟨h1,h2,ry⟩
  ·rw[if_neg e,if_neg (fun z=>e (h1.trans z))];exact⟨h1,h2,h3⟩
theorem KT.put(r:KT H kvs xs)(k:List Key)(hb:H b=some (.tup (k.map kV)))(ry:RelV y u) :
  KT H (cQ kvs k y) (storedH xs k b u):=by
 have e:(kvs.any fun kv=>decide (kv.1=k))=(atKey xs k).isSome:=by
  rw[lO,(r.val k).isSome_eq,Option.isSome_map]
 unfold cQ storedH;rw[e];by_cases q:(atKey xs k).isSome=true
 ·rw[if_pos q,if_pos q];exact r.repl k ry
 ·rw[if_neg q,if_neg q];exact Paired.snoc r ⟨rfl,hb,ry⟩
theorem KT.keeps(r:KT H kvs xs)(ht:∀b ys,H b=some (.tup ys)->H' b=some (.tup ys)):KT H' kvs xs:=
 Paired.mapP r fun _ _ z=>⟨z.1,ht _ _ z.2.1,z.2.2⟩
section
variable {w:World}{h:Heap}{a:Addr}
theorem u9(ok:HOk P w H h)(e:Rd H a u):ObjOk P w H h a u:=e.ok ok
theorem gG{kvs:List (Key×V)}(ok:HOk P w H h)(e:Rd H a (.dK kvs)):kvs.length<=sizeLine/\(a == sysModules)=false/\∃vs,KV kvs vs/\h.DictOf (aE P w) a vs:=
 show ObjOk P w H h a (.dK kvs) from u9 ok e
theorem qS{kvs:List (Key×V)}(ok:HOk P w H h)(e:H a=some (.dK kvs)):kvs.length<=sizeLine/\(a == sysModules)=false/\∃vs,KV kvs vs/\h.DictOf (aE P w) a vs:=gG ok (.inl e)
theorem fc{ks:List Key}(ok:HOk P w H h)(e:H a=some (.tup (ks.map kV))):(tupleKind (aE P w)).is h ks a:=by
 obtain⟨_,its,r,o,h1,h2,n,h3⟩:=(show ObjOk P w H h a (.tup (ks.map kV)) from ok a _ e);exact⟨o,its.toArray,n,h1,h2,h3,by simpa using kn r⟩
theorem jY{kvs:List (List Key×V)}(ok:HOk P w H h)(e:Rd H a (.dT kvs)):kvs.length<=sizeLine/\(a == sysModules)=false/\
  ∃xs,KT H kvs xs/\h.DictOfH (tupleKind (aE P w)) a xs:=by
 obtain⟨z,y,xs,r,o,es,ep,h1,h2,h3,h4,h5⟩:=(show ObjOk P w H h a (.dT kvs) from u9 ok e);refine⟨z,y,xs,r,o,es,ep,h1,h2,h3,h4,fun x hx=>?_,h5⟩
 have all:∀{l:List (List Key×V)}{m:List (List Key×Addr×Value)},KT H l m->∀x∈m,(tupleKind (aE P w)).is h x.1 x.2.1:=by
  intro l m q
  induction q with
  |nil=>intro x hx;exact nomatch hx
  |@cons p q ps qs hq t ih=>
   intro x hx;rcases List.mem_cons.mp hx with e|hx
   ·subst e;exact fc ok (by rw[<-hq.1];exact hq.2.1)
   ·exact ih x hx
 exact all r x hx
theorem B5{kvs:List (List Key×V)}(ok:HOk P w H h)(e:H a=some (.dT kvs)):kvs.length<=sizeLine/\(a == sysModules)=false/\
  ∃xs,KT H kvs xs/\h.DictOfH (tupleKind (aE P w)) a xs:=jY ok (.inl e)
end
noncomputable def DGet(H:Hp)(a:Addr)(y:V)(r:Option V):Prop:=
 (∃kvs k,Rd H a (.dK kvs)/\y=kV k/\r=cA kvs k)\/∃kvs k b,Rd H a (.dT kvs)/\y=.ref b/\H b=some (.tup (k.map kV))/\r=cA kvs k
noncomputable def DPut(H:Hp)(a:Addr)(y v:V)(H':Hp):Prop:=
 (∃kvs k,H a=some (.dK kvs)/\y=kV k/\kvs.length < sizeLine/\H'=upd H a (.dK (cQ kvs k v)))\/
 ∃kvs k b,H a=some (.dT kvs)/\y=.ref b/\H b=some (.tup (k.map kV))/\kvs.length < sizeLine/\H'=upd H a (.dT (cQ kvs k v))
theorem DGet.k{H:Hp}{a:Addr}{kvs:List (Key×V)}{k:Key}(e:H a=some (.dK kvs)):DGet H a (kV k) (cA kvs k):=.inl ⟨kvs,k,.inl e,rfl,rfl⟩
theorem DGet.t{H:Hp}{a b:Addr}{kvs:List (List Key×V)}{k:List Key}(e:H a=some (.dT kvs))(eb:H b=some (.tup (k.map kV))):DGet H a (.ref b) (cA kvs k):=.inr ⟨kvs,k,b,.inl e,rfl,eb,rfl⟩
theorem DPut.k{H:Hp}{a:Addr}{kvs:List (Key×V)}{k:Key}{v:V}(e:H a=some (.dK kvs))(hl:kvs.length < sizeLine):DPut H a (kV k) v (upd H a (.dK (cQ kvs k v))):=.inl ⟨kvs,k,e,rfl,hl,rfl⟩
theorem DPut.t{H:Hp}{a b:Addr}{kvs:List (List Key×V)}{k:List Key}{v:V}(e:H a=some (.dT kvs))(eb:H b=some (.tup (k.map kV)))(hl:kvs.length < sizeLine) :
  DPut H a (.ref b) v (upd H a (.dT (cQ kvs k v))):=.inr ⟨kvs,k,b,e,rfl,eb,hl,rfl⟩
section
variable {X:Cx}{s:Shared}{a:Addr}{y:V}{o:Option V}{A:Around}
theorem oX(hu:A.units+1 < cLine)(I:Inv X pins σ H s)(g:DGet H a y (some v))(ry:RelV y u)(h:∀w' s',Inv X pins σ H s'->RelV v w'->Q w' s') :
  wpAny (model X.prog X.w) A (getItem (.ref a) u) Q E s:=by
 rcases g with ⟨kvs,k,e,ey,l⟩|⟨kvs,k,b,e,ey,eb,l⟩
 ·subst ey;obtain⟨z,hd,vs,rel,dd⟩:=gG I.hok e;obtain⟨w',hw,rw'⟩:=RelO.some_of (v:=v) (o:=valueAt vs k) (by rw[l];exact rel.val k)
  exact wpAny_getItem_of (gC ry) dd.mapOf hw (h w' _ (I.tok _) rw')
 ·subst ey;cases (show u=Value.ref b from ry);obtain⟨z,hd,xs,rel,dd⟩:=jY I.hok e;obtain⟨w',hw,rw'⟩:=RelO.some_of (v:=v) (o:=(atKey xs k).map (·.2)) (by rw[l];exact rel.val k)
  obtain⟨p,hp,hp2⟩:=Option.map_eq_some_iff.mp hw;refine wpAny_getItem_heap (tupleKind_room_in1 hu) (fc I.hok eb) dd hp ?_;rw[hp2];exact h w' _ (I.tok _) rw'
theorem E7(hu:A.units+1 < cLine)(I:Inv X pins σ H s)(g:DGet H a y o)(ry:RelV y u)(h:∀s',Inv X pins σ H s'->Q (.bool o.isSome) s') :
  wpAny (model X.prog X.w) A (compareOp .In u (.ref a)) Q E s:=by
 rcases g with ⟨kvs,k,e,ey,l⟩|⟨kvs,k,b,e,ey,eb,l⟩
 ·subst ey;obtain⟨z,hd,vs,rel,dd⟩:=gG I.hok e;refine wpAny_in_of (gC ry) hd dd.mapOf ?_;rw[<-(rel.val k).isSome_eq,<-l];exact h _ (I.tok _)
 ·subst ey;cases (show u=Value.ref b from ry);obtain⟨z,hd,xs,rel,dd⟩:=jY I.hok e;refine wpAny_in_heap (tupleKind_room_in1 hu) (fc I.hok eb) hd dd ?_;have q:=(rel.val k).isSome_eq;rw[Option.isSome_map]at q;rw[<-q,<-l];exact h _ (I.tok _)
theorem uo(hu:A.units+1 < cLine)(I:Inv X pins σ H s)(g:DGet H a y o)(ry:RelV y u)(h:∀s',Inv X pins σ H s'->Q (.bool (!o.isSome)) s') :
  wpAny (model X.prog X.w) A (compareOp .NotIn u (.ref a)) Q E s:=by
 rcases g with ⟨kvs,k,e,ey,l⟩|⟨kvs,k,b,e,ey,eb,l⟩
 ·subst ey;obtain⟨z,hd,vs,rel,dd⟩:=gG I.hok e;refine wpAny_notIn_of (gC ry) hd dd.mapOf ?_;rw[<-(rel.val k).isSome_eq,<-l];exact h _ (I.tok _)
 ·subst ey;cases (show u=Value.ref b from ry);obtain⟨z,hd,xs,rel,dd⟩:=jY I.hok e;refine wpAny_notIn_heap (tupleKind_room_in1 hu) (fc I.hok eb) hd dd ?_;have q:=(rel.val k).isSome_eq;rw[Option.isSome_map]at q;rw[<-q,<-l];exact h _ (I.tok _)
theorem gY{h':Heap}(I:Inv X pins σ H s)(mu:Mut (H a))(hs:Heap.SameBut a s.heap h')(he:∃q,h'.get? a=some q)(new:ObjOk X.prog X.w (upd H a ob) h' a ob) :
  Inv X pins σ (upd H a ob) {s with heap:=h',toks:=t'}:=
 I.write (x:=a) (e:=a) mu (.inl rfl) (fun b q hb z=>(hs.2 b hb).trans z) he new
theorem rR{h':Heap}{kvs:List (Key×V)}(z:kvs.length<=sizeLine)(hd:(a == sysModules)=false)(rel:KV kvs vs)(dd:h'.DictOf (aE P w) a vs) :
  ObjOk P w H' h' a (.dK kvs):=⟨z,hd,vs,rel,dd⟩
theorem pe(hu:A.units+1 < cLine)(I:Inv X pins σ H s)(g:DPut H a y v H')(ry:RelV y u)(rv:RelV v r)(h:∀s',Inv X pins σ H' s'->Q () s') :
  wpAny (model X.prog X.w) A (setItem (.ref a) u r) Q E s:=by
 rcases g with ⟨kvs,k,e,ey,l,eH⟩|⟨kvs,k,b,e,ey,eb,l,eH⟩
 ·subst ey eH;obtain⟨z,hd,vs,rel,dd⟩:=qS I.hok e;have hz:vs.length<=sizeLine:=by rw[<-rel.length];exact z
  have hl:(cQ kvs k v).length<=sizeLine:=by have:=dO kvs k v;omega
  refine wpAny_setItem_pairs (hsz:=hz) (gC ry) dd fun h' dd' hs=>h _ ?_
  have he:∃q,h'.get? a=some q:=let ⟨q,_,_,hq,_⟩:=dd';⟨q,hq⟩
  exact gY I (by rw[e];exact True.intro) hs he (rR hl hd (rel.put k rv) dd')
 ·subst ey eH;cases (show u=Value.ref b from ry);obtain⟨z,hd,xs,rel,dd⟩:=B5 I.hok e;have hz:xs.length<=sizeLine:=by rw[<-Paired.length rel];exact z
  have hl:(cQ kvs k v).length<=sizeLine:=by have:=dO kvs k v;omega
  refine wpAny_setItem_heap (hsz:=hz) (tupleKind_room_in1 hu) (fc I.hok eb) dd fun h' dd' hs=>h _ ?_
  obtain⟨q,es,ep,hq,h2,h3,h4,_,h5⟩:=dd';refine gY I (by rw[e];exact True.intro) hs ⟨q,hq⟩ ⟨hl,hd,_,(rel.put k eb rv).keeps fun c ys ec=>?_,q,es,ep,hq,h2,h3,h4,h5⟩
  rw[ag (c4 ec e (fun z=>nomatch z))]
  exact ec
end
section
variable {X:Cx}{s:Shared}{a:Addr}{kvs:List (Key×V)}{A:Around}
end
section
variable {X:Cx}{o:Expr}{pos:Pos}
end
section
variable {X:Cx}
end
structure M1 (X:Cx)(o:Expr)(m:Str)(apos:Pos)(e:Expr)(cpos:Pos):Prop where
 base:attributeBase o m X.env (eval o X.env)=eval o X.env
 few:((backTo cpos (starEach [e] X.env)).all (fun x=>!x.1)&&(backToKw cpos (keywordEach [] X.env)).all (fun x=>x.1.isSome)
  &&decide (([e]:List Expr).length+([]:List Keyword).length+(if ([]:List Keyword).isEmpty then 0 else 1) < 30))=true
 line:(apos.endLine == cpos.line)=true
 trees:backTo cpos (starEach [e] X.env)=[(false,eval e X.env)]
structure M2 (X:Cx)(o:Expr)(m:Str)(apos:Pos)(e f:Expr)(cpos:Pos):Prop where
 base:attributeBase o m X.env (eval o X.env)=eval o X.env
 few:((backTo cpos (starEach [e,f] X.env)).all (fun x=>!x.1)&&(backToKw cpos (keywordEach [] X.env)).all (fun x=>x.1.isSome)
  &&decide (([e,f]:List Expr).length+([]:List Keyword).length+(if ([]:List Keyword).isEmpty then 0 else 1) < 30))=true
 line:(apos.endLine == cpos.line)=true
 trees:backTo cpos (starEach [e,f] X.env)=[(false,eval e X.env),(false,eval f X.env)]
section
variable {X:Cx}{s:Shared}{a:Addr}{y d:V}{o:Option V}{A:Around}
theorem zI(hu:A.units+1 < cLine)(I:Inv X pins σ H s)(g:DGet H a y o)(ry:RelV y u)(h:∀w' s',Inv X pins σ H s'->RelV (o.getD .non) w'->Q w' s') :
  wpAny (model X.prog X.w) A (call (.builtin "dict.get") [.ref a,u]) Q E s:=by
 rcases g with ⟨kvs,k,e,ey,l⟩|⟨kvs,k,b,e,ey,eb,l⟩
 ·subst ey;obtain⟨z,hd,vs,rel,dd⟩:=gG I.hok e;refine call_meetsIn PySem.F.slot_dict_get dd.typeIs PySem.F.entry_dict_get (PySem.F.args_dict_get_2 _ _) (meets_dict_get (aE X.prog X.w) a (gC ry) hd) ⟨_,dd.mapOf,h _ _ (I.tok _) ?_⟩;rw[l];exact (rel.val k).getD rfl
 ·subst ey;cases (show u=Value.ref b from ry);obtain⟨z,hd,xs,rel,dd⟩:=jY I.hok e;refine call_meetsIn PySem.F.slot_dict_get dd.typeIs PySem.F.entry_dict_get (PySem.F.args_dict_get_2 _ _) (meetsH_dict_get (tupleKind (aE X.prog X.w)) a b hd) ⟨tupleKind_room_in1 hu,k,xs,fc I.hok eb,dd,h _ _ (I.tok _) ?_⟩;rw[l];exact (rel.val k).getD rfl
theorem yR(hu:A.units+1 < cLine)(I:Inv X pins σ H s)(g:DGet H a y o)(ry:RelV y u)(rd:RelV d r)(h:∀w' s',Inv X pins σ H s'->RelV (o.getD d) w'->Q w' s') :
  wpAny (model X.prog X.w) A (call (.builtin "dict.get") [.ref a,u,r]) Q E s:=by
 rcases g with ⟨kvs,k,e,ey,l⟩|⟨kvs,k,b,e,ey,eb,l⟩
 ·subst ey;obtain⟨z,hd,vs,rel,dd⟩:=gG I.hok e;refine call_meetsIn PySem.F.slot_dict_get dd.typeIs PySem.F.entry_dict_get (PySem.F.args_dict_get_3 _ _ _) (meets_dict_get_default (aE X.prog X.w) a (gC ry) hd r) ⟨_,dd.mapOf,h _ _ (I.tok _) ?_⟩;rw[l];exact (rel.val k).getD rd
 ·subst ey;cases (show u=Value.ref b from ry);obtain⟨z,hd,xs,rel,dd⟩:=jY I.hok e;refine call_meetsIn PySem.F.slot_dict_get dd.typeIs PySem.F.entry_dict_get (PySem.F.args_dict_get_3 _ _ _) (meetsH_dict_get_default (tupleKind (aE X.prog X.w)) a b hd r) ⟨tupleKind_room_in1 hu,k,xs,fc I.hok eb,dd,h _ _ (I.tok _) ?_⟩;rw[l];exact (rel.val k).getD rd
end
section
variable {X:Cx}{o:Expr}
end
section
variable {X:Cx}{s:Shared}{a:Addr}{kvs:List (Key×V)}{A:Around}
end
section
variable {X:Cx}{s:Shared}{a:Addr}{y:V}{A:Around}
end
end L2
namespace HT
open PySem PyProof.Rows
section
open PySem.SeqAt
open PySem.AutoSeq1 (wpAny_loadPart')
open PySem.MeetsSeq PySem.MeetsSeq2 PySem.MeetsSeq3
end
section
variable {w:World}{A:Around}{s:Shared}
theorem cat_tup{vs ws:List Value}(ht:IsTup s.heap t vs.toArray)(hb:IsTup s.heap b ws.toArray)(hv:vs≠[])
  (h1:ws=[]->Q (.ref t) s) (h2:ws≠[]->Q (.ref s.heap.objs.size) {s with heap:=s.heap.push {cls:=.type "tuple",data:=.seq (vs++ws).toArray}})
  (hsz:vs.length+ws.length<=sizeLine):wpAny (model prog w) A (binaryOp .Add (.ref t) (.ref b)) Q E s:=by
 obtain⟨⟨cls,dd,data,sl⟩,ho,hc,n,hd⟩:=id ht;obtain⟨⟨cls2,dd2,data2,sl2⟩,ho2,hc2,n2,hd2⟩:=id hb;simp only at hc hd hc2 hd2;subst hc hd hc2 hd2;have e:vs.toArray++ws.toArray=(vs++ws).toArray:=by simp
 by_cases hw:ws=[]
 ·exact concat_meets ⟨_,ho,rfl⟩ ⟨_,ho2,rfl⟩ noFill_tuple_add seq_tuple_add PySem.F.slot_tuple_add PySem.F.entry_tuple_add (PySem.F.args_tuple_add_2 _ _)
   (tuple_addW1 t b vs.toArray ws.toArray n n2 dd dd2 sl sl2 (by simpa using hv) (by simp[hw])) ⟨ho,ho2,h1 hw⟩
 ·refine concat_meets ⟨_,ho,rfl⟩ ⟨_,ho2,rfl⟩ noFill_tuple_add seq_tuple_add PySem.F.slot_tuple_add PySem.F.entry_tuple_add (PySem.F.args_tuple_add_2 _ _)
   (tuple_addW2 t b vs.toArray ws.toArray n n2 dd dd2 sl sl2 (by simpa using hv) (by simpa using hw) (by rw[List.size_toArray,List.size_toArray];exact hsz)) ⟨ho,ho2,?_⟩
  rw[e];exact h2 hw
noncomputable def sIx(n d:Nat):Option Int->Nat
 |none=>d
 |some v=>if v < 0 then (v+(n:Int)).toNat else min v.toNat n
theorem sIx_none(n d:Nat):sIx n d none=d:=rfl
theorem sIx_nat(n d k:Nat):sIx n d (some (k:Int))=min k n:=by
 show (if (k:Int) < 0 then ((k:Int)+(n:Int)).toNat else min (k:Int).toNat n)=min k n
 rw[if_neg (by omega),Int.toNat_natCast]
theorem zX(n d:Nat)(hd:d<=n)(o:Option Int):sIx n d o<=n:=by
 cases o with
 |none=>exact hd
 |some v=>
  show (if v < 0 then (v+(n:Int)).toNat else min v.toNat n)<=n
  by_cases hv:v < 0
  ·rw[if_pos hv];omega
  ·rw[if_neg hv];exact Nat.min_le_right _ _
theorem ou(v:Int)(n d:Nat):(if v < 0 then max (v+(n:Int)) 0 else min v (n:Int))=((sIx n d (some v):Nat):Int):=by
 show (if v < 0 then max (v+(n:Int)) 0 else min v (n:Int))=(((if v < 0 then (v+(n:Int)).toNat else min v.toNat n):Nat):Int)
 by_cases hv:v < 0
 ·simp only[if_pos hv];omega
 ·simp only[if_neg hv];omega
theorem nj(lo hi:Option Int)(n:Nat):Builtin.Slice.sliceAdjust lo hi 1 (n:Int)=(((sIx n 0 lo:Nat):Int),((sIx n n hi:Nat):Int)):=by
 have h1:¬ ((1:Int) < 0):=by omega
 unfold Builtin.Slice.sliceAdjust;simp only[h1,if_false];refine Prod.ext ?_ ?_
 ·cases lo with
  |none=>rfl
  |some v=>exact ou v n 0
 ·cases hi with
  |none=>rfl
  |some v=>exact ou v n n
theorem mN(i j:Nat):Builtin.Slice.slicePlaces (i:Int) (j:Int) 1=j - i:=by
 unfold Builtin.Slice.slicePlaces;have h1:(1:Int) > 0:=by omega
 simp only[h1,if_true,Int.ediv_one];split<;>omega
theorem ir(p:IsPart v o)(h:Q o s):wpAny (model prog w) A (Builtin.Slice.slicePartIndex v) Q E s:=by
 cases p with
 |none=>exact slicePart_none h
 |int i t=>exact slicePart_int h
theorem gq{sl:Addr}{vl vu:Value}{lo hi:Option Int}{n:Nat}{Q:Int×Int×Nat->Shared->Prop}(hs:s.heap.IsSliceOf sl vl vu .none)(pl:IsPart vl lo)(pu:IsPart vu hi)
  (h:Q (((sIx n 0 lo:Nat):Int),1,sIx n n hi - sIx n 0 lo) s):wpAny (model prog w) A (Builtin.Slice.sliceApplied (.ref sl) (pure (n:Int))) Q E s:=by
 obtain⟨os,hos,hcs,hds⟩:=id hs;unfold Builtin.Slice.sliceApplied Builtin.Slice.sliceFields;refine wpAny_bind (wpAny_bind (wpAny_field hos hds (x:=vl) rfl (wpAny_bind (wpAny_field hos hds (x:=vu) rfl (wpAny_bind (wpAny_field hos hds (x:=.none) rfl (wpAny_pure ?_)))))));refine wpAny_bind (slicePart_none ?_);show wpAny _ _ (if ((1:Int) == 0)=true then _ else _) _ _ s
 rw[if_neg (by decide)]
 refine wpAny_bind (ir pl (wpAny_bind (ir pu (wpAny_bind (wpAny_pure ?_)))));show wpAny _ _ (match Builtin.Slice.sliceAdjust lo hi 1 (n:Int) with|(lo,hi)=>pure (lo,(1:Int),Builtin.Slice.slicePlaces lo hi 1)) _ _ s
 rw[nj lo hi n];show wpAny _ _ (pure (((sIx n 0 lo:Nat):Int),(1:Int),Builtin.Slice.slicePlaces ((sIx n 0 lo:Nat):Int) ((sIx n n hi:Nat):Int) 1)) _ _ s;rw[mN];exact wpAny_pure h
theorem rP(xs:Array Value)(i k:Nat):((List.range k).filterMap fun (m:Nat)=>xs[((i:Int)+(m:Int) * 1).toNat]?).toArray=((xs.toList.drop i).take k).toArray:=by
 have e:(fun (m:Nat)=>xs[((i:Int)+(m:Int) * 1).toNat]?)=fun m=>xs[i+m]?:=by
  funext m;have:((i:Int)+(m:Int) * 1).toNat=i+m:=by omega
  rw[this]
 rw[e];have:=pick_run xs i k;rw[List.filterMap_map]at this;have e2:((fun x=>xs[x]?)∘fun x=>i+x)=fun m=>xs[i+m]?:=rfl
 rw[e2]at this;rw[this]
theorem getItem_tuple_cut{items:Array Value}{lo:Option Int}(ht:IsTup s.heap t items)(hs:s.heap.IsSliceOf sl vl vu .none)(pl:IsPart vl lo)(pu:IsPart vu hi)
  (hw:¬ (sIx items.size 0 lo=0/\sIx items.size items.size hi=items.size))
  (h:Q (.ref s.heap.objs.size) {s with heap:=s.heap.push {cls:=.type "tuple",data:=.seq ((items.toList.drop (sIx items.size 0 lo)).take (sIx items.size items.size hi - sIx items.size 0 lo)).toArray}})
  (hsz:items.size<=sizeLine):wpAny (model prog w) A (getItem (.ref t) (.ref sl)) Q E s:=by
 have htake:sizeOk (.seq ((items.toList.drop (sIx items.size 0 lo)).take (sIx items.size items.size hi - sIx items.size 0 lo)).toArray):=by
  show ((items.toList.drop (sIx items.size 0 lo)).take (sIx items.size items.size hi - sIx items.size 0 lo)).toArray.size<=sizeLine;rw[List.size_toArray,List.length_take,List.length_drop,Array.length_toList];omega
 have hj:sIx items.size items.size hi<=items.size:=zX _ _ (Nat.le_refl _) hi;obtain⟨os,hos,hcs,hds⟩:=id hs;have hTs:s.TypeIs (.ref sl) "slice":=⟨os,hos,hcs⟩;unfold getItem
 try with_reducible refine wpAny_holding ?_
 first|refine wpAny_bind (wpAny_pure ?_)|skip
 refine wpAny_bind (wpAny_sequenceKey ht.typeIs (by decide) ?_)
 refine wpAny_bind (wpAny_callSpecial?_slot (name:=Str.ofString "__getitem__") ht.typeIs PyProof.Rows.slot_tuple_getitem
  (wpAny_call_entry PyProof.Rows.slot_tuple_getitem ht.typeIs entry_tuple_getitem ?_ (args_tuple_getitem _ _)))
 show wpAny _ _ (Builtin.Tuple.tupleItemsOf (.ref t) >>=_) _ _ s;refine wpAny_bind (tupleItemsOf_ ht ?_);refine wpAny_bind (wpAny_typeOf hTs ?_);rw[if_pos (by decide)]
 refine wpAny_bind (gq hs pl pu ?_);have hno:¬ ((((sIx items.size 0 lo:Nat):Int) == 0&&(1:Int) == 1&&(sIx items.size items.size hi - sIx items.size 0 lo) == items.size)=true):=by
  intro q;rw[Bool.and_eq_true,Bool.and_eq_true]at q;have q1:((sIx items.size 0 lo:Nat):Int)=0:=eq_of_beq q.1.1;have q2:sIx items.size items.size hi - sIx items.size 0 lo=items.size:=eq_of_beq q.2;exact hw ⟨by omega,by omega⟩
 show wpAny _ _ (if (((sIx items.size 0 lo:Nat):Int) == 0&&(1:Int) == 1&&(sIx items.size items.size hi - sIx items.size 0 lo) == items.size)=true then _ else _) _ _ s
 rw[if_neg hno,rP]
 first
  |exact wpAny_bind (m:=Builtin.Tuple.tupleExact _) (wpAny_newObj_type (wpAny_pure ⟨_,rfl,wpAny_pure h⟩) htake)
  |exact wpAny_bind (m:=Builtin.Tuple.tupleExact _) (wpAny_newObj_type (wpAny_bind (wpAny_pure (wpAny_pure ⟨_,rfl,wpAny_pure h⟩))) htake)
  |exact wpAny_bind (wpAny_bind (m:=Builtin.Tuple.tupleExact _) (wpAny_newObj_type (wpAny_pure (wpAny_pure ⟨_,rfl,wpAny_pure h⟩)) htake))
  |exact wpAny_bind (wpAny_bind (m:=Builtin.Tuple.tupleExact _) (wpAny_newObj_type (wpAny_pure ⟨_,rfl,wpAny_pure h⟩) htake))
end
end HT
namespace L2
open PySem PySem.Spec PyProof.Rows
noncomputable abbrev TO:=St->Hp->(Option Int->Hp->Prop)->Prop
noncomputable def PO(X:Cx)(e:Option Expr)(t:TO):Prop:=
 ∀(pins:List (Addr×Obj)) (s:Shared)(σ:St)(H:Hp)(Q:Option Int->Hp->Prop),Inv X pins σ H s->t σ H Q->
  wpAny (model X.prog X.w) X.A (evalPart e X.env) (fun u s'=>∃o H',Inv X pins σ H' s'/\IsPart u o/\Q o H') X.xe s
noncomputable def tNoPart:TO:=fun _ H Q=>Q none H
noncomputable def A8(t:TE):TO:=fun σ H Q=>t σ H fun x H1=>∃i,x=.int i/\Q (some i) H1
section
variable {X:Cx}{lo:Option Expr}
theorem po_none:PO X none tNoPart:=by
 intro pins s σ H Q I h;rw[evalPart_none];exact wpAny_pure ⟨none,H,I,.none,h⟩
theorem uK(h:PE X e te):PO X (some e) (A8 te):=by
 intro pins s σ H Q I hw;rw[evalPart_some];refine thn (h pins s σ H _ I hw) fun u s1 ⟨x,H1,I1,r1,q1⟩=>?_
 obtain⟨i,rfl,q⟩:=q1;obtain⟨t,rfl⟩:=r1;exact⟨some i,H1,I1,.int i t,q⟩
noncomputable def SlR(X:Cx)(r:V->Option Int->Option Int->Hp->VK->Prop):Prop:=
 ∀(pins:List (Addr×Obj)) (s:Shared)(σ:St)(H:Hp)(x:V)(v vl vu:Value)(lo hi:Option Int)(sl:Addr)(Q:VK),Inv X pins σ H s->RelV x v->s.heap.IsSliceOf sl vl vu .none->IsPart vl lo->IsPart vu hi->r x lo hi H Q->
  ∃T id,typeLookup (.type T) "__getitem__"=pure (some (.builtin id))/\s.TypeIs v T/\wpAny (model X.prog X.w) X.A (getItem v (.ref sl)) (EP X pins σ Q) X.xe s
theorem SlR.or(h:SlR X r)(h':SlR X r'):SlR X (fun x lo hi H Q=>r x lo hi H Q\/r' x lo hi H Q):=by
 intro pins s σ H x v vl vu lo hi sl Q I rx hs pl pu q;rcases q with q|q
 ·exact h pins s σ H x v vl vu lo hi sl Q I rx hs pl pu q
 ·exact h' pins s σ H x v vl vu lo hi sl Q I rx hs pl pu q
noncomputable def tSl(r:V->Option Int->Option Int->Hp->VK->Prop)(te:TE)(tl th:TO):TE:=fun σ H Q=>te σ H fun x H1=>tl σ H1 fun l H2=>th σ H2 fun u H3=>r x l u H3 Q
theorem sf(hr:SlR X r)(he:PE X e te)(hl:PO X lo tl)(hu:PO X hi th):PE X (.Subscript e (.Slice lo hi none p2) pos) (tSl r te tl th):=by
 intro pins s σ H Q I h;refine Subscript_ (thn (he pins s σ H _ I h) fun v s1 ⟨x,H1,I1,r1,q1⟩=>?_)
 refine wpAny_Slice (thn (hl pins s1 σ H1 _ I1 q1) fun vl s2 ⟨l,H2,I2,pl,q2⟩=>thn (hu pins s2 σ H2 _ I2 q2) fun vu s3 ⟨u,H3,I3,pu,q3⟩=>?_)
 rw[evalPart_none];refine wpAny_pure ?_;have I4:Inv X pins σ H3 {s3 with heap:=s3.heap.push {cls:=.type "slice",data:=.fields #[vl,vu,.none]}}:=I3.kept (t':=s3.toks) fun b ob q=>Heap.get?_push_of_some _ q
 obtain⟨T,id,hT,ht,hg⟩:=hr pins {s3 with heap:=s3.heap.push {cls:=.type "slice",data:=.fields #[vl,vu,.none]}} σ H3 x v vl vu l u s3.heap.objs.size Q I4 r1 (Heap.IsSliceOf.new ..) pl pu q3
 show wpAny (model X.prog X.w) X.A (subscriptTail e (.Slice lo hi none p2) v (.ref s3.heap.objs.size)) (EP X pins σ Q) X.xe {s3 with heap:=s3.heap.push {cls:=.type "slice",data:=.fields #[vl,vu,.none]}}
 exact tail_any (ops:=[.ref s3.heap.objs.size,v]) ht hT hg (by with_unfolding_all rfl)
noncomputable def nc(xs:List V)(lo hi:Option Int):List V:=(xs.drop (HT.sIx xs.length 0 lo)).take (HT.sIx xs.length xs.length hi - HT.sIx xs.length 0 lo)
theorem gK(xs:List V)(lo hi:Option Int):(nc xs lo hi).length<=xs.length:=by
 unfold nc;rw[List.length_take,List.length_drop];omega
noncomputable def Fl(K:PySem.W.Frag):V->Option Int->Option Int->Hp->VK->Prop:=fun x lo hi H Q=>∃a xs,x=.ref a/\SqT K H a xs/\
 ¬ (HT.sIx xs.length 0 lo=0/\HT.sIx xs.length xs.length hi=xs.length)/\∀p,H p=none->Q (.ref p) (upd H p (.tup (nc xs lo hi)))
theorem ve:SlR X (Fl X.K):=by
 intro pins s σ H x v vl vu lo hi sl Q I rx hs pl pu h;obtain⟨a,xs,rfl,hx,hw,q⟩:=h;cases rx;obtain⟨its,r,ht,hz⟩:=I.tuple hx;have hlen:its.toArray.size=xs.length:=by rw[List.size_toArray];exact r.length.symm
 refine⟨"tuple",_,PyProof.Rows.slot_tuple_getitem.lookup,ht.typeIs,?_⟩;refine HT.getItem_tuple_cut ht hs pl pu (by rw[hlen];exact hw) ?_ (by rw[hlen];exact hz)
 rw[hlen];refine⟨.ref s.heap.objs.size,_,I.laid (t':=s.toks) (o:=.tup (nc xs lo hi)) (fun b ob q=>Heap.get?_push_of_some _ q) (Nat.le_refl _) ?_,rfl,q _ (I.hok.fresh (Nat.le_refl _))⟩
 exact⟨Nat.le_trans (gK xs lo hi) hz,_,(r.drop (HT.sIx xs.length 0 lo)).take (HT.sIx xs.length xs.length hi - HT.sIx xs.length 0 lo),IsTup.new _ _⟩
noncomputable def Bk(K:PySem.W.Frag):R2:=fun x y H Q=>∃a b xs ys,x=.ref a/\y=.ref b/\SqT K H a xs/\SqT K H b ys/\xs≠[]/\xs.length+ys.length<=sizeLine/\
 (ys=[]->Q (.ref a) H)/\(ys≠[]->∀p,H p=none->Q (.ref p) (upd H p (.tup (xs++ys))))
theorem Vals.nil_iff(r:Vals xs us):us=[]<->xs=[]:=by
 cases r with
 |nil=>simp
 |cons _ _=>simp
theorem uc:OpR X (binaryOp .Add) (Bk X.K):=by
 intro pins s σ H x y v u Q I rx ry h;obtain⟨a,b,xs,ys,rfl,rfl,ha,hb,hx,hz,q1,q2⟩:=h;cases rx;cases ry;obtain⟨its,r1,p1,_⟩:=I.tuple ha;obtain⟨its2,r2,p2,_⟩:=I.tuple hb;refine HT.cat_tup p1 p2 (fun z=>hx (r1.nil_iff.mp z)) (fun z=>⟨.ref a,H,I,rfl,q1 (r2.nil_iff.mp z)⟩) (fun z=>?_) (by rw[<-r1.length,<-r2.length];exact hz)
 refine⟨.ref s.heap.objs.size,_,I.laid (t':=s.toks) (o:=.tup (xs++ys)) (fun b ob q=>Heap.get?_push_of_some _ q) (Nat.le_refl _) ?_,rfl,q2 (fun w=>z (r2.nil_iff.mpr w)) _ (I.hok.fresh (Nat.le_refl _))⟩
 exact⟨by rw[List.length_append];exact hz,_,r1.append r2,IsTup.new _ _⟩
end
end L2
namespace L2
open PySem PySem.Spec PyProof.Rows
noncomputable def ixN(n:Nat)(i:Int):Option Nat:=if 0<=i then (if i < n then some i.toNat else none) else if -(n:Int)<=i then some (i+n).toNat else none
noncomputable def atI(xs:List α)(i:Int):Option α:=(ixN xs.length i).bind fun j=>xs[j]?
theorem nZ(h:ixN n i=some j):seqIndex? i n=some j/\j < n/\-(n:Int)<=i/\i < n:=by
 unfold ixN at h;by_cases h0:0<=i
 ·rw[if_pos h0]at h;by_cases h1:i < n
  ·rw[if_pos h1]at h;have e:i.toNat=j:=Option.some.inj h;exact⟨by rw[seqIndex_of h0 h1,e],by omega,by omega,h1⟩
  ·rw[if_neg h1]at h;cases h
 ·rw[if_neg h0]at h;by_cases h1 : -(n:Int)<=i
  ·rw[if_pos h1]at h;have e:(i+n).toNat=j:=Option.some.inj h;exact⟨by rw[seqIndex_neg (by omega) h1,e],by omega,h1,by omega⟩
  ·rw[if_neg h1]at h;cases h
theorem kX{xs:List α}(h:atI xs i=some v):∃j,seqIndex? i xs.length=some j/\xs[j]?=some v/\j < xs.length/\-(xs.length:Int)<=i/\i < xs.length:=by
 unfold atI at h;cases e:ixN xs.length i with
 |none=>rw[e]at h;cases h
 |some j=>
  rw[e]at h;obtain⟨h1,h2,h3,h4⟩:=nZ e;exact⟨j,h1,h,h2,h3,h4⟩
theorem cK{α:Type}{xs:List α}{j:Nat}{v:α}(h:xs[j]?=some v):atI xs (j:Int)=some v:=by
 have hj:j < xs.length:=(List.getElem?_eq_some_iff.mp h).1;have e:ixN xs.length (j:Int)=some j:=by
  unfold ixN;rw[if_pos (by omega),if_pos (by omega)];simp
 unfold atI;rw[e];exact h
noncomputable def kZ(b:Expr):Prop:=∀o i,subscripted b false o i=operate [o,i] (getItem o i)
noncomputable def IxR(X:Cx)(r:R2):Prop:=
 ∀(value slice:Expr) (pins:List (Addr×Obj)) (s:Shared)(σ:St)(H:Hp)(x y:V)(v u:Value)(Q:VK),Inv X pins σ H s->RelV x v->RelV y u->r x y H Q->
  subscripted slice false v u=operate [v,u] (getItem v u)->wpAny (model X.prog X.w) X.A (subscriptTail value slice v u) (EP X pins σ Q) X.xe s
noncomputable def MtR(X:Cx)(id:String)(r:V->List V->Hp->VK->Prop):Prop:=
 ∀(pins:List (Addr×Obj)) (s:Shared)(σ:St)(H:Hp)(x:V)(xs:List V)(v:Value)(us:List Value)(Q:VK),Inv X pins σ H s->RelV x v->Vals xs us->r x xs H Q->
  wpAny (model X.prog X.w) X.A (call (.builtin id) (v::us)) (EP X pins σ Q) X.xe s
section
variable {X:Cx}{a:Expr}
theorem IxR.or(h:IxR X r)(h':IxR X r'):IxR X (fun x y H Q=>r x y H Q\/r' x y H Q):=by
 intro value slice pins s σ H x y v u Q I rx ry q hs;rcases q with q|q
 ·exact h value slice pins s σ H x y v u Q I rx ry q hs
 ·exact h' value slice pins s σ H x y v u Q I rx ry q hs
theorem MtR.or{id:String}(h:MtR X id r)(h':MtR X id r'):MtR X id (fun x xs H Q=>r x xs H Q\/r' x xs H Q):=by
 intro pins s σ H x xs v us Q I rx rs q;rcases q with q|q
 ·exact h pins s σ H x xs v us Q I rx rs q
 ·exact h' pins s σ H x xs v us Q I rx rs q
theorem DN(hr:IxR X r)(ha:PE X a ta)(hb:PE X b tb)(hs:kZ b):PE X (.Subscript a b pos) (tOp r ta tb):=by
 intro pins s σ H Q I h;exact Subscript_ (vT ha hb I h fun v u s2 x y H2 I2 rx ry q=>hr a b pins s2 σ H2 x y v u Q I2 rx ry q (hs _ _))
noncomputable def Dv(K:PySem.W.Frag):R2:=fun x y H Q=>∃p xs i v,x=.ref p/\y=.int i/\SqL K H p xs/\atI xs i=some v/\Q v H
noncomputable def Dz(K:PySem.W.Frag):R2:=fun x y H Q=>∃p xs i v,x=.ref p/\y=.int i/\SqT K H p xs/\atI xs i=some v/\Q v H
noncomputable def rIxS:R2:=fun x y H Q=>∃z i c,x=.str z/\y=.int i/\z.length<=sizeLine/\atI z.cps.toList i=some c/\Q (.str ⟨#[c]⟩) H
theorem ix_list:IxR X (Dv X.K):=by
 intro value slice pins s σ H x y v u Q I rx ry h hs;obtain⟨p,xs,i,z,rfl,rfl,hq,he,q⟩:=h;cases rx;obtain⟨t,rfl⟩:=ry;obtain⟨its,r,pl,hz⟩:=I.list hq;obtain⟨j,h1,h2,h3,h4,h5⟩:=kX he;obtain⟨w,ew,rw'⟩:=r.get h2;have hl:=r.length;have hn:=f8;have fin:EP X pins σ Q w s:=⟨z,H,I,rw',q⟩;by_cases h0:0<=i
 ·have hj:i.toNat=j:=by
   rw[seqIndex_of h0 h5]at h1;exact Option.some.inj h1
  exact item_listR pl.isList h0 (by omega) (by rw[hj];simpa using ew) fin hs
 ·have hj:(i+(its.toArray.size:Int)).toNat=j:=by
   rw[seqIndex_neg (by omega) h4]at h1
   rw[List.size_toArray,<-hl];exact Option.some.inj h1
  exact subscriptTail_builtinR (x:=w) pl.isList.typeIs slot_list_getitem.lookup
   (wpAny_getItem_list_neg (Q:=fun r s'=>r=w/\EP X pins σ Q r s') pl.isList (by omega) (by rw[List.size_toArray]<;>omega) (by omega) (by rw[hj];simpa using ew) ⟨rfl,fin⟩) hs
theorem ix_tup:IxR X (Dz X.K):=by
 intro value slice pins s σ H x y v u Q I rx ry h hs;obtain⟨p,xs,i,z,rfl,rfl,hq,he,q⟩:=h;cases rx;obtain⟨t,rfl⟩:=ry;obtain⟨its,r,pl,hz⟩:=I.tuple hq;obtain⟨j,h1,h2,h3,h4,h5⟩:=kX he;obtain⟨w,ew,rw'⟩:=r.get h2;have hl:=r.length;have hn:=f8;have fin:EP X pins σ Q w s:=⟨z,H,I,rw',q⟩;exact subscriptTail_builtinR (x:=w) pl.typeIs slot_tuple_getitem.lookup
  (getItem_tuple (j:=j) (Q:=fun r s'=>r=w/\EP X pins σ Q r s') pl (by omega) (by omega) (by rw[List.size_toArray,<-hl];exact h1) (by simpa using ew) ⟨rfl,fin⟩) hs
theorem w5:IxR X rIxS:=by
 intro value slice pins s σ H x y v u Q I rx ry h hs;obtain⟨z,i,c,rfl,rfl,hz,he,q⟩:=h;obtain⟨t,rfl⟩:=rx;obtain⟨t',rfl⟩:=ry;obtain⟨j,h1,h2,h3,h4,h5⟩:=kX he;have hl:z.cps.toList.length=z.length:=by simp[Str.length]
 rw[hl]at h1 h4 h5;have hn:=f8;exact tail_any (typeIs_str s z t) slot_str_getitem.lookup (getItem_str (c:=c) (by
  have e1:decide (i < -(2 ^ 63:Int))=false:=decide_eq_false (by omega)
  have e2:decide (i>=2 ^ 63)=false:=decide_eq_false (by omega)
  rw[e1,e2,Bool.or_false]) (by rw[h1];simpa using h2) ⟨.str ⟨#[c]⟩,H,I.tok _,⟨_,rfl⟩,q⟩) hs
noncomputable def rIx(K:PySem.W.Frag):R2:=fun x y H Q=>Dv K x y H Q\/Dz K x y H Q\/rIxS x y H Q
theorem xF:IxR X (rIx X.K):=ix_list.or (ix_tup.or w5)
theorem nu(its:List Value)(n j:Nat)(u:Value):Obj.mapSeq (·.setIfInBounds j u) {cls:=.type "list",data:=.seq its.toArray n}={cls:=.type "list",data:=.seq (its.set j u).toArray n}:=by
 simp[Obj.mapSeq]
theorem Inv.lst{s:Shared}(I:Inv X pins σ H s)(h:H p=some (.lst xs)) :
  ∃(its:List Value) (n:Nat),Vals xs its/\s.heap.get? p=some {cls:=.type "list",data:=.seq its.toArray n}/\xs.length<=sizeLine:=by
 obtain⟨z,its,n,r,e⟩:=I.hok p _ h;exact⟨its,n,r,e,z⟩
theorem Inv.lstUpd{pins:List (Addr×Obj)}{σ:St}{H:Hp}{s:Shared}{p:Addr}{xs ys:List V}{its its':List Value}{n n':Nat}{f:Obj->Obj}(I:Inv X pins σ H s)(h:H p=some (.lst xs))
  (ho:s.heap.get? p=some {cls:=.type "list",data:=.seq its.toArray n}) (hf:f {cls:=.type "list",data:=.seq its.toArray n}={cls:=.type "list",data:=.seq its'.toArray n'}) (r:Vals ys its') (hz:ys.length<=sizeLine) (t:Nat) :
  Inv X pins σ (upd H p (.lst ys)) {s with heap:=s.heap.update p f,toks:=t}:=by
 have e:(s.heap.update p f).get? p=some {cls:=.type "list",data:=.seq its'.toArray n'}:=by
  rw[Heap.get?_update_self f ho (by rw[hf]<;>rfl),hf]
 refine I.write (x:=p) (e:=p) (by rw[h];trivial) (.inl rfl) (fun b u hb q=>(Heap.get?_update_other _ _ (Ne.symm hb)).trans q) ⟨_,e⟩ ?_
 exact⟨hz,its',n',r,e⟩
noncomputable def rSetL:V->V->V->Hp->(Hp->Prop)->Prop:=fun o i v H Q=>∃p xs k j,o=.ref p/\i=.int k/\H p=some (.lst xs)/\ixN xs.length k=some j/\Q (upd H p (.lst (xs.set j v)))
theorem rG:yz X rSetL:=by
 intro pins s σ H o i v ov iv u Q I ro ri rv h;obtain⟨p,xs,k,j,rfl,rfl,hp,hj,q⟩:=h;cases ro;obtain⟨t,rfl⟩:=ri;obtain⟨its,n,r,ho,hz⟩:=I.lst hp;obtain⟨h1,h2,h3,h4⟩:=nZ hj;have hl:=r.length;have hn:=f8;have I':Inv X pins σ (upd H p (.lst (xs.set j v))) {s with heap:=s.heap.update p (Obj.mapSeq (·.setIfInBounds j u))}:=
  I.lstUpd hp ho (nu its n j u) (r.set rv j) (by rw[List.length_set];exact hz) s.toks
 by_cases h0:0<=k
 ·have hk:k.toNat=j:=by
   rw[seqIndex_of h0 h4]at h1;exact Option.some.inj h1
  exact PySem.W.ki_setAt ho h0 (by omega) (by rw[List.size_toArray,<-hl];exact h4) (by rw[hk];exact⟨_,I',q⟩)
 ·have hk:(k+(its.toArray.size:Int)).toNat=j:=by
   rw[seqIndex_neg (by omega) h3]at h1
   rw[List.size_toArray,<-hl];exact Option.some.inj h1
  exact PySem.W.ki_setBack ho (by omega) (by rw[List.size_toArray,<-hl];exact h3) (by omega) (by rw[hk];exact⟨_,I',q⟩)
theorem kC(lo hi:Option Int)(n:Nat):(sliceBounds lo hi none n).1=((HT.sIx n 0 lo:Nat):Int)/\(sliceBounds lo hi none n).2.1=((HT.sIx n n hi:Nat):Int)/\(sliceBounds lo hi none n).2.2=1:=by
 refine⟨?_,?_,rfl⟩
 ·cases lo with
  |none=>simp[sliceBounds,HT.sIx]
  |some i=>
   simp only[sliceBounds,HT.sIx,Option.getD_none,show (1:Int) > 0 by decide,if_true]
   by_cases h:i < 0
   ·simp only[h,if_true]<;>omega
   ·simp only[h,if_false]<;>omega
 ·cases hi with
  |none=>simp[sliceBounds,HT.sIx]
  |some i=>
   simp only[sliceBounds,HT.sIx,Option.getD_none,show (1:Int) > 0 by decide,if_true]
   by_cases h:i < 0
   ·simp only[h,if_true]<;>omega
   ·simp only[h,if_false]<;>omega
theorem ju(its:List Value)(lo hi:Option Int):slicePick its.toArray lo hi none=((its.drop (HT.sIx its.length 0 lo)).take (HT.sIx its.length its.length hi - HT.sIx its.length 0 lo)).toArray:=by
 obtain⟨h1,h2,h3⟩:=kC lo hi its.toArray.size;unfold slicePick;rw[h1,h2,h3];simp only[sliceRange_one,pick_run,List.size_toArray]<;>rfl
theorem lh:CallR X (.builtin "len") (fun xs H Q=>∃p ys,xs=[.ref p]/\(SqL X.K H p ys\/SqT X.K H p ys)/\Q (.int ys.length) H):=by
 intro pins s σ H xs us Q I r h;obtain⟨p,ys,rfl,hq,q⟩:=h;obtain⟨u,rfl,rx⟩:=gz r;cases rx;have hn:=f8;rcases hq with hq|hq
 ·obtain⟨its,r',pl,hz⟩:=I.list hq;have hlen:=r'.length;exact Calls.call_len_list pl.isList (by simp only[List.size_toArray]<;>omega) ⟨.int ys.length,H,I.tok _,⟨s.toks+1,by rw[List.size_toArray,hlen]⟩,q⟩
 ·obtain⟨its,r',pl,hz⟩:=I.tuple hq;have hlen:=r'.length;exact len_tuple pl (by simp only[List.size_toArray]<;>omega) ⟨.int ys.length,H,I.tok _,⟨s.toks+1,by rw[List.size_toArray,hlen]⟩,q⟩
theorem lg:CallR X (.builtin "len") (fun xs H Q=>∃z,xs=[.str z]/\z.length<=sizeLine/\Q (.int z.length) H):=by
 intro pins s σ H xs us Q I r h;obtain⟨z,rfl,hz,q⟩:=h;obtain⟨u,rfl,t,rfl⟩:=gz r;have hn:=f8;exact len_str (by omega) ⟨.int z.length,H,I.tok _,⟨_,rfl⟩,q⟩
theorem CallR.or(h:CallR X f r)(h':CallR X f r'):CallR X f (fun xs H Q=>r xs H Q\/r' xs H Q):=by
 intro pins s σ H xs us Q I rs q;rcases q with q|q
 ·exact h pins s σ H xs us Q I rs q
 ·exact h' pins s σ H xs us Q I rs q
theorem kT:CallR X (.type "list") (fun xs H Q=>∃p ys,xs=[.ref p]/\(SqL X.K H p ys\/SqT X.K H p ys)/\∀l,H l=none->Q (.ref l) (upd H l (.lst ys))):=by
 intro pins s σ H xs us Q I r h;obtain⟨p,ys,rfl,hq,q⟩:=h;obtain⟨u,rfl,rx⟩:=gz r;cases rx;have fin:∀(its:List Value),Vals ys its->ys.length<=sizeLine->∀(h':Heap)(c':Nat),(∀b o',s.heap.get? b=some o'->h'.get? b=some o')->
   h'.get? s.heap.objs.size=some {cls:=.type "list",dict:=none,data:=.seq its.toArray c',slots:=#[]}->EP X pins σ Q (.ref s.heap.objs.size) {s with heap:=h'}:=fun its r' hz h' c' kp e=>
  ⟨.ref s.heap.objs.size,_,I.laid (t':=s.toks) kp (Nat.le_refl _) (show ObjOk X.prog X.w _ h' _ (.lst ys) from⟨hz,its,c',r',e⟩),rfl,q _ (I.hok.fresh (Nat.le_refl _))⟩
 rcases hq with hq|hq
 ·obtain⟨its,r',pl,hz⟩:=I.list hq;have hlen:=r'.length;obtain⟨o,ho,hc,n,hd⟩:=pl.isList;exact call_list_seq p (.inl rfl) ho hc hd (fun h' c' kp e=>fin its r' hz h' c' kp e) (by simp only[List.size_toArray]<;>omega)
 ·obtain⟨its,r',pl,hz⟩:=I.tuple hq;have hlen:=r'.length;obtain⟨o,ho,hc,n,hd⟩:=pl;exact call_list_seq p (.inr rfl) ho hc hd (fun h' c' kp e=>fin its r' hz h' c' kp e) (by simp only[List.size_toArray]<;>omega)
noncomputable def tyV(K:PySem.W.Frag)(T:String)(x:V)(H:Hp):Prop:=match x with
 |.str _=>T = "str"
 |.int _=>T = "int"
 |.ref p=>(T = "list"/\∃xs,SqL K H p xs)\/(T = "tuple"/\∃o,K.lookup p=some o/\o.cls=.type "tuple"/\o.dict=none)\/
   (T = "dict"/\((∃kvs,H p=some (.dK kvs))\/∃kvs,H p=some (.dT kvs)))\/(T = "set"/\∃S n,H p=some (.set S n))
 |_=>False
theorem wQ{s:Shared}(I:Inv X pins σ H s)(r:RelV x v)(ty:tyV X.K T x H) :
  s.TypeIs v T/\∀a,v=.ref a->∃ob,s.heap.get? a=some ob/\ob.dict=none:=by
 cases x with
 |str z=>
  obtain⟨t,rfl⟩:=r;cases (show T = "str" from ty);exact⟨typeIs_str s z t,fun _ e=>nomatch e⟩
 |int i=>
  obtain⟨t,rfl⟩:=r;cases (show T = "int" from ty);exact⟨typeIs_int s i t,fun _ e=>nomatch e⟩
 |ref p=>
  cases r;rcases ty with ⟨rfl,xs,hq⟩|⟨rfl,o,hk,hc,hd⟩|⟨rfl,hk⟩|⟨rfl,S,n,hk⟩
  ·obtain⟨its,_,pl,_⟩:=I.list hq;refine⟨pl.isList.typeIs,fun a e=>?_⟩
   cases e;obtain⟨o,n,e,c,hd,_⟩:=pl;exact⟨o,e,hd⟩
  ·refine⟨⟨o,I.kIn p o hk,hc⟩,fun a e=>?_⟩
   cases e;exact⟨o,I.kIn _ o hk,hd⟩
  ·have z:∃o,s.heap.get? p=some o/\o.ExactDict:=by
    rcases hk with ⟨kvs,hk⟩|⟨kvs,hk⟩
    ·obtain⟨_,_,_,_,o,_,_,e,ex,_⟩:=I.hok p _ hk;exact⟨o,e,ex⟩
    ·obtain⟨_,_,_,_,o,_,_,e,ex,_⟩:=I.hok p _ hk;exact⟨o,e,ex⟩
   obtain⟨o,e,ex⟩:=z;refine⟨⟨o,e,ex.1⟩,fun a e2=>?_⟩
   cases e2;exact⟨o,e,ex.2.1⟩
  ·obtain⟨o,_,_,_,e,ex,_⟩:=I.hok p _ hk;refine⟨⟨o,e,ex.1⟩,fun a e2=>?_⟩
   cases e2;exact⟨o,e,ex.2.1⟩
 |_=>exact False.elim ty
noncomputable def tBM(K:PySem.W.Frag)(T:String)(r:V->List V->Hp->VK->Prop)(to:TE)(t:TA):TE:=fun σ H Q=>to σ H fun x H1=>tyV K T x H1/\t σ H1 fun xs H2=>r x xs H2 Q
variable {o:Expr}{id:String}
theorem CB(pa:PlainAttrs T)(slot:Slot T name id)(hty:typeOf (.builtin id)=pure (.type "method_descriptor"))(hm:MtR X id r)(ho:PE X o to)(ha:PA X (e::es) t)
  (hbase:attributeBase o name X.env (eval o X.env)=eval o X.env:=by rfl)
  (hfew:((backTo cpos (starEach (e::es) X.env)).all (fun x=>!x.1)&&(backToKw cpos (keywordEach [] X.env)).all (fun x=>x.1.isSome)
   &&decide ((e::es).length+([]:List Keyword).length+(if ([]:List Keyword).isEmpty then 0 else 1) < 30))=true:=by rfl)
  (hline:(apos.endLine == cpos.line)=true:=by rfl) (hs:starEach (e::es) X.env=(false,eval e X.env)::starEach es X.env:=by rfl) (hplain:(backTo cpos (starEach es X.env)).any (·.1)=false:=by rfl) :
  PE X (.Call (.Attribute o name apos) (e::es) [] cpos) (tBM X.K T r to t):=by
 intro pins s σ H Q I h;refine wpAny_Call_method_late hbase hfew hline rfl (thn (ho pins s σ H _ I h) fun v s1 ⟨x,H1,I1,r1,ty,q1⟩=>?_)
 obtain⟨h1,h2⟩:=wQ I1 r1 ty;refine⟨T,id,pa,slot,hty,h1,h2,?_⟩;have hA:=ha cpos pins s1 σ H1 _ I1 q1;rw[hs]at hA ⊢;refine Calls.callWith_builtin (by show (false||(backTo cpos (starEach es X.env)).any (·.1))=false;rw[hplain]<;>rfl) (Calls.evalArgs_plain ?_)
 exact thn hA fun us s2 ⟨vs,H2,I2,r2,q2⟩=>hm pins s2 σ H2 x vs v us Q I2 r1 r2 q2
end
end L2
namespace L2
open PySem PySem.Spec PyProof.Rows
noncomputable def MtM(X:Cx)(id:String)(r:V->List V->Hp->VK->Prop):Prop:=
 ∀(pins:List (Addr×Obj)) (s:Shared)(σ:St)(H:Hp)(x:V)(xs:List V)(v:Value)(us:List Value)(Q:VK),Inv X pins σ H s->RelV x v->Vals xs us->r x xs H Q->
  wpAny (model X.prog X.w) X.A (call (.builtin id) (v::us)) (EP X pins σ Q) X.xe s
theorem Vals.one:∀{x:V}{us:List Value},Vals [x] us->∃u,us=[u]/\RelV x u
 |_,_,.cons r .nil=>⟨_,rfl,r⟩
theorem Vals.two:∀{x y:V}{us:List Value},Vals [x,y] us->∃u v,us=[u,v]/\RelV x u/\RelV y v
 |_,_,_,.cons r (.cons q .nil)=>⟨_,_,rfl,r,q⟩
theorem Vals.zero:∀{us:List Value},Vals [] us->us=[]
 |_,.nil=>rfl
theorem Vals.eraseIdx:∀{xs:List V}{us:List Value} (i:Nat),Vals xs us->Vals (xs.eraseIdx i) (us.eraseIdx i)
 |_,_,_,.nil=>.nil
 |_,_,0,.cons _ t=>t
 |_,_,i+1,.cons r t=>.cons r (Vals.eraseIdx i t)
section
variable {X:Cx}{s:Shared}{l:Addr}{xs ys:List V}
theorem Inv.lset{its its':List Value}{n:Nat}{f:Array Value->Array Value}{t':Nat}(I:Inv X pins σ H s)(hH:H l=some (.lst xs))
  (e:s.heap.get? l=some {cls:=.type "list",data:=.seq its.toArray n}) (hf:f its.toArray=its'.toArray) (hv:Vals ys its') (hz:ys.length<=sizeLine) :
  Inv X pins σ (upd H l (.lst ys)) {s with heap:=s.heap.update l (Obj.mapSeq f),toks:=t'}:=by
 have q:=PySem.IsL.update e f;rw[hf]at q;refine I.write (x:=l) (e:=l) (by rw[hH];exact trivial) (.inl rfl) (fun b' u hb hu=>(Heap.get?_update_other s.heap (Obj.mapSeq f) (Ne.symm hb)).trans hu) ⟨_,q⟩ ?_
 exact⟨hz,its',_,hv,q⟩
theorem Inv.fresh(I:Inv X pins σ H s):H s.heap.objs.size=none:=I.hok.fresh (Nat.le_refl _)
theorem Inv.lstM(I:Inv X pins σ H s)(hH:H l=some (.lst xs)):xs.length<=sizeLine/\∃(its:List Value) (n:Nat),Vals xs its/\xs.length=its.length/\s.heap.get? l=some {cls:=.type "list",data:=.seq its.toArray n}:=by
 obtain⟨z,its,n,r,e⟩:=I.hok l _ hH;exact⟨z,its,n,r,r.length,e⟩
theorem qV{n:Nat}(h:n<=sizeLine):Builtin.List.listTooLong n=false:=by
 unfold Builtin.List.listTooLong;exact decide_eq_false (by omega)
end
section
variable {X:Cx}
noncomputable def rAppend:V->List V->Hp->VK->Prop:=fun x vs H Q=>∃l xs y,x=.ref l/\vs=[y]/\H l=some (.lst xs)/\xs.length < sizeLine/\Q .non (upd H l (.lst (xs++[y])))
theorem kh:MtM X "list.append" rAppend:=by
 intro pins s σ H x vs v us Q I rx rv h;obtain⟨l,xs,y,rfl,rfl,hH,hz,q⟩:=h;cases rx;obtain⟨u,rfl,ru⟩:=rv.one;obtain⟨z,its,n,r,hl,e⟩:=I.lstM hH;refine call_meets F.slot_list_append ⟨_,e,rfl⟩ F.entry_list_append (F.args_list_append_2 _ _) (PySem.list_append l its.toArray n u (by rw[List.size_toArray];omega)) ⟨e,?_⟩
 refine⟨.non,_,I.lset (its':=its++[u]) hH e (by simp) (r.append (.cons ru .nil)) ?_,rfl,q⟩
 rw[List.length_append,List.length_singleton];omega
noncomputable def rClear:V->List V->Hp->VK->Prop:=fun x vs H Q=>∃l xs,x=.ref l/\vs=[]/\H l=some (.lst xs)/\Q .non (upd H l (.lst []))
theorem rV:MtM X "list.clear" rClear:=by
 intro pins s σ H x vs v us Q I rx rv h;obtain⟨l,xs,rfl,rfl,hH,q⟩:=h;cases rx;have hus:=rv.zero;subst hus;obtain⟨z,its,n,r,hl,e⟩:=I.lstM hH;refine call_meets F.slot_list_clear ⟨_,e,rfl⟩ F.entry_list_clear (F.args_list_clear_1 _) (AutoSeq1.list_clear_list_0 l its.toArray n (by rw[List.size_toArray];omega)) ⟨e,?_⟩
 exact⟨.non,_,I.lset (its':=[]) (ys:=[]) hH e rfl .nil (Nat.zero_le _),rfl,q⟩
end
section
variable {w:World}{A:Around}{s:Shared}
set_option maxRecDepth 100000 in
end
section
variable {X:Cx}
end
end L2
namespace Att
open PySem PySem.W PySem.Calls PyProof.Rows
theorem gT:∀(ns:List Int)(vs:List Value),WellAll P h vs (ns.map WData.int)->IntsAre vs ns:=by
 intro ns
 induction ns with
 |nil=>
  intro vs w;rw[List.map_nil]at w;cases w;exact .nil
 |cons n ns ih=>
  intro vs w;rw[List.map_cons]at w;cases w with
  |cons a b=>
   cases a;exact .cons _ _ (ih _ b)
theorem pY{l:OpenLaw}(hn:l.most=some n){h:Heap}
  (hpre:l.row.toRowW.claim.pre args=true) (hwl:WellAll P h vals args) :
  ∃a vs ns,vals=[Value.ref a]/\args=[WData.list (ns.map WData.int)]/\h.get? a=some {cls:=.type "list",data:=.seq vs.toArray}/\IntsAre vs ns/\ns.length<=n:=by
 have hsh:WShape.hasAll [] args [.list .int]=true:=(pre_splitW hpre).1;have hc:l.pre.holds [] {args:=args}=true:=(pre_splitW hpre).2;obtain⟨d,r,rfl,h1,h2⟩:=hasAllW_cons hsh;obtain rfl:=hasAllW_nil h2;obtain⟨xs,rfl,h3⟩:=hasW_list h1;obtain⟨ns,rfl⟩:=items_int h3;have hlen:ns.length<=n:=by
  unfold OpenLaw.pre at hc;have h4:(WTm.not (.lt (.lit (.int (n:Int))) (.len (.arg 0)))).holds [] {args:=[.list (ns.map .int)]}=true:=by
   have h4:=(holds_andW hc).1;rw[hn]at h4;exact h4
  have h5:=condW_of h4 (w_not (w_lt w_lit (w_len_list (w_arg rfl))));rw[List.length_map]at h5;refine Nat.le_of_not_lt fun q=>?_
  have q':(n:Int) < ((ns.length:Nat):Int):=by omega
  first
   |(rw[decide_eq_true q']at h5;exact absurd h5 (by decide))
   |(simp at h5;omega)
 cases hwl with
 |cons w1 w2=>
  cases w2;cases w1 with
  |list ho hall=>exact⟨_,_,ns,rfl,rfl,ho,gT ns _ hall,hlen⟩
theorem pM(l:OpenLaw)(args:List WData):l.row.toRowW.claim.post args (.bool true) args=true:=
 postW_of (r:=l.row.toRowW) (X:=(true == true))
  (show WShape.has [] (.bool true) .bool=true by first|rfl|decide|simp[WShape.has,WShape.arms,WShape.armsAll])
  (show (WTm.eq .res (.lit (.bool true))).value [] {args:=args,res:=some (.bool true),after:=args}=some (.bool (true == true)) from w_eq_bool (w_res rfl) w_lit) rfl
theorem attach_call{l:OpenLaw}{d:DefRec}
  (hn:l.most=some n) (hdf:d.params.defaults=[])
  (call:∀(w:World)(s₀ s₁:Shared)(mg mb:Str->Option Value)(fa:Addr)(o:Obj)(pm cd doc:Value)(a:Addr)(vs:List Value)(ns:List Int),
   Ground q loose [] XP w s₀ mg mb s₁.heap->YP w s₁.heap->
   s₁.heap.get? fa=some o->o.data=.func (docDef d.name d.params d.body d.scope pm cd doc)->s₁.heap.CodeRec cd d.name->mg d.name=some (.ref fa)->
   s₁.heap.get? a=some {cls:=.type "list",data:=.seq vs.toArray}->IntsAre vs ns->ns.length<=n->s₁.gens=#[]->
   codeAny (model l.prog w) callerA (.call (.ref fa) ⟨[.ref a],[]⟩) (fun r s'=>r=.ok (.ret (.bool true))/\OldK s₁.heap s'.heap/\s'.os=s₁.os/\AllBare s'.gens) s₁) :
  WalkO q loose XP YP l.row.toRowW d [] (fun f vs=>PySem.call f vs):=by
 intro w s₀ s₁ mg mb G Y fa o pm cd doc dV kV ho hd hcd hD hmg hg args vals as hpre hlay hrd hwl hlo;obtain rfl:dV=.none:=Dflts.none hD hdf;obtain rfl:kV=.none:=Dflts.noKw hD;obtain⟨a,vs,ns,rfl,rfl,hobj,hints,hlen⟩:=pY hn hpre hwl;refine enter_call (codeAny_mono (call w s₀ s₁ mg mb fa o pm cd doc a vs ns G Y ho (fd_plain hd) hcd hmg hobj hints hlen hg) fun r s' hq=>?_)
 obtain⟨rfl,h2,h3,h4⟩:=hq;exact⟨.inl ⟨.bool true,.bool true,[],rfl,fun _=>rfl,.bool true,pM l _,fun _=>⟨List.Pairwise.nil,fun _ hm=>(nomatch hm)⟩⟩,h2,h3,h4⟩
section
variable {w:World}{A:Around}{s:Shared}{K:Frag}
end
end Att
namespace L2
open PySem PySem.Spec PyProof.Rows
theorem fX:∀{vs:List Value}{ns:List Int},IntsAre vs ns->Vals (ns.map V.int) vs
 |_,_,.nil=>.nil
 |_,_,.cons n t h=>.cons ⟨t,rfl⟩ (fX h)
noncomputable def Bi(H:Hp):Prop:=∀b,H b=none\/∃o xs,H b=some (.frz o (.lst xs))
theorem rZ{K:PySem.W.Frag}{s₁:Shared}
  (KX:K.In s₁.heap)(hns:s₁.heap.Ns mainGlobals mg)(hb:s₁.heap.Ns builtinsNs mb) (hbb:∀x:Str,x≠"__name__"->mb x=bootBuiltins x) (hlim:s₁.heap.NoLimit) (hg:s₁.gens=#[])
  (ha:s₁.heap.get? a=some {cls:=.type "list",data:=.seq vs.toArray}) (hi:IntsAre vs ns) (hl:ns.length<=sizeLine) (hr:Room k callerA)
  (F:∀base:Heap,K.In base->base.Ns mainGlobals mg->FnOk P w K mg base CX k fa fd [x] sp) (hbind:∀(s:Shared)(u:Value),BindsTo s fd ⟨[u],[]⟩ [(x,u)])
  (hsp:∀H:Hp,Bi H->SqL K H a (ns.map V.int)->sp [.ref a] H (fun v _=>v=.bl true) fun _ _ _=>False)
  (hCX:∀H e s',CX [] H s₁ (fun _ _ _=>False) e s'->False) :
  codeAny (model P w) callerA (.call (.ref fa) ⟨[.ref a],[]⟩) (fun r s'=>r=.ok (.ret (.bool true))/\OldK s₁.heap s'.heap/\s'.os=s₁.os/\AllBare s'.gens) s₁:=by
 have rv:=fX hi;have lenV:=hi.length;have core:∀H:Hp,Bi H->SqL K H a (ns.map V.int)->HOk P w H s₁.heap->(∀b,H b≠none->b=a)->(H a≠none->K.lookup a=none)->
   codeAny (model P w) callerA (.call (.ref fa) ⟨[.ref a],[]⟩) (fun r s'=>r=.ok (.ret (.bool true))/\OldK s₁.heap s'.heap/\s'.os=s₁.os/\AllBare s'.gens) s₁:=by
  intro H hO hS hok hA hK;have base_of:∀{b:Addr}{o:Obj},s₁.heap.get? b=some o->H b=none->(ll s₁.heap H).get? b=some o:=fun e n=>rF e n
  have noA:∀{b:Addr}{o:Obj}{es:Array DictEntry}{ep:Nat},s₁.heap.get? b=some o->o.data=.dict es ep->H b=none:=fun {b o es ep} e d=>by
   cases q:H b with
   |none=>rfl
   |some u=>
    have e':b=a:=hA b (by rw[q];simp)
    subst e';rw[ha]at e;cases e;have d':Data.seq vs.toArray _=Data.dict es ep:=d;cases d'
  have nsK:∀{b:Addr}{m:Str->Option Value},s₁.heap.Ns b m->(ll s₁.heap H).Ns b m:=fun {b m} ⟨o,es,ep,e,d,r⟩=>⟨o,es,ep,base_of e (noA e d),d,r⟩
  have hKb:K.In (ll s₁.heap H):=fun b o e=>base_of (KX b o e) (by
   cases q:H b with
   |none=>rfl
   |some u=>
    have e':b=a:=hA b (by rw[q];simp)
    subst e';rw[hK (by rw[q];simp)]at e;cases e)
  have hM:Mod K mg (ll s₁.heap H):=⟨hKb,nsK hns,⟨mb,nsK hb,hbb⟩,let ⟨mc,h1,h2⟩:=hlim;⟨mc,nsK h1,h2⟩⟩
  have e0:Env0 P w K mg (ll s₁.heap H) callerA [] s₁ H:=⟨rfl,hM,fun b o e=>uN e,Nat.le_of_eq (pC _ _),trivial,fun b hb=>absurd (show b∈([]:List Addr) from hb) (by simp),hok,.of_eq hg⟩
  refine codeAny_mono ((F _ hKb (nsK hns)).run callerA [] s₁ H ⟨[.ref a],[]⟩ [.ref a] [.ref a] _ _ hr e0 (hbind s₁ (.ref a)) (.cons rfl .nil) (hsp H hO hS)) fun r s' h=>?_
  cases r with
  |error e=>exact (hCX H e s' h).elim
  |ok fl=>
   cases fl with
   |next=>exact False.elim h
   |brk=>exact False.elim h
   |cont=>exact False.elim h
   |ret u=>
    obtain⟨v,H',os,bare,un,hok',r',q⟩:=h;have q':v=.bl true:=q;subst q';obtain rfl:u=Value.bool true:=r';refine⟨rfl,OldK.of_keep fun b o e=>?_,os,bare⟩
    cases q:H b with
    |none=>exact un.keep b o e q (by intro z;exact absurd (show b∈([]:List Addr) from z) (by simp)) (by simp)
    |some u=>
     rcases hO b with z|⟨ob,xs,z⟩
     ·rw[q]at z;cases z
     ·have z2:=un.frzs b ob _ z;obtain⟨e1,_⟩:=hok b _ z;obtain⟨e2,_⟩:=hok' b _ z2;rw[e]at e1;cases e1;exact e2
 cases hk:K.lookup a with
 |some o=>
  have e:=KX a o hk;rw[ha]at e;cases e;refine core (fun _=>none) (fun _=>.inl rfl) (.inr ⟨_,vs.toArray,_,hk,rfl,rfl,rfl,by rw[List.size_toArray,lenV];exact hl,by simpa using rv⟩) (fun b u z=>by have z':(none:Option HO)=some u:=z;cases z') (fun b z=>absurd rfl z) fun z=>absurd rfl z
 |none=>
  refine core (fun b=>if b=a then some (.frz {cls:=.type "list",data:=.seq vs.toArray} (.lst (ns.map V.int))) else none) (fun b=>?_) (.inl (.inr ⟨{cls:=.type "list",data:=.seq vs.toArray},if_pos rfl⟩)) (fun b u z=>?_) (fun b z=>?_) fun _=>hk
  ·by_cases hb:b=a
   ·exact .inr ⟨_,_,if_pos hb⟩
   ·exact .inl (if_neg hb)
  ·by_cases hb:b=a
   ·have z':=(if_pos hb).symm.trans z;cases z';subst hb;exact⟨ha,by rw[List.length_map];exact hl,vs,_,rv,ha⟩
   ·have z':=(if_neg hb).symm.trans z;cases z'
  ·by_cases hb:b=a
   ·exact hb
   ·exact absurd (if_neg hb) z
end L2
namespace L2
open PySem PySem.Spec PyProof.Rows
end L2
namespace L2
open PySem PySem.Spec PyProof.Rows
noncomputable def ae(s:Stmt)(j:Nat):Stmt:=match s with
 |.ClassDef _ _ _ body _ _ _ _ _ _ _=>body.getD j (.Pass ⟨0,0,0,0⟩)
 |_=>.Pass ⟨0,0,0,0⟩
noncomputable def fj(s:Stmt):Arguments:=match s with
 |.FunctionDef _ a _ _ _ _ _ _ _ _=>a
 |_=>{posonlyargs:=[],args:=[],vararg:=none,kwonlyargs:=[],kw_defaults:=[],kwarg:=none,defaults:=[]}
noncomputable def d7(s:Stmt):List Stmt:=match s with
 |.FunctionDef _ _ b _ _ _ _ _ _ _=>b
 |_=>[]
noncomputable def bK(s:Stmt):Scope:=match s with
 |.FunctionDef _ _ _ _ _ _ sc _ _ _=>sc
 |_=>{kind:=.function,names:=[],isGenerator:=false,isCoroutine:=false}
section
variable {K:PySem.W.Frag}
end
section
variable {X:Cx}
end
section
variable {κ:Type} [DecidableEq κ]
end
end L2
set_option maxHeartbeats 4000000
namespace L2
open PySem PySem.Spec PyProof.Rows
noncomputable def DA(h:Heap)(e:Addr)(d:Option Addr):Prop:=∃o,h.get? e=some o/\o.dict=d
theorem iP(f:Array Value->Array Value)(o:Obj):(Obj.mapFields f o).dict=o.dict:=by
 obtain⟨c,d,x,sl⟩:=o;cases x<;>rfl
section
variable {A:Around}{s:Shared}{base:Heap}{env:Env}
theorem oM{oe:Obj}{vs:Array Value}(hfr:A.frames=some (env::outer))(hl:s.heap.FunFrames base (env::outer))(hf:env.frame=some L)(he:s.heap.get? e=some oe)(hkb:base.StaysIn s.heap)(hen:base.get? e=none)
  (hd:oe.data=.fields vs) (hsz:1 < vs.size) (h0:vs[0]?=some a0) (k:∀h',Heap.NotedW base (env::outer) e oe.cls a0 (rawInt L) s.heap h'->DA h' e oe.dict->Q () {s with heap:=h'}) :
  wpAny M A (do let fr<-frameOf env;let pl<-entryPlaceOf L hadNext;let t<-EntryCells.newEntry head fr .none (rawInt L) .none pl;setField (.ref e) 1 t) Q E s:=by
 have out:e∉(env::outer).filterMap (·.frame):=fun z=>by
  obtain⟨_,o,ho,nf⟩:=hl.mem z;cases he.symm.trans ho;exact nf vs hd
 refine wpAny_bind (wpAny_frameOf_fun hfr hl hf fun g1 sl1=>wpAny_bind (wpAny_entryPlaceOf fun pl hpl=>?_))
 unfold EntryCells.newEntry newFields;refine wpAny_bind (wpAny_newObj_type ?_ (hpl.sizeOk5 _ _ _ _ _));generalize hT:({cls:=.type "traceback",dict:=none,data:=.fields ([head,.ref L,.none,rawInt L,.none]++(if pl.isEmpty then List.replicate 6 Value.none else pl)).toArray}:Obj)=oT
 have e1:g1.get? e=some oe:=(sl1.2.1 e out).trans he;have b1:base.StaysIn g1:=fun b o q=>(sl1.2.1 b fun z=>by rw[(hl.mem z).1]at q;cases q).trans (hkb b o q)
 have e2:(g1.push oT).get? e=some oe:=Heap.get?_push_of_some oT e1;refine wpAny_setField e2 hd hsz (k _ ?_ ?_)
 ·have ne:g1.objs.size≠e:=Nat.ne_of_gt (Heap.lt_size e1);have d3:=Obj.data_mapFields hd (·.setIfInBounds 1 (Value.ref g1.objs.size));have e3:=Heap.get?_update_self (Obj.mapFields (·.setIfInBounds 1 (Value.ref g1.objs.size))) e2 (Obj.isFreed_of_fields d3);have t3:(g1.push oT).get? g1.objs.size=some oT:=Heap.get?_push_size g1 (by rw[<-hT];rfl)
  have t4:((g1.push oT).update e (Obj.mapFields (·.setIfInBounds 1 (Value.ref g1.objs.size)))).get? g1.objs.size=some oT:=(Heap.get?_update_other _ _ (Ne.symm ne)).trans t3;have stay:∀b o,b≠e->g1.get? b=some o->((g1.push oT).update e (Obj.mapFields (·.setIfInBounds 1 (Value.ref g1.objs.size)))).get? b=some o:=fun b o n q=>
   (Heap.get?_update_other _ _ (Ne.symm n)).trans (Heap.get?_push_of_some oT q)
  have other:∀b o,s.heap.get? b=some o->(∀ws,o.data≠.fields ws)->b≠e:=fun b o q nf z=>by
   subst z;cases he.symm.trans q;exact nf vs hd
  refine⟨fun b o q=>stay b o (fun z=>by rw[z,hen]at q;cases q) (b1 b o q),hl.of_keeps fun b o q nf=>?_,⟨_,_,g1.objs.size,oT,_,e3,⟨Obj.cls_mapFields _ _,?_⟩,d3,by simp[hsz],b1.fresh,ne,t4,by rw[<-hT],?_⟩,fun b o q nf=>?_⟩
  ·obtain⟨sl,z⟩:=sl1.2.2 b o q;exact⟨_,stay b _ (other b o q nf) z,rfl⟩
  ·rw[Array.getElem?_setIfInBounds_ne (by decide)];exact h0
  ·first|(simp;done)|(rcases hpl with rfl|⟨_,_,_,_,_,_,_,rfl⟩<;>simp)
  ·obtain⟨sl,z⟩:=sl1.2.2 b o q;exact⟨sl,stay b _ (other b o q nf) z⟩
 ·have d3:=Obj.data_mapFields hd (·.setIfInBounds 1 (Value.ref g1.objs.size));exact⟨_,Heap.get?_update_self (Obj.mapFields (·.setIfInBounds 1 (Value.ref g1.objs.size))) e2 (Obj.isFreed_of_fields d3),iP _ _⟩
theorem iA(hkb:base.StaysIn s.heap)(hl:s.heap.FunFrames base l)(ht:s.heap.TracedAtW base e cls a0 fl)(hd:DA s.heap e d)
  (k:∀h',base.StaysIn h'->h'.FunFrames base l->h'.TracedW base e cls a0->s.heap.UpToSlots h'->DA h' e d->Q () {s with heap:=h'}):wpAny M A (setFlight (.ref e) none) Q E s:=by
 obtain⟨oe,vs,T,oT,ts,he,hc,hv,h1,nT,ne,hT,dT,h3⟩:=ht;obtain⟨oe',he',hd⟩:=hd;cases he.symm.trans he';have sz:3 < ts.size:=(Array.getElem?_eq_some_iff.mp h3).1;unfold setFlight;refine wpAny_bind (wpAny_field he hv h1 ?_);rw[if_pos (by simp:(Value.ref T != Value.none)=true)]
 have oth:∀b,b≠T->(s.heap.update T (Obj.mapFields (·.setIfInBounds 3 ((none:Option Addr).elim Value.none fun f=>rawInt f)))).get? b=s.heap.get? b:=fun b n=>Heap.get?_update_other _ _ (Ne.symm n)
 have plain:∀b o,s.heap.get? b=some o->(∀ws,o.data≠.fields ws)->b≠T:=fun b o q nf z=>by
  subst z;cases hT.symm.trans q;exact nf ts dT
 have ee:=(oth e (Ne.symm ne)).trans he;refine wpAny_setField hT dT sz (k _ (fun b o q=>(oth b fun z=>by rw[z,nT]at q;cases q).trans (hkb b o q)) (hl.of_keeps fun b o q nf=>⟨o,(oth b (plain b o q nf)).trans q,rfl⟩) ⟨oe,vs,T,_,_,ee,hc,hv,h1,nT,ne,Heap.get?_update_self _ hT (Obj.isFreed_of_fields (Obj.data_mapFields dT _)),Obj.data_mapFields dT _,by simp[sz]⟩
  (fun b o q nf=>⟨o.slots,(oth b (plain b o q nf)).trans q⟩) ⟨oe,ee,hd⟩)
theorem yq(hfr:A.frames=some (env::outer))(hf:env.frame=some L)(fl:Heap.FlyingW base (env::outer) e cls a0 s.heap)(hd:DA s.heap e d)
  (k:∀h',Heap.HeldW base (env::outer) e cls a0 L h'->s.heap.UpToSlots h'->DA h' e d->Q () {s with heap:=h'}):wpAny M A (noteFrame (.ref e) env) Q E s:=by
 obtain⟨hkb,hen,hl,oe,vs,T,oT,ts,he,⟨rfl,h0⟩,hv,h1,nT,ne,hT,dT,h3⟩:=fl;obtain⟨oe',he',rfl⟩:=hd;cases he.symm.trans he';unfold noteFrame;simp only[hf];refine wpAny_bind (wpAny_field he hv h1 ?_);rw[if_pos (by simp:(Value.ref T != Value.none)=true)]
 refine wpAny_bind (wpAny_field hT dT h3 ?_);rw[if_neg (by simp[rawInt]:¬ ((Value.none == rawInt L)=true))]
 refine wpAny_bind (wpAny_setField hT dT (Array.getElem?_eq_some_iff.mp h3).1 ?_);have oth:∀b,b≠T->(s.heap.update T (Obj.mapFields (·.setIfInBounds 3 Value.none))).get? b=s.heap.get? b:=fun b n=>Heap.get?_update_other _ _ (Ne.symm n)
 have plain:∀b o,s.heap.get? b=some o->(∀ws,o.data≠.fields ws)->b≠T:=fun b o q nf z=>by
  subst z;cases hT.symm.trans q;exact nf ts dT
 exact oM hfr (hl.of_keeps fun b o q nf=>⟨o,(oth b (plain b o q nf)).trans q,rfl⟩) hf ((oth e (Ne.symm ne)).trans he) (fun b o q=>(oth b fun z=>by rw[z,nT]at q;cases q).trans (hkb b o q)) hen hv (Array.getElem?_eq_some_iff.mp h1).1 h0
  fun h' ⟨x1,x2,x3,x4⟩ dd=>k h' ⟨x1,hen,x2,x3⟩ (fun b o q nf=>x4 b o ((oth b (plain b o q nf)).trans q) nf) dd
theorem tE(hh:Heap.HeldW base l e cls a0 L s.heap)(hd:DA s.heap e d)(k:∀h',Heap.FlyingW base l e cls a0 h'->s.heap.UpToSlots h'->DA h' e d->Q () {s with heap:=h'}):wpAny M A (setFlight (.ref e) none) Q E s:=
 iA hh.1 hh.2.2.1 hh.2.2.2 hd fun h' k1 k2 k3 k4 k5=>k h' ⟨k1,hh.2.1,k2,k3⟩ k4 k5
theorem n8(fl:Heap.FlyingW base l e cls a0 s.heap)(hd:DA s.heap e d)(k:∀h',Heap.FlyingW base l e cls a0 h'->s.heap.UpToSlots h'->DA h' e d->Q () {s with heap:=h'}):wpAny M A (setFlight (.ref e) none) Q E s:=
 iA fl.1 fl.2.2.1 fl.2.2.2.at hd fun h' k1 k2 k3 k4 k5=>k h' ⟨k1,fl.2.1,k2,k3⟩ k4 k5
theorem dN{h:Heap}(x:h.FunFrames base (env::outer)):h.FunFrames base outer:=x.2.2
theorem sj(hfr:A.frames=some (env::outer))(hf:env.frame=some L)(fl:Heap.FlyingW base (env::outer) e cls a0 s.heap)(hd:DA s.heap e d)
  (k:∀h',Heap.FlyingW base outer e cls a0 h'->s.heap.UpToSlots h'->DA h' e d->Q () {s with heap:=h'}):wpAny M A (leaving env (.ref e)) Q E s:=by
 unfold leaving;refine wpAny_bind (yq hfr hf fl hd fun h1 x1 u1 d1=>tE x1 d1 fun h2 x2 u2 d2=>k h2 ⟨x2.1,x2.2.1,dN x2.2.2.1,x2.2.2.2⟩ (u1.trans u2) d2)
theorem tj{oe:Obj}(hfr:A.frames=some (env::outer))(hf:env.frame=some L)(hkb:base.StaysIn s.heap)(hl:s.heap.FunFrames base (env::outer))(he:s.heap.get? e=some oe)(hen:base.get? e=none)(hv:oe.data=.fields vs)(h0:vs[0]?=some a0)(h1:vs[1]?=some .none)
  (k:∀h',Heap.FlyingW base outer e oe.cls a0 h'->s.heap.UpToSlots h'->DA h' e oe.dict->Q () {s with heap:=h'}):wpAny M A (leaving env (.ref e)) Q E s:=by
 unfold leaving noteFrame;simp only[hf];refine wpAny_bind (wpAny_bind (wpAny_field he hv h1 ?_));rw[if_neg (by decide)]
 refine oM hfr hl hf he hkb hen hv (Array.getElem?_eq_some_iff.mp h1).1 h0 fun h1 x1 d1=>?_
 exact iA x1.1 x1.2.1 x1.2.2.1 d1 fun h2 k1 k2 k3 k4 k5=>k h2 ⟨k1,hen,dN k2,k3⟩ (Heap.UpToSlots.trans x1.2.2.2 k4) k5
end
end L2
namespace L2
open PySem PySem.Spec PyProof.Rows
section
variable {h h':Heap}{o:HO}
theorem ObjOk.isAt(x:ObjOk P w H h a o):∃ob,h.get? a=some ob:=by
 cases o with
 |lst xs=>obtain⟨_,_,_,_,e⟩:=x;exact⟨_,e⟩
 |tup xs=>obtain⟨_,_,_,ob,e,_⟩:=x;exact⟨_,e⟩
 |dK kvs=>obtain⟨_,_,_,_,ob,_,_,e,_⟩:=x;exact⟨_,e⟩
 |dT kvs=>obtain⟨_,_,_,_,ob,_,_,e,_⟩:=x;exact⟨_,e⟩
 |set S n=>obtain⟨ob,_,_,_,e,_⟩:=x;exact⟨_,e⟩
 |ins C dx fs=>obtain⟨_,_,_,e,_⟩:=x;exact⟨_,e⟩
 |own y=>exact x
 |xd fs=>obtain⟨_,⟨ob,_,_,e,_⟩,_⟩:=x;exact⟨_,e⟩
 |rng lo hi=>obtain⟨_,_,_,e⟩:=x;exact⟨_,e⟩
 |frz ob u=>exact⟨_,x.1⟩
 |tbl ps=>exact⟨_,x⟩
 |met f y=>exact⟨_,x⟩
 |ext φ=>exact x.2.1
theorem HOk.keptT(x:HOk P w H h)(k:∀b u ob,H b=some u->h.get? b=some ob->h'.get? b=some ob):HOk P w H h':=fun a o e=>
 (x a o e).stay (fun b u hb q=>hb.elim (fun z=>by subst z;exact k _ _ _ e q) (fun z=>k _ _ _ z q)) (fun _ q=>q) fun _ _ q=>q
end
noncomputable def Fly(B:Heap)(l:List Env)(a:Addr)(cls:Value)(h:Heap):Prop:=∃a0,Heap.FlyingW B l a cls a0 h
noncomputable def Within(B:Heap)(l:List Env)(hs:Heap)(H':Hp)(h':Heap):Prop:=
 ∀b ob,h'.get? b=some ob->(H' b≠none\/((∃o',hs.get? b=some o')/\b∉frs l))->B.get? b=some ob
noncomputable def CX1(P:Program)(w:World):CXT:=fun outer H s E e s'=>
 ∃(a:Addr) (cls:Value) (B:Heap) (H':Hp) (dx:Option Addr),e=.ref a/\s'.os=s.os/\AllBare s'.gens/\Un (frs outer) [] H H' s.heap s'.heap/\HOk P w H' s'.heap/\
  (Fly B outer a cls s'.heap/\DA s'.heap a dx)/\H' a=none/\Within B outer s.heap H' s'.heap/\E cls dx H'
theorem Inv.notrk{s:Shared}(I:Inv X pins σ H s)(hn:s.heap.get? e=none):H e=none:=by
 cases q:H e with
 |none=>rfl
 |some u=>
  obtain⟨ob,z⟩:=(I.hok e u q).isAt;rw[hn]at z;cases z
theorem Inv.oldNe{X:Cx}(I:Inv X pins σ H s)(q:X.s₀.heap.get? b=some o)(hb:b∉X.fs):b∉frs X.stack:=fun hm=>by
 rcases List.mem_cons.mp (I.stkSub b hm) with z|z
 ·have:=Nat.lt_of_lt_of_le (Heap.lt_size q) I.ok.above;rw[z]at this;exact absurd this (Nat.lt_irrefl _)
 ·exact hb z
section
variable {K:PySem.W.Frag}{s:Shared}
theorem j8{s1:Shared}{oe:Obj}{h':Heap}
  (I:Inv (cT (CX1 P w) P w K mg base N qual scope f cd A outer s H E) pins σ H1 s1) (hk:∀b o,s1.heap.get? b=some o->b≠e->h'.get? b=some o) (hke:∀o,s1.heap.get? e=some o->∃vs,o.data=.fields vs) (hnt:H1 e=none) (hno:s.heap.get? e=none)
  (hoe:h'.get? e=some oe) (hv:oe.data=.fields vs) (hv0:vs[0]?=some a0) (hv1:vs[1]?=some .none) (he:E oe.cls oe.dict H1) :
  (cT (CX1 P w) P w K mg base N qual scope f cd A outer s H E).xe (.ref e) {s1 with heap:=h'}:=by
 have hfr:((cT (CX1 P w) P w K mg base N qual scope f cd A outer s H E).A).frames=some (envOfC qual scope s.heap.objs.size f cd::outer):=I.ok.frames;have hl:s1.heap.FunFrames base (envOfC qual scope s.heap.objs.size f cd::outer):=I.stack;have hin:∀env∈(envOfC qual scope s.heap.objs.size f cd::outer),∀b,env.frame=some b->b∈e::frs (envOfC qual scope s.heap.objs.size f cd::outer):=fun env he b hb=>List.mem_cons_of_mem _ (List.mem_filterMap.mpr ⟨env,he,hb⟩)
 have hB:∀b o,(PySem.W.hideAll s1.heap (e::frs (envOfC qual scope s.heap.objs.size f cd::outer))).get? b=some o->s1.heap.get? b=some o/\b≠e:=fun b o q=>⟨PySem.W.of_hideAll _ q,fun z=>by
  subst z;rw[PySem.W.hideAll_none _ List.mem_cons_self]at q;cases q⟩
 have hff:s1.heap.FunFrames (PySem.W.hideAll s1.heap (e::frs (envOfC qual scope s.heap.objs.size f cd::outer))) (envOfC qual scope s.heap.objs.size f cd::outer):=PySem.W.funFrames_hide hl hin;show wpAny _ _ (leaving _ _) _ _ _;refine tj (base:=PySem.W.hideAll s1.heap (e::frs (envOfC qual scope s.heap.objs.size f cd::outer))) hfr rfl (fun b o q=>hk b o (hB b o q).1 (hB b o q).2) (hff.of_keeps fun b o q nf=>⟨o,hk b o q (fun z=>by
  subst z;obtain⟨ws,dw⟩:=hke o q;exact nf ws dw),rfl⟩) hoe (PySem.W.hideAll_none _ List.mem_cons_self) hv hv0 hv1 fun h2 fl up dd=>?_
 have tB:∀b u ob,H1 b=some u->s1.heap.get? b=some ob->(PySem.W.hideAll s1.heap (e::frs (envOfC qual scope s.heap.objs.size f cd::outer))).get? b=some ob:=fun b u ob hb q=>
  PySem.W.hideAll_get _ q fun hm=>by
   rcases List.mem_cons.mp hm with z|hm
   ·rw[z,hnt]at hb;cases hb
   ·have z:=I.stkFree b hm;rw[hb]at z;cases z
 have one:∀b o,s.heap.get? b=some o->b≠e:=fun b o q z=>by rw[z,hno]at q;cases q
 have oB:∀b o ob,s.heap.get? b=some o->b∉frs outer->s1.heap.get? b=some ob->(PySem.W.hideAll s1.heap (e::frs (envOfC qual scope s.heap.objs.size f cd::outer))).get? b=some ob:=fun b o ob q hb q1=>
  PySem.W.hideAll_get _ q1 fun hm=>(List.mem_cons.mp hm).elim (one b o q) (I.oldNe q hb)
 have st:=fl.1;have slot:∀b o,s.heap.get? b=some o->H b=none->b∈frs outer->∃sl,h2.get? b=some {o with slots:=sl}:=fun b o q n hb=>by
  obtain⟨sl,e1⟩:=I.base.slot b o q n hb (fun z=>nomatch z)
  obtain⟨_,o2,e2,nf⟩:=I.ok.funs.mem hb;have e3:o2=o:=Option.some.inj (e2.symm.trans q);subst e3;obtain⟨sl2,e4⟩:=up b _ (hk _ _ e1 (one b _ q)) nf;exact⟨sl2,e4⟩
 refine⟨e,oe.cls,_,H1,oe.dict,rfl,I.os,I.bare,⟨fun b o q n hb _=>?_,fun b o q n hb _=>slot b o q n hb,fun b o q n _=>I.base.free b o q n (fun z=>nomatch z),fun b o q _=>?_,I.base.tups,I.base.frzs,I.base.tbls⟩,?_,⟨⟨_,fl⟩,dd⟩,hnt,fun b ob q hb=>?_,he⟩
 ·exact st b o (oB b o o q hb (I.base.keep b o q n hb (fun z=>nomatch z)))
 ·by_cases hb:b∈frs outer
  ·obtain⟨sl,z⟩:=slot b o q (I.ok.frf b hb) hb;exact⟨_,z⟩
  ·obtain⟨o',e1⟩:=I.base.there b o q (fun z=>nomatch z)
   exact⟨o',st b o' (oB b o o' q hb e1)⟩
 ·exact I.hok.keptT fun b u ob hb q=>st b ob (tB b u ob hb q)
 ·rcases hb with hb|⟨⟨o',ho'⟩,hb⟩
  ·cases z:H1 b with
   |none=>exact absurd z hb
   |some u=>
    obtain⟨o1,e1⟩:=(I.hok b u z).isAt;have e2:=tB b u o1 z e1;have e3:o1=ob:=Option.some.inj ((st b o1 e2).symm.trans q);rw[<-e3];exact e2
  ·obtain⟨o1,e1⟩:=I.base.there b o' ho' (fun z=>nomatch z)
   have e2:=oB b o' o1 ho' hb e1;have e3:o1=ob:=Option.some.inj ((st b o1 e2).symm.trans q);rw[<-e3];exact e2
theorem p5{s1:Shared}
  (I:Inv (cT (CX1 P w) P w K mg base N qual scope f cd A outer s H E) pins σ H1 s1) (hx:Heap.MadeExcOf s1.heap h' e cls args)(he:E cls none H1) :
  (cT (CX1 P w) P w K mg base N qual scope f cd A outer s H E).xe (.ref e) {s1 with heap:=h'}:=by
 obtain⟨t,e1,_,_⟩:=hx.there;refine j8 I (fun b o q _=>hx.keeps b o q) (fun o q=>by rw[hx.new]at q;cases q) (I.notrk hx.new) ?_ e1 rfl rfl rfl he
 cases q:s.heap.get? e with
 |none=>rfl
 |some o=>
  obtain⟨o1,z⟩:=I.base.there e o q (fun z=>nomatch z)
  rw[hx.new]at z;cases z
theorem rX(hE:∀c d H',E' c d H'->E c d H')
  (I:Inv (cT (CX1 P w) P w K mg base N qual scope f cd A outer s H E) pins σ H1 s1) (hc:CX1 P w (envOfC qual scope s.heap.objs.size f cd::outer) H1 s1 E' e s') :
  (cT (CX1 P w) P w K mg base N qual scope f cd A outer s H E).xe e s':=by
 obtain⟨a,cls,B,H2,dx,rfl,os,bare,un,hok,⟨⟨a0,fl⟩,dd⟩,ha,inc,he⟩:=hc;have hfr:((cT (CX1 P w) P w K mg base N qual scope f cd A outer s H E).A).frames=some (envOfC qual scope s.heap.objs.size f cd::outer):=I.ok.frames;show wpAny _ _ (leaving _ _) _ _ _;refine sj hfr rfl fl dd fun h2 fl2 up dd2=>?_
 have st:=fl2.1;have nil:∀b:Addr,b∉([]:List Addr):=fun b z=>nomatch z
 have slot:∀b o,s.heap.get? b=some o->H b=none->b∈frs outer->∃sl,h2.get? b=some {o with slots:=sl}:=fun b o q n hb=>by
  obtain⟨sl,e1⟩:=I.base.slot b o q n hb (nil b);obtain⟨sl1,e2⟩:=un.any e1 (I.base.free b o q n (nil b)) (nil b);obtain⟨_,o2,e3,nf⟩:=I.ok.funs.mem hb;have e4:o2=o:=Option.some.inj (e3.symm.trans q);subst e4;obtain⟨sl2,e5⟩:=up b _ e2 nf;exact⟨sl2,e5⟩
 have old:∀b o,s.heap.get? b=some o->b∉frs outer->∃ob,s'.heap.get? b=some ob/\B.get? b=some ob:=fun b o q hb=>by
  obtain⟨o1,e1⟩:=I.base.there b o q (nil b);obtain⟨o2,e2⟩:=un.there b o1 e1 (nil b);exact⟨o2,e2,inc b o2 e2 (.inr ⟨⟨o1,e1⟩,I.oldNe q hb⟩)⟩
 refine⟨a,cls,B,H2,dx,rfl,os.trans I.os,bare,⟨fun b o q n hb _=>?_,fun b o q n hb _=>slot b o q n hb,fun b o q n _=>?_,fun b o q _=>?_,fun b xs q=>un.tups b xs (I.base.tups b xs q),fun b o u q=>un.frzs b o u (I.base.frzs b o u q),fun b ps q=>?_⟩,?_,⟨⟨a0,fl2⟩,dd2⟩,ha,fun b ob q hb=>?_,hE _ _ _ he⟩
 ·have e1:=I.base.keep b o q n hb (nil b);have e2:=un.keep b o e1 (I.base.free b o q n (nil b)) (I.oldNe q hb) (nil b);exact st b o (inc b o e2 (.inr ⟨⟨o,e1⟩,I.oldNe q hb⟩))
 ·obtain⟨o1,e1⟩:=I.base.there b o q (nil b);exact un.free b o1 e1 (I.base.free b o q n (nil b)) (nil b)
 ·by_cases hb:b∈frs outer
  ·obtain⟨sl,z⟩:=slot b o q (I.ok.frf b hb) hb;exact⟨_,z⟩
  ·obtain⟨ob,_,e2⟩:=old b o q hb;exact⟨ob,st b ob e2⟩
 ·obtain⟨m1,e1⟩:=I.base.tbls b ps q;obtain⟨m2,e2⟩:=un.tbls b _ e1;exact⟨m1++m2,by rw[e2,Array.append_assoc]⟩
 ·exact hok.keptT fun b u ob hb q=>st b ob (inc b ob q (.inl (by rw[hb];exact fun z=>nomatch z)))
 ·rcases hb with hb|⟨⟨o',ho'⟩,hb⟩
  ·cases z:H2 b with
   |none=>exact absurd z hb
   |some u=>
    obtain⟨o1,e1⟩:=(hok b u z).isAt;have e2:=inc b o1 e1 (.inl hb);have e3:o1=ob:=Option.some.inj ((st b o1 e2).symm.trans q);rw[<-e3];exact e2
  ·obtain⟨o1,e1,e2⟩:=old b o' ho' hb;have e3:o1=ob:=Option.some.inj ((st b o1 e2).symm.trans q);rw[<-e3];exact e2
theorem DB:wX (CX1 P w) (cT (CX1 P w) P w K mg base N qual scope f cd A outer s H E) E:=fun _ _ _ _ _ _ I h=>rX (fun _ _ _ z=>z) I h
theorem Es:PassesOwn (model P w) (cT (CX1 P w) P w K mg base N qual scope f cd A outer s H E).A (cT (CX1 P w) P w K mg base N qual scope f cd A outer s H E).env (cT (CX1 P w) P w K mg base N qual scope f cd A outer s H E).xe:=
 PassesOwn.leaving
end
noncomputable def qJ(X:Cx)(E:XK):Prop:=∀(pins:List (Addr×Obj)) (σ:St)(H:Hp)(s:Shared)(e:Addr)(cls:Value)(args:List Value)(h':Heap),Inv X pins σ H s->Heap.MadeExcOf s.heap h' e cls args->E cls none H->X.xe (.ref e) {s with heap:=h'}
noncomputable def nU(X:Cx)(E:XK):Prop:=∀(pins:List (Addr×Obj)) (σ:St)(H:Hp)(s:Shared)(e:Addr)(oe:Obj)(vs:Array Value)(a0:Value),Inv X pins σ H s->H e=none->X.s₀.heap.get? e=none->s.heap.get? e=some oe->oe.data=.fields vs->vs[0]?=some a0->vs[1]?=some .none->E oe.cls oe.dict H->X.xe (.ref e) s
theorem rb{K:PySem.W.Frag} :
  nU (cT (CX1 P w) P w K mg base N qual scope f cd A outer s H E) E:=fun _ _ _ s1 e oe vs a0 I ht h0 hoe hv v0 v1 he=>j8 (h':=s1.heap) I (fun _ _ q _=>q) (fun o q=>by
 cases hoe.symm.trans q;exact⟨vs,hv⟩) ht h0 hoe hv v0 v1 he
theorem uA{K:PySem.W.Frag} :
  qJ (cT (CX1 P w) P w K mg base N qual scope f cd A outer s H E) E:=fun _ _ _ _ _ _ _ _ I hx he=>p5 I hx he
abbrev bmV:List Value:=[.type "ValueError",.type "Exception",.type "BaseException",.type "object"]
noncomputable def DF(K:PySem.W.Frag)(C:Addr):Prop:=PySem.W.excIn K C bmV "ValueError.__new__"=true
section
variable {X:Cx}
end
end L2
namespace L2
open PySem PySem.Spec PyProof.Rows
noncomputable def bq(CX:CXT)(X:Cx)(E:St->XK):Prop:=∀(pins:List (Addr×Obj)) (σ:St)(H:Hp)(s:Shared)(e:Value)(s':Shared),Inv X pins σ H s->CX X.stack H s (E σ) e s'->X.xe e s'
section
variable {X:Cx}{p:Pos}{o:Expr}
end
section
variable {X:Cx}{σ:St}{s1 s':Shared}{B:Heap}
end
noncomputable def uH(a:Addr)(cls:Value)(dx:Option Addr):HO:=.ext fun h=>∃o vs,h.get? a=some o/\o.cls=cls/\o.data=.fields vs/\o.dict=dx
section
variable {X:Cx}{σ:St}{s:Shared}
theorem Inv.trackExc{o:Obj}(I:Inv X pins σ H s)(hn:H a=none)(ho:s.heap.get? a=some o)(hc:o.cls=cls)(hd:o.data=.fields vs)(hdx:o.dict=dx)(h0:X.s₀.heap.get? a=none)(hp:∀p∈X.pn++pins,p.1≠a) :
  Inv X pins σ (upd H a (uH a cls dx)) s:=by
 have ne:∀b u,H b=some u->b≠a:=fun b u q=>ay q hn
 have nL:X.env.locals≠a:=fun z=>by
  obtain⟨m,⟨o',_,_,ho',hd',_⟩,_⟩:=I.loc;rw[z,ho]at ho';cases ho';rw[hd]at hd';cases hd'
 have nC:∀x c,X.env.cells.lookup x=some c->c≠a:=fun x c e z=>by
  obtain⟨v,o',ho',hd'⟩:=I.cell x c e;rw[z,ho]at ho';cases ho';rw[hd]at hd';cases hd'
 refine⟨I.ok,I.os,I.bare,⟨I.base.keep,I.base.slot,fun b o' q n hx=>?_,I.base.there,fun b xs q=>?_,fun b o' u q=>?_,fun b ps q=>?_⟩,I.loc,I.cell,?_,fun x c e=>?_,fun p hp'=>?_,fun b u q=>?_,I.len⟩
 ·rw[ag fun z=>by rw[z,h0]at q;cases q]
  exact I.base.free b o' q n hx
 ·have z:=I.base.tups b xs q;rw[ag (ne _ _ z)];exact z
 ·have z:=I.base.frzs b o' u q;rw[ag (ne _ _ z)];exact z
 ·obtain⟨m,z⟩:=I.base.tbls b ps q;exact⟨m,by rw[ag (ne _ _ z)];exact z⟩
 ·rw[ag nL];exact I.free
 ·rw[ag (nC x c e)];exact I.freeC x c e
 ·obtain⟨e,n,r⟩:=I.pin p hp';exact⟨e,by rw[ag (hp p hp')];exact n,r⟩
 ·by_cases hb:b=a
  ·subst hb;rw[ai]at q;cases q;exact⟨⟨o,vs,ho,hc,hd,hdx⟩,⟨o,ho⟩,fun h1 h2 ⟨o1,vs1,e1,e2,e3⟩ k=>⟨o1,vs1,k _ e1,e2,e3⟩⟩
  ·rw[ag hb]at q;exact (I.hok b u q).stay (fun _ _ _ z=>z) (fun c z=>by rw[ag (ne _ _ z)];exact z) fun c xs z=>by rw[ag (ne _ _ z)];exact z
theorem Inv.goes{h':Heap}(hi:X.N[i]?=some n)(hN:X.N.Nodup)(I:Inv X pins σ H s)(hm:s.heap.Ns X.env.locals m)
  (hl:∀(j:Nat)(x:Str)(w:V),X.N[j]?=some x->σ[j]?=some (some w)->Vis X.env.scope x->∃u,RelV w u/\Dc X.env s.heap m x u)
  (hn:h'.Ns X.env.locals (fun x=>if x=n then v else m x)) (hs:Heap.SameBut X.env.locals s.heap h'):Inv X pins (σ.set i none) H {s with heap:=h',toks:=t'}:=by
 obtain⟨oL,_,_,hoL,_⟩:=id hm;have old:∀b o,X.s₀.heap.get? b=some o->h'.get? b=s.heap.get? b:=fun b o e=>hs.2 b (Nat.ne_of_lt (Nat.lt_of_lt_of_le (Heap.lt_size e) I.ok.above))
 refine⟨I.ok,I.os,I.bare,⟨fun b o q n hb hx=>(old b o q).trans (I.base.keep b o q n hb hx),fun b o q n hb hx=>?_,I.base.free,fun b o q hx=>?_,I.base.tups,I.base.frzs,I.base.tbls⟩,⟨_,hn,fun j y w e1 e2 e3=>?_⟩,fun y c e=>?_,I.free,I.freeC,fun p hp=>?_,fun b u q=>?_,by rw[List.length_set];exact I.len⟩
 ·obtain⟨sl,z⟩:=I.base.slot b o q n hb hx;exact⟨sl,(old b o q).trans z⟩
 ·obtain⟨o',z⟩:=I.base.there b o q hx;exact⟨o',(old b o q).trans z⟩
 ·have hj:j≠i:=fun z=>by
   subst z;rw[List.getElem?_set_self']at e2;cases q:σ[j]? with
   |none=>rw[q]at e2;cases e2
   |some r=>rw[q]at e2;cases e2
  rw[List.getElem?_set_ne (Ne.symm hj)]at e2;obtain⟨u,r,l⟩:=hl j y w e1 e2 e3;refine⟨u,r,?_⟩;rcases l with ⟨k,e⟩|⟨k,c,e,z⟩
  ·refine .inl ⟨k,?_⟩;have:y≠n:=fun e=>hj (hX hN e1 (e▸hi))
   show (if y=n then v else m y)=some u
   rw[if_neg this];exact e
  ·exact .inr ⟨k,c,e,z.sameBut hs (I.cne y c e)⟩
 ·obtain⟨w',z⟩:=I.cell y c e;exact⟨w',z.sameBut hs (I.cne y c e)⟩
 ·obtain⟨e,n,ne,nf,d⟩:=I.pin p hp;exact⟨(hs.2 p.1 ne).trans e,n,ne,nf,d⟩
 ·refine (I.hok b u q).stay (fun c w' hc z=>(hs.2 c ?_).trans z) (fun _ z=>z) fun _ _ z=>z
  rintro rfl;rcases hc with rfl|hc
  ·rw[I.free]at q;cases q
  ·rw[I.free]at hc;cases hc
end
noncomputable abbrev Cx.marked(X:Cx)(v:Value):Cx:={X with A:=X.A.mark (some v),calm:=false,xe:=fun _ _=>False}
section
variable {X:Cx}
theorem Inv.marked(I:Inv X pins σ H s)(v:Value):Inv (X.marked v) pins σ H s:=
 ⟨⟨I.ok.mod,I.ok.kind,I.ok.glob,I.ok.blt,I.ok.above,I.ok.inj,I.ok.has,I.ok.cab,(fun z=>nomatch z),I.ok.frames,I.ok.stk,I.ok.exf,I.ok.bs,I.ok.bsz,I.ok.noex,I.ok.exfs,I.ok.funs,I.ok.frf⟩,I.os,I.bare,I.base,I.loc,I.cell,I.free,I.freeC,I.pin,I.hok,I.len⟩
theorem Inv.unmark{v:Value}(ok:X.Ok)(I:Inv (X.marked v) pins σ H s):Inv X pins σ H s:=⟨ok,I.os,I.bare,I.base,I.loc,I.cell,I.free,I.freeC,I.pin,I.hok,I.len⟩
end
noncomputable def XI(X:Cx)(pins:List (Addr×Obj))(σ:St)(H:Hp)(a:Addr)(cls:Value)(dx:Option Addr)(s:Shared):Prop:=
 ∃B a0,Inv X pins σ H s/\(Heap.FlyingW B X.stack a cls a0 s.heap/\DA s.heap a dx)/\H a=none/\X.s₀.heap.get? a=none/\(∀p∈X.pn++pins,p.1≠a)/\∀h4,B.StaysIn h4->s.heap.UpToSlots h4->Inv X pins σ H {s with heap:=h4}
noncomputable def PH(X:Cx)(hs:List ExceptHandler)(t:Ends->St->XK):Prop:=
 ∀(pins:List (Addr×Obj)) (s:Shared)(σ:St)(H:Hp)(D:Ends)(a:Addr)(cls:Value)(dx:Option Addr),XI X pins σ H a cls dx s->t D σ cls dx H->wpAny (model X.prog X.w) X.A (handleBy (.ref a) X.env hs) (SP X pins D) X.xe s
noncomputable def Ends.goes(D:Ends)(i:Nat):Ends:=⟨fun σ H=>D.nx (σ.set i none) H,D.rt,fun σ H=>D.bk (σ.set i none) H,fun σ H=>D.ct (σ.set i none) H⟩
noncomputable def EC(K:PySem.W.Frag)(C:Addr)(i:Nat)(ts:TS)(tr:Ends->St->XK):Ends->St->XK:=fun D σ cls d H=>
 (PySem.W.exmOne K cls (.ref C)=some true/\∀a,H a=none->ts (D.goes i) (σ.set i (some (.ref a))) (upd H a (uH a cls d)))\/(PySem.W.exmOne K cls (.ref C)=some false/\tr D σ cls d H)
noncomputable def Fp(K:PySem.W.Frag)(C:Addr)(ts:TS)(tr:Ends->St->XK):Ends->St->XK:=fun D σ cls d H=>
 (PySem.W.exmOne K cls (.ref C)=some true/\ts D σ H)\/(PySem.W.exmOne K cls (.ref C)=some false/\tr D σ cls d H)
section
variable {X:Cx}{c n:Str}{C:Addr}{b0:Stmt}{suite:List Stmt}{np hpos pos:Pos}{ax:List ExceptHandler}{ts:TS}{tr:Ends->St->XK}{i:Nat}
theorem ft{M:Model}{B h:Heap}{l:List Env}{a:Addr}{cls a0:Value}(fl:Heap.FlyingW B l a cls a0 h):PySem.W.Looks M h (typeOf (.ref a)) cls:=by
 obtain⟨ob,hob,hc⟩:=fl.there;exact hc▸(PySem.W.Looks.ld hob).andThen .now
theorem AV(hg:Gl X c)(hm:X.mg c=some (.ref C))(hN:X.N.Nodup)(hi:X.N[i]?=some n)(hl:X.env.scope.names.lookup n=some .local)(hs:∀v,PSs (X.marked v) (b0::suite) ts)(hr:PH X ax tr)(hdb:(c == ("__debug__" : Str))=false:=by decide) :
  PH X (.ExceptHandler (some (.Name c np)) (some n) (b0::suite) hpos::ax) (EC X.K C i ts tr):=by
 intro pins s σ H D a cls dx xi h;obtain⟨B,a0,I,⟨fl,dd⟩,ha,h0,hp,stab⟩:=id xi;rcases h with ⟨em,k⟩|⟨em,k⟩
 ·refine wpAny_handleBy_cons (codeAny_handlers_test (bZ (I.marked (.ref a)) hg hm ?_ hdb)) (by intro q;cases q)
  refine (PySem.W.exm_one I.kIn (ft fl) em).here ?_;refine codeAny_handlers_suite_as (n8 fl dd fun h6 fl6 up6 dd6=>?_)
  have I6:=stab h6 fl6.1 up6;obtain⟨oe,vs,e1,e2,e3,_⟩:=fl6.first
  have e4:oe.dict=dx:=by
   obtain⟨o',z1,z2⟩:=dd6;cases e1.symm.trans z1;exact z2
  have I7:=I6.trackExc (cls:=cls) ha e1 e2 e3 e4 h0 hp;refine hZ (X:=X.marked (.ref a)) (v:=.ref a) (I7.marked (.ref a)) hN hi (.inl hl) rfl (fun s7 I8=>?_) (.inr hl)
  refine wpAny_mono (hs (.ref a) pins s7 _ _ (D.goes i) I8 (k a ha)) (fun fl s8 q=>?_) (fun _ _ z=>False.elim z)
  have hcl:(X.env.scope.kind == .class||(X.env.scope.kind == .module&&X.env.locals != X.env.globals))=false:=by rw[I.ok.kind];rfl
  have fin:∀σ' H',Inv (X.marked (.ref a)) pins σ' H' s8->∀(Q:Unit->Shared->Prop),(∀s9,Inv X pins (σ'.set i none) H' s9->Q () s9)->
    wpAny (model X.prog X.w) X.A (do bindName X.env n .none;unbindBehindTheSuite X.env n hpos) Q X.xe s8:=fun σ' H' J Q kq=>by
   have J':=J.unmark I.ok;obtain⟨m,hm',hl'⟩:=J'.loc;exact wpAny_nameGoes_keeps hl hm' hcl fun h' v hn hs'=>kq _ (Inv.goes hi hN J' hm' hl' hn hs')
  match fl,q with
  |.next,⟨σ',H',J,q⟩=>exact fin σ' H' J _ fun s9 J9=>⟨_,_,J9,q⟩
  |.brk,⟨σ',H',J,q⟩=>exact fin σ' H' J _ fun s9 J9=>⟨_,_,J9,q⟩
  |.cont,⟨σ',H',J,q⟩=>exact fin σ' H' J _ fun s9 J9=>⟨_,_,J9,q⟩
  |.ret u,⟨v,σ',H',J,r,q⟩=>exact fin σ' H' J _ fun s9 J9=>⟨v,_,_,J9,r,q⟩
 ·refine wpAny_handleBy_cons (codeAny_handlers_test (bZ (I.marked (.ref a)) hg hm ?_ hdb)) (by intro q;cases q)
  refine (PySem.W.exm_one I.kIn (ft fl) em).here ?_;exact hr pins s σ H D a cls dx xi k
theorem Cm(hg:Gl X c)(hm:X.mg c=some (.ref C))(hs:∀v,PSs (X.marked v) (b0::suite) ts)(hr:PH X ax tr)(hdb:(c == ("__debug__" : Str))=false:=by decide) :
  PH X (.ExceptHandler (some (.Name c np)) none (b0::suite) hpos::ax) (Fp X.K C ts tr):=by
 intro pins s σ H D a cls dx xi h;obtain⟨B,a0,I,⟨fl,dd⟩,ha,h0,hp,stab⟩:=id xi;rcases h with ⟨em,k⟩|⟨em,k⟩
 ·refine wpAny_handleBy_cons (codeAny_handlers_test (bZ (I.marked (.ref a)) hg hm ?_ hdb)) (by intro q;cases q)
  refine (PySem.W.exm_one I.kIn (ft fl) em).here ?_;refine codeAny_handlers_suite (n8 fl dd fun h6 fl6 up6 dd6=>?_)
  have I6:=stab h6 fl6.1 up6;refine wpAny_mono (hs (.ref a) pins _ _ _ D (I6.marked (.ref a)) k) (fun fl s8 q=>?_) (fun _ _ z=>False.elim z)
  match fl,q with
  |.next,⟨σ',H',J,q⟩=>exact⟨_,_,J.unmark I.ok,q⟩
  |.brk,⟨σ',H',J,q⟩=>exact⟨_,_,J.unmark I.ok,q⟩
  |.cont,⟨σ',H',J,q⟩=>exact⟨_,_,J.unmark I.ok,q⟩
  |.ret u,⟨v,σ',H',J,r,q⟩=>exact⟨v,_,_,J.unmark I.ok,r,q⟩
 ·refine wpAny_handleBy_cons (codeAny_handlers_test (bZ (I.marked (.ref a)) hg hm ?_ hdb)) (by intro q;cases q)
  refine (PySem.W.exm_one I.kIn (ft fl) em).here ?_;exact hr pins s σ H D a cls dx xi k
end
end L2
namespace L2
open PySem PySem.Spec PySem.Calls PyProof.Rows
noncomputable def vo(K:PySem.W.Frag)(C:Addr):Bool:=match K.lookup C with
 |some ⟨.type "type",_,.cls k,sl⟩=>(match k.mro with
  |.ref C2::above=>C2 == C&&!k.hasDel&&PySem.W.tailIn K bmV above&&(match sl.toList with
   |[_,_,_,_,some (.builtin mk),_]=>mk == "ValueError.__new__"
   |_=>false)
  |_=>false)
 |_=>false
section
variable {A:Around}{h:Heap}{os:OsState}{K:PySem.W.Frag}
end
end L2
namespace L2
open PySem PySem.Spec PySem.Calls PyProof.Rows
section
variable {pos:Pos}
theorem hJ{args:List Expr}(h1:(backTo pos (starEach args env)).any (·.1)=false)(h2:args.length < 30):methodCallForm (args.length+([]:List Keyword).length) (backTo pos (starEach args env)) (backToKw pos (keywordEach [] env))=true:=by
 unfold methodCallForm;have a:(backTo pos (starEach args env)).all (!·.1)=true:=by
  rw[List.all_eq_true];intro x hx;have:=List.any_eq_false.mp h1 x hx;simpa using this
 rw[a];have:(backToKw pos (keywordEach [] env)).all (·.1.isSome)=true:=rfl;rw[this];have h3:(backToKw pos (keywordEach ([]:List Keyword) env)).isEmpty=true:=rfl;simp only[h3,if_true,List.length_nil,Bool.true_and,Nat.add_zero,decide_eq_true_eq];exact h2
theorem gy{apos:Pos}{args:List Expr}(hb:attributeBase o m env (eval o env)=eval o env)
  (hf:methodCallForm (args.length+([]:List Keyword).length) (backTo pos (starEach args env)) (backToKw pos (keywordEach [] env))=true) (hl:(apos.endLine == pos.line)=true) :
  eval (.Call (.Attribute o m apos) args [] pos) env=(do
   let ov<-eval o env
   standAt apos.atName
   let (f,first)<-holding [ov] (getMethod ov m (do return (<-importBound o env).getD true))
   callWith pos f first (backTo pos (starEach args env)) (backToKw pos (keywordEach [] env))):=by
 rw[arm_eval_Call,hb];unfold methodCall calleeOf methodCallPos;simp only[hf,hl];rfl
end
noncomputable def FH(e C:Addr):HO:=.ext fun h=>∃t0,h.get? e=some {cls:=.ref C,data:=.fields #[.ref t0,.none,.none,.none,.bool false,.none]}
noncomputable def C3(e C dx:Addr):HO:=.ext fun h=>∃t0,h.get? e=some {cls:=.ref C,dict:=some dx,data:=.fields #[.ref t0,.none,.none,.none,.bool false,.none]}
structure XIni (K:PySem.W.Frag)(C fI:Addr)(f:Str):Prop where
 cl:vo K C=true
 ini:PySem.W.findIn K (.ref C) "__init__"=some (some (.ref fI))
 fn:PySem.W.typeIn K (.ref fI)=some (.type "function")
 sa:PySem.W.findIn K (.ref C) "__setattr__"=some (some (.builtin "object.__setattr__"))
 at_:PySem.W.findIn K (.ref C) f=some none
 hd:PySem.W.hasDictIn K C=true
 ob:PySem.W.mroIn K C (.type "object")=some true
 kp:PySem.W.keepIn K (.ref C)=true
section
variable {X:Cx}{D:Addr}{apos pos:Pos}
noncomputable def rH(cp:Bool)(K:PySem.W.Frag)(C:Addr)(f:Str):Sp:=fun vs H Q _=>∃a v,vs=[.ref a,v]/\H a=some (FH a C)/\(cp=false->∀dx ob,H dx=none->dx≠a->Q .non (upd (upd H a (C3 a C dx)) dx (.frz ob (.xd [(f,v)]))))/\
 (cp=true->∃p ws,v=.ref p/\SqL K H p ws/\∀q dx ob,H q=none->H dx=none->dx≠a->dx≠q->Q .non (upd (upd (upd H q (.lst ws)) a (C3 a C dx)) dx (.frz ob (.xd [(f,.ref q)]))))
end
end L2
namespace L2
open PySem PySem.Spec PyProof.Rows
noncomputable def aM(names:List (Str×NameKind))(cs:List (Str×Addr))(acc:List (Str×Addr)):List (Str×Addr):=match names with
 |[]=>acc
 |(n,k)::r=>if k=.free then (match cs.lookup n with|some c=>aM r cs ((n,c)::acc)|none=>aM r cs acc) else aM r cs acc
theorem bD{cs:List (Str×Addr)}:∀{names:List (Str×NameKind)}{acc:List (Str×Addr)},(∀p∈acc,cs.lookup p.1=some p.2)->∀p∈aM names cs acc,cs.lookup p.1=some p.2
 |[],_,h,p,hp=>h p hp
 |(n,k)::r,acc,h,p,hp=>by
  unfold aM at hp;split at hp
  ·split at hp
   next c e=>
    refine bD (fun q hq=>?_) p hp
    rcases List.mem_cons.mp hq with z|z
    ·subst z;exact e
    ·exact h q z
   next=>exact bD h p hp
  ·exact bD h p hp
theorem dD:∀{names:List (Str×NameKind)}{acc:List (Str×Addr)}{p:Str×Addr},p∈acc->p∈aM names cs acc
 |[],_,_,h=>h
 |(n,k)::r,acc,p,h=>by
  unfold aM;split
  ·split
   ·exact dD (List.mem_cons_of_mem _ h)
   ·exact dD h
  ·exact dD h
theorem dB{cs:List (Str×Addr)}(e:cs.lookup x=some c):∀{names:List (Str×NameKind)}{acc:List (Str×Addr)},(x,NameKind.free)∈names->(x,c)∈aM names cs acc
 |(n,k)::r,acc,h=>by
  rcases List.mem_cons.mp h with z|z
  ·cases z;unfold aM;rw[if_pos rfl,e];exact dD List.mem_cons_self
  ·unfold aM;split
   ·split
    ·exact dB e z
    ·exact dB e z
   ·exact dB e z
theorem dM{l:List (Str×Addr)}(h:(x,c)∈l)(u:∀p∈l,p.1=x->p.2=c):l.lookup x=some c:=by
 induction l with
 |nil=>cases h
 |cons p r ih=>
  obtain⟨n,d⟩:=p;by_cases e:x=n
  ·subst e;rw[List.lookup_cons,beq_self_eq_true];exact congrArg some (u (x,d) List.mem_cons_self rfl)
  ·rw[List.lookup_cons];rw[beq_eq_false_iff_ne.mpr e];rcases List.mem_cons.mp h with z|z
   ·cases z;exact absurd rfl e
   ·exact ih z fun q hq=>u q (List.mem_cons_of_mem _ hq)
theorem bB{l:List (Str×Addr)}(h:l.lookup x=some c):(x,c)∈l:=PySem.mem_of_lookup h
theorem lG{cs:List (Str×Addr)}(hm:(x,NameKind.free)∈names)(e:cs.lookup x=some c):(aM names cs []).lookup x=some c:=by
 refine dM (dB e hm) fun p hp hx=>?_
 have z:=bD (acc:=[]) (fun p hp=>nomatch hp) p hp
 rw[hx,e]at z;exact (Option.some.inj z).symm
theorem qg{env:Env}(e:env.cells.lookup n=some c):cellOf env n=pure c:=by
 unfold cellOf;rw[e]
theorem jv{scope:Scope}{env:Env}(h:∀y∈scope.names,y.2=.free->∃c,env.cells.lookup y.1=some c):closureFor scope env=pure (aM scope.names env.cells []):=by
 have go:∀(names:List (Str×NameKind)) (acc:List (Str×Addr)),(∀y∈names,y.2=.free->∃c,env.cells.lookup y.1=some c)->
   (forIn names acc fun x r=>match x with
    |(n,k)=>if (k == NameKind.free)=true then do let c<-cellOf env n;pure (ForInStep.yield ((n,c)::r)) else pure (ForInStep.yield r):Sem (List (Str×Addr)))=pure (aM names env.cells acc):=by
  intro names
  induction names with
  |nil=>intro acc _;rfl
  |cons y r ih=>
   intro acc hy;obtain⟨n,k⟩:=y;rw[List.forIn_cons];by_cases hk:k=NameKind.free
   ·subst hk;obtain⟨c,e⟩:=hy (n,.free) List.mem_cons_self rfl;simp only[beq_self_eq_true,if_true];rw[qg e];show (forIn r ((n,c)::acc) _:Sem _)=_;rw[ih _ fun z hz=>hy z (List.mem_cons_of_mem _ hz)]
    conv=>rhs;unfold aM
    simp only[if_true,e]
   ·have hb:(k == NameKind.free)=false:=by simpa using hk
    simp only[hb,Bool.false_eq_true,if_false];show (forIn r acc _:Sem _)=_;rw[ih _ fun z hz=>hy z (List.mem_cons_of_mem _ hz)]
    conv=>rhs;unfold aM
    simp only[hk,if_false]
 have e:=go scope.names [] h;show ((forIn scope.names [] fun x r=>match x with
    |(n,k)=>if (k == NameKind.free)=true then do let c<-cellOf env n;pure (ForInStep.yield ((n,c)::r)) else pure (ForInStep.yield r):Sem (List (Str×Addr))) >>=fun z=>pure z)=_
 rw[e];rfl
theorem aI:∀(names:List (Str×NameKind)) (n:Nat) (acc:List (Str×Addr)),cellsFrom n names acc=cellsFrom n names []++acc
 |[],_,_=>rfl
 |(x,k)::r,n,acc=>by
  unfold cellsFrom;split
  ·rw[aI r (n+1) ((x,n)::acc),aI r (n+1) [(x,n)],List.append_assoc];rfl
  ·exact aI r n acc
theorem aD:∀{names:List (Str×NameKind)}{n:Nat}{p:Str×Addr},p∈cellsFrom n names []->(p.1,NameKind.cell)∈names/\n<=p.2
 |[],_,_,h=>nomatch h
 |(x,k)::r,n,p,h=>by
  unfold cellsFrom at h;split at h
  ·rename_i hk;rw[aI]at h;rcases List.mem_append.mp h with z|z
   ·obtain⟨a,b⟩:=aD z;exact⟨List.mem_cons_of_mem _ a,by omega⟩
   ·obtain rfl:=List.mem_singleton.mp z;exact⟨by rw[show k=NameKind.cell from by simpa using hk];exact List.mem_cons_self,Nat.le_refl _⟩
  ·obtain⟨a,b⟩:=aD h;exact⟨List.mem_cons_of_mem _ a,b⟩
theorem b9:∀{names:List (Str×NameKind)}{n:Nat}{x:Str},(x,NameKind.cell)∈names->∃c,(x,c)∈cellsFrom n names []
 |(y,k)::r,n,x,h=>by
  rcases List.mem_cons.mp h with z|z
  ·cases z;unfold cellsFrom;rw[if_pos (by rfl),aI]
   exact⟨n,List.mem_append_right _ List.mem_cons_self⟩
  ·unfold cellsFrom;split
   ·obtain⟨c,e⟩:=b9 z (n:=n+1);rw[aI];exact⟨c,List.mem_append_left _ e⟩
   ·exact b9 z
theorem c9:∀{l:List (Str×Addr)}{x:Str}{c:Addr},(x,c)∈l->∃c',l.lookup x=some c'
 |(y,d)::r,x,c,h=>by
  rw[List.lookup_cons];cases e:x == y with
  |true=>exact⟨d,rfl⟩
  |false=>
   rcases List.mem_cons.mp h with z|z
   ·cases z;simp at e
   ·exact c9 z
theorem gi
  (hQ:Q {scope:=scope,locals:=s.heap.objs.size,globals:=globals,cells:=cellsFrom (s.heap.objs.size+1) scope.names []++cl,qual:=qual,func:=none,code:=outer.code,frame:=outer.frame,builtins:=outer.builtins} {s with heap:=pushCells (s.heap.push {cls:=.type "dict",data:=.dict #[]}) scope.names}) :
  wpAny M A (newFunctionEnv scope globals cl [] qual none .none (some outer)) Q E s:=by
 simp only[newFunctionEnv,Option.isSome_some,if_true];refine wpAny_bind (wpAny_alloc ?_);refine wpAny_bind (wpAny_layCells _ (fun name kind cells=>by cases hkc:kind == NameKind.cell<;>simp[hkc]) _ _ _ _ ?_)
 rw[show ({s with heap:=s.heap.push {cls:=.type "dict",data:=.dict #[]}}:Shared).heap.objs.size=s.heap.objs.size+1 from Heap.size_push ..,aI]
 refine wpAny_bind ?_;rw[List.forIn_nil];exact wpAny_pure (wpAny_pure hQ)
noncomputable def dP(N:List Str)(js:List (Option Nat))(sc osc:Scope)(oN:List Str):Bool:=
 N.length == js.length&&decide N.Nodup&&
 (N.zip js).all (fun p=>match p.2 with
  |none=>sc.names.lookup p.1 == some .local||sc.names.lookup p.1 == some .cell
  |some j=>oN[j]? == some p.1&&sc.names.contains (p.1,NameKind.free)&&osc.names.lookup p.1 == some .cell)&&
 decide (sc.names.map (·.1)).Nodup&&sc.names.all (fun y=>(y.2 != .free||osc.names.lookup y.1 == some .cell)&&(y.2 != .local||sc.names.lookup y.1 == some .local))&&(sc.kind == .function)&&(osc.kind == .function)
noncomputable def i6(js:List (Option Nat))(σ:St):St:=js.map fun o=>o.bind fun j=>(σ[j]?).bind id
noncomputable abbrev compCx(X:Cx)(scope:Scope)(C:Addr)(N:List Str)(s2:Shared)(H2:Hp)(fp:List Addr)(pins:List (Addr×Obj)):Cx:=
 {X with env:=compEnvC scope (cellsFrom (C+1) scope.names []++aM scope.names X.env.cells []) C X.env,N:=N,s₀:=s2,H₀:=H2,outer:=X.stack,stack:=X.stack,ex:=fp,fn:=fun x=>scope.names.lookup x == some .cell,pn:=X.pn++pins,xe:=fun _ _=>False}
theorem fQ{env:Env}(hk:env.scope.kind=.function)(hc:env.kindOf x=some .cell):∀{names:List (Str×NameKind)},(x,NameKind.free)∈names->(∀y∈names,y.1=x->y.2=.free)->
  (names.map fun (n,k)=>if (k == .free&&env.scope.kind == .function&&env.kindOf n == some .cell) then (n,.cell) else (n,k)).lookup x=some NameKind.cell
 |(n,k)::r,hm,hu=>by
  show List.lookup x ((if (k == NameKind.free&&env.scope.kind == .function&&env.kindOf n == some .cell)=true then (n,NameKind.cell) else (n,k))::_)=_
  by_cases e:x=n
  ·subst e;have ek:k=.free:=hu (x,k) List.mem_cons_self rfl;subst ek;simp only[hk,hc,beq_self_eq_true,Bool.and_self,if_true];rw[List.lookup_cons,beq_self_eq_true]
  ·have hm':(x,NameKind.free)∈r:=by
    rcases List.mem_cons.mp hm with z|z
    ·cases z;exact absurd rfl e
    ·exact z
   have ih:=fQ hk hc hm' fun y hy=>hu y (List.mem_cons_of_mem _ hy)
   split
   ·rw[List.lookup_cons,beq_eq_false_iff_ne.mpr e];exact ih
   ·rw[List.lookup_cons,beq_eq_false_iff_ne.mpr e];exact ih
end L2
namespace L2
open PySem PySem.Spec PyProof.Rows
structure CompOk (N:List Str) (js:List (Option Nat)) (sc osc:Scope)(oN:List Str):Prop where
 len:N.length=js.length
 nd:N.Nodup
 own:∀(i:Nat)(x:Str),N[i]?=some x->js[i]?=some none->sc.names.lookup x=some .local\/sc.names.lookup x=some .cell
 fr:∀(i:Nat)(x:Str)(j:Nat),N[i]?=some x->js[i]?=some (some j)->oN[j]?=some x/\(x,NameKind.free)∈sc.names/\osc.names.lookup x=some .cell
 ndn:(sc.names.map (·.1)).Nodup
 nf:∀y∈sc.names,y.2=.free->osc.names.lookup y.1=some .cell
 nl:∀y∈sc.names,y.2=.local->sc.names.lookup y.1=some .local
 k1:sc.kind=.function
 k2:osc.kind=.function
theorem j5(h:dP N js sc osc oN=true):CompOk N js sc osc oN:=by
 unfold dP at h;simp only[Bool.and_eq_true,beq_iff_eq,decide_eq_true_eq,List.all_eq_true,Bool.or_eq_true,bne_iff_ne]at h;obtain⟨⟨⟨⟨⟨⟨h1,h2⟩,h3⟩,h4⟩,h5⟩,h6⟩,h7⟩:=h;have zip:∀(i:Nat)(x:Str)(o:Option Nat),N[i]?=some x->js[i]?=some o->(x,o)∈N.zip js:=fun i x o e1 e2=>
  List.mem_of_getElem? (i:=i) (by rw[List.getElem?_zip_eq_some];exact⟨e1,e2⟩)
 refine⟨h1,h2,fun i x e1 e2=>?_,fun i x j e1 e2=>?_,h4,fun y hy e=>?_,fun y hy e=>?_,h6,h7⟩
 ·have z:=h3 _ (zip i x _ e1 e2);simpa using z
 ·have z:=h3 _ (zip i x _ e1 e2);simp only[Bool.and_eq_true,beq_iff_eq]at z;exact⟨z.1.1,List.contains_iff_mem.mp z.1.2,z.2⟩
 ·rcases (h5 y hy).1 with z|z
  ·exact absurd e z
  ·exact z
 ·rcases (h5 y hy).2 with z|z
  ·exact absurd e z
  ·exact z
theorem dJ{env:Env}:∀{names:List (Str×NameKind)},
  (names.map fun (n,k)=>if (k == .free&&env.scope.kind == .function&&env.kindOf n == some .cell) then (n,.cell) else (n,k)).lookup x=some k->∃k',(x,k')∈names/\(k'=k\/k'=.free)
 |[],h=>by cases h
 |(n,k0)::r,h=>by
  have h:List.lookup x ((if (k0 == NameKind.free&&env.scope.kind == .function&&env.kindOf n == some .cell)=true then (n,NameKind.cell) else (n,k0))::_)=_:=h
  by_cases e:x=n
  ·subst e;split at h
   next hc=>
    refine⟨k0,List.mem_cons_self,.inr ?_⟩;have:=(Bool.and_eq_true_iff.mp (Bool.and_eq_true_iff.mp hc).1).1;simpa using this
   next=>
    rw[List.lookup_cons,beq_self_eq_true]at h;exact⟨k0,List.mem_cons_self,.inl (Option.some.inj h)⟩
  ·have h':List.lookup x (r.map fun (n,k)=>if (k == .free&&env.scope.kind == .function&&env.kindOf n == some .cell) then (n,.cell) else (n,k))=some k:=by
    split at h
    ·rw[List.lookup_cons,beq_eq_false_iff_ne.mpr e]at h;exact h
    ·rw[List.lookup_cons,beq_eq_false_iff_ne.mpr e]at h;exact h
   obtain⟨k',m,z⟩:=dJ h';exact⟨k',List.mem_cons_of_mem _ m,z⟩
theorem oY(I:Nat->Shared->Prop)
  (mV:∀n s,I n s->wpAny (model prog w) A (pyNext it) (fun r s1=>match r with
   |none=>R (.ok .next) s1
   |some v=>wpAny (model prog w) A (letOwnedTupleGo target it v) (fun _ s2=>wpAny (model prog w) A (assign target env v) (fun _ s3=>
     wpAny (model prog w) A (forIn ifs true fun c r=>if r=true then do let ok<-isTrue c env (eval c env);pure (ForInStep.yield ok) else pure (ForInStep.yield r)) (fun ok s4=>
      if ok=true then wpAny (model prog w) A (eval elt env) (fun x s5=>wpAny (model prog w) A (call (.builtin "list.append") [acc,x]) (fun _ s6=>∃m,m < n/\I m s6) (fun _ _=>False) s5) (fun _ _=>False) s4
      else ∃m,m < n/\I m s4) (fun _ _=>False) s3) (fun _ _=>False) s2) (fun _ _=>False) s1) (fun _ _=>False) s)
  (n:Nat)(h:I n s):codeAny (model prog w) A (.compLoop (.ListComp elt [⟨target,iter,ifs,0⟩] scope pos) 0 it acc env) R s:=by
 have no:∀{α:Type}{t:Sem α}{Q:α->Shared->Prop}{E:Value->Shared->Prop}{z:Shared},wpAny (model prog w) A t Q (fun _ _=>False) z->wpAny (model prog w) A t Q E z:=fun h=>wpAny_noRaise h
 refine codeAny_loop rfl I (fun n s hI=>?_) n h
 show wpAny _ A ((compTurn (.ListComp elt [⟨target,iter,ifs,0⟩] scope pos) 0 it acc env).onRaise (fun x=>do noteFrame x env;theTreesLotGoes x)) _ _ s
 refine wpAny_noted ?_;rw[compTurn_list];refine wpAny_bind (wpAny_standAt (wpAny_bind (no (wpAny_mono (mV n s hI) (fun r s1 h1=>?_) fun _ _ z=>z))))
 cases r with
 |none=>exact wpAny_pure h1
 |some v=>
  refine wpAny_bind (no (wpAny_mono h1 (fun _ s2 h2=>?_) fun _ _ z=>z))
  refine wpAny_bind (no (wpAny_mono h2 (fun _ s3 h3=>?_) fun _ _ z=>z))
  refine wpAny_bind (no (wpAny_mono h3 (fun ok s4 h4=>?_) fun _ _ z=>z))
  cases ok with
  |false=>exact wpAny_pure ⟨rfl,h4⟩
  |true=>
   refine wpAny_bind (wpAny_bind (no (wpAny_mono h4 (fun x s5 h5=>?_) fun _ _ z=>z)))
   exact wpAny_bind (no (wpAny_mono h5 (fun _ s6 h6=>wpAny_pure (wpAny_pure ⟨rfl,h6⟩)) fun _ _ z=>z))
noncomputable def PIf(X:Cx)(ifs:List Expr)(tt:TT):Prop:=∀(pins:List (Addr×Obj)) (s:Shared)(σ:St)(H:Hp)(Q:Bool->Hp->Prop),Inv X pins σ H s->tt σ H Q->
 wpAny (model X.prog X.w) X.A (forIn ifs true fun c r=>if r=true then do let ok<-isTrue c X.env (eval c X.env);pure (ForInStep.yield ok) else pure (ForInStep.yield r)) (TP X pins σ Q) X.xe s
noncomputable def tYes:TT:=fun _ H Q=>Q true H
theorem uf:PIf X [] tYes:=fun pins s σ H Q I h=>wpAny_tests_nil ⟨H,I,h⟩
theorem tY(h:PT X c t):PIf X [c] t:=fun pins s σ H Q I q=>wpAny_tests_one (h pins s σ H Q I q)
noncomputable def nW(js:List (Option Nat))(wi:TI)(g:TG)(tt:TT)(te:TE):TE:=fun σ H Q=>wi σ H fun J H1=>∀p,H1 p=none->∃W:Nat->Nat->St->Hp->Prop,(∃m,W 0 m (i6 js σ) (upd H1 p (.lst [])))/\
 ∀(i:Nat) m σc H,W i m σc H->(J.stop i H/\Q (.ref p) H)\/(J.go i H/\∀x H',J.yld i H x H'->g x σc H' fun σ2 H2=>tt σ2 H2 fun b H3=>
  if b=true then te σ2 H3 fun y H4=>∃ys,H4 p=some (.lst ys)/\ys.length < sizeLine/\∃m',m' < m/\W (i+1) m' σ2 (upd H4 p (.lst (ys++[y]))) else ∃m',m' < m/\W (i+1) m' σ2 H3)
section
variable {X:Cx}
theorem lC(hok:dP N js scope X.env.scope X.N=true)(hcalm:X.calm=true)(hi:PI X tg iter wi)
  (hg:∀C s2 H2 fp pn,PG (compCx X scope C N s2 H2 fp pn) tg g) (ht:∀C s2 H2 fp pn,PIf (compCx X scope C N s2 H2 fp pn) ifs tt) (he:∀C s2 H2 fp pn,PE (compCx X scope C N s2 H2 fp pn) elt te)
  (hs:∀x,foldedSetIterable iter X.env x=pure x) (I:Inv X pins σ H s)(h:nW js wi g tt te σ H Q)
  (fin:∀(D C:Addr)(s5:Shared)(H4:Hp)(m5:Str->Option Value),s5.heap.Ns C m5->eX X pins H4 C->(∀h',Heap.SameBut C s5.heap h'->Inv X pins σ H4 {s5 with heap:=h'})->Q (.ref D) H4->compPost (model X.prog X.w) X.A X.xe use Qf (.ref D) C (.ok .next) s5) :
  wpAny (model X.prog X.w) X.A (comprehension (.ListComp elt [⟨tg,iter,ifs,0⟩] scope pos) scope X.env pos' (newList []) false (eval iter X.env) use) Qf X.xe s:=by
 have O:=j5 hok;have hcells:∀y∈scope.names,y.2=.free->∃c,X.env.cells.lookup y.1=some c:=fun y hy e=>I.ok.has y.1 (.inl (O.nf y hy e))
 refine wpAny_comprehension_free (use:=use) rfl hs (jv hcells) O.k1 O.nl (thn (hi pins s σ H _ I h) fun xv s1 h1=>thn h1 fun itv s2 h2=>?_)
 obtain⟨it,fp,tn,J,H2,rfl,I2,T,st2,f2,hQ⟩:=h2;refine wpAny_newObj_type (gi ?_);dsimp only;have sz1:(s2.heap.push {cls:=.type "list",dict:=none,data:=.seq ([]:List Value).toArray}).objs.size=s2.heap.objs.size+1:=Heap.size_push ..;have sz2:((s2.heap.push {cls:=.type "list",dict:=none,data:=.seq ([]:List Value).toArray}).push {cls:=.type "dict",data:=.dict #[]}).objs.size=s2.heap.objs.size+1+1:=by rw[Heap.size_push,sz1]
 have hns:(pushCells ((s2.heap.push {cls:=.type "list",dict:=none,data:=.seq ([]:List Value).toArray}).push {cls:=.type "dict",data:=.dict #[]}) scope.names).Ns (s2.heap.objs.size+1) (fun _=>none):=by
  rw[<-sz1];exact (Heap.Ns.new _ (.type "dict")).keeps (pushCells_keeps _ _)
 have keep:∀b o,s2.heap.get? b=some o->(pushCells ((s2.heap.push {cls:=.type "list",dict:=none,data:=.seq ([]:List Value).toArray}).push {cls:=.type "dict",data:=.dict #[]}) scope.names).get? b=some o:=fun b o e=>
  pushCells_keeps _ _ b o (Heap.get?_push_of_some _ (Heap.get?_push_of_some _ e))
 have atD:(pushCells ((s2.heap.push {cls:=.type "list",dict:=none,data:=.seq ([]:List Value).toArray}).push {cls:=.type "dict",data:=.dict #[]}) scope.names).get? s2.heap.objs.size=some {cls:=.type "list",data:=.seq ([]:List Value).toArray}:=
  pushCells_keeps _ _ _ _ (Heap.get?_push_of_some _ (Heap.get?_push_size _ rfl))
 have cok:=cellsFrom_ok scope.names ((s2.heap.push {cls:=.type "list",dict:=none,data:=.seq ([]:List Value).toArray}).push {cls:=.type "dict",data:=.dict #[]}) (s2.heap.objs.size+1+1) [] ⟨fun _ _ hm=>(nomatch hm),List.Pairwise.nil⟩ (by rw[sz2];exact Nat.le_refl _)
 rw[sz2]at cok;rw[sz1];generalize pushCells ((s2.heap.push {cls:=.type "list",dict:=none,data:=.seq ([]:List Value).toArray}).push {cls:=.type "dict",data:=.dict #[]}) scope.names=h1' at hns keep atD cok ⊢;have frD:H2 s2.heap.objs.size=none:=I2.hok.fresh (Nat.le_refl _);have frC:H2 (s2.heap.objs.size+1)=none:=I2.hok.fresh (Nat.le_succ _);have hCD:s2.heap.objs.size+1≠s2.heap.objs.size:=Nat.succ_ne_self _;obtain⟨W,⟨m0,w0⟩,mV⟩:=hQ s2.heap.objs.size frD;have fpThere:∀b∈fp,b < s2.heap.objs.size:=fun b hb=>by
  obtain⟨o,e,_⟩:=T.obj 0 _ st2 b hb;exact Heap.lt_size e
 have lk:∀x c,(cellsFrom (s2.heap.objs.size+1+1) scope.names []++aM scope.names X.env.cells []).lookup x=some c->(x,c)∈cellsFrom (s2.heap.objs.size+1+1) scope.names []\/X.env.cells.lookup x=some c:=fun x c e=>by
  rcases List.mem_append.mp (bB e) with z|z
  ·exact .inl z
  ·exact .inr (bD (acc:=[]) (fun p hp=>nomatch hp) _ z)
 have old:∀x c,X.env.cells.lookup x=some c->c < s2.heap.objs.size:=fun x c e=>by
  obtain⟨v,o,ho,hd⟩:=I2.cell x c e;exact Heap.lt_size ho
 have cne:∀b∈fp,∀x c,(cellsFrom (s2.heap.objs.size+1+1) scope.names []++aM scope.names X.env.cells []).lookup x=some c->c≠b:=fun b hb x c e=>by
  rcases lk x c e with z|z
  ·have a1:=(aD z).2;exact Nat.ne_of_gt (Nat.lt_of_lt_of_le (fpThere b hb) (Nat.le_trans (Nat.le_add_right _ 2) a1))
  ·exact (f2 b hb).2.2.2.2.1 x c z
 let Xc:Cx:=compCx X scope (s2.heap.objs.size+1) N s2 H2 fp pins
 have cOk:Xc.Ok:=by
  refine⟨I2.ok.mod,O.k1,I2.ok.glob,I2.ok.blt,Nat.le_succ _,fun x y c e1 e2=>?_,fun x hx=>?_,fun x c e1 e2=>?_,I2.ok.hd,I2.ok.frames,.inl rfl,fun b hb=>?_,I2.bs,Nat.le_trans I2.ok.bsz I2.sz,fun b o e hb=>?_,fun b hb hm=>?_,I2.stack,I2.stkFree⟩
  ·rcases lk x c e1 with z1|z1<;>rcases lk y c e2 with z2|z2
   ·exact name_of_addr cok.apart z1 z2
   ·have a1:=(aD z1).2;exact absurd (Nat.lt_of_lt_of_le (old _ _ z2) (Nat.le_trans (Nat.le_add_right _ 2) a1)) (Nat.lt_irrefl _)
   ·have a1:=(aD z2).2;exact absurd (Nat.lt_of_lt_of_le (old _ _ z1) (Nat.le_trans (Nat.le_add_right _ 2) a1)) (Nat.lt_irrefl _)
   ·exact I2.ok.inj x y c z1 z2
  ·have hx:(relabel scope X.env).names.lookup x=some .cell\/(relabel scope X.env).names.lookup x=some .free:=hx;have key:(x,NameKind.free)∈scope.names\/(x,NameKind.cell)∈scope.names:=by
    rcases hx with hx|hx
    ·obtain⟨k',m,z⟩:=dJ hx;rcases z with z|z
     ·subst z;exact .inr m
     ·subst z;exact .inl m
    ·obtain⟨k',m,z⟩:=dJ hx;rcases z with z|z<;>(subst z;exact .inl m)
   rcases key with key|key
   ·obtain⟨c,e⟩:=hcells _ key rfl;exact c9 (List.mem_append_right _ (bB (lG key e)))
   ·obtain⟨c,e⟩:=b9 key (n:=s2.heap.objs.size+1+1);exact c9 (List.mem_append_left _ e)
  ·have e1:scope.names.lookup x=some .cell:=beq_iff_eq.mp e1;obtain⟨c1,h1⟩:=b9 (PySem.mem_of_lookup e1) (n:=s2.heap.objs.size+1+1);obtain⟨c2,h2⟩:=c9 h1;have e2:(cellsFrom (s2.heap.objs.size+1+1) scope.names []++aM scope.names X.env.cells []).lookup x=some c:=e2;rw[List.lookup_append,h2]at e2;cases e2;have a1:=(aD (bB h2)).2;exact Nat.le_trans (Nat.le_add_right _ 2) a1
  ·exact⟨Nat.ne_of_lt (Nat.lt_succ_of_lt (fpThere b hb)),fun x c e=>cne b hb x c e⟩
  ·rcases (f2 b hb).2.2.2.1 with z|z
   ·exact I2.ok.noex b o e z
   ·exact absurd (Nat.lt_of_lt_of_le (Heap.lt_size e) (Nat.le_trans I2.ok.bsz z)) (Nat.lt_irrefl _)
  ·rcases List.mem_cons.mp (I2.stkSub b hm) with z|z
   ·exact (f2 b hb).2.1 z
   ·exact (f2 b hb).2.2.1 z
 have I3:Inv Xc [] (i6 js σ) (upd H2 s2.heap.objs.size (.lst [])) {s2 with heap:=h1'}:=by
  refine⟨cOk,rfl,I2.bare,Un.laid keep (Nat.le_refl _) frD,⟨_,hns,fun i x v e1 e2 e3=>?_⟩,fun x c e=>?_,?_,fun x c e=>?_,fun p hp=>?_,?_,?_⟩
  ·have e2:(js.map fun o=>o.bind fun j=>(σ[j]?).bind id)[i]?=some (some v):=e2
   rw[List.getElem?_map]at e2;cases q:js[i]? with
   |none=>rw[q]at e2;cases e2
   |some o=>
    rw[q]at e2;cases o with
    |none=>cases e2
    |some j=>
     obtain⟨a1,a2,a3⟩:=O.fr i x j e1 q;have hv:σ[j]?=some (some v):=by
      cases z:σ[j]? with
      |none=>rw[Option.map_some,Option.bind_some,z]at e2;cases e2
      |some y=>
       rw[Option.map_some,Option.bind_some,z]at e2;have e2:some (id y)=some (some v):=e2;rw[show y=some v from Option.some.inj e2]
     obtain⟨m,hn,hl⟩:=I2.loc;obtain⟨u,r,l⟩:=hl j x v a1 hv (.inr (.inl a3));refine⟨u,r,?_⟩;rcases l with ⟨k,_⟩|⟨k,c,e,o,ho,hd⟩
     ·rw[show X.env.kindOf x=some .cell from a3]at k;cases k
     ·have only:∀y∈scope.names,y.1=x->y.2=.free:=fun y hy hyx=>?_
      ·refine .inr ⟨.inl (fQ I2.ok.kind a3 a2 only),c,dM (List.mem_append_right _ (bB (lG a2 e))) (fun p hp hx=>?_),o,keep _ _ ho,hd⟩
       rcases List.mem_append.mp hp with z|z
       ·have:=only _ (aD z).1 hx;cases this
       ·have z:=bD (acc:=[]) (fun p hp=>nomatch hp) p z
        rw[hx,e]at z;exact (Option.some.inj z).symm
      obtain⟨i1,h1,e1'⟩:=List.mem_iff_getElem.mp hy;obtain⟨i2,h2,e2'⟩:=List.mem_iff_getElem.mp a2;have:i1=i2:=by
       refine (List.getElem_inj (h₀:=by rw[List.length_map];exact h1) (h₁:=by rw[List.length_map];exact h2) O.ndn).mp ?_
       rw[List.getElem_map,List.getElem_map,e1',e2'];exact hyx
      subst this;rw[e1']at e2';rw[e2']
  ·rcases lk x c e with z|z
   ·exact⟨none,(cok.empty x c z).1⟩
   ·obtain⟨v,o,ho,hd⟩:=I2.cell x c z;exact⟨v,o,keep _ _ ho,hd⟩
  ·show upd H2 _ _ (s2.heap.objs.size+1)=none;rw[ag hCD];exact frC
  ·rcases lk x c e with z|z
   ·have a1:=(aD z).2;show upd H2 _ _ c=none;rw[ag (Nat.ne_of_gt (Nat.lt_of_lt_of_le (Nat.lt_add_of_pos_right (by decide:0 < 2)) a1))]
    exact I2.hok.fresh (Nat.le_trans (Nat.le_add_right _ 2) a1)
   ·have a2:=old _ _ z;show upd H2 _ _ c=none;rw[ag (Nat.ne_of_lt a2)];exact I2.freeC x c z
  ·have hp:p∈X.pn++pins:=by rw[List.append_nil]at hp;exact hp
   obtain⟨e,n,ne,nf,d⟩:=I2.pin p hp;refine⟨keep _ _ e,by rw[ag (Nat.ne_of_lt (Heap.lt_size e))];exact n,Nat.ne_of_lt (Nat.lt_succ_of_lt (Heap.lt_size e)),fun hm=>?_,d⟩
   rcases List.mem_cons.mp (I2.stkSub _ hm) with z|z
   ·exact ne z
   ·exact nf z
  ·exact I2.hok.laid keep (Nat.le_refl _) ⟨Nat.zero_le _,[],0,.nil,atD⟩
  ·show (js.map _).length=N.length;rw[List.length_map,O.len]
 have fpc:∀{H':Hp},(∀b∈fp,H' b=none)->∀b∈fp,eX Xc [] H' b:=fun {H'} hn b hb=>by
  refine⟨hn b hb,Nat.ne_of_lt (Nat.lt_succ_of_lt (fpThere b hb)),fun hm=>?_,.inl hb,fun x c e=>cne b hb x c e,fun p hp=>(f2 b hb).2.2.2.2.2 p (by rw[List.append_nil]at hp;exact hp)⟩
  rcases List.mem_cons.mp (I2.stkSub b hm) with z|z
  ·exact (f2 b hb).2.1 z
  ·exact (f2 b hb).2.2.1 z
 have st3:tn 0 h1':=T.keep 0 _ _ st2 fun b hb o e=>keep b o e
 have fr3:∀b∈fp,(upd H2 s2.heap.objs.size (.lst [])) b=none:=fun b hb=>by
  rw[ag (Nat.ne_of_lt (fpThere b hb))];exact (f2 b hb).1
 have loop:codeAny (model X.prog X.w) X.A (.compLoop (.ListComp elt [⟨tg,iter,ifs,0⟩] scope pos) 0 (.ref it) (.ref s2.heap.objs.size) (compEnvC scope (cellsFrom (s2.heap.objs.size+1+1) scope.names []++aM scope.names X.env.cells []) (s2.heap.objs.size+1) X.env))
   (compPost (model X.prog X.w) X.A X.xe use Qf (.ref s2.heap.objs.size) (s2.heap.objs.size+1)) {s2 with heap:=h1'}:=by
  refine oY (fun n s'=>∃i σc H',Inv Xc [] σc H' s'/\tn i s'.heap/\(∀b∈fp,H' b=none)/\W i n σc H') ?_ m0 ⟨0,_,_,I3,st3,fr3,w0⟩
  rintro n s4 ⟨i,σc,H4,I4,st4,fr4,w4⟩;rcases mV i n σc H4 w4 with ⟨stop,q⟩|⟨go,step⟩
  ·refine thn (T.done Xc rfl rfl rfl hcalm i [] s4 σc H4 (fun _ _=>False) I4 (fpc fr4) st4 stop) fun r s5 ⟨hr,I5⟩=>?_
   subst hr;obtain⟨m5,hn5,_⟩:=I5.loc;have un5:Un (frs X.stack) fp H2 H4 s2.heap s5.heap:=I5.base;have neC:∀b o,s2.heap.get? b=some o->b≠s2.heap.objs.size+1:=fun b o e=>Nat.ne_of_lt (Nat.lt_succ_of_lt (Heap.lt_size e))
   have fC:H4 (s2.heap.objs.size+1)=none:=I5.free;refine fin _ _ _ H4 m5 hn5 (I2.fpOk (Nat.le_succ _) fC) (fun h' hsame=>?_) q
   refine I2.call' (s':={s5 with heap:=h'}) (ch:=fp) I5.os ⟨fun b o q n hb hx=>(hsame.2 b (neC b o q)).trans (un5.keep b o q n hb hx),fun b o q n hb hx=>?_,un5.free,fun b o q hx=>?_,un5.tups,un5.frzs,un5.tbls⟩ ?_ I5.bare (fun b hb=>⟨(f2 b hb).2.2.2.1,(f2 b hb).2.1,(f2 b hb).2.2.2.2.1,(f2 b hb).2.2.2.2.2⟩)
   ·obtain⟨sl,z⟩:=un5.slot b o q n hb hx;exact⟨sl,(hsame.2 b (neC b o q)).trans z⟩
   ·obtain⟨o',z⟩:=un5.there b o q hx;exact⟨o',(hsame.2 b (neC b o q)).trans z⟩
   ·exact I5.hok.keptT fun b u ob hb q=>(hsame.2 b fun z=>by rw[z,fC]at hb;cases hb).trans q
  ·refine thn (T.item Xc rfl rfl rfl hcalm i [] s4 σc H4 (fun _ _=>False) I4 (fpc fr4) st4 go) fun r s5 ⟨u,hr,h5⟩=>?_
   subst hr;refine thn h5 fun _ s6 ⟨x,H6,I6,r6,y6,st6,fr6⟩=>?_
   have I6':=I6.pinned (fpc fr6) (T.obj _ _ st6);refine thn (hg _ _ _ _ _ _ s6 σc H6 x u _ I6' r6 (step x H6 y6)) fun _ s7 ⟨σ7,H7,I7,q7⟩=>?_
   refine thn (ht _ _ _ _ _ _ s7 σ7 H7 _ I7 q7) fun ok s8 ⟨H8,I8,q8⟩=>?_
   have back:∀{H9:Hp}{s9:Shared}{σ9:St},Inv Xc ([]++jg fp s6.heap) σ9 H9 s9->Inv Xc [] σ9 H9 s9/\tn (i+1) s9.heap/\∀b∈fp,H9 b=none:=fun {H9 s9 σ9} I9=>by
    refine⟨I9.unpinned,T.keep _ _ _ st6 fun b hb o e=>(I9.pin (b,o) (List.mem_append_right _ (List.mem_append_right _ (db hb e)))).1,fun b hb=>?_⟩
    obtain⟨o,e,d⟩:=T.obj _ _ st6 b hb;exact (I9.pin (b,o) (List.mem_append_right _ (List.mem_append_right _ (db hb e)))).2.1
   cases ok with
   |false=>
    rw[if_neg Bool.false_ne_true]at q8 ⊢;obtain⟨m',hm,w8⟩:=q8;obtain⟨b1,b2,b3⟩:=back I8;exact⟨m',hm,i+1,σ7,H8,b1,b2,b3,w8⟩
   |true=>
    rw[if_pos rfl]at q8 ⊢;refine thn (he _ _ _ _ _ _ s8 σ7 H8 _ I8 q8) fun y s9 ⟨z,H9,I9,r9,ys,e9,hl,m',hm,w9⟩=>?_
    refine thn (kh (X:=Xc) _ s9 σ7 H9 (.ref s2.heap.objs.size) [z] (.ref s2.heap.objs.size) [y] (fun _ H10=>H10=upd H9 s2.heap.objs.size (.lst (ys++[z]))) I9 rfl (.cons r9 .nil) ⟨_,ys,z,rfl,rfl,e9,hl,rfl⟩) fun _ s10 ⟨_,H10,I10,_,e10⟩=>?_
    subst e10;obtain⟨b1,b2,b3⟩:=back I10;exact⟨m',hm,i+1,σ7,_,b1,b2,b3,w9⟩
 exact codeAny_compStart_list loop (T.self _ 0 _ _ _ st3 loop)
theorem uG(hok:dP N js scope X.env.scope X.N=true)(hcalm:X.calm=true)(hi:PI X tg iter wi)
  (hg:∀C s2 H2 fp pn,PG (compCx X scope C N s2 H2 fp pn) tg g) (ht:∀C s2 H2 fp pn,PIf (compCx X scope C N s2 H2 fp pn) ifs tt) (he:∀C s2 H2 fp pn,PE (compCx X scope C N s2 H2 fp pn) elt te)
  (hs:∀x,foldedSetIterable iter X.env x=pure x:=by intro _;rfl):PE X (.ListComp elt [⟨tg,iter,ifs,0⟩] scope pos) (nW js wi g tt te):=fun pins s σ H Q I h=>by
 rw[eval_ListComp];exact lC (use:=none) hok hcalm hi hg ht he hs I h fun D C s5 H4 m5 hn _ key q=>⟨m5,hn,fun h' hs'=>⟨.ref D,H4,key h' hs',rfl,q⟩⟩
theorem iC{spos:Pos}(hN:X.N.Nodup)(hy:X.N[i]?=some y)(hl:X.env.scope.names.lookup y=some .local)(hok:dP N js scope X.env.scope X.N=true)(hcalm:X.calm=true)(hi:PI X tg iter wi)
  (hg:∀C s2 H2 fp pn,PG (compCx X scope C N s2 H2 fp pn) tg g) (ht:∀C s2 H2 fp pn,PIf (compCx X scope C N s2 H2 fp pn) ifs tt) (he:∀C s2 H2 fp pn,PE (compCx X scope C N s2 H2 fp pn) elt te)
  (hs:∀x,foldedSetIterable iter X.env x=pure x) (hsw:swapsWith (.ListComp elt [⟨tg,iter,ifs,0⟩] scope pos) (some (.Name y py)) spos.line X.env=pure true) :
  PS X (.Assign [.Name y py] (.ListComp elt [⟨tg,iter,ifs,0⟩] scope pos) spos) (vU (nW js wi g tt te) (ot i)):=by
 intro pins s σ H D I h;rw[exec_Assign_Name_used _ _ _ _ hsw];refine wpAny_bind (wpAny_standAt (wpAny_bind ?_));show wpAny _ _ (do let _<-comprehension (.ListComp elt [⟨tg,iter,ifs,0⟩] scope pos) scope X.env _ (newList []) false (eval iter X.env) (some (assign (.Name y py) X.env))) _ _ s
 refine wpAny_bind (wpAny_mono (lC (use:=some (assign (.Name y py) X.env)) (Qf:=fun _ s'=>SP X pins D .next s') hok hcalm hi hg ht he hs I h fun Da C s5 H4 m5 hn fp key q=>?_) (fun _ s' hq=>wpAny_pure (wpAny_pure hq)) fun _ _ z=>z)
 show wpAny _ _ (assign (.Name y py) X.env (.ref Da)) _ _ _;have J:Inv X pins σ H4 s5:=key s5.heap (Heap.SameBut.refl _ _);obtain⟨oC,es,ep,eC,rC⟩:=id hn;obtain⟨f0,f1,f2,f3,f4,f5⟩:=id fp;have JC:Inv X (pins++[(C,oC)]) σ H4 s5:=J.pins_of fun p hp=>by
  rcases List.mem_append.mp hp with z|z
  ·exact J.pin p (List.mem_append_right _ z)
  ·have e:p=(C,oC):=by simpa using z
   subst e;exact⟨eC,f0,f1,f2,fun v hv=>by
    have z:=rC.1;rw[show oC.data=.cell v from hv]at z;cases z⟩
 refine thn ((g9 (pos:=py) hN hy (.inl hl) (.inr hl)) _ s5 σ H4 (.ref Da) (.ref Da) (fun σ' H'=>H'=H4/\D.nx σ' H') JC rfl ⟨rfl,q⟩) fun _ s6 ⟨σ6,H6,I6,e6,q6⟩=>?_
 subst e6;have eC6:s6.heap.get? C=some oC:=(I6.pin (C,oC) (List.mem_append_right _ (List.mem_append_right _ (by simp)))).1
 refine⟨m5,hn.at' fun o e=>?_,fun h' hsame=>⟨σ6,H6,?_,q6⟩⟩
 ·rw[eC]at e;cases e;exact eC6
 ·exact (Inv.unpinned I6).turned (t':=s6.toks) (it:=C) (fun b o hb e=>(hsame.2 b hb).trans e) f0 f1 f3 f4 f5
end
end L2
namespace L2
open PySem PySem.Spec PySem.Calls PyProof.Rows PySem.W PySem.Builtin PySem.Builtin.ObjectAttr PySem.Builtin.Getset_descriptor
section
variable {h:Heap}{os:OsState}{o:Obj}{K:PySem.W.Frag}
variable (hga:findIn K (.ref C) "__getattribute__"=some (some (.builtin "BaseException.__getattribute__"))) (hgn:findIn K (.ref C) "__getattr__"=some none) (hcl:findIn K (.ref C) "__class__"=some (some (.builtin "object.__class__")))
 (hn:specialIn K (.builtin "object.__class__") "__get__"=some (some (.builtin "getset_descriptor.__get__"))) (htk:takesIn K (.builtin "object.__class__")=some true) (hm:mroIn K C (.type "object")=some true) (hmB:mroIn K C (.type "BaseException")=some true)
end
structure ExcI (K:PySem.W.Frag)(C:Addr):Prop where
 hd:PySem.W.hasDictIn K C=true
 ga:findIn K (.ref C) "__getattribute__"=some (some (.builtin "BaseException.__getattribute__"))
 gn:findIn K (.ref C) "__getattr__"=some none
 cl:findIn K (.ref C) "__class__"=some (some (.builtin "object.__class__"))
 n:specialIn K (.builtin "object.__class__") "__get__"=some (some (.builtin "getset_descriptor.__get__"))
 tk:takesIn K (.builtin "object.__class__")=some true
 m:mroIn K C (.type "object")=some true
 mB:mroIn K C (.type "BaseException")=some true
end L2
namespace L2
open PySem PySem.Spec PySem.Calls PyProof.Rows PySem.W PySem.Builtin PySem.Builtin.ObjectAttr
section
variable {h:Heap}{os:OsState}{o:Obj}{K:PySem.W.Frag}
end
end L2
namespace L2
open PySem PySem.Spec PySem.Calls PyProof.Rows PySem.W
section
variable {s:Shared}
end
end L2
namespace L2
open PySem PySem.Spec PySem.Calls PyProof.Rows PySem.W
open AutoSeq1 (wpAny_loadPart')
open MeetsSeq MeetsSeq2 MeetsSeq3
section
variable {A:Around}{s:Shared}
end
end L2
namespace L2
open PySem PySem.Spec PyProof.Rows
section
variable {A:Around}{s:Shared}{St:Nat->Heap->Prop}{xs:Array (Int×Tok)}
end
end L2
namespace L2
open PySem PySem.Spec PySem.Calls PyProof.Rows PySem.W
open AutoSeq1 (wpAny_loadPart')
noncomputable def lt2(p q:Int×Int):Bool:=if p.1=q.1 then decide (p.2 < q.2) else decide (p.1 < q.1)
noncomputable def P2(h:Heap)(v:Value)(p:Int×Int):Prop:=∃a n t u dd sl,v=.ref a/\h.get? a=some {cls:=.type "tuple",dict:=dd,data:=.seq #[.int p.1 t,.int p.2 u] n,slots:=sl}
theorem v7(l b:Addr)(n m:Nat)(p q:Int×Int)(t1 t2 t3 t4:Tok)(dd dd2:Option Addr)(sl sl2:Array (Option Value)) :
  Meets (Builtin.«tuple.__lt__» ⟨[.ref l,.ref b],[]⟩)
   (fun A R s=>s.heap.get? l=some {cls:=.type "tuple",dict:=dd,data:=.seq #[.int p.1 t1,.int p.2 t2] n,slots:=sl}/\s.heap.get? b=some {cls:=.type "tuple",dict:=dd2,data:=.seq #[.int q.1 t3,.int q.2 t4] m,slots:=sl2}/\
    R (.ok (.ret (.bool (lt2 p q)))) s):=by
 intro prog w A R s h;obtain⟨hp,g,d,tk,os⟩:=s;obtain⟨hl,hb,h⟩:=h;have f2:=AutoSeq1.sub_tuple_tuple
 wp_walk using wpAny_loadPart' hl,wpAny_loadPart' hb
 show wpAny _ _ (eqBool (.int p.1 t1) (.int q.1 t3)) _ _ _;refine wpAny_eqBool_int ?_;by_cases e:p.1=q.1
 ·rw[beq_iff_eq.mpr e];unfold lt2 at h;rw[if_pos e]at h
  wp_walk
  show wpAny _ _ (eqBool (.int p.2 t2) (.int q.2 t4)) _ _ _;refine wpAny_eqBool_int ?_;by_cases e2:p.2=q.2
  ·rw[beq_iff_eq.mpr e2]
   wp_walk
   rw[e2]at h;simp only[Int.lt_irrefl,decide_false]at h;exact h
  ·rw[beq_eq_false_iff_ne.mpr e2];simp only[Bool.not_false,if_true];refine wpAny_bind (wpAny_rule ?_);refine wpAny_bind (show wpAny _ _ (compareOp .Lt (.int p.2 t2) (.int q.2 t4)) _ _ _ from wpAny_lt_int ?_)
   wp_walk
   exact h
 ·rw[beq_eq_false_iff_ne.mpr e];unfold lt2 at h;rw[if_neg e]at h;simp only[Bool.not_false,if_true];refine wpAny_bind (wpAny_rule ?_);refine wpAny_bind (show wpAny _ _ (compareOp .Lt (.int p.1 t1) (.int q.1 t3)) _ _ _ from wpAny_lt_int ?_)
  wp_walk
  exact h
theorem AL{prog:Program}{w:World}{A:Around}{E:Value->Shared->Prop}{s:Shared}{u v:Value}{p q:Int×Int}{Q:Value->Shared->Prop}(hu:A.units < cLine)(h1:P2 s.heap u p)(h2:P2 s.heap v q)(h:Q (.bool (lt2 p q)) s):wpAny (model prog w) A (richCompare .Lt u v) Q E s:=by
 obtain⟨a,n,t1,t2,dd,sl,rfl,g1⟩:=h1;obtain⟨b,m,t3,t4,dd2,sl2,rfl,g2⟩:=h2;exact richCompare_meets_room (op:=.Lt) ⟨_,g1,rfl⟩ ⟨_,g2,rfl⟩ PySem.F.slot_tuple_lt PySem.F.entry_tuple_lt (PySem.F.args_tuple_lt_2 _ _) (v7 a b n m p q t1 t2 t3 t4 dd dd2 sl sl2)
  ⟨g1,g2,show Value.bool (lt2 p q)≠Value.notImplemented/\Q (.bool (lt2 p q)) s from⟨(fun x=>nomatch x),h⟩⟩ hu
section
variable {prog:Program}{w:World}{A:Around}{s:Shared}{St:Nat->Heap->Prop}{I l:Addr}{fp wr:List Addr}{n:Nat}{P:Nat->Value->Prop}{R:Result->Shared->Prop}{kw:List (Str×Value)}{Q:Value->Shared->Prop}{E:Value->Shared->Prop}
theorem tK{G:Heap->Prop}(W:Walks prog w A.in1 I fp wr n P St)(bt:Nat->Nat->Bool)(hcmp:∀i j vi vj (s:Shared)(Q:Value->Shared->Prop)(E:Value->Shared->Prop),G s.heap->P i vi->P j vj->Q (.bool (bt i j)) s->wpAny (model prog w) A.in1 (richCompare .Lt vi vj) Q E s)(S:Addr)(hSf:S∉fp)(hG:∀h h',G h->(∀b o,b∉wr->b≠S->h.get? b=some o->h'.get? b=some o)->G h') :
  ∀(k j:Nat)(s:Shared)(vb:Value)(c:Nat),n - (j+1)=k->j+1<=n->St (j+1) s.heap->G s.heap->P (argBest bt j) vb->s.heap.get? S=some {cls:=.type "list",dict:=none,data:=.seq #[vb,vb] c,slots:=#[]}->
  (∀v h' tk,P (argBest bt (n - 1)) v->(∀b o,b∉wr->b≠S->s.heap.get? b=some o->h'.get? b=some o)->R (.ok (.ret v)) {s with heap:=h',toks:=tk})->
  codeAny (model prog w) A (.builtin "min.loop" ⟨[.ref I,.none,.ref S],kw⟩) R s:=by
 have hSw:S∉wr:=fun h=>hSf (W.sub _ h)
 have hname:(toString "min"++toString ".loop" : String) = "min.loop":=by decide
 intro k
 induction k with
 |zero=>
  intro j s vb c hk hj hst hg hPb hS hR;have hin:j+1=n:=by omega
  refine codeAny_builtin F.entry_min_loop ?_;rw[Around.under_plainId F.plain_min_loop _];show wpAny _ A.in1 (seqItems? (.ref S) >>=_) _ _ s;refine wpAny_bind (wpAny_seqItems hS rfl ?_);show wpAny _ A.in1 (tryCatch (pyNext (.ref I)) _ >>=_) _ _ s;refine wpAny_bind (wpAny_tryCatch (W.done s _ _ (hin▸hst) fun h' tk hk'=>?_))
  have hS':=hk' S _ hSw hS;show wpAny _ A.in1 (updateSeq S (fun _=>#[]) >>=_) _ _ _
  refine wpAny_bind (wpAny_updateSeq hS' rfl (wpAny_bind (wpAny_letGo (wpAny_pure ?_))));exact hR vb _ tk (by rw[<-hin];exact hPb) fun b o hbw hbS e=>(Heap.get?_update_other _ _ (Ne.symm hbS)).trans (hk' b o hbw e)
 |succ k ih=>
  intro j s vb c hk hj hst hg hPb hS hR;have hlt:j+1 < n:=by omega
  refine codeAny_builtin F.entry_min_loop ?_;rw[Around.under_plainId F.plain_min_loop _];show wpAny _ A.in1 (seqItems? (.ref S) >>=_) _ _ s;refine wpAny_bind (wpAny_seqItems hS rfl ?_);show wpAny _ A.in1 (tryCatch (pyNext (.ref I)) _ >>=_) _ _ s;refine wpAny_bind (wpAny_tryCatch (W.item (j+1) s _ _ hlt hst fun v h' tk hP hst' hk'=>?_))
  have hS':=hk' S _ hSw hS;show wpAny _ A.in1 (tryCatch (holding [v,v] (richCompare .Lt v vb >>=_)) _ >>=_) _ _ _;refine wpAny_bind (wpAny_tryCatch (wpAny_holding (wpAny_bind (hcmp (j+1) (argBest bt j) v vb _ _ _ (hG _ _ hg fun b o h1 _ h2=>hk' b o h1 h2) hP hPb ?_))))
  refine wpAny_bind (wpAny_holding (wpAny_truthy_bool (wpAny_bind (wpAny_letGo (wpAny_pure ?_)))));cases hb:bt (j+1) (argBest bt j) with
  |true=>
   simp only[if_true];refine wpAny_bind (wpAny_updateSeq hS' rfl (wpAny_bind (wpAny_letGo ?_)));rw[hname];refine wpAny_pure ⟨plainId_quiet F.plain_min_loop _,ih (j+1) _ v _ (by omega) hlt (W.frame _ _ _ hst' fun b hbf o e=>?_) (hG _ _ hg fun b o h1 h2 h3=>(Heap.get?_update_other _ _ (Ne.symm h2)).trans (hk' b o h1 h3)) (by simp only[argBest,hb,if_true];exact hP) (Heap.get?_update_self _ hS' rfl) fun v' h'' tk'' hP' hk''=>?_⟩
   ·exact (Heap.get?_update_other _ _ (fun h:S=b=>hSf (by rw[h];exact hbf))).trans e
   ·exact hR v' h'' tk'' hP' fun b o hbw hbS e=>hk'' b o hbw hbS ((Heap.get?_update_other _ _ (Ne.symm hbS)).trans (hk' b o hbw e))
  |false=>
   simp only[Bool.false_eq_true,if_false];refine wpAny_bind (wpAny_letGo ?_);rw[hname];refine wpAny_pure ⟨plainId_quiet F.plain_min_loop _,ih (j+1) _ vb c (by omega) hlt hst' (hG _ _ hg fun b o h1 _ h3=>hk' b o h1 h3) (by simp only[argBest,hb,Bool.false_eq_true,if_false];exact hPb) hS' fun v' h'' tk'' hP' hk''=>?_⟩
   exact hR v' h'' tk'' hP' fun b o hbw hbS e=>hk'' b o hbw hbS (hk' b o hbw e)
theorem ul{items:Array Value}(hl:s.heap.IsList l items)(h:∀s2:Shared,s2={s with heap:=s.heap.push {cls:=.type "list_iterator",data:=.fields #[.ref l,.int 0 0]}}->(s2.heap.IsListIter s.heap.objs.size l 0/\s2.heap.IsList l items)->(∀b∈[s.heap.objs.size,l],b < s2.heap.objs.size)->l≠s.heap.objs.size->Q (.ref s.heap.objs.size) s2):wpAny (model prog w) A (pyIter (.ref l)) Q E s:=by
 have hlt:l < s.heap.objs.size:=by obtain⟨_,e,_⟩:=hl;exact Heap.lt_size e
 refine wpAny_pyIter_list hl (h _ rfl ⟨⟨_,Heap.get?_push_size _ rfl,rfl,rfl⟩,hl.push _⟩ (fun b hb=>?_) (Nat.ne_of_lt hlt))
 have e:(s.heap.push {cls:=.type "list_iterator",data:=.fields #[.ref l,.int 0 0]}).objs.size=s.heap.objs.size+1:=by simp[Heap.push]
 show b < (s.heap.push _).objs.size;rw[e];rcases List.mem_cons.mp hb with rfl|hb
 ·omega
 ·rw[List.mem_singleton.mp hb];exact Nat.lt_succ_of_lt hlt
theorem xf{items:Array Value}{ps:Nat->Int×Int}(hh:A.handled=none)(hu:A.units+1 < cLine)(hl:s.heap.IsList l items)(hn:0 < items.size)(hP:∀i v,items[i]?=some v->P2 s.heap v (ps i))
  (h:∀v h' tk,items[argBest (fun i j=>lt2 (ps i) (ps j)) (items.size - 1)]?=some v->(∀b o,s.heap.get? b=some o->h'.get? b=some o)->Q v {s with heap:=h',toks:=tk}) :
  wpAny (model prog w) A (call (.builtin "min") [.ref l]) Q E s:=by
 have hname:(toString "min"++toString ".loop" : String) = "min.loop":=by decide
 refine kmk_tree F.kind_min F.plain_min F.entry_min (by unfold argsOk;kernel_rfl) ?_
 show wpAny _ A.in1 (Builtin.Builtins.bindParams "min" ["key","default"] 0 ⟨[],[]⟩ >>=_) _ _ s;refine wpAny_bind (wpAny_of_eq (show Builtin.Builtins.bindParams "min" ["key","default"] 0 ⟨[],[]⟩=pure [none,none] from rfl) ?_);refine wpAny_bind (wpAny_pure ?_);refine wpAny_bind (ul hl fun s2 e st hfp hlI=>?_)
 refine wpAny_bind (wpAny_newObj_type ?_);have hSf:s2.heap.objs.size∉[s.heap.objs.size,l]:=fun hm=>Nat.lt_irrefl _ (hfp _ hm)
 have W:=Walks.list (prog:=prog) (w:=w) (A:=A.in1) hh s.heap.objs.size l hlI items;have hSw:s2.heap.objs.size∉[s.heap.objs.size]:=fun h=>hSf (W.sub _ h)
 have hold:∀b o,s.heap.get? b=some o->b∉[s.heap.objs.size]/\b≠s2.heap.objs.size:=fun b o eb=>by
  have h1:=Heap.lt_size eb;refine⟨fun hm=>?_,?_⟩
  ·rw[List.mem_singleton.mp hm]at h1;exact Nat.lt_irrefl _ h1
  ·subst e;exact Nat.ne_of_lt (Heap.lt_size (Heap.get?_push_of_some _ eb))
 rw[hname];refine wpAny_pure ⟨plainId_quiet F.plain_min_loop _,?_⟩;refine codeAny_builtin F.entry_min_loop ?_;rw[Around.under_plainId F.plain_min_loop _];have hst:(fun i h=>h.IsListIter s.heap.objs.size l i/\h.IsList l items) 0 (s2.heap.push {cls:=.type "list",data:=.seq #[]}):=W.frame 0 s2.heap _ st fun b _ o e=>Heap.get?_push_of_some _ e
 have hS:(s2.heap.push {cls:=.type "list",data:=.seq #[]}).get? s2.heap.objs.size=some {cls:=.type "list",dict:=none,data:=.seq #[] 0,slots:=#[]}:=Heap.get?_push_size _ rfl;show wpAny _ A.in1 (seqItems? (.ref _) >>=_) _ _ _;refine wpAny_bind (wpAny_seqItems hS rfl ?_);show wpAny _ A.in1 (tryCatch (pyNext (.ref _)) _ >>=_) _ _ _;have kp:∀{h':Heap},(∀b o,b∉[s.heap.objs.size]->(s2.heap.push {cls:=.type "list",data:=.seq #[]}).get? b=some o->h'.get? b=some o)->∀b o,s.heap.get? b=some o->h'.get? b=some o:=fun {h'} hk=>by
  subst e;exact old_kept fun b o hb e=>hk b o hb (Heap.get?_push_of_some _ e)
 refine wpAny_bind (wpAny_tryCatch (W.item 0 _ _ _ hn hst fun v h' tk hP0 hst' hk'=>?_))
 have hS':=hk' _ _ hSw hS;show wpAny _ A.in1 (updateSeq _ (fun _=>#[v,v]) >>=_) _ _ _
 refine wpAny_bind (wpAny_updateSeq hS' rfl ?_);rw[hname];refine wpAny_pure ⟨plainId_quiet F.plain_min_loop _,tK (G:=fun hx=>∀b o,s.heap.get? b=some o->hx.get? b=some o) W (fun i j=>lt2 (ps i) (ps j)) (fun i j vi vj sx Q' E' hg hi hj hq=>?_) _ hSf (fun ha hb g k b o eb=>k b o (hold b o eb).1 (hold b o eb).2 (g b o eb)) _ 0 _ v _ rfl hn (W.frame _ _ _ hst' fun b hbf o e=>?_) (fun b o eb=>?_) hP0 (Heap.get?_update_self _ hS' rfl) fun v' h'' tk'' hP' hk''=>?_⟩
 ·have up:∀{v i},items[i]?=some v->P2 sx.heap v (ps i):=fun {v i} hv=>by
   obtain⟨a,n,t,u,dd,sl,e1,e2⟩:=hP i v hv;exact⟨a,n,t,u,dd,sl,e1,hg _ _ e2⟩
  exact AL (by show A.units+1 < cLine;exact hu) (up hi) (up hj) hq
 ·exact (Heap.get?_update_other _ _ (fun h:_=b=>hSf (by rw[h];exact hbf))).trans e
 ·exact (Heap.get?_update_other _ _ (Ne.symm (hold b o eb).2)).trans (kp hk' b o eb)
 ·have:=h v' h'' tk'' hP' (fun b o eb=>hk'' b o (hold b o eb).1 (hold b o eb).2 ((Heap.get?_update_other _ _ (Ne.symm (hold b o eb).2)).trans (kp hk' b o eb)))
  subst e;exact this
end
end L2
namespace L2
open PySem PySem.Spec PyProof.Rows
inductive D where
 |non|bl (b:Bool)|int (i:Int)|str (x:Str)|tup (ds:List D)|rol (ds:List D)|ref (a:Addr)
 |obj (i:Nat) (C:Addr) (ns:List Nat) (ds:List D)|dik (ks:List Key) (ds:List D)|dit (ks:List (List Int)) (ds:List D)
noncomputable def mG:Nat->Nat->List Nat
 |0,_=>[]
 |k+1,n=>if n=0 then [] else (n % 128)::mG k (n / 128)
noncomputable def fnm(n:Nat):Str:=⟨(mG n n).toArray⟩
noncomputable def uF:List Nat->Nat
 |[]=>0
 |d::r=>d+128 * uF r
theorem hU:∀(k n:Nat),n<=k->uF (mG k n)=n
 |0,n,h=>by have:n=0:=Nat.le_zero.mp h;subst this;rfl
 |k+1,n,h=>by
  unfold mG;by_cases z:n=0
  ·rw[if_pos z];exact z.symm
  ·rw[if_neg z];show n % 128+128 * uF (mG k (n / 128))=n;rw[hU k (n / 128) (by omega)]
   omega
theorem kW(h:fnm a=fnm b):a=b:=by
 have e:mG a a=mG b b:=by
  have:=congrArg (fun x:Str=>x.cps.toList) h
  simpa [fnm] using this
 have:=congrArg uF e
 rwa [hU a a (Nat.le_refl _),hU b b (Nat.le_refl _)]at this
noncomputable def tH(k:List Int):Int:=reduceHash (Builtin.Tuple.tupleHashOf (k.map hashInt))
noncomputable def bC(a:Addr)(xs:List (List Int×Addr×Value)):Heap->Prop:=fun h=>∃o es ep,h.get? a=some o/\o.ExactDict/\o.data=.dict es ep/\es.toList=xs.map fun x=>(⟨tH x.1,.ref x.2.1,x.2.2⟩:DictEntry)
structure TabOk (K:PySem.W.Frag)(H:Hp)(a:Addr) (ks:List (List Int)) (xs:List (List Int×Addr×Value)) (vs:List V):Prop where
 kx:xs.map (·.1)=ks
 nd:ks.Nodup
 sz:ks.length<=sizeLine
 no:(a == sysModules)=false
 vx:Vals vs (xs.map (·.2.2))
 at_:∀x∈xs,SqT K H x.2.1 (x.1.map V.int)
noncomputable def SqM(K:PySem.W.Frag)(a:Addr)(xs:List V):Prop:=∃(its:List Value) (n:Nat),K.lookup a=some {cls:=.type "list",data:=.seq its.toArray n}/\its.length<=sizeLine/\Vals xs its
noncomputable def SqF(K:PySem.W.Frag)(H:Hp)(a:Addr)(xs:List V):Prop:=(∃o,H a=some (.frz o (.lst xs)))\/SqM K a xs
theorem SqM.sq{K:PySem.W.Frag}(h:SqM K a xs):SqL K H a xs:=by
 obtain⟨its,n,e,z,r⟩:=h;exact .inr ⟨_,its.toArray,n,e,rfl,rfl,rfl,by simpa using z,by simpa using r⟩
theorem SqF.sq{K:PySem.W.Frag}(h:SqF K H a xs):SqL K H a xs:=by
 rcases h with h|h
 ·exact .inl (.inr h)
 ·exact h.sq
mutual
noncomputable def Den(K:PySem.W.Frag)(H:Hp):D->V->Prop
 |.non,v=>v=.non
 |.bl b,v=>v=.bl b
 |.int i,v=>v=.int i
 |.str x,v=>v=.str x
 |.tup ds,v=>∃p vs,v=.ref p/\SqT K H p vs/\DenL K H ds vs
 |.rol ds,v=>∃p vs,v=.ref p/\SqF K H p vs/\DenL K H ds vs
 |.ref a,v=>v=.ref a
 |.obj _ C ns ds,v=>∃p vs o dx,v=.ref p/\H p=some (.frz o (.ins C dx ((ns.map fnm).zip vs)))/\ns.length=vs.length/\DenL K H ds vs
 |.dik ks ds,v=>∃p vs o,v=.ref p/\H p=some (.frz o (.dK (ks.zip vs)))/\ks.length=vs.length/\DenL K H ds vs
 |.dit ks ds,v=>∃p vs o xs,v=.ref p/\H p=some (.frz o (.ext (bC p xs)))/\TabOk K H p ks xs vs/\DenL K H ds vs
noncomputable def DenL(K:PySem.W.Frag)(H:Hp):List D->List V->Prop
 |[],vs=>vs=[]
 |d::ds,vs=>∃v r,vs=v::r/\Den K H d v/\DenL K H ds r
end
structure TM (K:PySem.W.Frag)(H H':Hp):Prop where
 t:∀p xs,SqT K H p xs->SqT K H' p xs
 f:∀p xs,SqF K H p xs->SqF K H' p xs
 g:∀p o u,H p=some (.frz o u)->H' p=some (.frz o u)
theorem TM.refl{K:PySem.W.Frag}(H:Hp):TM K H H:=⟨fun _ _ h=>h,fun _ _ h=>h,fun _ _ _ h=>h⟩
theorem TM.trans{K:PySem.W.Frag}(a:TM K H H1)(b:TM K H1 H2):TM K H H2:=⟨fun p xs h=>b.t p xs (a.t p xs h),fun p xs h=>b.f p xs (a.f p xs h),fun p o u h=>b.g p o u (a.g p o u h)⟩
theorem TM.un{K:PySem.W.Frag}(t:∀b xs,H b=some (.tup xs)->H' b=some (.tup xs))(f:∀b o u,H b=some (.frz o u)->H' b=some (.frz o u)):TM K H H':=⟨fun q xs h=>by
 rcases h with (h|⟨ob,h⟩)|h
 ·exact .inl (.inl (t _ _ h))
 ·exact .inl (.inr ⟨ob,f _ _ _ h⟩)
 ·exact .inr h,fun q xs h=>by
 rcases h with ⟨ob,h⟩|h
 ·exact .inl ⟨ob,f _ _ _ h⟩
 ·exact .inr h,f⟩
theorem TM.new{K:PySem.W.Frag}(hp:H p=none):TM K H (upd H p o):=
 .un (fun b xs h=>by rw[ag (ay h hp)];exact h) fun b ob u h=>by rw[ag (ay h hp)];exact h
theorem TM.put{K:PySem.W.Frag}(hp:H p=some u)(h1:∀xs,u≠.tup xs)(h2:∀ob v,u≠.frz ob v):TM K H (upd H p o):=
 .un (fun b xs h=>by rw[ag (c4 h hp fun z=>h1 _ z.symm)];exact h) fun b ob u h=>by rw[ag (c4 h hp fun z=>h2 _ _ z.symm)];exact h
section
variable {K:PySem.W.Frag}
mutual
theorem Den.mono(t:TM K H H'):∀{d:D}{v:V},Den K H d v->Den K H' d v
 |.non,_,h=>h
 |.bl _,_,h=>h
 |.int _,_,h=>h
 |.str _,_,h=>h
 |.ref _,_,h=>h
 |.tup ds,v,h=>by
  obtain⟨p,vs,e,s,l⟩:=h;exact⟨p,vs,e,t.t _ _ s,DenL.mono t l⟩
 |.rol ds,v,h=>by
  obtain⟨p,vs,e,s,l⟩:=h;exact⟨p,vs,e,t.f _ _ s,DenL.mono t l⟩
 |.obj i C ns ds,v,h=>by
  obtain⟨p,vs,o,dx,e,s,z,l⟩:=h;exact⟨p,vs,o,dx,e,t.g _ _ _ s,z,DenL.mono t l⟩
 |.dik ks ds,v,h=>by
  obtain⟨p,vs,o,e,s,z,l⟩:=h;exact⟨p,vs,o,e,t.g _ _ _ s,z,DenL.mono t l⟩
 |.dit ks ds,v,h=>by
  obtain⟨p,vs,o,xs,e,s,z,l⟩:=h;exact⟨p,vs,o,xs,e,t.g _ _ _ s,⟨z.kx,z.nd,z.sz,z.no,z.vx,fun x hx=>t.t _ _ (z.at_ x hx)⟩,DenL.mono t l⟩
theorem DenL.mono(t:TM K H H'):∀{ds:List D}{vs:List V},DenL K H ds vs->DenL K H' ds vs
 |[],_,h=>h
 |d::ds,vs,h=>by
  obtain⟨v,r,e,a,b⟩:=h;exact⟨v,r,e,Den.mono t a,DenL.mono t b⟩
end
theorem DenL.length:∀{ds:List D}{vs:List V},DenL K H ds vs->ds.length=vs.length
 |[],_,h=>by cases h;rfl
 |d::ds,vs,h=>by
  obtain⟨v,r,rfl,_,b⟩:=h;rw[List.length_cons,List.length_cons,DenL.length b]
theorem DenL.get:∀{ds:List D}{vs:List V}{i:Nat}{d:D},DenL K H ds vs->ds[i]?=some d->∃v,vs[i]?=some v/\Den K H d v
 |[],_,_,_,_,e=>by simp at e
 |d::ds,vs,0,d',h,e=>by
  obtain⟨v,r,rfl,a,b⟩:=h;simp at e;subst e;exact⟨v,rfl,a⟩
 |d::ds,vs,i+1,d',h,e=>by
  obtain⟨v,r,rfl,a,b⟩:=h;obtain⟨u,e1,e2⟩:=DenL.get (i:=i) b (by simpa using e)
  exact⟨u,by simpa using e1,e2⟩
theorem DenL.get':∀{ds:List D}{vs:List V}{i:Nat}{v:V},DenL K H ds vs->vs[i]?=some v->∃d,ds[i]?=some d/\Den K H d v
 |[],_,_,_,h,e=>by cases h;simp at e
 |d::ds,vs,0,v',h,e=>by
  obtain⟨v,r,rfl,a,b⟩:=h;simp at e;subst e;exact⟨d,rfl,a⟩
 |d::ds,vs,i+1,v',h,e=>by
  obtain⟨v,r,rfl,a,b⟩:=h;obtain⟨u,e1,e2⟩:=DenL.get' (i:=i) b (by simpa using e)
  exact⟨u,by simpa using e1,e2⟩
theorem DenL.append:∀{ds es:List D}{vs ws:List V},DenL K H ds vs->DenL K H es ws->DenL K H (ds++es) (vs++ws)
 |[],_,_,_,h,g=>by cases h;exact g
 |d::ds,_,_,_,h,g=>by
  obtain⟨v,r,rfl,a,b⟩:=h;exact⟨v,r++_,rfl,a,DenL.append b g⟩
theorem DenL.nil:DenL K H [] []:=rfl
theorem DenL.cons(a:Den K H d v)(b:DenL K H ds vs):DenL K H (d::ds) (v::vs):=⟨v,vs,rfl,a,b⟩
theorem DenL.one(a:Den K H d v):DenL K H [d] [v]:=.cons a .nil
theorem DenL.take:∀{ds:List D}{vs:List V} (n:Nat),DenL K H ds vs->DenL K H (ds.take n) (vs.take n)
 |_,_,0,_=>rfl
 |[],_,n+1,h=>by cases h;rfl
 |d::ds,_,n+1,h=>by
  obtain⟨v,r,rfl,a,b⟩:=h;exact⟨v,r.take n,rfl,a,DenL.take n b⟩
theorem DenL.drop:∀{ds:List D}{vs:List V} (n:Nat),DenL K H ds vs->DenL K H (ds.drop n) (vs.drop n)
 |_,_,0,h=>h
 |[],_,n+1,h=>by cases h;rfl
 |d::ds,_,n+1,h=>by
  obtain⟨v,r,rfl,a,b⟩:=h;exact DenL.drop n b
theorem DenL.set(a:Den K H d v):∀{ds:List D}{vs:List V} (i:Nat),DenL K H ds vs->DenL K H (ds.set i d) (vs.set i v)
 |[],_,_,h=>by cases h;rfl
 |_::ds,_,0,h=>by
  obtain⟨_,r,rfl,_,b⟩:=h;exact⟨v,r,rfl,a,b⟩
 |e::ds,_,i+1,h=>by
  obtain⟨u,r,rfl,c,b⟩:=h;exact⟨u,_,rfl,c,DenL.set a i b⟩
theorem DenL.int_of:∀{ns:List Int}{vs:List V},DenL K H (ns.map D.int) vs->vs=ns.map V.int
 |[],_,h=>h
 |n::ns,vs,h=>by
  obtain⟨v,r,rfl,a,b⟩:=h;rw[DenL.int_of b];cases (show v=.int n from a);rfl
theorem DenL.of_int:∀{ns:List Int},DenL K H (ns.map D.int) (ns.map V.int)
 |[]=>rfl
 |n::ns=>⟨.int n,ns.map V.int,rfl,rfl,DenL.of_int⟩
end
structure XE where
 c:Nat
 pl:Option (Nat×D)
noncomputable def XD(K:PySem.W.Frag)(H:Hp)(i:XE)(dx:Option Addr):Prop:=match i.pl with
 |none=>dx=none
 |some (f,y)=>∃p o v,dx=some p/\H p=some (.frz o (.xd [(fnm f,v)]))/\Den K H y v
theorem XD.mono{K:PySem.W.Frag}(t:TM K H H')(h:XD K H i dx):XD K H' i dx:=by
 obtain⟨c,pl⟩:=i;cases pl with
 |none=>exact h
 |some q=>
  obtain⟨p,o,v,e,g,d⟩:=h;exact⟨p,o,v,e,t.g _ _ _ g,d.mono t⟩
inductive DO where
 |lst (ds:List D)
 |dk (ks:List Key) (ds:List D)
 |dt (ks:List (List Int)) (ds:List D)
 |ins (i:Nat) (C:Addr) (ns:List Nat) (ds:List D)
 |exc (i:XE) (cls:Value)
 |stl (φ:Heap->Prop)
noncomputable abbrev MH:=Addr->Option DO
noncomputable def put(M:MH)(a:Addr)(o:DO):MH:=fun b=>if b=a then some o else M b
theorem ah:put M a o a=some o:=if_pos rfl
theorem aj(h:b≠a):put M a o b=M b:=if_neg h
theorem cN:put (put M a o) a u=put M a u:=by
 funext b;unfold put;split<;>rfl
noncomputable def OD(K:PySem.W.Frag)(H:Hp)(a:Addr):DO->Prop
 |.lst ds=>∃vs,H a=some (.lst vs)/\DenL K H ds vs
 |.dk ks ds=>∃vs,H a=some (.dK (ks.zip vs))/\ks.length=vs.length/\DenL K H ds vs
 |.dt ks ds=>∃vs xs,H a=some (.ext (bC a xs))/\TabOk K H a ks xs vs/\DenL K H ds vs
 |.ins _ C ns ds=>∃dx vs,H a=some (.ins C dx ((ns.map fnm).zip vs))/\ns.length=vs.length/\DenL K H ds vs
 |.exc i cls=>∃dx,H a=some (uH a cls dx)/\XD K H i dx
 |.stl φ=>H a=some (.ext φ)
noncomputable def RelM(K:PySem.W.Frag)(M:MH)(H:Hp):Prop:=∀a o,M a=some o->OD K H a o
noncomputable abbrev St3:=List (Option D)
noncomputable def DenS(K:PySem.W.Frag)(H:Hp)(σ3:St3)(σ:St):Prop:=σ3.length=σ.length/\∀(i:Nat)(d:D),σ3[i]?=some (some d)->∃v,σ[i]?=some (some v)/\Den K H d v
section
variable {K:PySem.W.Frag}
theorem OD.tracked(h:OD K H a o):∃u,H a=some u:=by
 cases o with
 |lst ds=>obtain⟨_,e,_⟩:=h;exact⟨_,e⟩
 |dk ks ds=>obtain⟨_,e,_⟩:=h;exact⟨_,e⟩
 |dt ks ds=>obtain⟨_,_,e,_⟩:=h;exact⟨_,e⟩
 |ins i C ns ds=>obtain⟨_,_,e,_⟩:=h;exact⟨_,e⟩
 |exc i cls=>obtain⟨_,e,_⟩:=h;exact⟨_,e⟩
 |stl φ=>exact⟨_,h⟩
theorem RelM.fresh(r:RelM K M H)(hp:H p=none):M p=none:=by
 cases e:M p with
 |none=>rfl
 |some o=>
  obtain⟨u,z⟩:=(r p o e).tracked;rw[hp]at z;cases z
theorem OD.stay(t:TM K H H')(e:H' a=H a)(h:OD K H a o):OD K H' a o:=by
 cases o with
 |lst ds=>obtain⟨vs,q,l⟩:=h;exact⟨vs,e.trans q,l.mono t⟩
 |dk ks ds=>obtain⟨vs,q,n,l⟩:=h;exact⟨vs,e.trans q,n,l.mono t⟩
 |dt ks ds=>obtain⟨vs,xs,q,z,l⟩:=h;exact⟨vs,xs,e.trans q,⟨z.kx,z.nd,z.sz,z.no,z.vx,fun x hx=>t.t _ _ (z.at_ x hx)⟩,l.mono t⟩
 |ins i C ns ds=>obtain⟨dx,vs,q,n,l⟩:=h;exact⟨dx,vs,e.trans q,n,l.mono t⟩
 |exc i cls=>obtain⟨dx,q,x⟩:=h;exact⟨dx,e.trans q,x.mono t⟩
 |stl φ=>exact e.trans h
theorem RelM.grow(r:RelM K M H)(hp:H p=none):RelM K M (upd H p o):=fun a u e=>by
 obtain⟨x,z⟩:=(r a u e).tracked;exact (r a u e).stay (.new hp) (ag (ay z hp))
theorem RelM.lay(r:RelM K M H)(hp:H p=none)(h:OD K (upd H p o) p u):RelM K (put M p u) (upd H p o):=fun a x e=>by
 by_cases ha:a=p
 ·subst ha;rw[ah]at e;cases e;exact h
 ·rw[aj ha]at e;exact r.grow hp a x e
theorem RelM.write(r:RelM K M H)(hp:H p=some w)(h1:∀xs,w≠.tup xs)(h2:∀ob v,w≠.frz ob v)(h:OD K (upd H p o) p u):RelM K (put M p u) (upd H p o):=fun a x e=>by
 by_cases ha:a=p
 ·subst ha;rw[ah]at e;cases e;exact h
 ·rw[aj ha]at e;exact (r a x e).stay (.put hp h1 h2) (ag ha)
noncomputable def Sub(M' M:MH):Prop:=∀a o,M' a=some o->M a=some o
theorem Sub.put(s:Sub M' M)(h:M' p=none):Sub M' (put M p u):=fun a o e=>by
 rw[aj fun z=>by rw[z,h]at e;cases e]
 exact s a o e
theorem RelM.sub(r:RelM K M H)(s:Sub M' M):RelM K M' H:=fun a o e=>r a o (s a o e)
theorem DenS.mono(t:TM K H H')(h:DenS K H σ3 σ):DenS K H' σ3 σ:=⟨h.1,fun i d e=>let ⟨v,e1,e2⟩:=h.2 i d e;⟨v,e1,e2.mono t⟩⟩
theorem DenS.set{σ3:St3}{σ:St}(h:DenS K H σ3 σ)(e:Den K H d v):DenS K H (σ3.set i (some d)) (σ.set i (some v)):=by
 refine⟨by rw[List.length_set,List.length_set];exact h.1,fun j d' q=>?_⟩
 by_cases hj:i=j
 ·subst hj;rw[List.getElem?_set]at q ⊢;rw[if_pos rfl]at q ⊢;rw[<-h.1];split at q
  next hl=>
   cases q;exact⟨v,if_pos hl,e⟩
  next=>cases q
 ·rw[List.getElem?_set_ne hj]at q ⊢;exact h.2 j d' q
theorem DenS.drop{σ3:St3}{σ:St}(h:DenS K H σ3 σ):DenS K H (σ3.set i none) (σ.set i none):=by
 refine⟨by rw[List.length_set,List.length_set];exact h.1,fun j d' q=>?_⟩
 by_cases hj:i=j
 ·subst hj;rw[List.getElem?_set,if_pos rfl]at q;split at q<;>cases q
 ·rw[List.getElem?_set_ne hj]at q ⊢;exact h.2 j d' q
theorem nP{N:List Str}{ds:List D}(h:DenL K H ds vs):DenS K H (ds.map some++List.replicate (N.length - ds.length) none) (eJ N vs):=by
 have hl:=h.length;refine⟨by unfold eJ;simp[hl],fun i d e=>?_⟩
 by_cases hi:i < ds.length
 ·rw[List.getElem?_append_left (by simpa using hi),List.getElem?_map]at e
  have e':ds[i]?=some d:=by
   cases q:ds[i]? with
   |none=>rw[q]at e;cases e
   |some x=>rw[q]at e;cases e;rfl
  obtain⟨v,e1,e2⟩:=h.get e';refine⟨v,?_,e2⟩;unfold eJ;rw[List.getElem?_append_left (by simpa [<-hl] using hi),List.getElem?_map,e1]
  rfl
 ·rw[List.getElem?_append_right (by simpa using hi),List.getElem?_replicate]at e
  split at e<;>cases e
end
noncomputable abbrev VK3:=D->MH->Prop
noncomputable abbrev TE3:=St3->MH->VK3->Prop
noncomputable abbrev TT3:=St3->MH->(Bool->MH->Prop)->Prop
structure Ends3 where
 nx:St3->MH->Prop
 rt:VK3
 bk:St3->MH->Prop:=fun _ _=>False
 ct:St3->MH->Prop:=fun _ _=>False
noncomputable abbrev TS3:=Ends3->St3->MH->Prop
structure ER (K:PySem.W.Frag)(H:Hp)(D3:Ends3)(D2:Ends):Prop where
 nx:∀σ' H' σ3' M',RelM K M' H'->DenS K H' σ3' σ'->TM K H H'->D3.nx σ3' M'->D2.nx σ' H'
 rt:∀v H' d M',Den K H' d v->RelM K M' H'->TM K H H'->D3.rt d M'->D2.rt v H'
 bk:∀σ' H' σ3' M',RelM K M' H'->DenS K H' σ3' σ'->TM K H H'->D3.bk σ3' M'->D2.bk σ' H'
 ct:∀σ' H' σ3' M',RelM K M' H'->DenS K H' σ3' σ'->TM K H H'->D3.ct σ3' M'->D2.ct σ' H'
theorem ER.mono{K:PySem.W.Frag}(r:ER K H D3 D2)(t:TM K H H1):ER K H1 D3 D2:=
 ⟨fun a b c d h1 h2 h3 h4=>r.nx a b c d h1 h2 (t.trans h3) h4,fun a b c d h1 h2 h3 h4=>r.rt a b c d h1 h2 (t.trans h3) h4,fun a b c d h1 h2 h3 h4=>r.bk a b c d h1 h2 (t.trans h3) h4,fun a b c d h1 h2 h3 h4=>r.ct a b c d h1 h2 (t.trans h3) h4⟩
end L2
namespace L2
open PySem PySem.Spec PyProof.Rows
section
variable {K:PySem.W.Frag}
theorem dE:Den K H (.int i) (.int i):=rfl
theorem bx{b:Bool}:Den K H (.bl b) (.bl b):=rfl
theorem gX:Den K H (.str x) (.str x):=rfl
theorem rO:Den K H .non .non:=rfl
theorem fP:Den K H (.ref a) (.ref a):=rfl
theorem kQ(h:SqT K H p vs)(l:DenL K H ds vs):Den K H (.tup ds) (.ref p):=⟨p,vs,rfl,h,l⟩
end
noncomputable abbrev R3:=D->D->MH->VK3->Prop
noncomputable abbrev Back(K:PySem.W.Frag)(H:Hp)(Q:VK3)(Q2:VK):Prop:=∀v H' d M',Den K H' d v->RelM K M' H'->TM K H H'->Q d M'->Q2 v H'
noncomputable def Op3(X:Cx)(f:Value->Value->Sem Value)(r3:R3):Prop:=∃r2,OpR X f r2/\∀(H:Hp)(x y:D)(v u:V)(M:MH)(Q:VK3)(Q2:VK),Den X.K H x v->Den X.K H y u->RelM X.K M H->r3 x y M Q->Back X.K H Q Q2->r2 v u H Q2
noncomputable def Un3(X:Cx)(f:Value->Sem Value)(r3:D->MH->VK3->Prop):Prop:=∃r2,UnR X f r2/\∀(H:Hp)(x:D)(v:V)(M:MH)(Q:VK3)(Q2:VK),Den X.K H x v->RelM X.K M H->r3 x M Q->Back X.K H Q Q2->r2 v H Q2
noncomputable def oK(X:Cx)(f:Value)(r3:List D->MH->VK3->Prop):Prop:=∃r2,CallR X f r2/\∀(H:Hp)(xs:List D)(vs:List V)(M:MH)(Q:VK3)(Q2:VK),DenL X.K H xs vs->RelM X.K M H->r3 xs M Q->Back X.K H Q Q2->r2 vs H Q2
noncomputable def c3(d:D):TE3:=fun _ M Q=>Q d M
noncomputable def rI3(C:Int->Int->Prop)(g:Int->Int->D):R3:=fun x y M Q=>∃i j,x=.int i/\y=.int j/\C i j/\Q (g i j) M
section
variable {X:Cx}{a b c e:Expr}{ta tb tc te:TE3}{pos:Pos}
noncomputable def q3(t:TE3):TT3:=fun σ M Q=>t σ M fun x M1=>∃k,x=.bl k/\Q k M1
variable {tA tB':TT3}{ax:List Expr}
theorem tT{K:PySem.W.Frag}(h:DenL K H ds vs)(e:atI ds i=some d):∃v,atI vs i=some v/\Den K H d v:=by
 unfold atI at e ⊢;rw[<-h.length];cases q:ixN ds.length i with
 |none=>rw[q]at e;cases e
 |some j=>
  rw[q]at e;obtain⟨v,e1,e2⟩:=h.get (show ds[j]?=some d from e);exact⟨v,e1,e2⟩
noncomputable def Is(M:MH)(x:D)(ds:List D):Prop:=x=.rol ds\/∃a,x=.ref a/\M a=some (.lst ds)
theorem RelM.list{K:PySem.W.Frag}(rm:RelM K M H)(h:Is M x ds)(dv:Den K H x v):∃p vs,v=.ref p/\SqL K H p vs/\DenL K H ds vs:=by
 rcases h with rfl|⟨a,rfl,h⟩
 ·obtain⟨p,vs,e,s,l⟩:=dv;exact⟨p,vs,e,s.sq,l⟩
 ·obtain⟨vs,e,l⟩:=rm a _ h;exact⟨a,vs,dv,.of e,l⟩
noncomputable def isIB:V->D->Prop:=fun v d=>(∃i,v=.int i/\d=.int i)\/(∃b,v=.bl b/\d=.bl b)
theorem isIB.den{K:PySem.W.Frag}(h:isIB v d):Den K H d v:=by
 rcases h with ⟨i,rfl,rfl⟩|⟨b,rfl,rfl⟩<;>rfl
theorem im(h:OpR X f (rI C g))(hg:∀i j,isIB (g i j) (g3 i j)):Op3 X f (rI3 C g3):=
 ⟨_,h,fun H x y v u M Q Q2 dx dy rm ⟨i,j,e1,e2,hc,q⟩ k=>by
  subst e1;subst e2;cases (show v=.int i from dx);cases (show u=.int j from dy);exact⟨i,j,rfl,rfl,hc,k _ H _ M (hg i j).den rm (.refl _) q⟩⟩
noncomputable def k7(g:Int->Int->D):R3:=fun x y M Q=>∃i j,x=.int i/\y=.int j/\Q (g i j) M
theorem dq(h:OpR X f (rI0 g))(hg:∀i j,isIB (g i j) (g3 i j)):Op3 X f (k7 g3):=
 ⟨_,h,fun H x y v u M Q Q2 dx dy rm ⟨i,j,e1,e2,q⟩ k=>by
  subst e1;subst e2;cases (show v=.int i from dx);cases (show u=.int j from dy);exact⟨i,j,rfl,rfl,k _ H _ M (hg i j).den rm (.refl _) q⟩⟩
noncomputable def big:Nat:=2 ^ 4096
theorem nH(h:n < 10 ^ 250):n < big:=Nat.lt_of_lt_of_le h (by decide +kernel)
noncomputable def bV(i j:Int):Prop:=(i.natAbs < big/\j.natAbs < big)
theorem gJ{k:Int}(h:k.natAbs < big):Builtin.Int.intBits k<=2 ^ 20:=by
 unfold Builtin.Int.intBits;by_cases h0:k.natAbs=0
 ·have:k=0:=by omega
  subst this;decide
 ·have h30:k.natAbs.log2 < 4096:=(Nat.log2_lt h0).mpr h;split<;>omega
theorem tM:OpR X (binaryOp .Mult) (rI bV fun i j=>.int (i * j)):=opI fun _ _ _ _ _ _ _ hc q=>mul_int q (.of_bits (gJ hc.1) (gJ hc.2))
noncomputable def jS(_ j:Int):Prop:=0 < j/\j.toNat < big
theorem qR:OpR X (binaryOp .FloorDiv) (rI jS fun i j=>.int (i / j)):=opI fun i j _ _ _ _ _ hc q=>by
 have h1:(0:Int) < j:=hc.1;have h2:j.toNat < big:=hc.2;refine floordiv_int (by omega) (by rw[Int.fdiv_eq_ediv_of_nonneg i (by omega)];exact q) (.inl (PyProof.noPylong_of_log2 ?_))
 have h3:j.natAbs < 2 ^ 4096:=by
  have e:j.natAbs=j.toNat:=by omega
  rw[e];exact h2
 have h0:j.natAbs≠0:=by omega
 have:=(Nat.log2_lt h0).mpr h3;omega
theorem A0:Op3 X (binaryOp .Add) (k7 fun i j=>.int (i+j)):=dq zw fun _ _=>.inl ⟨_,rfl,rfl⟩
theorem BO:Op3 X (binaryOp .Sub) (k7 fun i j=>.int (i - j)):=dq vQ fun _ _=>.inl ⟨_,rfl,rfl⟩
theorem BX:Op3 X (binaryOp .Mult) (rI3 bV fun i j=>.int (i * j)):=im tM fun _ _=>.inl ⟨_,rfl,rfl⟩
theorem zo:Op3 X (binaryOp .FloorDiv) (rI3 jS fun i j=>.int (i / j)):=im qR fun _ _=>.inl ⟨_,rfl,rfl⟩
theorem Cj:Op3 X (binaryOp .Mod) (rI3 (fun _ j=>0 < j) fun i j=>.int (i % j)):=im zC fun _ _=>.inl ⟨_,rfl,rfl⟩
theorem AR:Op3 X (binaryOp .Pow) (rI3 rL fun i j=>.int (i ^ j.toNat)):=im Ak fun _ _=>.inl ⟨_,rfl,rfl⟩
theorem Br:Op3 X (binaryOp .RShift) (rI3 (fun _ j=>0<=j) fun i j=>.int (i / 2 ^ j.toNat)):=im yr fun _ _=>.inl ⟨_,rfl,rfl⟩
theorem BH:Op3 X (binaryOp .BitAnd) (k7 fun i j=>.int (Builtin.bitAnd i j)):=dq vW fun _ _=>.inl ⟨_,rfl,rfl⟩
theorem Fw:Op3 X (compareOp .Lt) (k7 fun i j=>.bl (decide (i < j))):=dq Dg fun _ _=>.inr ⟨_,rfl,rfl⟩
theorem Ft:Op3 X (compareOp .LtE) (k7 fun i j=>.bl (decide (i<=j))):=dq BE fun _ _=>.inr ⟨_,rfl,rfl⟩
theorem Fb:Op3 X (compareOp .Gt) (k7 fun i j=>.bl (decide (j < i))):=dq Bs fun _ _=>.inr ⟨_,rfl,rfl⟩
theorem Ey:Op3 X (compareOp .GtE) (k7 fun i j=>.bl (decide (j<=i))):=dq B4 fun _ _=>.inr ⟨_,rfl,rfl⟩
noncomputable def rU3(g:Int->Int):D->MH->VK3->Prop:=fun x M Q=>∃i,x=.int i/\Q (.int (g i)) M
theorem Dl:Un3 X (unaryOp .USub) (rU3 fun i=>-i):=⟨_,z9,fun H x v M Q Q2 dx rm ⟨i,e,q⟩ k=>by
 subst e;cases (show v=.int i from dx);exact⟨i,rfl,k _ H _ M dE rm (.refl _) q⟩⟩
noncomputable def D.isN:D->Bool
 |.non=>true
 |_=>false
theorem oz{K:PySem.W.Frag}{d:D}(h:Den K H d v):decide (v=.non)=d.isN:=by
 cases d with
 |non=>cases (show v=.non from h);rfl
 |bl b=>cases (show v=.bl b from h);rfl
 |int i=>cases (show v=.int i from h);rfl
 |str x=>cases (show v=.str x from h);rfl
 |tup ds=>obtain⟨p,vs,rfl,_⟩:=h;rfl
 |rol ds=>obtain⟨p,vs,rfl,_⟩:=h;rfl
 |ref a=>cases (show v=.ref a from h);rfl
 |obj i C ns ds=>obtain⟨p,vs,_,_,rfl,_⟩:=h;rfl
 |dik ks ds=>obtain⟨p,vs,_,rfl,_⟩:=h;rfl
 |dit ks ds=>obtain⟨p,vs,_,_,rfl,_⟩:=h;rfl
noncomputable def rIs3:R3:=fun x y M Q=>y=.non/\Q (.bl x.isN) M
noncomputable def rIsN3:R3:=fun x y M Q=>y=.non/\Q (.bl (!x.isN)) M
theorem ED:Op3 X (compareOp .Is) rIs3:=⟨_,yG,fun H x y v u M Q Q2 dx dy rm ⟨e,q⟩ k=>by
 subst e;refine⟨dy,?_⟩;rw[oz dx];exact k _ H _ M bx rm (.refl _) q⟩
theorem uq:Op3 X (compareOp .IsNot) rIsN3:=⟨_,uj,fun H x y v u M Q Q2 dx dy rm ⟨e,q⟩ k=>by
 subst e;refine⟨dy,?_⟩;rw[oz dx];exact k _ H _ M bx rm (.refl _) q⟩
variable {id:String}
noncomputable def rLen3:List D->MH->VK3->Prop:=fun xs M Q=>∃x ds,xs=[x]/\(Is M x ds\/x=.tup ds)/\Q (.int ds.length) M
theorem Do:oK X (.builtin "len") rLen3:=⟨_,lh,fun H xs vs M Q Q2 dl rm ⟨x,ds,e,h,q⟩ k=>by
 subst e;obtain⟨v,r,rfl,dv,rfl⟩:=dl;rcases h with h|rfl
 ·obtain⟨a,ys,rfl,sq,l⟩:=rm.list h dv;exact⟨a,ys,rfl,.inl sq,by rw[<-l.length];exact k _ H _ M dE rm (.refl _) q⟩
 ·obtain⟨a,ys,rfl,sq,l⟩:=dv;exact⟨a,ys,rfl,.inr sq,by rw[<-l.length];exact k _ H _ M dE rm (.refl _) q⟩⟩
noncomputable def rMax3:List D->MH->VK3->Prop:=fun xs M Q=>∃i j,xs=[.int i,.int j]/\Q (.int (if j > i then j else i)) M
theorem Du(hc:X.calm=true):oK X (.builtin "max") rMax3:=⟨_,qf hc,fun H xs vs M Q Q2 dl rm ⟨i,j,e,q⟩ k=>by
 subst e;obtain⟨v,r,rfl,dv,w,r',rfl,dw,rfl⟩:=dl;cases (show v=.int i from dv);cases (show w=.int j from dw);exact⟨i,j,rfl,k _ H _ M dE rm (.refl _) q⟩⟩
noncomputable def rMin3:List D->MH->VK3->Prop:=fun xs M Q=>∃i j,xs=[.int i,.int j]/\Q (.int (if j < i then j else i)) M
theorem CW(hc:X.calm=true):oK X (.builtin "min") rMin3:=⟨_,oR hc,fun H xs vs M Q Q2 dl rm ⟨i,j,e,q⟩ k=>by
 subst e;obtain⟨v,r,rfl,dv,w,r',rfl,dw,rfl⟩:=dl;cases (show v=.int i from dv);cases (show w=.int j from dw);exact⟨i,j,rfl,k _ H _ M dE rm (.refl _) q⟩⟩
end
end L2
namespace L2
open PySem PySem.Spec PyProof.Rows
noncomputable abbrev BackS(K:PySem.W.Frag)(H:Hp)(Q:St3->MH->Prop)(Q2:St->Hp->Prop):Prop:=∀σ' H' σ3' M',RelM K M' H'->DenS K H' σ3' σ'->TM K H H'->Q σ3' M'->Q2 σ' H'
section
variable {X:Cx}{st:Stmt}{ax:List Stmt}{t u:TS3}{e:Expr}{te:TE3}{pos:Pos}
structure ItOk (K:PySem.W.Frag)(H0:Hp)(J:It)(ds:List D)(S:MH->Prop):Prop where
 go:∀(i:Nat) H M,TM K H0 H->RelM K M H->S M->i < ds.length->J.go i H
 yld:∀(i:Nat) H M x H',TM K H0 H->RelM K M H->S M->i < ds.length->J.yld i H x H'->TM K H H'/\RelM K M H'/\∃d,ds[i]?=some d/\Den K H' d x
 stop:∀H M,TM K H0 H->RelM K M H->S M->J.stop ds.length H
noncomputable def rng(lo:Int)(n:Nat):List D:=(List.range n).map fun (i:Nat)=>D.int (lo+i)
theorem lj(lo:Int)(n:Nat):(rng lo n).length=n:=by unfold rng;rw[List.length_map,List.length_range]
theorem zr{lo:Int}(h:i < n):(rng lo n)[i]?=some (.int (lo+i)):=by
 unfold rng;rw[List.getElem?_map,List.getElem?_range h];rfl
theorem yy{K:PySem.W.Frag}{lo:Int}:ItOk K H0 (Itr lo n) (rng lo n) (fun _=>True):=by
 refine⟨fun i H M _ _ _ hi=>?_,fun i H M x H' _ rm _ hi y=>?_,fun H M _ _ _=>?_⟩
 ·rw[lj]at hi;exact hi
 ·rw[lj]at hi;obtain⟨e,y⟩:=y;subst e;subst y;exact⟨.refl _,rm,_,zr hi,rfl⟩
 ·rw[lj];exact Nat.le_refl _
end
section
variable {K:PySem.W.Frag}
end
section
variable {X:Cx}
end
end L2
namespace L2
open PySem PySem.Spec PyProof.Rows
noncomputable abbrev XN:=XE->MH->Prop
noncomputable def del(M:MH)(a:Addr):MH:=fun b=>if b=a then none else M b
theorem fL(h:M a=none):del (put M a o) a=M:=by
 funext b;unfold del put;by_cases e:b=a
 ·subst e;rw[if_pos rfl,h]
 ·rw[if_neg e,if_neg e]
theorem gZ(h:del M a b=some o):b≠a/\M b=some o:=by
 unfold del at h;split at h
 ·cases h
 ·exact⟨by assumption,h⟩
noncomputable def ac(M M':MH):MH:=fun a=>match M a with
 |some _=>M' a
 |none=>none
theorem j0(h:ac M M' a=some o):M' a=some o:=by
 unfold ac at h;split at h
 ·exact h
 ·cases h
noncomputable def kp(b:Bool)(M M':MH):MH:=if b=true then ac M M' else M'
theorem qT(h:kp b M M' a=some o):M' a=some o:=by
 cases b with
 |true=>exact j0 h
 |false=>exact h
inductive BI where
 |len  |max  |min  |list (fz:Bool)  |all  |any
inductive BM where
 |get  |clear  |extend  |remove  |setdef
inductive BT where
 |int|bool|str|tuple|list|dict
mutual
inductive IE where
 |var (i:Nat)
 |con (d:D)
 |bin (op:Operator) (a b:IE)
 |neg (a:IE)
 |cmp (op:CmpOp) (a b:IE)
 |chain (op op':CmpOp) (a b c:IE)
 |and (a b:IE)
 |or (a b:IE)
 |not (a:IE)
 |tup (es:IA)
 |lst (fz:Bool) (es:IA)
 |frz (e:IE)
 |ix (a b:IE)
 |sl (fz:Bool) (a:IE) (lo hi:IO)
 |call (f:Nat) (es:IA)
 |bi (b:BI) (es:IA)
 |isB (e:IE) (t:BT)
 |comp (fz:Bool) (N:List Str) (js:List (Option Nat)) (tg:ITg) (it:II) (cond:ITO) (elt:IE)
 |mmp (e:IE)
 |fld (e:IE) (f:Nat)
 |make (fz:Bool) (i:Nat) (es:IA)
 |meth (e:IE) (m:Nat) (es:IA)
 |ini (i:Nat) (es:IA)
 |glo (k:Nat)
 |bm (b:BM) (o:IE) (es:IA)
 |dnew (tk:Bool)
inductive IT where
 |val (e:IE)|cmp (op:CmpOp) (a b:IE)|chain (op op':CmpOp) (a b c:IE)|chain3 (op op' op'':CmpOp) (a b c d:IE)|and (a b:IT)|or (a b:IT)|not (a:IT)
inductive IA where
 |nil|cons (e:IE) (r:IA)
inductive IO where
 |no|yes (e:IE)
inductive ITO where
 |no|yes (e:IT)
inductive II where
 |seq (e:IE)
 |rng1 (a:IE)
 |enum (a:IE)
 |zip (a b:IE)
 |items (a:IE)
 |dk (a:IE)
inductive ITg where
 |name (i:Nat)|tup (is:List Nat)
end
mutual
inductive IS where
 |set (i:Nat) (e:IE)
 |unp (is:List Nat) (e:IE)
 |expr (e:IE)
 |ret (e:IE)
 |ifs (c:IT) (a b:ISs)
 |for_ (tg:ITg) (it:II) (body:ISs)
 |app (o e:IE)
 |del (i:Nat)
 |fset (o:IE) (f:Nat) (e:IE)
 |ixset (o i e:IE)
 |dead
inductive ISs where
 |nil|cons (s:IS) (r:ISs)
inductive IHs where
 |nil|cons (c:Nat) (nm:Option Nat) (body:ISs) (r:IHs)
end
noncomputable def ak(M:MH):D->Option (List D)
 |.rol ds=>some ds
 |.ref a=>match M a with
  |some (.lst ds)=>some ds
  |_=>none
 |_=>none
noncomputable def aB(M:MH):D->Option (List D)
 |.tup ds=>some ds
 |x=>ak M x
noncomputable def res(M:MH)(x:D):D:=match ak M x with
 |some ds=>.rol ds
 |none=>x
noncomputable def eV(fz:Bool)(ds:List D)(M:MH)(Q:VK3):Prop:=ds.length<=sizeLine/\if fz=true then Q (.rol ds) M else ∀p,M p=none->Q (.ref p) (put M p (.lst ds))
noncomputable def plN:Nat->D->Bool
 |_,.ref _=>false
 |n,.tup ds=>match n with
  |0=>false
  |m+1=>ds.all (plN m)
 |n,.rol ds=>match n with
  |0=>false
  |m+1=>ds.all (plN m)
 |_,.obj _ _ _ _=>false
 |_,.dik _ _=>false
 |_,.dit _ _=>false
 |_,_=>true
noncomputable abbrev pl(x:D):Bool:=plN 8 x
noncomputable abbrev pls(ds:List D):Bool:=ds.all (plN 8)
mutual
noncomputable def eqD:D->D->Bool
 |.non,y=>match y with
  |.non=>true
  |_=>false
 |.bl a,y=>match y with
  |.bl b=>a == b
  |.int b=>decide ((if a=true then (1:Int) else 0)=b)
  |_=>false
 |.int a,y=>match y with
  |.int b=>decide (a=b)
  |.bl b=>decide (a=if b=true then (1:Int) else 0)
  |_=>false
 |.str a,y=>match y with
  |.str b=>decide (a=b)
  |_=>false
 |.tup a,y=>match y with
  |.tup b=>dL a b
  |_=>false
 |.rol a,y=>match y with
  |.rol b=>dL a b
  |_=>false
 |.ref _,_=>false
 |.obj _ _ _ _,_=>false
 |.dik _ _,_=>false
 |.dit _ _,_=>false
noncomputable def dL:List D->List D->Bool
 |[],y=>match y with
  |[]=>true
  |_=>false
 |a::r,y=>match y with
  |b::t=>eqD a b&&dL r t
  |_=>false
end
noncomputable def rII(C:Int->Int->Prop)(g:Int->Int->D)(x y:D)(M:MH)(Q:VK3):Prop:=match x,y with
 |.int i,.int j=>C i j/\Q (g i j) M
 |_,_=>False
noncomputable def rI2(g:Int->Int->D)(x y:D)(M:MH)(Q:VK3):Prop:=match x,y with
 |.int i,.int j=>Q (g i j) M
 |_,_=>False
noncomputable def rE(x y:D)(M:MH)(Q:VK3):Prop:=match x,y with
 |.int i,.int j=>Q (.int (i+j)) M
 |.str a,.str b=>a.length+b.length<=sizeLine/\Q (.str (a++b)) M
 |.tup a,.tup b=>a.length+b.length<=sizeLine/\Q (.tup (a++b)) M
 |_,_=>False
noncomputable def kM(z:Str)(n:Int):Str:=if n < 1 then Str.empty else if (n == 1||z.length == 0)=true then z else⟨(List.replicate n.toNat z.cps).foldl (·++·) #[]⟩
noncomputable def sh(x y:D)(M:MH)(Q:VK3):Prop:=match x,y with
 |.int i,.int j=>bV i j/\Q (.int (i * j)) M
 |.str z,.int n=>(0<=n/\n<=100000/\z.length<=10)/\Q (.str (kM z n)) M
 |_,_=>False
noncomputable def jE:Operator->D->D->MH->VK3->Prop
 |.Add=>rE
 |.Sub=>rI2 fun i j=>.int (i - j)
 |.Mult=>sh
 |.FloorDiv=>rII jS fun i j=>.int (i / j)
 |.Mod=>rII (fun _ j=>0 < j) fun i j=>.int (i % j)
 |.Pow=>rII rL fun i j=>.int (i ^ j.toNat)
 |.RShift=>rII (fun _ j=>0<=j) fun i j=>.int (i / 2 ^ j.toNat)
 |.BitAnd=>rI2 fun i j=>.int (Builtin.bitAnd i j)
 |_=>fun _ _ _ _=>False
noncomputable def rNeg(x:D)(M:MH)(Q:VK3):Prop:=match x with
 |.int i=>Q (.int (-i)) M
 |_=>False
noncomputable def rs(M:MH)(x:D):D:=match ak M x with
 |some ds=>.rol (if pls ds=true then ds else ds.map (res M))
 |none=>x
noncomputable def gP(neg:Bool)(x y:D)(M:MH)(Q:VK3):Prop:=pl (rs M x)=true/\pl (rs M y)=true/\Q (.bl (neg ^^ eqD (rs M x) (rs M y))) M
noncomputable def p4(neg:Bool)(x y:D)(M:MH)(Q:VK3):Prop:=match y with
 |.non=>Q (.bl (neg ^^ x.isN)) M
 |.bl b=>match x with
  |.bl a=>Q (.bl (neg ^^ (a == b))) M
  |.non=>Q (.bl neg) M
  |_=>False
 |_=>False
noncomputable def mw:D->Option Key
 |.int i=>some (.inl i)
 |.str s=>some (.inr s)
 |_=>none
noncomputable def dY:List D->Option (List Int)
 |[]=>some []
 |.int i::r=>match dY r with
  |some ns=>some (i::ns)
  |none=>none
 |_::_=>none
noncomputable def jy:D->Option (List Int)
 |.tup es=>dY es
 |_=>none
noncomputable def getD[DecidableEq κ]:List κ->List D->κ->Option D
 |k::ks,d::ds,x=>if k=x then some d else getD ks ds x
 |_,_,_=>none
noncomputable def am[DecidableEq κ]:List κ->κ->List κ
 |[],x=>[x]
 |k::ks,x=>if k=x then k::ks else k::am ks x
noncomputable def au[DecidableEq κ]:List κ->List D->κ->D->List D
 |k::ks,d::ds,x,y=>if k=x then y::ds else d::au ks ds x y
 |_,_,_,y=>[y]
noncomputable def gm(M:MH):D->Option (List Key×List D)
 |.dik ks ds=>some (ks,ds)
 |.ref a=>match M a with
  |some (.dk ks ds)=>some (ks,ds)
  |_=>none
 |_=>none
noncomputable def gN(M:MH):D->Option (List (List Int)×List D)
 |.dit ks ds=>some (ks,ds)
 |.ref a=>match M a with
  |some (.dt ks ds)=>some (ks,ds)
  |_=>none
 |_=>none
noncomputable def gU(M:MH)(x y:D):Option (Option D):=match gm M x with
 |some (ks,ds)=>match mw y with
  |some k=>some (getD ks ds k)
  |none=>none
 |none=>match gN M x with
  |some (ks,ds)=>match jy y with
   |some k=>some (getD ks ds k)
   |none=>none
  |none=>none
noncomputable def B1(a b:Str):Bool:=!(Builtin.Str.occurrences b a 0 b.length 1).isEmpty
noncomputable def uP(z:Str)(i:Nat):Str:=⟨#[z.cps.getD i 0]⟩
noncomputable def gI(z:Str):List D:=z.cps.toList.map fun c=>.str ⟨#[c]⟩
noncomputable def mK(neg:Bool)(x y:D)(M:MH)(Q:VK3):Prop:=match aB M y with
 |some ds=>pl (res M x)=true/\pls ds=true/\Q (.bl (neg ^^ ds.any fun d=>eqD d (res M x))) M
 |none=>match gU M y x with
  |some o=>Q (.bl (neg ^^ o.isSome)) M
  |none=>match x,y with
   |.str a,.str b=>Q (.bl (neg ^^ B1 a b)) M
   |_,_=>False
noncomputable def aN:CmpOp->D->D->MH->VK3->Prop
 |.Eq=>gP false
 |.NotEq=>gP true
 |.Lt=>rI2 fun i j=>.bl (decide (i < j))
 |.LtE=>rI2 fun i j=>.bl (decide (i<=j))
 |.Gt=>rI2 fun i j=>.bl (decide (j < i))
 |.GtE=>rI2 fun i j=>.bl (decide (j<=i))
 |.Is=>p4 false
 |.IsNot=>p4 true
 |.In=>mK false
 |.NotIn=>mK true
noncomputable def ar(x y:D)(M:MH)(Q:VK3):Prop:=match aB M x with
 |some ds=>match y with
  |.int i=>match atI ds i with
   |some d=>Q d M
   |none=>False
  |_=>False
 |none=>match gU M x y with
  |some (some d)=>Q d M
  |some none=>False
  |none=>match x,y with
   |.str z,.int i=>(0<=i/\i < z.length/\i < 2 ^ 63)/\Q (.str (uP z i.toNat)) M
   |_,_=>False
noncomputable def de(xs:List D)(lo hi:Option Int):List D:=(xs.drop (HT.sIx xs.length 0 lo)).take (HT.sIx xs.length xs.length hi - HT.sIx xs.length 0 lo)
noncomputable def whole(n:Nat)(lo hi:Option Int):Bool:=HT.sIx n 0 lo == 0&&HT.sIx n n hi == n
noncomputable def lD(fz:Bool)(x:D)(lo hi:Option Int)(M:MH)(Q:VK3):Prop:=match x with
 |.tup ds=>whole ds.length lo hi=false/\Q (.tup (de ds lo hi)) M
 |.str z=>z.length<=sizeLine/\Q (.str (Txt.slice z lo hi)) M
 |x=>match ak M x with
  |some ds=>eV fz (de ds lo hi) M Q
  |none=>False
noncomputable def dQ:List D->Option (List Bool)
 |[]=>some []
 |.bl i::r=>match dQ r with
  |some ns=>some (i::ns)
  |none=>none
 |_::_=>none
noncomputable def nI(y:D):List D->Nat->Option Nat
 |[],_=>none
 |d::r,k=>if eqD d y=true then some k else nI y r (k+1)
noncomputable def isLstM(x:D)(M:MH):Bool:=match x with
 |.ref a=>match M a with
  |some (.lst _)=>true
  |_=>false
 |_=>false
noncomputable def tyB:BM->D->MH->Bool
 |.get,x,M=>(gm M x).isSome||(gN M x).isSome
 |.clear,x,M=>isLstM x M
 |.extend,x,M=>isLstM x M
 |.remove,x,M=>isLstM x M
 |.setdef,x,M=>(gm M x).isSome||(gN M x).isSome
noncomputable def rBm:BM->D->List D->MH->VK3->Prop
 |.get,x,ys,M,Q=>match ys with
  |[y]=>match gU M x y with
   |some o=>Q (o.getD .non) M
   |none=>False
  |[y,z]=>match gU M x y with
   |some o=>Q (o.getD z) M
   |none=>False
  |_=>False
 |.setdef,x,ys,M,Q=>match x,ys with
  |.ref a,[y,z]=>match M a,mw y with
   |some (.dk ks ds),some k=>ks.length < sizeLine/\(match getD ks ds k with
    |some d=>Q d M
    |none=>Q z (put M a (.dk (am ks k) (au ks ds k z))))
   |_,_=>False
  |_,_=>False
 |.remove,x,ys,M,Q=>match x,ys with
  |.ref a,[y]=>match M a with
   |some (.lst ds)=>(pl (res M y)=true/\pls ds=true)/\(match nI (res M y) ds 0 with
    |some k=>Q .non (put M a (.lst (ds.eraseIdx k)))
    |none=>False)
   |_=>False
  |_,_=>False
 |.clear,x,ys,M,Q=>match x,ys with
  |.ref a,[]=>match M a with
   |some (.lst _)=>Q .non (put M a (.lst []))
   |_=>False
  |_,_=>False
 |.extend,x,ys,M,Q=>match x,ys with
  |.ref a,[y]=>match M a,ak M y with
   |some (.lst ds),some es=>ds.length+es.length<=sizeLine/\Q .non (put M a (.lst (ds++es)))
   |_,_=>False
  |_,_=>False
noncomputable def iX(k:List Int):D:=.tup (k.map D.int)
noncomputable def rBi:BI->List D->MH->VK3->Prop
 |.len,xs,M,Q=>match xs with
  |[x]=>match aB M x with
   |some ds=>Q (.int ds.length) M
   |none=>match gN M x with
    |some (ks,_)=>Q (.int ks.length) M
    |none=>match x with
     |.str z=>z.length<=sizeLine/\Q (.int z.length) M
     |_=>False
  |_=>False
 |.max,xs,M,Q=>match xs with
  |[.int i,.int j]=>Q (.int (if j > i then j else i)) M
  |_=>False
 |.min,xs,M,Q=>match xs with
  |[.int i,.int j]=>Q (.int (if j < i then j else i)) M
  |_=>False
 |.list fz,xs,M,Q=>match xs with
  |[x]=>match aB M x with
   |some ds=>eV fz ds M Q
   |none=>match gN M x with
    |some (ks,_)=>eV fz (ks.map iX) M Q
    |none=>False
  |_=>False
 |.all,xs,M,Q=>match xs with
  |[x]=>match ak M x with
   |some ds=>match dQ ds with
    |some bs=>Q (.bl (bs.all id)) M
    |none=>False
   |none=>False
  |_=>False
 |.any,xs,M,Q=>match xs with
  |[x]=>match ak M x with
   |some ds=>match dQ ds with
    |some bs=>Q (.bl (bs.any id)) M
    |none=>False
   |none=>False
  |_=>False
noncomputable def jr(t:BT)(x:D)(M:MH)(Q:VK3):Prop:=match x with
 |.non=>Q (.bl false) M
 |.bl _=>Q (.bl (match t with|.int=>true|.bool=>true|_=>false)) M
 |.int _=>Q (.bl (match t with|.int=>true|_=>false)) M
 |.str _=>Q (.bl (match t with|.str=>true|_=>false)) M
 |.tup _=>Q (.bl (match t with|.tuple=>true|_=>false)) M
 |.rol _=>Q (.bl (match t with|.list=>true|_=>false)) M
 |.ref a=>match M a with
  |some (.lst _)=>Q (.bl (match t with|.list=>true|_=>false)) M
  |some (.dk _ _)=>Q (.bl (match t with|.dict=>true|_=>false)) M
  |some (.dt _ _)=>Q (.bl (match t with|.dict=>true|_=>false)) M
  |_=>False
 |.dik _ _=>Q (.bl (match t with|.dict=>true|_=>false)) M
 |.dit _ _=>Q (.bl (match t with|.dict=>true|_=>false)) M
 |.obj _ _ _ _=>False
noncomputable def prD(p:Int×Int):D:=.tup [.int p.1,.int p.2]
noncomputable def pT:List D->Option (List (Int×Int))
 |[]=>some []
 |.tup [.int a,.int b]::r=>match pT r with
  |some ps=>some ((a,b)::ps)
  |none=>none
 |_::_=>none
noncomputable def j7(ps:List (Int×Int)):Int×Int:=ps.getD (argBest (fun i j=>lt2 (ps.getD i (0,0)) (ps.getD j (0,0))) (ps.length - 1)) (0,0)
noncomputable def rMp(x:D)(M:MH)(Q:VK3):Prop:=match ak M x with
 |some ds=>match pT ds with
  |some (p::ps)=>Q (prD (j7 (p::ps))) M
  |_=>False
 |none=>False
structure WB where
 ne:Nat
 cls:Nat->Addr
 sub:Nat->Nat->Bool
 nk:Nat
 kls:Nat->Addr
 ksub:Nat->Nat->Bool
 fok:Nat->Nat->Bool
 mth:Nat->Nat->Option Nat
 ini:Nat->Option Nat
 xin:Nat->Option Nat
 glo:Nat->D
 fad:Nat->Addr
structure WC extends WB where
 call:Nat->List D->MH->VK3->XN->Prop
noncomputable def bL(f:Nat):List Nat->List D->Option D
 |n::ns,d::ds=>if n=f then some d else bL f ns ds
 |_,_=>none
noncomputable def bU(f:Nat):List Nat->List Nat
 |n::ns=>if n=f then n::ns else n::bU f ns
 |[]=>[f]
noncomputable def bT(f:Nat)(y:D):List Nat->List D->List D
 |n::ns,d::ds=>if n=f then y::ds else d::bT f y ns ds
 |_,_=>[y]
noncomputable def jF(f:Nat)(ns:List Nat)(ds:List D)(M:MH)(Q:VK3):Prop:=match bL f ns ds with
 |some d=>Q d M
 |none=>False
noncomputable def dU(B:WB)(f:Nat)(x:D)(M:MH)(Q:VK3):Prop:=match x with
 |.obj i C ns ds=>(C=B.kls i/\i < B.nk/\B.fok i f=true)/\jF f ns ds M Q
 |.ref a=>match M a with
  |some (.ins i C ns ds)=>(C=B.kls i/\i < B.nk/\B.fok i f=true)/\jF f ns ds M Q
  |_=>False
 |_=>False
noncomputable def fR(o:Option Nat)(R:Nat->Prop):Prop:=match o with
 |some f=>R f
 |none=>False
noncomputable def c5(B:WB)(m:Nat)(x:D)(M:MH)(R:Nat->Prop):Prop:=match x with
 |.obj i C ns ds=>(C=B.kls i/\i < B.nk/\bL m ns ds=none)/\fR (B.mth i m) R
 |.ref a=>match M a with
  |some (.ins i C ns ds)=>(C=B.kls i/\i < B.nk/\bL m ns ds=none)/\fR (B.mth i m) R
  |_=>False
 |_=>False
noncomputable def eQ(Q:VK3):VK3:=fun x M=>match x with
 |.ref a=>match M a with
  |some (.lst ds)=>Q (.rol ds) (del M a)
  |_=>False
 |_=>False
noncomputable def dH:List D->MH->(List D->MH->Prop)->Prop
 |[],M,R=>R [] M
 |d::ds,M,R=>match d with
  |.ref a=>match M a with
   |some (.lst es)=>dH ds (del M a) fun r M'=>R (.rol es::r) M'
   |some (.dk ks es)=>dH ds (del M a) fun r M'=>R (.dik ks es::r) M'
   |some (.dt ks es)=>dH ds (del M a) fun r M'=>R (.dit ks es::r) M'
   |_=>dH ds M fun r M'=>R (.ref a::r) M'
  |d=>dH ds M fun r M'=>R (d::r) M'
noncomputable def aZ(Q:VK3):VK3:=fun x M=>match x with
 |.ref a=>match M a with
  |some (.lst ds)=>Q (.rol ds) (del M a)
  |some (.dk ks ds)=>Q (.dik ks ds) (del M a)
  |some (.dt ks ds)=>Q (.dit ks ds) (del M a)
  |some (.ins i C ns ds)=>dH ds (del M a) fun r M'=>Q (.obj i C ns r) M'
  |_=>False
 |_=>False
noncomputable def wpG:ITg->D->St3->MH->(St3->MH->Prop)->Prop
 |.name i,d,σ,M,Q=>Q (σ.set i (some d)) M
 |.tup is,d,σ,M,Q=>match d with
  |.tup ds=>ds.length=is.length/\Q ((is.zip ds).foldl (fun σ p=>σ.set p.1 (some p.2)) σ) M
  |_=>False
noncomputable def aG(js:List (Option Nat))(σ:St3):St3:=js.map fun o=>o.bind fun j=>(σ[j]?).bind id
noncomputable def di(g:D->St3->MH->(St3->MH->Prop)->Prop)(tt:St3->MH->(Bool->MH->Prop)->Prop)(te:St3->MH->VK3->Prop)(S:MH->Prop)(p:Addr)(Q:VK3):List D->List D->St3->MH->Prop
 |[],_,_,M=>S M/\Q (.ref p) M
 |d::r,ys,σ,M=>S M/\ys.length < sizeLine/\g d σ M fun σ2 M2=>tt σ2 M2 fun b M3=>if b=true then te σ2 M3 fun y M4=>M4 p=some (.lst ys)/\di g tt te S p Q r (ys++[y]) σ2 (put M4 p (.lst (ys++[y]))) else di g tt te S p Q r ys σ2 M3
noncomputable def bc(x k y:D)(M:MH)(R:MH->Prop):Prop:=match x with
 |.ref a=>match M a,k with
  |some (.lst ds),.int i=>(match ixN ds.length i with
   |some j=>R (put M a (.lst (ds.set j y)))
   |none=>False)
  |some (.dk ks ds),k=>(match mw k with
   |some q=>ks.length < sizeLine/\R (put M a (.dk (am ks q) (au ks ds q y)))
   |none=>False)
  |some (.dt ks ds),k=>(match jy k with
   |some q=>ks.length < sizeLine/\R (put M a (.dt (am ks q) (au ks ds q y)))
   |none=>False)
  |_,_=>False
 |_=>False
noncomputable def be:Nat->List D->List D
 |_,[]=>[]
 |k,d::r=>.tup [.int k,d]::be (k+1) r
noncomputable def cy(ks:List (List Int))(ds:List D):List D:=(ks.zip ds).map fun p=>.tup [.tup (p.1.map D.int),p.2]
noncomputable def dI(xs ys:List D):List D:=(xs.zip ys).map fun p=>.tup [p.1,p.2]
noncomputable def cpF(f:Nat):Bool:=f == 217822450
section
variable (W:WC)
mutual
noncomputable def wpE:IE->St3->MH->VK3->XN->Prop
 |.var i,σ,M,Q,_=>match σ[i]? with
  |some (some d)=>Q d M
  |_=>False
 |.con d,_,M,Q,_=>Q d M
 |.bin op a b,σ,M,Q,E=>wpE a σ M (fun x M1=>wpE b σ M1 (fun y M2=>jE op x y M2 Q) E) E
 |.neg a,σ,M,Q,E=>wpE a σ M (fun x M1=>rNeg x M1 Q) E
 |.cmp op a b,σ,M,Q,E=>wpE a σ M (fun x M1=>wpE b σ M1 (fun y M2=>aN op x y M2 Q) E) E
 |.chain op op' a b c,σ,M,Q,E=>wpE a σ M (fun x M1=>wpE b σ M1 (fun y M2=>aN op x y M2 fun r M3=>match r with
  |.bl k=>if k=true then wpE c σ M3 (fun z M4=>aN op' y z M4 Q) E else Q (.bl false) M3
  |_=>False) E) E
 |.and a b,σ,M,Q,E=>wpE a σ M (fun x M1=>match x with
  |.bl c=>if c=true then wpE b σ M1 Q E else Q (.bl false) M1
  |_=>False) E
 |.or a b,σ,M,Q,E=>wpE a σ M (fun x M1=>match x with
  |.bl c=>if c=true then Q (.bl true) M1 else wpE b σ M1 Q E
  |_=>False) E
 |.not a,σ,M,Q,E=>wpE a σ M (fun x M1=>match x with
  |.bl c=>Q (.bl (!c)) M1
  |_=>False) E
 |.tup es,σ,M,Q,E=>wpA es σ M (fun xs M1=>xs.length<=sizeLine/\Q (.tup xs) M1) E
 |.lst fz es,σ,M,Q,E=>wpA es σ M (fun xs M1=>eV fz xs M1 Q) E
 |.frz e,σ,M,Q,E=>wpE e σ M (aZ Q) E
 |.ix a b,σ,M,Q,E=>wpE a σ M (fun x M1=>wpE b σ M1 (fun y M2=>ar x y M2 Q) E) E
 |.sl fz a lo hi,σ,M,Q,E=>wpE a σ M (fun x M1=>wpO lo σ M1 (fun l M2=>wpO hi σ M2 (fun h M3=>lD fz x l h M3 Q) E) E) E
 |.call f es,σ,M,Q,E=>wpA es σ M (fun xs M1=>W.call f xs M1 Q E) E
 |.bi b es,σ,M,Q,E=>wpA es σ M (fun xs M1=>rBi b xs M1 Q) E
 |.isB e t,σ,M,Q,E=>wpE e σ M (fun x M1=>jr t x M1 Q) E
 |.comp fz _ js tg it cond elt,σ,M,Q,E=>wpI it σ M (fun ds S M1=>∀p,M1 p=none->
   di (wpG tg) (fun σ M Q=>lE cond σ M Q (fun _ _=>False)) (fun σ M Q=>wpE elt σ M Q (fun _ _=>False)) S p (if fz=true then eQ Q else Q) ds [] (aG js σ) (put M1 p (.lst []))) E
 |.mmp e,σ,M,Q,E=>wpE e σ M (fun x M1=>rMp x M1 Q) E
 |.fld e f,σ,M,Q,E=>wpE e σ M (fun x M1=>dU W.toWB f x M1 Q) E
 |.make fz i es,σ,M,Q,E=>wpA es σ M (fun xs M1=>i < W.nk/\fR (W.ini i) fun f=>∀p,M1 p=none->
   W.call f (.ref p::xs) (put M1 p (.ins i (W.kls i) [] [])) (fun v M2=>v=.non/\if fz=true then aZ Q (.ref p) M2 else Q (.ref p) M2) (fun i M'=>E i (del M' p))) E
 |.meth e m es,σ,M,Q,E=>wpE e σ M (fun x M1=>c5 W.toWB m x M1 fun f=>wpA es σ M1 (fun xs M2=>W.call f (x::xs) M2 Q E) E) E
 |.ini i es,σ,M,Q,E=>wpA es σ M (fun xs M1=>i < W.nk/\fR (W.ini i) fun f=>W.call f xs M1 Q E) E
 |.glo k,_,M,Q,_=>Q (W.glo k) M
 |.bm b o es,σ,M,Q,E=>wpE o σ M (fun x M1=>tyB b x M1=true/\wpA es σ M1 (fun xs M2=>rBm b x xs M2 Q) E) E
 |.dnew tk,_,M,Q,_=>∀p,M p=none->Q (.ref p) (put M p (if tk=true then .dt [] [] else .dk [] []))
noncomputable def wpT:IT->St3->MH->(Bool->MH->Prop)->XN->Prop
 |.val e,σ,M,Q,E=>wpE e σ M (fun x M1=>match x with
  |.bl k=>Q k M1
  |_=>False) E
 |.cmp op a b,σ,M,Q,E=>wpE a σ M (fun x M1=>wpE b σ M1 (fun y M2=>aN op x y M2 fun r M3=>match r with
  |.bl k=>Q k M3
  |_=>False) E) E
 |.chain op op' a b c,σ,M,Q,E=>wpE a σ M (fun x M1=>wpE b σ M1 (fun y M2=>aN op x y M2 fun r M3=>match r with
  |.bl k=>if k=true then wpE c σ M3 (fun z M4=>aN op' y z M4 fun r M5=>match r with
   |.bl k=>Q k M5
   |_=>False) E else Q false M3
  |_=>False) E) E
 |.chain3 op op' op'' a b c d,σ,M,Q,E=>wpE a σ M (fun x M1=>wpE b σ M1 (fun y M2=>aN op x y M2 fun r M3=>match r with
  |.bl k=>if k=true then wpE c σ M3 (fun z M4=>aN op' y z M4 fun r M5=>match r with
   |.bl k=>if k=true then wpE d σ M5 (fun u M6=>aN op'' z u M6 fun r M7=>match r with
    |.bl k=>Q k M7
    |_=>False) E else Q false M5
   |_=>False) E else Q false M3
  |_=>False) E) E
 |.and a b,σ,M,Q,E=>wpT a σ M (fun c M1=>if c=true then wpT b σ M1 Q E else Q false M1) E
 |.or a b,σ,M,Q,E=>wpT a σ M (fun c M1=>if c=true then Q true M1 else wpT b σ M1 Q E) E
 |.not a,σ,M,Q,E=>wpT a σ M (fun c M1=>Q (!c) M1) E
noncomputable def wpA:IA->St3->MH->(List D->MH->Prop)->XN->Prop
 |.nil,_,M,Q,_=>Q [] M
 |.cons e r,σ,M,Q,E=>wpE e σ M (fun x M1=>wpA r σ M1 (fun xs M2=>Q (x::xs) M2) E) E
noncomputable def wpO:IO->St3->MH->(Option Int->MH->Prop)->XN->Prop
 |.no,_,M,Q,_=>Q none M
 |.yes e,σ,M,Q,E=>wpE e σ M (fun x M1=>match x with
  |.int i=>Q (some i) M1
  |_=>False) E
noncomputable def lE:ITO->St3->MH->(Bool->MH->Prop)->XN->Prop
 |.no,_,M,Q,_=>Q true M
 |.yes e,σ,M,Q,E=>wpT e σ M Q E
noncomputable def wpI:II->St3->MH->(List D->(MH->Prop)->MH->Prop)->XN->Prop
 |.seq e,σ,M,R,E=>wpE e σ M (fun x M1=>match x with
  |.tup ds=>R ds (fun _=>True) M1
  |.rol ds=>R ds (fun _=>True) M1
  |.ref a=>match M1 a with
   |some (.lst ds)=>R ds (fun M=>M a=some (.lst ds)) M1
   |_=>False
  |.str z=>R (gI z) (fun _=>True) M1
  |_=>False) E
 |.enum a,σ,M,R,E=>wpE a σ M (fun x M1=>match x with
  |.rol ds=>R (be 0 ds) (fun _=>True) M1
  |.ref a=>match M1 a with
   |some (.lst ds)=>R (be 0 ds) (fun M=>M a=some (.lst ds)) M1
   |_=>False
  |_=>False) E
 |.zip a b,σ,M,R,E=>wpE a σ M (fun x M1=>wpE b σ M1 (fun y M2=>match x,y with
  |.rol xs,.rol ys=>R (dI xs ys) (fun _=>True) M2
  |.rol xs,.ref b=>match M2 b with
   |some (.lst ys)=>R (dI xs ys) (fun M=>M b=some (.lst ys)) M2
   |_=>False
  |_,_=>False) E) E
 |.items a,σ,M,R,E=>wpE a σ M (fun x M1=>match x with
  |.dit ks ds=>R (cy ks ds) (fun _=>True) M1
  |_=>False) E
 |.dk a,σ,M,R,E=>wpE a σ M (fun x M1=>match x with
  |.dit ks ds=>R (ks.map iX) (fun _=>True) M1
  |_=>False) E
 |.rng1 a,σ,M,R,E=>wpE a σ M (fun x M1=>match x with
  |.int j=>-(2 ^ 62)<=j/\j < 2 ^ 62/\R (rng 0 j.toNat) (fun _=>True) M1
  |_=>False) E
end
noncomputable def iK(g:D->St3->MH->(St3->MH->Prop)->Prop)(tb:Ends3->St3->MH->Prop)(S:MH->Prop)(D:Ends3):List L2.D->St3->MH->Prop
 |[],σ,M=>S M/\D.nx σ M
 |d::r,σ,M=>S M/\g d σ M fun σ2 M2=>tb {D with nx:=iK g tb S D r,ct:=iK g tb S D r,bk:=D.nx} σ2 M2
noncomputable def sk(D:Ends3)(i:Nat):Ends3:=⟨fun σ M=>D.nx (σ.set i none) M,D.rt,fun σ M=>D.bk (σ.set i none) M,fun σ M=>D.ct (σ.set i none) M⟩
mutual
noncomputable def wpS:IS->Ends3->(St3->XN)->St3->MH->Prop
 |.set i e,D,E,σ,M=>wpE W e σ M (fun x M1=>D.nx (σ.set i (some x)) M1) (E σ)
 |.unp is e,D,E,σ,M=>wpE W e σ M (fun x M1=>match x with
  |.tup ds=>ds.length=is.length/\D.nx ((is.zip ds).foldl (fun σ p=>σ.set p.1 (some p.2)) σ) M1
  |_=>False) (E σ)
 |.expr e,D,E,σ,M=>wpE W e σ M (fun _ M1=>D.nx σ M1) (E σ)
 |.ret e,D,E,σ,M=>wpE W e σ M D.rt (E σ)
 |.ifs c a b,D,E,σ,M=>wpT W c σ M (fun k M1=>if k=true then ao a D E σ M1 else ao b D E σ M1) (E σ)
 |.for_ tg it body,D,E,σ,M=>wpI W it σ M (fun ds S M1=>iK (wpG tg) (fun D σ M=>ao body D E σ M) S D ds σ M1) (E σ)
 |.app o e,D,E,σ,M=>wpE W o σ M (fun x M1=>match x with
  |.ref a=>match M1 a with
   |some (.lst _)=>wpE W e σ M1 (fun y M2=>match M2 a with
    |some (.lst ds)=>ds.length < sizeLine/\D.nx σ (put M2 a (.lst (ds++[y])))
    |_=>False) (E σ)
   |_=>False
  |_=>False) (E σ)
 |.del i,D,_,σ,M=>match σ[i]? with
  |some (some (.ref a))=>D.nx σ (L2.del M a)
  |_=>False
 |.fset o f e,D,E,σ,M=>wpE W e σ M (fun y M1=>wpE W o σ M1 (fun x M2=>match x with
  |.ref a=>match M2 a with
   |some (.ins i C ns ds)=>(C=W.kls i/\i < W.nk/\W.fok i f=true/\ns.length < 1000)/\D.nx σ (put M2 a (.ins i C (bU f ns) (bT f y ns ds)))
   |_=>False
  |_=>False) (E σ)) (E σ)
 |.ixset o i e,D,E,σ,M=>wpE W e σ M (fun y M1=>wpE W o σ M1 (fun x M2=>wpE W i σ M2 (fun k M3=>bc x k y M3 fun M4=>D.nx σ M4) (E σ)) (E σ)) (E σ)
 |.dead,_,_,_,_=>False
noncomputable def ao:ISs->Ends3->(St3->XN)->St3->MH->Prop
 |.nil,D,_,σ,M=>D.nx σ M
 |.cons s r,D,E,σ,M=>wpS s {D with nx:=fun σ' M'=>ao r D E σ' M'} E σ M
noncomputable def wpH:IHs->XE->Ends3->St3->MH->Prop
 |.nil,_,_,_,_=>False
 |.cons c nm body r,i,D,σ,M=>i.c < W.ne/\if W.sub i.c c=true then (match nm with
  |none=>ao body D (fun _ _ _=>False) σ M
  |some j=>∀a,M a=none->ao body (sk D j) (fun _ _ _=>False) (σ.set j (some (.ref a))) (put M a (.exc i (.ref (W.cls i.c))))) else wpH r i D σ M
end
end
end L2
namespace L2
open PySem PySem.Spec PyProof.Rows
noncomputable def LkE(K:PySem.W.Frag)(cls:Nat->Addr)(H:Hp)(E3:XN)(E:XK):Prop:=∀i M' H',TM K H H'->RelM K M' H'->E3 i M'->∀dx,XD K H' i dx->E (.ref (cls i.c)) dx H'
noncomputable def LkS(K:PySem.W.Frag)(cls:Nat->Addr)(H:Hp)(E3:St3->XN)(E2:St->XK):Prop:=∀σ3 σ i M' H',TM K H H'->DenS K H' σ3 σ->RelM K M' H'->E3 σ3 i M'->∀dx,XD K H' i dx->E2 σ (.ref (cls i.c)) dx H'
section
variable {K:PySem.W.Frag}
theorem LkE.mono(h:LkE K cls H E3 E)(t:TM K H H1):LkE K cls H1 E3 E:=fun i M' H' t' r q=>h i M' H' (t.trans t') r q
theorem LkS.mono(h:LkS K cls H E3 E2)(t:TM K H H1):LkS K cls H1 E3 E2:=fun σ3 σ i M' H' t' d r q=>h σ3 σ i M' H' (t.trans t') d r q
theorem LkS.at(h:LkS K cls H E3 E2)(ds:DenS K H σ3 σ):LkE K cls H (E3 σ3) (E2 σ):=fun i M' H' t r q=>h σ3 σ i M' H' t (ds.mono t) r q
theorem LkE.no:LkE K cls H (fun _ _=>False) E:=fun _ _ _ _ _ h=>h.elim
theorem Back.mono(h:Back K H Q Q2)(t:TM K H H1):Back K H1 Q Q2:=fun v H' d M' a b c e=>h v H' d M' a b (t.trans c) e
end
section
variable (K:PySem.W.Frag) (cls:Nat->Addr) (E2:St->XK)
noncomputable def low(t:St3->MH->VK3->XN->Prop):TE:=fun σ H Q2=>∃σ3 M Q E3,RelM K M H/\DenS K H σ3 σ/\LkE K cls H E3 (E2 σ)/\t σ3 M Q E3/\Back K H Q Q2
noncomputable def cz(t:St3->MH->(Bool->MH->Prop)->XN->Prop):TT:=fun σ H Q2=>∃σ3 M Q E3,RelM K M H/\DenS K H σ3 σ/\LkE K cls H E3 (E2 σ)/\t σ3 M Q E3/\∀b H' M',RelM K M' H'->TM K H H'->Q b M'->Q2 b H'
noncomputable def dG(t:St3->MH->(List D->MH->Prop)->XN->Prop):TA:=fun σ H Q2=>∃σ3 M Q E3,RelM K M H/\DenS K H σ3 σ/\LkE K cls H E3 (E2 σ)/\t σ3 M Q E3/\∀vs H' ds M',DenL K H' ds vs->RelM K M' H'->TM K H H'->Q ds M'->Q2 vs H'
noncomputable def p9(t:St3->MH->(Option Int->MH->Prop)->XN->Prop):TO:=fun σ H Q2=>∃σ3 M Q E3,RelM K M H/\DenS K H σ3 σ/\LkE K cls H E3 (E2 σ)/\t σ3 M Q E3/\∀o H' M',RelM K M' H'->TM K H H'->Q o M'->Q2 o H'
noncomputable def jB(t:St3->MH->(List D->(MH->Prop)->MH->Prop)->XN->Prop):TI:=fun σ H R2=>∃σ3 M R E3,RelM K M H/\DenS K H σ3 σ/\LkE K cls H E3 (E2 σ)/\t σ3 M R E3/\∀J H' ds S M',ItOk K H' J ds S->RelM K M' H'->TM K H H'->R ds S M'->R2 J H'
noncomputable def bN(t:Ends3->(St3->XN)->St3->MH->Prop):TS:=fun D2 σ H=>∃σ3 M D3 E3,RelM K M H/\DenS K H σ3 σ/\LkS K cls H E3 E2/\t D3 E3 σ3 M/\ER K H D3 D2
noncomputable def qi(t:D->St3->MH->(St3->MH->Prop)->Prop):TG:=fun v σ H Q2=>∃d σ3 M Q,Den K H d v/\RelM K M H/\DenS K H σ3 σ/\t d σ3 M Q/\BackS K H Q Q2
end
section
variable {X:Cx}{st:Stmt}
theorem PE.imp(h:PE X e t)(f:∀σ H Q,t' σ H Q->t σ H Q):PE X e t':=fun pins s σ H Q I q=>h pins s σ H Q I (f σ H Q q)
theorem PT.imp(h:PT X e t)(f:∀σ H Q,t' σ H Q->t σ H Q):PT X e t':=fun pins s σ H Q I q=>h pins s σ H Q I (f σ H Q q)
theorem PW.imp(h:PW X e t)(f:∀σ H Q,t' σ H Q->t σ H Q):PW X e t':=fun whole pins s σ H Q I q=>h whole pins s σ H Q I (f σ H Q q)
theorem PA.imp(h:PA X es t)(f:∀σ H Q,t' σ H Q->t σ H Q):PA X es t':=fun pos pins s σ H Q I q=>h pos pins s σ H Q I (f σ H Q q)
theorem PO.imp(h:PO X o t)(f:∀σ H Q,t' σ H Q->t σ H Q):PO X o t':=fun pins s σ H Q I q=>h pins s σ H Q I (f σ H Q q)
theorem PI.imp(h:PI X tg e t)(f:∀σ H Q,t' σ H Q->t σ H Q):PI X tg e t':=fun pins s σ H Q I q=>h pins s σ H Q I (f σ H Q q)
theorem PS.imp(h:PS X st t)(f:∀D σ H,t' D σ H->t D σ H):PS X st t':=fun pins s σ H D I q=>h pins s σ H D I (f D σ H q)
theorem PSs.imp(h:PSs X sts t)(f:∀D σ H,t' D σ H->t D σ H):PSs X sts t':=fun pins s σ H D I q=>h pins s σ H D I (f D σ H q)
theorem PG.imp(h:PG X e t)(f:∀v σ H Q,t' v σ H Q->t v σ H Q):PG X e t':=fun pins s σ H v u Q I r q=>h pins s σ H v u Q I r (f v σ H Q q)
end
section
variable {X:Cx}{s:Shared}
theorem HOk.freeze(x:HOk P w H h)(e:H a=some (.lst xs)):∃o,HOk P w (upd H a (.frz o (.lst xs))) h:=by
 obtain⟨o,ho⟩:=(x a _ e).isAt;refine⟨o,fun b u q=>?_⟩
 have own:∀c y,H c=some (.own y)->(upd H a (.frz o (.lst xs))) c=some (.own y):=fun c y z=>by
  rw[ag (c4 z e (fun w=>nomatch w))];exact z
 have tup:∀c ys,H c=some (.tup ys)->(upd H a (.frz o (.lst xs))) c=some (.tup ys):=fun c ys z=>by
  rw[ag (c4 z e (fun w=>nomatch w))];exact z
 by_cases hb:b=a
 ·subst hb;rw[ai]at q;cases q;exact⟨ho,(x b _ e).stay (fun _ _ _ q=>q) (fun c z=>own c _ z) fun c ys z=>tup c ys z⟩
 ·rw[ag hb]at q;exact (x b u q).stay (fun _ _ _ q=>q) (fun c z=>own c _ z) fun c ys z=>tup c ys z
theorem Inv.freeze(I:Inv X pins σ H s)(e:H a=some (.lst xs)):∃o,Inv X pins σ (upd H a (.frz o (.lst xs))) s:=by
 obtain⟨o,ok⟩:=I.hok.freeze e;have ne:∀b,H b=none->b≠a:=fun b z=>fun q=>by rw[q,e]at z;cases z
 refine⟨o,⟨I.ok,I.os,I.bare,⟨I.base.keep,I.base.slot,fun b ob q n hx=>?_,I.base.there,fun b ys q=>?_,fun b ob u q=>?_,fun b ps q=>?_⟩,I.loc,I.cell,?_,fun x c z=>?_,fun p hp=>?_,ok,I.len⟩⟩
 ·have z:=I.base.free b ob q n hx;rw[ag (ne b z)];exact z
 ·have z:=I.base.tups b ys q;rw[ag (c4 z e (fun w=>nomatch w))];exact z
 ·have z:=I.base.frzs b ob u q;rw[ag (c4 z e (fun w=>nomatch w))];exact z
 ·obtain⟨more,z⟩:=I.base.tbls b ps q;exact⟨more,by rw[ag (c4 z e (fun w=>nomatch w))];exact z⟩
 ·rw[ag (ne _ I.free)];exact I.free
 ·rw[ag (ne _ (I.freeC x c z))];exact I.freeC x c z
 ·obtain⟨p1,p2,p3⟩:=I.pin p hp;exact⟨p1,by rw[ag (ne _ p2)];exact p2,p3⟩
end
section
variable {K:PySem.W.Frag}{xs:List V}
theorem TM.freeze(e:H a=some (.lst xs)):TM K H (upd H a (.frz o (.lst xs))):=
 .put e (fun _=>fun z=>nomatch z) fun _ _=>fun z=>nomatch z
theorem RelM.freeze(r:RelM K M H)(e:H a=some (.lst xs)):RelM K (del M a) (upd H a (.frz o (.lst xs))):=fun b u q=>by
 obtain⟨ne,q⟩:=gZ q;exact (r b u q).stay (.freeze e) (ag ne)
theorem fg(h:DenL K H ds xs)(e:H a=some (.lst xs)):Den K (upd H a (.frz o (.lst xs))) (.rol ds) (.ref a):=⟨a,xs,rfl,.inl ⟨o,ai⟩,h.mono (.freeze e)⟩
end
theorem d9{X:Cx}
  (I:Inv X pins σ (upd H p (.lst vs)) s) (hp:H p=none) (dl:DenL X.K H ds vs)(rm:RelM X.K M H)(tm:TM X.K H0 H)(h:eV fz ds M Q)(back:Back X.K H0 Q Q2):EP X pins σ Q2 (.ref p) s:=by
 obtain⟨_,h⟩:=h;cases fz with
 |true=>
  rw[if_pos rfl]at h;obtain⟨o,I2⟩:=I.freeze ai;refine⟨.ref p,_,I2,rfl,back _ _ _ _ (fg (o:=o) (dl.mono (.new hp)) ai) ?_ (tm.trans ((TM.new hp).trans (.freeze ai))) h⟩;have r2:RelM X.K (put M p (.lst ds)) (upd H p (.lst vs)):=rm.lay hp ⟨vs,ai,dl.mono (.new hp)⟩;have r3:=r2.freeze (o:=o) (xs:=vs) ai;rw[fL (rm.fresh hp)]at r3;exact r3
 |false=>
  rw[if_neg Bool.false_ne_true]at h;exact⟨.ref p,_,I,rfl,back _ _ _ _ fP (rm.lay (u:=.lst ds) hp ⟨vs,ai,dl.mono (.new hp)⟩) (tm.trans (.new hp)) (h p (rm.fresh hp))⟩
noncomputable def RdL(K:PySem.W.Frag)(H:Hp)(p:Addr)(vs:List V):Prop:=Rd H p (.lst vs)\/SqM K p vs
theorem RdL.sq{K:PySem.W.Frag}(h:RdL K H p vs):SqL K H p vs:=by
 rcases h with h|h
 ·exact .inl h
 ·exact h.sq
theorem SqF.rd{K:PySem.W.Frag}(h:SqF K H p vs):RdL K H p vs:=by
 rcases h with h|h
 ·exact .inl (.inr h)
 ·exact .inr h
theorem cf{K:PySem.W.Frag}(rm:RelM K M H)(h:ak M x=some ds)(dv:Den K H x v):∃p vs,v=.ref p/\RdL K H p vs/\DenL K H ds vs:=by
 cases x with
 |rol es=>
  cases (show es=ds from Option.some.inj h);obtain⟨p,vs,e,s,l⟩:=dv;exact⟨p,vs,e,s.rd,l⟩
 |ref a=>
  have h:(match M a with|some (.lst ds)=>some ds|_=>none)=some ds:=h
  split at h
  next es q=>
   cases h;obtain⟨vs,e,l⟩:=rm a _ q;exact⟨a,vs,dv,.inl (.inl e),l⟩
  next=>cases h
 |_=>cases h
theorem gv{K:PySem.W.Frag}(rm:RelM K M H)(h:aB M x=some ds)(dv:Den K H x v):∃p vs,v=.ref p/\(SqL K H p vs\/SqT K H p vs)/\DenL K H ds vs:=by
 cases x with
 |tup es=>
  cases (show es=ds from Option.some.inj h);obtain⟨p,vs,e,s,l⟩:=dv;exact⟨p,vs,e,.inr s,l⟩
 |rol es=>obtain⟨p,vs,e,s,l⟩:=cf rm (show ak M (.rol es)=some ds from h) dv;exact⟨p,vs,e,.inl s.sq,l⟩
 |ref a=>obtain⟨p,vs,e,s,l⟩:=cf rm (show ak M (.ref a)=some ds from h) dv;exact⟨p,vs,e,.inl s.sq,l⟩
 |_=>cases h
theorem Inv.rdL{X:Cx}{s:Shared}{xs:List V}(I:Inv X pins σ H s)(h:RdL X.K H l xs):xs.length<=sizeLine/\∃(its:List Value) (n:Nat),Vals xs its/\xs.length=its.length/\s.heap.get? l=some {cls:=.type "list",data:=.seq its.toArray n}:=by
 rcases h with h|⟨its,n,e,z,r⟩
 ·obtain⟨z,its,n,r,e⟩:=h.ok I.hok;exact⟨z,its,n,r,r.length,e⟩
 ·exact⟨by rw[r.length];exact z,its,n,r,r.length,I.kIn _ _ e⟩
noncomputable def rS:HO->Bool
 |.lst _=>true
 |.dK _=>true
 |.dT _=>true
 |.ins _ _ _=>true
 |.ext _=>true
 |_=>false
theorem kR(h:rS u=true):(∀y,HO.own y≠u)/\(∀xs,HO.tup xs≠u)/\(∀o v,HO.frz o v≠u)/\∀ps,HO.tbl ps≠u:=by
 cases u<;>first
  |(cases h;done)
  |exact⟨fun _ z=>(by cases z),fun _ z=>(by cases z),fun _ _ z=>(by cases z),fun _ z=>(by cases z)⟩
section
variable {X:Cx}
theorem HOk.frzU(x:HOk P w H h)(e:H a=some u)(hu:rS u=true):∃o,HOk P w (upd H a (.frz o u)) h:=by
 obtain⟨n1,n2,_,_⟩:=kR hu;obtain⟨o,ho⟩:=(x a _ e).isAt;refine⟨o,fun b v q=>?_⟩
 have own:∀c y,H c=some (.own y)->(upd H a (.frz o u)) c=some (.own y):=fun c y z=>by
  rw[ag (c4 z e (n1 y))];exact z
 have tup:∀c ys,H c=some (.tup ys)->(upd H a (.frz o u)) c=some (.tup ys):=fun c ys z=>by
  rw[ag (c4 z e (n2 ys))];exact z
 by_cases hb:b=a
 ·subst hb;rw[ai]at q;cases q;exact⟨ho,(x b _ e).stay (fun _ _ _ q=>q) (fun c z=>own c _ z) fun c ys z=>tup c ys z⟩
 ·rw[ag hb]at q;exact (x b v q).stay (fun _ _ _ q=>q) (fun c z=>own c _ z) fun c ys z=>tup c ys z
theorem Inv.frzU(I:Inv X pins σ H s)(e:H a=some u)(hu:rS u=true):∃o,Inv X pins σ (upd H a (.frz o u)) s:=by
 obtain⟨n1,n2,n3,n4⟩:=kR hu;obtain⟨o,ok⟩:=I.hok.frzU e hu;have ne:∀b,H b=none->b≠a:=fun b z=>fun q=>by rw[q,e]at z;cases z
 refine⟨o,⟨I.ok,I.os,I.bare,⟨I.base.keep,I.base.slot,fun b ob q n hx=>?_,I.base.there,fun b ys q=>?_,fun b ob u q=>?_,fun b ps q=>?_⟩,I.loc,I.cell,?_,fun x c z=>?_,fun p hp=>?_,ok,I.len⟩⟩
 ·have z:=I.base.free b ob q n hx;rw[ag (ne b z)];exact z
 ·have z:=I.base.tups b ys q;rw[ag (c4 z e (n2 _))];exact z
 ·have z:=I.base.frzs b ob u q;rw[ag (c4 z e (n3 _ _))];exact z
 ·obtain⟨more,z⟩:=I.base.tbls b ps q;exact⟨more,by rw[ag (c4 z e (n4 _))];exact z⟩
 ·rw[ag (ne _ I.free)];exact I.free
 ·rw[ag (ne _ (I.freeC x c z))];exact I.freeC x c z
 ·obtain⟨p1,p2,p3⟩:=I.pin p hp;exact⟨p1,by rw[ag (ne _ p2)];exact p2,p3⟩
end
section
variable {K:PySem.W.Frag}
theorem TM.frzU(e:H a=some u)(hu:rS u=true):TM K H (upd H a (.frz o u)):=by
 obtain⟨_,n2,n3,_⟩:=kR hu;exact .put e (fun xs z=>n2 xs z.symm) fun ob v z=>n3 ob v z.symm
theorem RelM.frzU(r:RelM K M H)(e:H a=some u)(hu:rS u=true):RelM K (del M a) (upd H a (.frz o u)):=fun b v q=>by
 obtain⟨ne,q⟩:=gZ q;exact (r b v q).stay (.frzU e hu) (ag ne)
end
noncomputable def fzD:DO->D
 |.lst ds=>.rol ds
 |.dk ks ds=>.dik ks ds
 |.dt ks ds=>.dit ks ds
 |.ins i C ns ds=>.obj i C ns ds
 |.exc _ _=>.non
 |.stl _=>.non
theorem dZ{X:Cx}(I:Inv X pins σ H s)(rm:RelM X.K M H)(e:M a=some o)(ho:(∀i c,o≠.exc i c)/\∀φ,o≠.stl φ) :
  ∃H',Inv X pins σ H' s/\TM X.K H H'/\RelM X.K (del M a) H'/\Den X.K H' (fzD o) (.ref a):=by
 cases o with
 |lst ds=>
  obtain⟨vs,e1,dl⟩:=rm a _ e;obtain⟨ob,I2⟩:=I.frzU e1 rfl;exact⟨_,I2,.frzU e1 rfl,rm.frzU e1 rfl,a,vs,rfl,.inl ⟨ob,ai⟩,dl.mono (.frzU e1 rfl)⟩
 |dk ks ds=>
  obtain⟨vs,e1,hl,dl⟩:=rm a _ e;obtain⟨ob,I2⟩:=I.frzU e1 rfl;exact⟨_,I2,.frzU e1 rfl,rm.frzU e1 rfl,a,vs,ob,rfl,ai,hl,dl.mono (.frzU e1 rfl)⟩
 |dt ks ds=>
  obtain⟨vs,xs,e1,z,dl⟩:=rm a _ e;obtain⟨ob,I2⟩:=I.frzU e1 rfl;have t:TM X.K H (upd H a (.frz ob (.ext (bC a xs)))):=.frzU e1 rfl;exact⟨_,I2,t,rm.frzU e1 rfl,a,vs,ob,xs,rfl,ai,⟨z.kx,z.nd,z.sz,z.no,z.vx,fun x hx=>t.t _ _ (z.at_ x hx)⟩,dl.mono t⟩
 |ins i C ns ds=>
  obtain⟨dx,vs,e1,hl,dl⟩:=rm a _ e;obtain⟨ob,I2⟩:=I.frzU e1 rfl;exact⟨_,I2,.frzU e1 rfl,rm.frzU e1 rfl,a,vs,ob,dx,rfl,ai,hl,dl.mono (.frzU e1 rfl)⟩
 |exc i c=>exact absurd rfl (ho.1 i c)
 |stl φ=>exact absurd rfl (ho.2 φ)
theorem ff{X:Cx}:∀{ds:List D}{vs:List V}{H:Hp}{M:MH}{R:List D->MH->Prop},Inv X pins σ H s->RelM X.K M H->DenL X.K H ds vs->dH ds M R->
  ∃H' M' r,Inv X pins σ H' s/\TM X.K H H'/\RelM X.K M' H'/\DenL X.K H' r vs/\R r M'
 |[],vs,H,M,R,I,rm,dl,h=>⟨H,M,[],I,.refl _,rm,dl,h⟩
 |d::ds,_,H,M,R,I,rm,dl,h=>by
  obtain⟨v,r,rfl,dv,dl⟩:=dl;have keep:∀(d:D),Den X.K H d v->dH ds M (fun r M'=>R (d::r) M')->∃H' M' r',Inv X pins σ H' s/\TM X.K H H'/\RelM X.K M' H'/\DenL X.K H' r' (v::r)/\R r' M':=fun d dv h=>by
   obtain⟨H',M',r',I',t,rm',dl',q⟩:=ff I rm dl h;exact⟨H',M',d::r',I',t,rm',.cons (dv.mono t) dl',q⟩
  have fz:∀(a:Addr)(o:DO),v=.ref a->M a=some o->((∀i c,o≠.exc i c)/\∀φ,o≠.stl φ)->dH ds (del M a) (fun r M'=>R (fzD o::r) M')->∃H' M' r',Inv X pins σ H' s/\TM X.K H H'/\RelM X.K M' H'/\DenL X.K H' r' (v::r)/\R r' M':=fun a o e eM ne h=>by
   subst e;obtain⟨H1,I1,t1,rm1,d1⟩:=dZ I rm eM ne;obtain⟨H',M',r',I',t,rm',dl',q⟩:=ff I1 rm1 (dl.mono t1) h;exact⟨H',M',_::r',I',t1.trans t,rm',.cons (d1.mono t) dl',q⟩
  cases d with
  |ref a=>
   simp only[dH]at h;have e:v=.ref a:=dv;split at h
   ·rename_i es q;exact fz a (.lst es) e q ⟨(fun _ _ z=>nomatch z),(fun _ z=>nomatch z)⟩ h
   ·rename_i ks es q;exact fz a (.dk ks es) e q ⟨(fun _ _ z=>nomatch z),(fun _ z=>nomatch z)⟩ h
   ·rename_i ks es q;exact fz a (.dt ks es) e q ⟨(fun _ _ z=>nomatch z),(fun _ z=>nomatch z)⟩ h
   ·exact keep _ dv h
  |_=>exact keep _ dv (by simpa only[dH] using h)
theorem kH{X:Cx}(I:Inv X pins σ H s)(rm:RelM X.K M H)(dx:Den X.K H x v)(h:aZ Q x M) :
  ∃H' M' d,Inv X pins σ H' s/\TM X.K H H'/\RelM X.K M' H'/\Den X.K H' d v/\Q d M':=by
 unfold aZ at h;split at h
 ·rename_i a;cases (show v=.ref a from dx);split at h
  ·rename_i es q;obtain⟨H1,I1,t1,rm1,d1⟩:=dZ (o:=.lst es) I rm q ⟨(fun _ _ z=>nomatch z),(fun _ z=>nomatch z)⟩
   exact⟨H1,_,_,I1,t1,rm1,d1,h⟩
  ·rename_i ks es q;obtain⟨H1,I1,t1,rm1,d1⟩:=dZ (o:=.dk ks es) I rm q ⟨(fun _ _ z=>nomatch z),(fun _ z=>nomatch z)⟩
   exact⟨H1,_,_,I1,t1,rm1,d1,h⟩
  ·rename_i ks es q;obtain⟨H1,I1,t1,rm1,d1⟩:=dZ (o:=.dt ks es) I rm q ⟨(fun _ _ z=>nomatch z),(fun _ z=>nomatch z)⟩
   exact⟨H1,_,_,I1,t1,rm1,d1,h⟩
  ·rename_i i C ns es q;obtain⟨H1,I1,t1,rm1,d1⟩:=dZ (o:=.ins i C ns es) I rm q ⟨(fun _ _ z=>nomatch z),(fun _ z=>nomatch z)⟩
   obtain⟨a',vs,ob,dx',e',he,hl,dl⟩:=d1;cases e';obtain⟨H2,M2,r,I2,t2,rm2,dl2,q2⟩:=ff I1 rm1 dl h;refine⟨H2,M2,.obj i C ns r,I2,t1.trans t2,rm2,?_,q2⟩;exact⟨a,vs,ob,dx',rfl,t2.g _ _ _ he,hl,dl2⟩
  ·exact h.elim
 ·exact h.elim
end L2
namespace L2
open PySem PySem.Spec PySem.Calls PyProof.Rows
theorem SqL.new{K:PySem.W.Frag}(h:SqL K H p ws)(hn:H a=none):SqL K (upd H a o) p ws:=by
 rcases h with (h|⟨ob,h⟩)|h
 ·exact .inl (.inl (by rw[ag (ay h hn)];exact h))
 ·exact .inl (.inr ⟨ob,by rw[ag (ay h hn)];exact h⟩)
 ·exact .inr h
section
variable {X:Cx}{D:Addr}
end
end L2
namespace L2
open PySem PySem.Spec PyProof.Rows
section
variable {X:Cx}
theorem iY:∀{xs ys:List D},dL xs ys=true->xs.length=ys.length
 |[],[],_=>rfl
 |[],_::_,h=>by simp[dL]at h
 |_::_,[],h=>by simp[dL]at h
 |x::xs,y::ys,h=>by
  simp only[dL,Bool.and_eq_true]at h;rw[List.length_cons,List.length_cons,iY h.2]
theorem eY:∀{xs ys:List D},xs.length=ys.length->dL xs ys=(List.range xs.length).all fun j=>eqD (xs.getD j .non) (ys.getD j .non)
 |[],[],_=>by simp[dL]
 |[],_::_,h=>by simp at h
 |_::_,[],h=>by simp at h
 |x::xs,y::ys,h=>by
  have ih:=eY (xs:=xs) (ys:=ys) (by simpa using h)
  simp only[dL,List.length_cons,List.range_succ_eq_map,List.all_cons,List.all_map,ih];rfl
theorem se{xs ys:List D}:dL xs ys=((List.range (min xs.length ys.length)).all (fun j=>eqD (xs.getD j .non) (ys.getD j .non))&&(xs.length == ys.length)):=by
 by_cases h:xs.length=ys.length
 ·rw[eY h,h,Nat.min_self,beq_self_eq_true,Bool.and_true]
 ·have e1:(xs.length == ys.length)=false:=beq_eq_false_iff_ne.mpr h;rw[e1,Bool.and_false];cases q:dL xs ys with
  |false=>rfl
  |true=>exact absurd (iY q) h
theorem kz{K:PySem.W.Frag}(I:Inv X pins σ H s)(hK:K=X.K):∀(n:Nat) {x y:D}{v:V},plN n x=true->plN n y=true->Den K H x v->Den K H y v->x=y:=by
 subst hK;have lists:∀(n:Nat),(∀{x y:D}{v:V},plN n x=true->plN n y=true->Den X.K H x v->Den X.K H y v->x=y)->∀{xs ys:List D}{vs:List V},xs.all (plN n)=true->ys.all (plN n)=true->DenL X.K H xs vs->DenL X.K H ys vs->xs=ys:=by
  intro n ih xs
  induction xs with
  |nil=>
   intro ys vs _ _ h1 h2;cases (show vs=[] from h1);cases ys with
   |nil=>rfl
   |cons y ys=>obtain⟨_,_,e,_⟩:=h2;cases e
  |cons x xs iht=>
   intro ys vs p1 p2 h1 h2;obtain⟨v,r,rfl,d1,l1⟩:=h1;cases ys with
   |nil=>cases (show v::r=[] from h2)
   |cons y ys=>
    obtain⟨v',r',e,d2,l2⟩:=h2;cases e;simp only[List.all_cons,Bool.and_eq_true]at p1 p2;rw[ih p1.1 p2.1 d1 d2,iht p1.2 p2.2 l1 l2]
 have clash:∀{p:Addr}{vs ws:List V},SqT X.K H p vs->SqF X.K H p ws->False:=fun {p vs ws} h1 h2=>by
  obtain⟨its,_,t1,_⟩:=I.tuple h1;obtain⟨z,its2,n2,_,_,e2⟩:=I.rdL h2.rd;obtain⟨o,e1,c1,_⟩:=(show s.heap.IsTuple p its.toArray from t1);rw[e2]at e1;cases e1;injection c1 with z;exact absurd z (by decide)
 intro n
 induction n with
 |zero=>
  intro x y v p1 p2 d1 d2;cases x with
  |non=>
   cases (show v=.non from d1);cases y with
   |non=>rfl
   |bl b=>cases (show V.non=.bl b from d2)
   |int b=>cases (show V.non=.int b from d2)
   |str b=>cases (show V.non=.str b from d2)
   |tup es=>cases p2
   |rol es=>cases p2
   |ref a=>cases p2
   |obj _ _ _ _=>cases p2
   |dik _ _=>cases p2
   |dit _ _=>cases p2
  |bl a=>
   cases (show v=.bl a from d1);cases y with
   |non=>cases (show V.bl a=.non from d2)
   |bl b=>cases (show V.bl a=.bl b from d2);rfl
   |int b=>cases (show V.bl a=.int b from d2)
   |str b=>cases (show V.bl a=.str b from d2)
   |tup es=>cases p2
   |rol es=>cases p2
   |ref a=>cases p2
   |obj _ _ _ _=>cases p2
   |dik _ _=>cases p2
   |dit _ _=>cases p2
  |int a=>
   cases (show v=.int a from d1);cases y with
   |non=>cases (show V.int a=.non from d2)
   |bl b=>cases (show V.int a=.bl b from d2)
   |int b=>cases (show V.int a=.int b from d2);rfl
   |str b=>cases (show V.int a=.str b from d2)
   |tup es=>cases p2
   |rol es=>cases p2
   |ref a=>cases p2
   |obj _ _ _ _=>cases p2
   |dik _ _=>cases p2
   |dit _ _=>cases p2
  |str a=>
   cases (show v=.str a from d1);cases y with
   |non=>cases (show V.str a=.non from d2)
   |bl b=>cases (show V.str a=.bl b from d2)
   |int b=>cases (show V.str a=.int b from d2)
   |str b=>cases (show V.str a=.str b from d2);rfl
   |tup es=>cases p2
   |rol es=>cases p2
   |ref a=>cases p2
   |obj _ _ _ _=>cases p2
   |dik _ _=>cases p2
   |dit _ _=>cases p2
  |tup es=>cases p1
  |rol es=>cases p1
  |ref a=>cases p1
  |obj _ _ _ _=>cases p1
  |dik _ _=>cases p1
  |dit _ _=>cases p1
 |succ n ih=>
  intro x y v p1 p2 d1 d2;cases x with
  |non=>
   cases (show v=.non from d1);cases y with
   |non=>rfl
   |bl b=>cases (show V.non=.bl b from d2)
   |int b=>cases (show V.non=.int b from d2)
   |str b=>cases (show V.non=.str b from d2)
   |tup es=>obtain⟨p,vs,e,_⟩:=d2;cases e
   |rol es=>obtain⟨p,vs,e,_⟩:=d2;cases e
   |ref a=>cases p2
   |obj _ _ _ _=>cases p2
   |dik _ _=>cases p2
   |dit _ _=>cases p2
  |bl a=>
   cases (show v=.bl a from d1);cases y with
   |non=>cases (show V.bl a=.non from d2)
   |bl b=>cases (show V.bl a=.bl b from d2);rfl
   |int b=>cases (show V.bl a=.int b from d2)
   |str b=>cases (show V.bl a=.str b from d2)
   |tup es=>obtain⟨p,vs,e,_⟩:=d2;cases e
   |rol es=>obtain⟨p,vs,e,_⟩:=d2;cases e
   |ref a=>cases p2
   |obj _ _ _ _=>cases p2
   |dik _ _=>cases p2
   |dit _ _=>cases p2
  |int a=>
   cases (show v=.int a from d1);cases y with
   |non=>cases (show V.int a=.non from d2)
   |bl b=>cases (show V.int a=.bl b from d2)
   |int b=>cases (show V.int a=.int b from d2);rfl
   |str b=>cases (show V.int a=.str b from d2)
   |tup es=>obtain⟨p,vs,e,_⟩:=d2;cases e
   |rol es=>obtain⟨p,vs,e,_⟩:=d2;cases e
   |ref a=>cases p2
   |obj _ _ _ _=>cases p2
   |dik _ _=>cases p2
   |dit _ _=>cases p2
  |str a=>
   cases (show v=.str a from d1);cases y with
   |non=>cases (show V.str a=.non from d2)
   |bl b=>cases (show V.str a=.bl b from d2)
   |int b=>cases (show V.str a=.int b from d2)
   |str b=>cases (show V.str a=.str b from d2);rfl
   |tup es=>obtain⟨p,vs,e,_⟩:=d2;cases e
   |rol es=>obtain⟨p,vs,e,_⟩:=d2;cases e
   |ref a=>cases p2
   |obj _ _ _ _=>cases p2
   |dik _ _=>cases p2
   |dit _ _=>cases p2
  |tup ds=>
   obtain⟨p,vs,rfl,q1,l1⟩:=d1;cases y with
   |tup es=>
    obtain⟨p',vs',e,q2,l2⟩:=d2;cases e;have e:vs=vs':=by
     obtain⟨its,r1,t1,_⟩:=I.tuple q1;obtain⟨its2,r2,t2,_⟩:=I.tuple q2;obtain⟨o1,e1,c1,n1,f1⟩:=(show s.heap.IsTuple p its.toArray from t1);obtain⟨o2,e2,c2,n2,f2⟩:=(show s.heap.IsTuple p its2.toArray from t2);rw[e1]at e2;cases e2;rw[f1]at f2;have:its=its2:=by injection f2 with z;simpa using z
     subst this;exact r1.inj r2
    subst e;rw[lists n ih (by simpa [plN] using p1) (by simpa [plN] using p2) l1 l2]
   |rol es=>obtain⟨p',vs',e,q2,l2⟩:=d2;cases e;exact (clash q1 q2).elim
   |non=>cases (show V.ref p=.non from d2)
   |bl b=>cases (show V.ref p=.bl b from d2)
   |int b=>cases (show V.ref p=.int b from d2)
   |str b=>cases (show V.ref p=.str b from d2)
   |ref a=>cases p2
   |obj _ _ _ _=>cases p2
   |dik _ _=>cases p2
   |dit _ _=>cases p2
  |rol ds=>
   obtain⟨p,vs,rfl,q1,l1⟩:=d1;cases y with
   |rol es=>
    obtain⟨p',vs',e,q2,l2⟩:=d2;cases e;have e:vs=vs':=by
     obtain⟨_,its,n1,r1,_,e1⟩:=I.rdL q1.rd;obtain⟨_,its2,n2,r2,_,e2⟩:=I.rdL q2.rd;rw[e1]at e2;have:its=its2:=by
      have z:=Option.some.inj e2;injection z with z1 z2 z3 z4
      injection z3 with z5 z6
      simpa using z5
     subst this;exact r1.inj r2
    subst e;rw[lists n ih (by simpa [plN] using p1) (by simpa [plN] using p2) l1 l2]
   |tup es=>obtain⟨p',vs',e,q2,l2⟩:=d2;cases e;exact (clash q2 q1).elim
   |non=>cases (show V.ref p=.non from d2)
   |bl b=>cases (show V.ref p=.bl b from d2)
   |int b=>cases (show V.ref p=.int b from d2)
   |str b=>cases (show V.ref p=.str b from d2)
   |ref a=>cases p2
   |obj _ _ _ _=>cases p2
   |dik _ _=>cases p2
   |dit _ _=>cases p2
  |ref a=>cases p1
  |obj _ _ _ _=>cases p1
  |dik _ _=>cases p1
  |dit _ _=>cases p1
theorem fq:∀(n:Nat) {x:D},plN n x=true->eqD x x=true:=by
 have lists:∀(n:Nat),(∀{x:D},plN n x=true->eqD x x=true)->∀{xs:List D},xs.all (plN n)=true->dL xs xs=true:=by
  intro n ih xs
  induction xs with
  |nil=>intro _;rfl
  |cons x xs iht=>
   intro h;simp only[List.all_cons,Bool.and_eq_true]at h;simp only[dL,Bool.and_eq_true];exact⟨ih h.1,iht h.2⟩
 intro n
 induction n with
 |zero=>
  intro x h;cases x with
  |tup es=>cases h
  |rol es=>cases h
  |ref a=>cases h
  |obj _ _ _ _=>cases h
  |dik _ _=>cases h
  |dit _ _=>cases h
  |_=>simp[eqD]
 |succ n ih=>
  intro x h;cases x with
  |tup es=>simp only[eqD];exact lists n ih (by simpa [plN] using h)
  |rol es=>simp only[eqD];exact lists n ih (by simpa [plN] using h)
  |ref a=>cases h
  |obj _ _ _ _=>cases h
  |dik _ _=>cases h
  |dit _ _=>cases h
  |_=>simp[eqD]
theorem me{K:PySem.W.Frag}(I:Inv X pins σ H s)(hK:K=X.K)(n:Nat)(p1:plN n x=true)(p2:plN n y=true)(d1:Den K H x v)(d2:Den K H y v):eqD x y=true:=by
 rw[kz I hK n p1 p2 d1 d2];exact fq n p2
theorem wI(a b:Bool):eqD (.bl a) (.bl b)=(a == b):=by simp[eqD]
theorem zc(a:Bool)(b:Int):eqD (.bl a) (.int b)=((if a then 1 else 0) == b):=by simp[eqD];rfl
theorem zj(a:Int)(b:Bool):eqD (.int a) (.bl b)=(a == (if b then 1 else 0)):=by simp[eqD];rfl
theorem yE(a b:Int):eqD (.int a) (.int b)=(a == b):=by simp[eqD];rfl
theorem ya(a b:Str):eqD (.str a) (.str b)=(a == b):=by simp[eqD];rfl
noncomputable abbrev Eq3(A:Around)(s:Shared)(v u:Value)(k:Bool):Prop:=SeqAt.RcAt A s v u k/\SeqAt.RcNeAt A s v u (!k)/\SeqAt.EqAt A s v u k
inductive Seen (s:Shared):D->Value->Prop where
 |non:Seen s .non .none
 |bl (b:Bool):Seen s (.bl b) (.bool b)
 |int (i:Int) (t:Tok):Seen s (.int i) (.int i t)
 |str (x:Str) (t:Tok):Seen s (.str x) (.str x t)
 |tup {ds:List D}{p:Addr}{its:List Value} (h:s.heap.IsTuple p its.toArray):Seen s (.tup ds) (.ref p)
 |rol {ds:List D}{p:Addr}{its:List Value} (h:s.heap.IsList p its.toArray):Seen s (.rol ds) (.ref p)
theorem g8{X:Cx}(I:Inv X pins σ H s)(p:plN n x=true)(d:Den X.K H x v)(r:RelV v v2):Seen s x v2:=by
 cases x with
 |non=>cases (show v=.non from d);cases r;exact .non
 |bl b=>cases (show v=.bl b from d);cases r;exact .bl b
 |int i=>cases (show v=.int i from d);obtain⟨t,rfl⟩:=r;exact .int i t
 |str i=>cases (show v=.str i from d);obtain⟨t,rfl⟩:=r;exact .str i t
 |tup ds=>
  obtain⟨q,vs,rfl,sq,_⟩:=d;cases r;obtain⟨its,_,t,_⟩:=I.tuple sq;exact .tup (its:=its) t
 |rol ds=>
  obtain⟨q,vs,rfl,sq,_⟩:=d;cases r;obtain⟨its,_,t,_⟩:=I.list sq.sq;exact .rol (its:=its) t.isList
 |ref a=>simp[plN]at p
 |obj _ _ _ _=>simp[plN]at p
 |dik _ _=>simp[plN]at p
 |dit _ _=>simp[plN]at p
theorem qL{A:Around}(hx:Seen s x v)(hy:Seen s y u)(hu:A.units < cLine)(seq:∀ds es,(x=.tup ds/\y=.tup es)\/(x=.rol ds/\y=.rol es)->Eq3 A s v u (eqD x y)):Eq3 A s v u (eqD x y):=by
 cases hx with
 |non=>
  cases hy with
  |non=>exact⟨.none_none,.none_none,.same _⟩
  |bl b=>rw[show eqD (.non) (.bl b)=false by simp[eqD]];exact⟨.none_bool b,.none_bool b,.none_bool b⟩
  |int b tb=>rw[show eqD (.non) (.int b)=false by simp[eqD]];exact⟨.none_int b tb,.none_int b tb,.none_int b tb⟩
  |str b tb=>rw[show eqD (.non) (.str b)=false by simp[eqD]];exact⟨.none_str b tb,.none_str b tb,.none_str b tb⟩
  |@tup es p2 its2 h2=>rw[show eqD (.non) (.tup es)=false by simp[eqD]];exact⟨.none_tuple h2 hu,.none_tuple h2 hu,.none_tuple h2 hu⟩
  |@rol es p2 its2 h2=>rw[show eqD (.non) (.rol es)=false by simp[eqD]];exact⟨.none_list h2 hu,.none_list h2 hu,.none_list h2 hu⟩
 |bl a=>
  cases hy with
  |non=>rw[show eqD (.bl a) (.non)=false by simp[eqD]];exact⟨.bool_none a,.bool_none a,.bool_none a⟩
  |bl b=>rw[wI];exact⟨.bool_bool a b,.bool_bool a b,.bool_bool a b⟩
  |int b tb=>rw[zc];exact⟨.bool_int a b tb,.bool_int a b tb,.bool_int a b tb⟩
  |str b tb=>rw[show eqD (.bl a) (.str b)=false by simp[eqD]];exact⟨.bool_str a b tb,.bool_str a b tb,.bool_str a b tb⟩
  |@tup es p2 its2 h2=>rw[show eqD (.bl a) (.tup es)=false by simp[eqD]];exact⟨.bool_tuple a h2 hu,.bool_tuple a h2 hu,.bool_tuple a h2 hu⟩
  |@rol es p2 its2 h2=>rw[show eqD (.bl a) (.rol es)=false by simp[eqD]];exact⟨.bool_list a h2 hu,.bool_list a h2 hu,.bool_list a h2 hu⟩
 |int a ta=>
  cases hy with
  |non=>rw[show eqD (.int a) (.non)=false by simp[eqD]];exact⟨.int_none a ta,.int_none a ta,.int_none a ta⟩
  |bl b=>rw[zj];exact⟨.int_bool a ta b,.int_bool a ta b,.int_bool a ta b⟩
  |int b tb=>rw[yE];exact⟨.int_int a ta b tb,.int_int a ta b tb,.int_int a ta b tb⟩
  |str b tb=>rw[show eqD (.int a) (.str b)=false by simp[eqD]];exact⟨.int_str a ta b tb,.int_str a ta b tb,.int_str a ta b tb⟩
  |@tup es p2 its2 h2=>rw[show eqD (.int a) (.tup es)=false by simp[eqD]];exact⟨.int_tuple a ta h2 hu,.int_tuple a ta h2 hu,.int_tuple a ta h2 hu⟩
  |@rol es p2 its2 h2=>rw[show eqD (.int a) (.rol es)=false by simp[eqD]];exact⟨.int_list a ta h2 hu,.int_list a ta h2 hu,.int_list a ta h2 hu⟩
 |str a ta=>
  cases hy with
  |non=>rw[show eqD (.str a) (.non)=false by simp[eqD]];exact⟨.str_none a ta,.str_none a ta,.str_none a ta⟩
  |bl b=>rw[show eqD (.str a) (.bl b)=false by simp[eqD]];exact⟨.str_bool a ta b,.str_bool a ta b,.str_bool a ta b⟩
  |int b tb=>rw[show eqD (.str a) (.int b)=false by simp[eqD]];exact⟨.str_int a ta b tb,.str_int a ta b tb,.str_int a ta b tb⟩
  |str b tb=>rw[ya];exact⟨.str_str a ta b tb,.str_str a ta b tb,.str_str a ta b tb⟩
  |@tup es p2 its2 h2=>rw[show eqD (.str a) (.tup es)=false by simp[eqD]];exact⟨.str_tuple a ta h2 hu,.str_tuple a ta h2 hu,.str_tuple a ta h2 hu⟩
  |@rol es p2 its2 h2=>rw[show eqD (.str a) (.rol es)=false by simp[eqD]];exact⟨.str_list a ta h2 hu,.str_list a ta h2 hu,.str_list a ta h2 hu⟩
 |@tup ds p its h=>
  cases hy with
  |non=>rw[show eqD (.tup ds) (.non)=false by simp[eqD]];exact⟨.tuple_none h hu,.tuple_none h hu,.tuple_none h hu⟩
  |bl b=>rw[show eqD (.tup ds) (.bl b)=false by simp[eqD]];exact⟨.tuple_bool b h hu,.tuple_bool b h hu,.tuple_bool b h hu⟩
  |int b tb=>rw[show eqD (.tup ds) (.int b)=false by simp[eqD]];exact⟨.tuple_int b tb h hu,.tuple_int b tb h hu,.tuple_int b tb h hu⟩
  |str b tb=>rw[show eqD (.tup ds) (.str b)=false by simp[eqD]];exact⟨.tuple_str b tb h hu,.tuple_str b tb h hu,.tuple_str b tb h hu⟩
  |@tup es p2 its2 h2=>exact seq ds es (.inl ⟨rfl,rfl⟩)
  |@rol es p2 its2 h2=>rw[show eqD (.tup ds) (.rol es)=false by simp[eqD]];exact⟨.tuple_list h h2 hu,.tuple_list h h2 hu,.tuple_list h h2 hu⟩
 |@rol ds p its h=>
  cases hy with
  |non=>rw[show eqD (.rol ds) (.non)=false by simp[eqD]];exact⟨.list_none h hu,.list_none h hu,.list_none h hu⟩
  |bl b=>rw[show eqD (.rol ds) (.bl b)=false by simp[eqD]];exact⟨.list_bool b h hu,.list_bool b h hu,.list_bool b h hu⟩
  |int b tb=>rw[show eqD (.rol ds) (.int b)=false by simp[eqD]];exact⟨.list_int b tb h hu,.list_int b tb h hu,.list_int b tb h hu⟩
  |str b tb=>rw[show eqD (.rol ds) (.str b)=false by simp[eqD]];exact⟨.list_str b tb h hu,.list_str b tb h hu,.list_str b tb h hu⟩
  |@tup es p2 its2 h2=>rw[show eqD (.rol ds) (.tup es)=false by simp[eqD]];exact⟨.list_tuple h h2 hu,.list_tuple h h2 hu,.list_tuple h h2 hu⟩
  |@rol es p2 its2 h2=>exact seq ds es (.inr ⟨rfl,rfl⟩)
theorem wz{K:PySem.W.Frag}(I:Inv X pins σ H s)(hK:K=X.K):∀(n:Nat) {A:Around}{x y:D}{v u:V}{v2 u2:Value},plN n x=true->plN n y=true->Den K H x v->Den K H y u->RelV v v2->RelV u u2->A.units+n < cLine->
  SeqAt.RcAt A s v2 u2 (eqD x y)/\SeqAt.RcNeAt A s v2 u2 (!eqD x y)/\SeqAt.EqAt A s v2 u2 (eqD x y):=by
 subst hK;have items:∀(n:Nat),(∀{A:Around}{x y:D}{v u:V}{v2 u2:Value},plN n x=true->plN n y=true->Den X.K H x v->Den X.K H y u->RelV v v2->RelV u u2->A.units+n < cLine->
   SeqAt.RcAt A s v2 u2 (eqD x y)/\SeqAt.RcNeAt A s v2 u2 (!eqD x y)/\SeqAt.EqAt A s v2 u2 (eqD x y))->∀{A:Around}{xs ys:List D}{vs us:List V}{its its2:List Value},xs.all (plN n)=true->ys.all (plN n)=true->DenL X.K H xs vs->DenL X.K H ys us->Vals vs its->Vals us its2->A.units+(n+1) < cLine->
   ∀j (h1:j < its.toArray.size)(h2:j < its2.toArray.size),SeqAt.EqAt A.in1 s its.toArray[j] its2.toArray[j] (eqD (xs.getD j .non) (ys.getD j .non)):=by
  intro n ih A xs ys vs us its its2 p1 p2 l1 l2 r1 r2 hu j h1 h2;have h1:j < its.length:=by simpa using h1
  have h2:j < its2.length:=by simpa using h2
  have hx:j < xs.length:=by rw[l1.length,r1.length];exact h1
  have hy:j < ys.length:=by rw[l2.length,r2.length];exact h2
  obtain⟨v,e1,d1⟩:=l1.get (i:=j) (d:=xs[j]) (by simp[hx])
  obtain⟨u,e2,d2⟩:=l2.get (i:=j) (d:=ys[j]) (by simp[hy])
  obtain⟨v2,e3,rv⟩:=r1.get e1;obtain⟨u2,e4,ru⟩:=r2.get e2;have f1:its.toArray[j]=v2:=by
   have:=e3;rw[List.getElem?_eq_getElem h1]at this;simpa using this
  have f2:its2.toArray[j]=u2:=by
   have:=e4;rw[List.getElem?_eq_getElem h2]at this;simpa using this
  rw[f1,f2];have g1:xs.getD j .non=xs[j]:=by simp[List.getD,hx]
  have g2:ys.getD j .non=ys[j]:=by simp[List.getD,hy]
  rw[g1,g2];exact (ih (List.all_eq_true.mp p1 _ (List.getElem_mem hx)) (List.all_eq_true.mp p2 _ (List.getElem_mem hy)) d1 d2 rv ru (by show A.units+1+n < cLine;omega)).2.2
 intro n
 induction n with
 |zero=>
  intro A x y v u v2 u2 p1 p2 d1 d2 r1 r2 hu;refine qL (g8 I p1 d1 r1) (g8 I p2 d2 r2) (by omega) fun ds es z=>?_
  rcases z with ⟨rfl,rfl⟩|⟨rfl,rfl⟩<;>cases p1
 |succ n ih=>
  intro A x y v u v2 u2 p1 p2 d1 d2 r1 r2 hu;refine qL (g8 I p1 d1 r1) (g8 I p2 d2 r2) (by omega) fun ds es z=>?_
  rcases z with ⟨rfl,rfl⟩|⟨rfl,rfl⟩
  ·obtain⟨p,vs,rfl,q1,l1⟩:=id d1;obtain⟨p',us,rfl,q2,l2⟩:=id d2;cases r1;cases r2;obtain⟨its,v1,t1,_⟩:=I.tuple q1;obtain⟨its2,v2,t2,_⟩:=I.tuple q2;have he:=items n ih (A:=A) (by simpa [plN] using p1) (by simpa [plN] using p2) l1 l2 v1 v2 hu
   have ee:eqD (.tup ds) (.tup es)=((List.range (min its.toArray.size its2.toArray.size)).all (fun j=>eqD (ds.getD j .non) (es.getD j .non))&&its.toArray.size == its2.toArray.size):=by
    simp only[eqD];rw[se,l1.length,v1.length,l2.length,v2.length];rfl
   have rc:=SeqAt.RcAt.tuples (A:=A) t1 t2 (by omega) he
   rw[<-ee]at rc;have rn:=SeqAt.RcNeAt.tuples (A:=A) t1 t2 (by omega) he
   rw[<-ee]at rn;refine⟨rc,rn,?_⟩;by_cases hp:p=p'
   ·subst hp;rw[me I rfl (n+1) p1 p2 d1 d2];exact .same _
   ·exact .of_refs hp rc
  ·obtain⟨p,vs,rfl,q1,l1⟩:=id d1;obtain⟨p',us,rfl,q2,l2⟩:=id d2;cases r1;cases r2;obtain⟨its,v1,t1,_⟩:=I.list q1.sq;obtain⟨its2,v2,t2,_⟩:=I.list q2.sq;have he:=items n ih (A:=A) (by simpa [plN] using p1) (by simpa [plN] using p2) l1 l2 v1 v2 hu
   have rcn:SeqAt.RcAt A s (.ref p) (.ref p') (eqD (.rol ds) (.rol es))/\SeqAt.RcNeAt A s (.ref p) (.ref p') (!eqD (.rol ds) (.rol es)):=by
    by_cases hl:its.toArray.size=its2.toArray.size
    ·have ee:eqD (.rol ds) (.rol es)=(List.range its.toArray.size).all fun j=>eqD (ds.getD j .non) (es.getD j .non):=by
      have e1:ds.length=es.length:=by rw[l1.length,v1.length,l2.length,v2.length];simpa using hl
      simp only[eqD];rw[eY e1,l1.length,v1.length];rfl
     rw[ee];exact⟨.lists t1.isList t2.isList hl (by omega) he,.lists t1.isList t2.isList hl (by omega) he⟩
    ·have ee:eqD (.rol ds) (.rol es)=false:=by
      simp only[eqD];cases q:dL ds es with
      |false=>rfl
      |true=>
       have:=iY q;rw[l1.length,v1.length,l2.length,v2.length]at this;exact absurd (by simpa using this) hl
     rw[ee];exact⟨.lists_lengths t1.isList t2.isList (by simpa using hl) (by omega),.lists_lengths t1.isList t2.isList (by simpa using hl) (by omega)⟩
   refine⟨rcn.1,rcn.2,?_⟩;by_cases hp:p=p'
   ·subst hp;rw[me I rfl (n+1) p1 p2 d1 d2];exact .same _
   ·exact .of_refs hp rcn.1
end
end L2
namespace L2
open PySem PySem.Spec PyProof.Rows
noncomputable def VO(X:Cx)(f:Value->Value->Sem Value)(r:D->D->MH->VK3->Prop):Prop:=
 ∀(pins:List (Addr×Obj)) (s:Shared)(σ:St)(H:Hp)(x y:D)(v u:V)(v2 u2:Value)(M:MH)(Q:VK3)(Q2:VK),Inv X pins σ H s->RelV v v2->RelV u u2->Den X.K H x v->Den X.K H y u->RelM X.K M H->r x y M Q->Back X.K H Q Q2->
  wpAny (model X.prog X.w) X.A (f v2 u2) (EP X pins σ Q2) X.xe s
noncomputable def VU(X:Cx)(f:Value->Sem Value)(r:D->MH->VK3->Prop):Prop:=
 ∀(pins:List (Addr×Obj)) (s:Shared)(σ:St)(H:Hp)(x:D)(v:V)(v2:Value)(M:MH)(Q:VK3)(Q2:VK),Inv X pins σ H s->RelV v v2->Den X.K H x v->RelM X.K M H->r x M Q->Back X.K H Q Q2->
  wpAny (model X.prog X.w) X.A (f v2) (EP X pins σ Q2) X.xe s
noncomputable def VC(X:Cx)(f:Value)(r:List D->MH->VK3->Prop):Prop:=
 ∀(pins:List (Addr×Obj)) (s:Shared)(σ:St)(H:Hp)(xs:List D)(vs:List V)(us:List Value)(M:MH)(Q:VK3)(Q2:VK),Inv X pins σ H s->Vals vs us->DenL X.K H xs vs->RelM X.K M H->r xs M Q->Back X.K H Q Q2->
  wpAny (model X.prog X.w) X.A (call f us) (EP X pins σ Q2) X.xe s
section
variable {X:Cx}
theorem VO.of3(h:Op3 X f r):VO X f r:=by
 obtain⟨r2,h2,hl⟩:=h;exact fun pins s σ H x y v u v2 u2 M Q Q2 I rv ru dx dy rm q back=>h2 pins s σ H v u v2 u2 Q2 I rv ru (hl H x y v u M Q Q2 dx dy rm q back)
theorem VU.of3(h:Un3 X f r):VU X f r:=by
 obtain⟨r2,h2,hl⟩:=h;exact fun pins s σ H x v v2 M Q Q2 I rv dx rm q back=>h2 pins s σ H v v2 Q2 I rv (hl H x v M Q Q2 dx rm q back)
theorem VC.of3(h:oK X f r):VC X f r:=by
 obtain⟨r2,h2,hl⟩:=h;exact fun pins s σ H xs vs us M Q Q2 I rv dx rm q back=>h2 pins s σ H vs us Q2 I rv (hl H xs vs M Q Q2 dx rm q back)
theorem VO.imp(h:VO X f r)(g:∀x y M Q,r' x y M Q->r x y M Q):VO X f r':=
 fun pins s σ H x y v u v2 u2 M Q Q2 I rv ru dx dy rm q back=>h pins s σ H x y v u v2 u2 M Q Q2 I rv ru dx dy rm (g x y M Q q) back
theorem VU.imp(h:VU X f r)(g:∀x M Q,r' x M Q->r x M Q):VU X f r':=
 fun pins s σ H x v v2 M Q Q2 I rv dx rm q back=>h pins s σ H x v v2 M Q Q2 I rv dx rm (g x M Q q) back
theorem VC.imp(h:VC X f r)(g:∀x M Q,r' x M Q->r x M Q):VC X f r':=
 fun pins s σ H x v v2 M Q Q2 I rv dx rm q back=>h pins s σ H x v v2 M Q Q2 I rv dx rm (g x M Q q) back
theorem gk(h:rI2 g x y M Q):k7 g x y M Q:=by
 unfold rI2 at h;split at h
 ·exact⟨_,_,rfl,rfl,h⟩
 ·exact h.elim
theorem kY(h:rII C g x y M Q):rI3 C g x y M Q:=by
 unfold rII at h;split at h
 ·exact⟨_,_,rfl,rfl,h⟩
 ·exact h.elim
theorem sV{s:Shared}{ws:List Value}(ht:IsTup s.heap t #[])(hb:IsTup s.heap b ws.toArray)(h:Q (.ref b) s):wpAny (model prog w) A (binaryOp .Add (.ref t) (.ref b)) Q E s:=by
 obtain⟨⟨cls,dd,data,sl⟩,ho,hc,n,hd⟩:=id ht;obtain⟨⟨cls2,dd2,data2,sl2⟩,ho2,hc2,n2,hd2⟩:=id hb;simp only at hc hd hc2 hd2;subst hc hd hc2 hd2;exact concat_meets ⟨_,ho,rfl⟩ ⟨_,ho2,rfl⟩ noFill_tuple_add seq_tuple_add PySem.F.slot_tuple_add PySem.F.entry_tuple_add (PySem.F.args_tuple_add_2 _ _) (tuple_addW0 t b #[] ws.toArray n n2 dd dd2 sl sl2 rfl) ⟨ho,ho2,h⟩
theorem ud{a b:List D}(I:Inv X pins σ H s)(rv:RelV v v2)(ru:RelV u u2)(dx:Den X.K H (.tup a) v)(dy:Den X.K H (.tup b) u)(rm:RelM X.K M H)
  (q:a.length+b.length<=sizeLine/\Q (.tup (a++b)) M) (back:Back X.K H Q Q2):wpAny (model X.prog X.w) X.A (binaryOp .Add v2 u2) (EP X pins σ Q2) X.xe s:=by
 obtain⟨p1,vs,rfl,sq1,dl1⟩:=dx;obtain⟨p2,us,rfl,sq2,dl2⟩:=dy;obtain⟨h2,q⟩:=q;by_cases h1:a=[]
 ·subst h1;cases (show vs=[] from dl1);cases rv;cases ru;obtain⟨its,r1,p1',_⟩:=I.tuple sq1;obtain⟨its2,r2,p2',_⟩:=I.tuple sq2;cases r1;exact sV p1' p2' ⟨.ref p2,H,I,rfl,back _ _ (.tup b) _ ⟨p2,us,rfl,sq2,dl2⟩ rm (.refl _) q⟩
 refine uc pins s σ H _ _ v2 u2 Q2 I rv ru ⟨p1,p2,vs,us,rfl,rfl,sq1,sq2,fun z=>?_,by rw[<-dl1.length,<-dl2.length];exact h2,fun z=>?_,fun _ p hp=>?_⟩
 ·have:=dl1.length;rw[z]at this;cases a with
  |nil=>exact h1 rfl
  |cons _ _=>cases this
 ·have hb:b=[]:=List.length_eq_zero_iff.mp (by rw[dl2.length,z];rfl)
  subst hb;rw[List.append_nil]at q;exact back _ _ (.tup a) _ ⟨p1,vs,rfl,sq1,dl1⟩ rm (.refl _) q
 ·exact back _ _ (.tup (a++b)) _ ⟨p,_,rfl,.of ai,(dl1.append dl2).mono (.new hp)⟩ (rm.grow hp) (.new hp) q
theorem lK(a:Array α):∀(k:Nat)(b:Array α),((List.replicate k a).foldl (·++·) b).size=b.size+k * a.size
 |0,b=>by simp
 |k+1,b=>by
  rw[List.replicate_succ,List.foldl_cons,lK a k,Array.size_append,Nat.succ_mul];omega
theorem ql{z:Str}(n0:0<=n)(n1:n<=100000)(hz:z.length<=10)
  (h:∀t' tk,Q (.str (kM z n) t') {s with toks:=tk}):wpAny (model prog w) A (binaryOp .Mult (.str z t) (.int n u)) Q E s:=by
 have e1:decide (n < -(2 ^ 63:Int))=false:=decide_eq_false (by omega)
 have e2:decide (n>=2 ^ 63)=false:=decide_eq_false (by omega)
 refine PySem.P.mul_str (by rw[e1,e2];rfl) (fun h1 h2=>?_) (fun h1 h2=>?_) ?_
 ·have:(2 ^ 63 - 1) / n>=10:=by
   rw[ge_iff_le,Int.le_ediv_iff_mul_le (by omega)]
   omega
  omega
 ·have hl:z.length * n.toNat<=10 * 100000:=Nat.mul_le_mul hz (by omega)
  unfold Builtin.Str.tooLong;exact decide_eq_false (by rw[sizeLine_eq];omega)
 ·unfold kM at h;split
  ·rename_i hn;rw[if_pos hn]at h;exact⟨by decide,h _ _⟩
  ·rename_i hn;rw[if_neg hn]at h;split
   ·rename_i hb;rw[if_pos hb]at h;exact h _ _
   ·rename_i hb;rw[if_neg hb]at h;refine⟨?_,h _ _⟩;show ((List.replicate n.toNat z.cps).foldl (·++·) #[]).size<=sizeLine;rw[lK];have hl:n.toNat * z.cps.size<=100000 * 10:=Nat.mul_le_mul (by omega) hz
    rw[sizeLine_eq];simp;omega
theorem wK(op:Operator):VO X (binaryOp op) (jE op):=by
 cases op with
 |Add=>
  intro pins s σ H x y v u v2 u2 M Q Q2 I rv ru dx dy rm q back;have q':rE x y M Q:=q;clear q;unfold rE at q';split at q'
  ·exact VO.of3 A0 pins s σ H _ _ v u v2 u2 M Q Q2 I rv ru dx dy rm ⟨_,_,rfl,rfl,q'⟩ back
  ·rename_i a b;cases (show v=.str a from dx);cases (show u=.str b from dy);exact nK pins s σ H _ _ v2 u2 Q2 I rv ru ⟨a,b,rfl,rfl,q'.1,back _ _ _ _ gX rm (.refl _) q'.2⟩
  ·exact ud I rv ru dx dy rm q' back
  ·exact q'.elim
 |Sub=>exact (VO.of3 BO).imp fun _ _ _ _ h=>gk h
 |Mult=>
  intro pins s σ H x y v u v2 u2 M Q Q2 I rv ru dx dy rm q back;have q':sh x y M Q:=q;clear q;unfold sh at q';split at q'
  ·exact VO.of3 BX pins s σ H _ _ v u v2 u2 M Q Q2 I rv ru dx dy rm ⟨_,_,rfl,rfl,q'⟩ back
  ·rename_i z n;cases (show v=.str z from dx);cases (show u=.int n from dy);obtain⟨t,rfl⟩:=rv;obtain⟨t',rfl⟩:=ru;obtain⟨⟨n0,n1,hz⟩,q'⟩:=q';exact ql n0 n1 hz fun t2 tk=>⟨.str (kM z n),H,I.tok _,⟨_,rfl⟩,back _ _ _ _ gX rm (.refl _) q'⟩
  ·exact q'.elim
 |FloorDiv=>exact (VO.of3 zo).imp fun _ _ _ _ h=>kY h
 |Mod=>exact (VO.of3 Cj).imp fun _ _ _ _ h=>kY h
 |Pow=>exact (VO.of3 AR).imp fun _ _ _ _ h=>kY h
 |RShift=>exact (VO.of3 Br).imp fun _ _ _ _ h=>kY h
 |BitAnd=>exact (VO.of3 BH).imp fun _ _ _ _ h=>gk h
 |_=>exact fun pins s σ H x y v u v2 u2 M Q Q2 I rv ru dx dy rm q back=>False.elim q
theorem xk:VU X (unaryOp .USub) rNeg:=(VU.of3 Dl).imp fun x M Q h=>by
 unfold rNeg at h;split at h
 ·exact⟨_,rfl,h⟩
 ·exact h.elim
theorem uJ{K:PySem.W.Frag}(rm:RelM K M H)(dx:Den K H x v)(hp:pl (res M x)=true) :
  (∃a ds,x=.ref a/\M a=some (.lst ds)/\res M x=.rol ds)\/(res M x=x):=by
 cases x with
 |ref a=>
  cases e:M a with
  |none=>
   have:res M (.ref a)=.ref a:=by simp[res,ak,e]
   rw[this]at hp;simp[plN]at hp
  |some o=>
   cases o with
   |lst ds=>exact .inl ⟨a,ds,rfl,e,by simp[res,ak,e]⟩
   |_=>
    have:res M (.ref a)=.ref a:=by simp[res,ak,e]
    rw[this]at hp;simp[plN]at hp
 |rol ds=>exact .inr rfl
 |_=>exact .inr rfl
theorem mj(I:Inv X pins σ H s)(rm:RelM X.K M H)(dx:Den X.K H x v)(hp:pl (res M x)=true) :
  ∃H',Inv X pins σ H' s/\TM X.K H H'/\Den X.K H' (res M x) v:=by
 rcases uJ rm dx hp with ⟨a,ds,rfl,q,e⟩|e
 ·obtain⟨vs,e1,l⟩:=rm a _ q;obtain⟨o,I2⟩:=I.freeze e1;refine⟨_,I2,.freeze e1,?_⟩;rw[e];cases (show v=.ref a from dx);exact fg l e1
 ·rw[e];exact⟨H,I,.refl _,dx⟩
noncomputable def li(K:PySem.W.Frag)(M:MH)(H:Hp):Prop:=∀a ds,M a=some (.lst ds)->∃vs,(H a=some (.lst vs)\/∃o,H a=some (.frz o (.lst vs)))/\DenL K H ds vs
theorem RelM.z{K:PySem.W.Frag}(rm:RelM K M H):li K M H:=fun a ds q=>by
 obtain⟨vs,e,l⟩:=rm a _ q;exact⟨vs,.inl e,l⟩
theorem Bx(I:Inv X pins σ H s)(rz:li X.K M H)(q:M a=some (.lst ds)) :
  ∃H',Inv X pins σ H' s/\TM X.K H H'/\li X.K M H'/\∃vs,SqF X.K H' a vs/\DenL X.K H' ds vs/\DenL X.K H ds vs:=by
 obtain⟨vs,e|⟨o,e⟩,l⟩:=rz a ds q
 ·obtain⟨o,I2⟩:=I.freeze e;have t:TM X.K H (upd H a (.frz o (.lst vs))):=.freeze e;refine⟨_,I2,t,fun b es qb=>?_,vs,.inl ⟨o,ai⟩,l.mono t,l⟩
  obtain⟨us,e2,l2⟩:=rz b es qb;by_cases hb:b=a
  ·subst hb;rw[q]at qb;cases qb;exact⟨vs,.inr ⟨o,ai⟩,l.mono t⟩
  ·refine⟨us,?_,l2.mono t⟩;rw[ag hb];exact e2
 ·exact⟨H,I,.refl _,rz,vs,.inl ⟨o,e⟩,l,l⟩
theorem CQ(I:Inv X pins σ H s)(rz:li X.K M H)(dx:Den X.K H x v) :
  ∃H',Inv X pins σ H' s/\TM X.K H H'/\li X.K M H'/\Den X.K H' (res M x) v:=by
 cases x with
 |ref a=>
  cases e:M a with
  |none=>
   have:res M (.ref a)=.ref a:=by simp[res,ak,e]
   rw[this];exact⟨H,I,.refl _,rz,dx⟩
  |some o=>
   cases o with
   |lst ds=>
    obtain⟨H',I2,t,rz2,vs,sq,l,_⟩:=Bx I rz e;have:res M (.ref a)=.rol ds:=by simp[res,ak,e]
    rw[this];exact⟨H',I2,t,rz2,a,vs,dx,sq,l⟩
   |_=>
    have:res M (.ref a)=.ref a:=by simp[res,ak,e]
    rw[this];exact⟨H,I,.refl _,rz,dx⟩
 |rol ds=>exact⟨H,I,.refl _,rz,dx⟩
 |_=>exact⟨H,I,.refl _,rz,dx⟩
theorem rA:∀{ds:List D}{vs:List V}{H:Hp},Inv X pins σ H s->li X.K M H->DenL X.K H ds vs->
  ∃H',Inv X pins σ H' s/\TM X.K H H'/\li X.K M H'/\DenL X.K H' (ds.map (res M)) vs
 |[],vs,H,I,rz,dl=>⟨H,I,.refl _,rz,dl⟩
 |d::ds,vs,H,I,rz,dl=>by
  obtain⟨v,r,rfl,dv,dr⟩:=dl;obtain⟨H1,I1,t1,rz1,d1⟩:=CQ I rz dv;obtain⟨H2,I2,t2,rz2,d2⟩:=rA I1 rz1 (dr.mono t1);exact⟨H2,I2,t1.trans t2,rz2,v,r,rfl,d1.mono t2,d2⟩
theorem uX(I:Inv X pins σ H s)(rz:li X.K M H)(dx:Den X.K H x v) :
  ∃H',Inv X pins σ H' s/\TM X.K H H'/\li X.K M H'/\Den X.K H' (rs M x) v:=by
 cases x with
 |ref a=>
  cases e:M a with
  |none=>
   have:rs M (.ref a)=.ref a:=by simp[rs,ak,e]
   rw[this];exact⟨H,I,.refl _,rz,dx⟩
  |some o=>
   cases o with
   |lst ds=>
    have:rs M (.ref a)=.rol (if pls ds=true then ds else ds.map (res M)):=by simp[rs,ak,e]
    rw[this];obtain⟨H',I2,t,rz2,vs,sq,l,_⟩:=Bx I rz e;split
    ·exact⟨H',I2,t,rz2,a,vs,dx,sq,l⟩
    ·obtain⟨H3,I3,t3,rz3,l3⟩:=rA I2 rz2 l;exact⟨H3,I3,t.trans t3,rz3,a,vs,dx,t3.f _ _ sq,l3⟩
   |_=>
    have:rs M (.ref a)=.ref a:=by simp[rs,ak,e]
    rw[this];exact⟨H,I,.refl _,rz,dx⟩
 |rol ds=>
  have:rs M (.rol ds)=.rol (if pls ds=true then ds else ds.map (res M)):=by simp[rs,ak]
  rw[this];split
  ·exact⟨H,I,.refl _,rz,dx⟩
  ·obtain⟨p,vs,e,sq,l⟩:=dx;obtain⟨H3,I3,t3,rz3,l3⟩:=rA I rz l;exact⟨H3,I3,t3,rz3,p,vs,e,t3.f _ _ sq,l3⟩
 |_=>exact⟨H,I,.refl _,rz,dx⟩
theorem CU(I:Inv X pins σ H s)(rm:RelM X.K M H)(dx:Den X.K H x v)(dy:Den X.K H y u) :
  ∃H',Inv X pins σ H' s/\Den X.K H' (rs M x) v/\Den X.K H' (rs M y) u:=by
 obtain⟨H1,I1,t1,rz1,d1⟩:=uX I rm.z dx;obtain⟨H2,I2,t2,rz2,d2⟩:=uX I1 rz1 (dy.mono t1);exact⟨H2,I2,d1.mono t2,d2⟩
theorem uV(hu:X.A.units+64 < cLine)(neg:Bool):VO X (compareOp (if neg=true then .NotEq else .Eq)) (gP neg):=by
 intro pins s σ H x y v u v2 u2 M Q Q2 I rv ru dx dy rm q back;obtain⟨h1,h2,q⟩:=q;obtain⟨H',I',d1,d2⟩:=CU I rm dx dy;obtain⟨rc,rn,_⟩:=wz I' rfl 8 (A:=X.A) h1 h2 d1 d2 rv ru (by omega)
 have fin:=back _ _ _ _ (bx (K:=X.K) (H:=H)) rm (.refl _) q;cases neg with
 |true=>
  refine rn _ _ _ _ ⟨.bl _,H,I,rfl,?_⟩;rw[Bool.true_xor]at fin;exact fin
 |false=>
  refine rc _ _ _ _ ⟨.bl _,H,I,rfl,?_⟩;rw[Bool.false_xor]at fin;exact fin
end
end L2
namespace L2
open PySem PySem.Spec PyProof.Rows
section
variable {K:PySem.W.Frag}
theorem fK[DecidableEq κ]:∀{ks:List κ}{ds:List D}{vs:List V}{k:κ},DenL K H ds vs->ks.length=vs.length->
  (∀d,getD ks ds k=some d->∃v,cA (ks.zip vs) k=some v/\Den K H d v)/\(getD ks ds k=none->cA (ks.zip vs) k=none)
 |[],_,vs,k,_,_=>⟨fun d e=>by simp[getD]at e,fun _=>by simp[cA]⟩
 |q::ks,[],vs,k,dl,hl=>by cases (show vs=[] from dl);cases hl
 |q::ks,d0::ds,_,k,dl,hl=>by
  obtain⟨v,r,rfl,dv,dl⟩:=dl;have ih:=fK (ks:=ks) (k:=k) dl (by simpa using hl)
  by_cases z:q=k
  ·refine⟨fun d e=>?_,fun e=>?_⟩
   ·simp only[getD,if_pos z]at e;cases e;exact⟨v,dW (p:=(q,v)) z,dv⟩
   ·simp only[getD,if_pos z]at e;cases e
  ·refine⟨fun d e=>?_,fun e=>?_⟩
   ·simp only[getD,if_neg z]at e;obtain⟨w,h1,h2⟩:=ih.1 d e;exact⟨w,(cW (p:=(q,v)) z).trans h1,h2⟩
   ·simp only[getD,if_neg z]at e;exact (cW (p:=(q,v)) z).trans (ih.2 e)
theorem jf(h:mw y=some k)(d:Den K H y u):u=kV k:=by
 cases y with
 |int i=>cases (show some (Sum.inl i)=some k from h);exact d
 |str x=>cases (show some (Sum.inr x)=some k from h);exact d
 |_=>cases h
theorem jR:∀{es:List D}{vs:List V}{k:List Int},dY es=some k->DenL K H es vs->vs=k.map V.int
 |[],vs,k,h,dl=>by cases (show some []=some k from h);exact dl
 |d::es,_,k,h,dl=>by
  obtain⟨v,r,rfl,dv,dl⟩:=dl;cases d with
  |int i=>
   simp only[dY]at h;split at h
   ·rename_i ns q;cases h;rw[jR q dl];cases (show v=.int i from dv);rfl
   ·cases h
  |_=>cases h
theorem lF{k:List Int}(h:jy y=some k)(d:Den K H y u):∃b,u=.ref b/\SqT K H b (k.map V.int):=by
 cases y with
 |tup es=>
  obtain⟨b,vs,e,sq,dl⟩:=d;refine⟨b,e,?_⟩;rw[<-jR h dl];exact sq
 |_=>cases h
theorem lL{ks:List Key}(h:gm M x=some (ks,ds))(rm:RelM K M H)(d:Den K H x v):∃p vs,v=.ref p/\Rd H p (.dK (ks.zip vs))/\ks.length=vs.length/\DenL K H ds vs:=by
 cases x with
 |dik ks' ds'=>
  cases h;obtain⟨p,vs,o,rfl,e,hl,dl⟩:=d;exact⟨p,vs,rfl,.inr ⟨o,e⟩,hl,dl⟩
 |ref a=>
  simp only[gm]at h;split at h
  ·rename_i q;cases h;obtain⟨vs,e,hl,dl⟩:=rm a _ q;exact⟨a,vs,d,.inl e,hl,dl⟩
  ·cases h
 |_=>cases h
theorem fB(h:gN M x=some (ks,ds))(rm:RelM K M H)(d:Den K H x v):∃p vs xs,v=.ref p/\Rd H p (.ext (bC p xs))/\TabOk K H p ks xs vs/\DenL K H ds vs:=by
 cases x with
 |dit ks' ds'=>
  cases h;obtain⟨p,vs,o,xs,rfl,e,z,dl⟩:=d;exact⟨p,vs,xs,rfl,.inr ⟨o,e⟩,z,dl⟩
 |ref a=>
  simp only[gN]at h;split at h
  ·rename_i q;cases h;obtain⟨vs,xs,e,z,dl⟩:=rm a _ q;exact⟨a,vs,xs,d,.inl e,z,dl⟩
  ·cases h
 |_=>cases h
theorem TabOk.len{ks:List (List Int)}{vs:List V}(z:TabOk K H a ks xs vs):ks.length=vs.length:=by
 rw[<-z.kx,List.length_map,z.vx.length,List.length_map]
theorem cU:∀{xs:List (List Int×Addr×Value)}{vs:List V} (k:List Int),Vals vs (xs.map (·.2.2))->RelO (cA ((xs.map (·.1)).zip vs) k) ((atKey xs k).map (·.2))
 |[],vs,k,r=>by cases r;exact True.intro
 |x::xs,vs,k,r=>by
  rw[List.map_cons]at r;cases r with
  |@cons v _ vs _ h t=>
   have ih:=cU k t;by_cases e:x.1=k
   ·have b:atKey (x::xs) k=some x.2:=by simp[atKey,List.find?_cons,e]
    rw[List.map_cons,List.zip_cons_cons,dW (p:=(x.1,v)) e,b];exact h
   ·have b:atKey (x::xs) k=atKey xs k:=by simp[atKey,List.find?_cons,e]
    rw[List.map_cons,List.zip_cons_cons,cW (p:=(x.1,v)) e,b];exact ih
end
inductive DRd (X:Cx) (H:Hp) (a:Addr) (u:V):Option V->Prop where
 |k {kvs:List (Key×V)}{k:Key} (e:Rd H a (.dK kvs)) (hu:u=kV k):DRd X H a u (cA kvs k)
 |t {ks:List (List Int)}{xs:List (List Int×Addr×Value)}{vs:List V}{k:List Int}{b:Addr} (e:Rd H a (.ext (bC a xs))) (z:TabOk X.K H a ks xs vs) (hu:u=.ref b) (sq:SqT X.K H b (k.map V.int)):DRd X H a u (cA (ks.zip vs) k)
noncomputable def OptDen(K:PySem.W.Frag)(H:Hp):Option D->Option V->Prop
 |some d,some v=>Den K H d v
 |none,none=>True
 |_,_=>False
theorem fw{X:Cx}(h:gU M x y=some o)(rm:RelM X.K M H)(dx:Den X.K H x v)(dy:Den X.K H y u):∃a ov,v=.ref a/\DRd X H a u ov/\OptDen X.K H o ov:=by
 unfold gU at h;split at h
 ·rename_i ks ds e;split at h
  ·rename_i k ek;cases h;obtain⟨p,vs,rfl,rd,hl,dl⟩:=lL e rm dx;refine⟨p,_,rfl,.k rd (jf ek dy),?_⟩;have g:=fK (k:=k) dl hl;cases q:getD ks ds k with
   |none=>rw[g.2 q];exact True.intro
   |some d=>obtain⟨w,h1,h2⟩:=g.1 d q;rw[h1];exact h2
  ·cases h
 ·split at h
  ·rename_i ks ds e;split at h
   ·rename_i k ek;cases h;obtain⟨p,vs,xs,rfl,rd,z,dl⟩:=fB e rm dx;obtain⟨b,hb,sq⟩:=lF ek dy;refine⟨p,_,rfl,.t rd z hb sq,?_⟩;have g:=fK (k:=k) dl z.len;cases q:getD ks ds k with
    |none=>rw[g.2 q];exact True.intro
    |some d=>obtain⟨w,h1,h2⟩:=g.1 d q;rw[h1];exact h2
   ·cases h
  ·cases h
section
variable {X:Cx}{s:Shared}{o:Option V}{A:Around}
theorem jd:∀{ks:List Int}{us:List Value},Vals (ks.map V.int) us->ItemsAre (intKind P w) ks us
 |[],_,r=>by rw[List.map_nil]at r;cases r;exact .nil
 |k::ks,_,r=>by
  rw[List.map_cons]at r;cases r with
  |cons h t=>
   obtain⟨tk,rfl⟩:=h;exact .cons (by show Value.isInt k (.int k tk)=true;simp[Value.isInt]) (jd t)
theorem eS{k:List Int}(I:Inv X pins σ H s)(sq:SqT X.K H b (k.map V.int)):(tupleKind (intKind X.prog X.w)).is s.heap k b:=by
 obtain⟨its,r,⟨o,e,c,n,d⟩,_⟩:=I.tuple sq;exact⟨o,its.toArray,n,e,c,d,by simpa using jd r⟩
theorem cx(I:Inv X pins σ H s)(e:Rd H a (.ext (bC a xs)))(z:TabOk X.K H a ks xs vs):s.heap.DictOfH (tupleKind (intKind X.prog X.w)) a xs:=by
 obtain⟨⟨ob,es,ep,h1,h2,h3,h4⟩,_⟩:=(show ObjOk X.prog X.w H s.heap a (.ext (bC a xs)) from e.ok I.hok);exact⟨ob,es,ep,h1,h2,h3,h4,fun x hx=>eS I (z.at_ x hx),by rw[z.kx];exact z.nd⟩
theorem DRd.isDict(I:Inv X pins σ H s)(g:DRd X H a y o):s.TypeIs (.ref a) "dict":=by
 cases g with
 |k e _=>obtain⟨_,_,vs,_,dd⟩:=gG I.hok e;exact dd.typeIs
 |t e z _ _=>exact (cx I e z).typeIs
theorem oS(hu:A.units+1 < cLine)(I:Inv X pins σ H s)(g:DRd X H a y o)(ho:o=some v)(ry:RelV y u)(h:∀w' s',Inv X pins σ H s'->RelV v w'->Q w' s') :
  wpAny (model X.prog X.w) A (getItem (.ref a) u) Q E s:=by
 cases g with
 |k e hk=>exact oX hu I (.inl ⟨_,_,e,hk,ho.symm⟩) ry h
 |@t ks xs vs k b e z hb sq=>
  subst hb;cases (show u=Value.ref b from ry);have dd:=cx I e z;have rel:=cU (vs:=vs) k z.vx;rw[z.kx]at rel;obtain⟨w',hw,rw'⟩:=RelO.some_of (v:=v) (o:=(atKey xs k).map (·.2)) (by rw[<-ho];exact rel)
  obtain⟨p,hp,hp2⟩:=Option.map_eq_some_iff.mp hw;refine wpAny_getItem_heap (tupleKind_room_in1 hu) (eS I sq) dd hp ?_;rw[hp2];exact h w' _ (I.tok _) rw'
theorem E5(neg:Bool)(hu:A.units+1 < cLine)(I:Inv X pins σ H s)(g:DRd X H a y o)(ry:RelV y u)(h:∀s',Inv X pins σ H s'->Q (.bool (neg ^^ o.isSome)) s') :
  wpAny (model X.prog X.w) A (compareOp (if neg=true then .NotIn else .In) u (.ref a)) Q E s:=by
 cases g with
 |k e hk=>
  cases neg with
  |true=>exact uo hu I (.inl ⟨_,_,e,hk,rfl⟩) ry fun s' I'=>by have:=h s' I';rw[Bool.true_xor]at this;exact this
  |false=>exact E7 hu I (.inl ⟨_,_,e,hk,rfl⟩) ry fun s' I'=>by have:=h s' I';rw[Bool.false_xor]at this;exact this
 |@t ks xs vs k b e z hb sq=>
  subst hb;cases (show u=Value.ref b from ry);have dd:=cx I e z;have rel:=cU (vs:=vs) k z.vx;rw[z.kx]at rel;have q:=rel.isSome_eq;rw[Option.isSome_map]at q;rw[q]at h;cases neg with
  |true=>
   refine wpAny_notIn_heap (tupleKind_room_in1 hu) (eS I sq) z.no dd ?_;have:=h _ (I.tok (s.toks+(tupleKind (intKind X.prog X.w)).draws k));rw[Bool.true_xor]at this;exact this
  |false=>
   refine wpAny_in_heap (tupleKind_room_in1 hu) (eS I sq) z.no dd ?_;have:=h _ (I.tok (s.toks+(tupleKind (intKind X.prog X.w)).draws k));rw[Bool.false_xor]at this;exact this
theorem xo(hu:A.units+1 < cLine)(I:Inv X pins σ H s)(g:DRd X H a y o)(ry:RelV y u)(h:∀w' s',Inv X pins σ H s'->RelV (o.getD .non) w'->Q w' s') :
  wpAny (model X.prog X.w) A (call (.builtin "dict.get") [.ref a,u]) Q E s:=by
 cases g with
 |k e hk=>exact zI hu I (.inl ⟨_,_,e,hk,rfl⟩) ry h
 |@t ks xs vs k b e z hb sq=>
  subst hb;cases (show u=Value.ref b from ry);have dd:=cx I e z;have rel:=cU (vs:=vs) k z.vx;rw[z.kx]at rel;exact call_meetsIn PySem.F.slot_dict_get dd.typeIs PySem.F.entry_dict_get (PySem.F.args_dict_get_2 _ _) (meetsH_dict_get (tupleKind (intKind X.prog X.w)) a b z.no) ⟨tupleKind_room_in1 hu,k,xs,eS I sq,dd,h _ _ (I.tok _) (rel.getD rfl)⟩
theorem wf(hu:A.units+1 < cLine)(I:Inv X pins σ H s)(g:DRd X H a y o)(ry:RelV y u)(rd:RelV d r)(h:∀w' s',Inv X pins σ H s'->RelV (o.getD d) w'->Q w' s') :
  wpAny (model X.prog X.w) A (call (.builtin "dict.get") [.ref a,u,r]) Q E s:=by
 cases g with
 |k e hk=>exact yR hu I (.inl ⟨_,_,e,hk,rfl⟩) ry rd h
 |@t ks xs vs k b e z hb sq=>
  subst hb;cases (show u=Value.ref b from ry);have dd:=cx I e z;have rel:=cU (vs:=vs) k z.vx;rw[z.kx]at rel;exact call_meetsIn PySem.F.slot_dict_get dd.typeIs PySem.F.entry_dict_get (PySem.F.args_dict_get_3 _ _ _) (meetsH_dict_get_default (tupleKind (intKind X.prog X.w)) a b z.no r) ⟨tupleKind_room_in1 hu,k,xs,eS I sq,dd,h _ _ (I.tok _) (rel.getD rd)⟩
end
section
variable {K:PySem.W.Frag}
theorem pv[DecidableEq κ]{l:List (κ×V)}:cQ ((q,w)::l) k v=if q=k then (q,v)::l.map (fun kv=>if kv.1=k then (kv.1,v) else kv) else (q,w)::cQ l k v:=by
 unfold cQ;by_cases e:q=k
 ·simp[e]
 ·by_cases g:(l.any fun kv=>decide (kv.1=k))=true
  ·simp[e,g]
  ·simp[e,g]
theorem mE[DecidableEq κ]:∀{ks:List κ}{vs:List V},¬ k∈ks->(ks.zip vs).map (fun kv=>if kv.1=k then (kv.1,v) else kv)=ks.zip vs
 |[],_,_=>by simp
 |q::ks,[],_=>by simp
 |q::ks,w::vs,h=>by
  have hq:¬ q=k:=fun z=>h (by simp[z])
  have ih:=mE (k:=k) (v:=v) (ks:=ks) (vs:=vs) fun m=>h (List.mem_cons_of_mem _ m)
  simp only[List.zip_cons_cons,List.map_cons,if_neg hq,ih]
theorem jc[DecidableEq κ]:∀{ks:List κ}{ds:List D}{vs:List V}{k:κ}{y:D}{v:V},ks.Nodup->DenL K H ds vs->ks.length=vs.length->Den K H y v->
  ∃vs',cQ (ks.zip vs) k v=(am ks k).zip vs'/\(am ks k).length=vs'.length/\DenL K H (au ks ds k y) vs'
 |[],ds,vs,k,y,v,_,dl,hl,dy=>by
  cases vs with
  |nil=>exact⟨[v],rfl,rfl,by unfold au;exact .one dy⟩
  |cons _ _=>cases hl
 |q::ks,[],vs,k,y,v,_,dl,hl,dy=>by cases (show vs=[] from dl);cases hl
 |q::ks,d::ds,_,k,y,v,nd,dl,hl,dy=>by
  obtain⟨w,r,rfl,dw,dl⟩:=dl;obtain⟨n1,n2⟩:=List.nodup_cons.mp nd;rw[List.zip_cons_cons,pv];by_cases e:q=k
  ·subst e;rw[if_pos rfl,mE n1];refine⟨v::r,?_,?_,?_⟩
   ·simp[am]
   ·simpa [am] using hl
   ·simp only[au,if_pos];exact .cons dy dl
  ·rw[if_neg e];obtain⟨vs',h1,h2,h3⟩:=jc (k:=k) (v:=v) n2 dl (by simpa using hl) dy
   refine⟨w::vs',?_,?_,?_⟩
   ·simp[am,if_neg e,h1]
   ·simp[am,if_neg e,h2]
   ·simp only[au,if_neg e];exact .cons dw h3
theorem ms{x:List Int×Addr×Value}{xs:List (List Int×Addr×Value)}:storedH (x::xs) k b r=if x.1=k then (x.1,x.2.1,r)::xs.map (putAt k r) else x::storedH xs k b r:=by
 unfold storedH;by_cases e:x.1=k
 ·have b':atKey (x::xs) k=some x.2:=by simp[atKey,List.find?_cons,e]
  rw[b',if_pos e];simp[putAt,e]
 ·have b':atKey (x::xs) k=atKey xs k:=by simp[atKey,List.find?_cons,e]
  rw[b',if_neg e];by_cases g:(atKey xs k).isSome=true
  ·rw[if_pos g,if_pos g];simp[putAt,e]
  ·rw[if_neg g,if_neg g];rfl
theorem je:∀{xs:List (List Int×Addr×Value)},¬ k∈xs.map (·.1)->xs.map (putAt k r)=xs
 |[],_=>rfl
 |x::xs,h=>by
  have hq:¬ x.1=k:=fun z=>h (by simp[z])
  rw[List.map_cons,je fun m=>h (List.mem_cons_of_mem _ m)]
  simp[putAt,hq]
theorem iM:∀{xs:List (List Int×Addr×Value)}{ds:List D}{vs:List V}{k:List Int}{b:Addr}{r:Value}{y:D}{v:V},(xs.map (·.1)).Nodup->Vals vs (xs.map (·.2.2))->RelV v r->DenL K H ds vs->Den K H y v->
  ∃vs',(storedH xs k b r).map (·.1)=am (xs.map (·.1)) k/\Vals vs' ((storedH xs k b r).map (·.2.2))/\DenL K H (au (xs.map (·.1)) ds k y) vs'/\∀x∈storedH xs k b r,(x.1=k/\x.2.1=b)\/∃x'∈xs,x'.1=x.1/\x'.2.1=x.2.1
 |[],ds,vs,k,b,r,y,v,_,vr,rv,dl,dy=>by
  cases vr;cases ds with
  |cons _ _=>obtain⟨_,_,z,_⟩:=dl;cases z
  |nil=>exact⟨[v],rfl,.cons rv .nil,by unfold au;exact .one dy,fun x hx=>.inl (by simp[storedH,atKey]at hx;simp[hx])⟩
 |x::xs,ds,vs,k,b,r,y,v,nd,vr,rv,dl,dy=>by
  rw[List.map_cons]at vr nd;cases vr with
  |@cons w _ vs _ h t=>
   cases ds with
   |nil=>cases (show w::vs=[] from dl)
   |cons d ds=>
    obtain⟨w',r',e',dw,dl⟩:=dl;cases e';obtain⟨n1,n2⟩:=List.nodup_cons.mp nd;rw[ms];by_cases e:x.1=k
    ·rw[if_pos e,je (by rw[<-e];exact n1)]
     refine⟨v::vs,?_,.cons rv t,?_,fun z hz=>?_⟩
     ·simp[am,e]
     ·simp only[List.map_cons,au,if_pos e];exact .cons dy dl
     ·rcases List.mem_cons.mp hz with rfl|hz
      ·exact .inr ⟨x,List.mem_cons_self,rfl,rfl⟩
      ·exact .inr ⟨z,List.mem_cons_of_mem _ hz,rfl,rfl⟩
    ·rw[if_neg e];obtain⟨vs',h1,h2,h3,h4⟩:=iM (k:=k) (b:=b) n2 t rv dl dy;refine⟨w::vs',?_,.cons h h2,?_,fun z hz=>?_⟩
     ·simp only[List.map_cons,am,if_neg e,h1]
     ·simp only[List.map_cons,au,if_neg e];exact .cons dw h3
     ·rcases List.mem_cons.mp hz with rfl|hz
      ·exact .inr ⟨z,List.mem_cons_self,rfl,rfl⟩
      ·rcases h4 z hz with q|⟨x',hx',q⟩
       ·exact .inl q
       ·exact .inr ⟨x',List.mem_cons_of_mem _ hx',q⟩
theorem cY[DecidableEq κ]:∀{ks:List κ}{k:κ},(am ks k).length<=ks.length+1
 |[],_=>by simp[am]
 |q::ks,k=>by
  unfold am;split
  ·simp
  ·have:=cY (ks:=ks) (k:=k);simp only[List.length_cons];omega
theorem putD1_mem[DecidableEq κ]:∀{ks:List κ}{k x:κ},x∈am ks k<->x∈ks\/x=k
 |[],k,x=>by simp[am]
 |q::ks,k,x=>by
  unfold am;split
  ·rename_i e;subst e;simp;intro z;exact .inl z
  ·rw[List.mem_cons,putD1_mem,List.mem_cons,or_assoc]
theorem gB[DecidableEq κ]:∀{ks:List κ}{k:κ},ks.Nodup->(am ks k).Nodup
 |[],k,_=>by simp[am]
 |q::ks,k,h=>by
  obtain⟨n1,n2⟩:=List.nodup_cons.mp h;unfold am;split
  ·exact h
  ·rename_i e;refine List.nodup_cons.mpr ⟨fun m=>?_,gB n2⟩
   rcases putD1_mem.mp m with z|z
   ·exact n1 z
   ·exact e z
end
section
variable {X:Cx}{A:Around}{ks:List Key}
theorem lw:∀{ks:List κ}{vs:List V},ks.length=vs.length->(ks.zip vs).map (·.1)=ks
 |[],_,_=>by simp
 |q::ks,[],h=>by cases h
 |q::ks,v::vs,h=>by simp[lw (ks:=ks) (vs:=vs) (by simpa using h)]
theorem lq{vs:List V}(I:Inv X pins σ H s)(e:H a=some (.dK (ks.zip vs)))(hl:ks.length=vs.length):ks.Nodup:=by
 obtain⟨_,_,ws,rel,_,_,_,_,_,_,_,_,nd⟩:=qS I.hok e;rw[<-rel.keys,lw hl]at nd;exact nd
theorem At{k:Key}{y:D}{v w:V}{R:MH->Prop}{R2:Hp->Prop}(hu:A.units+1 < cLine)(I:Inv X pins σ H s)(rm:RelM X.K M H)(q:M a=some (.dk ks ds))(hk:w=kV k)(rw':RelV w u)(dy:Den X.K H y v)(rv:RelV v r)(hz:ks.length < sizeLine)
  (h:R (put M a (.dk (am ks k) (au ks ds k y)))) (back:∀H' M',RelM X.K M' H'->TM X.K H H'->R M'->R2 H'):wpAny (model X.prog X.w) A (setItem (.ref a) u r) (fun _ s'=>∃H',Inv X pins σ H' s'/\R2 H') E s:=by
 obtain⟨vs,e,hl,dl⟩:=rm a _ q;subst hk;obtain⟨vs',h1,h2,h3⟩:=jc (k:=k) (v:=v) (lq I e hl) dl hl dy;refine pe hu I (.inl ⟨_,k,e,rfl,?_,rfl⟩) rw' rv fun s' I'=>⟨_,I',?_⟩
 ·rw[List.length_zip,hl,Nat.min_self,<-hl];exact hz
 ·have tw:TM X.K H (upd H a (.dK (cQ (ks.zip vs) k v))):=.put e (fun _ z=>by cases z) fun _ _ z=>by cases z
  exact back _ _ (rm.write (u:=.dk (am ks k) (au ks ds k y)) e (fun _ z=>by cases z) (fun _ _ z=>by cases z) ⟨vs',by rw[ai,h1],h2,h3.mono tw⟩) tw h
theorem xL{kt:List (List Int)}{k:List Int}{y:D}{v:V}{b:Addr}{R:MH->Prop}{R2:Hp->Prop}(hu:A.units+1 < cLine)(I:Inv X pins σ H s)(rm:RelM X.K M H)(q:M a=some (.dt kt ds))(sq:SqT X.K H b (k.map V.int))(dy:Den X.K H y v)(rv:RelV v r)(hz:kt.length < sizeLine)
  (h:R (put M a (.dt (am kt k) (au kt ds k y)))) (back:∀H' M',RelM X.K M' H'->TM X.K H H'->R M'->R2 H'):wpAny (model X.prog X.w) A (setItem (.ref a) (.ref b) r) (fun _ s'=>∃H',Inv X pins σ H' s'/\R2 H') E s:=by
 obtain⟨vs,xs,e,z,dl⟩:=rm a _ q;have dd:=cx I (.inl e) z;have nd:(xs.map (·.1)).Nodup:=by rw[z.kx];exact z.nd
 obtain⟨vs',h1,h2,h3,h4⟩:=iM (k:=k) (b:=b) nd z.vx rv dl dy;rw[z.kx]at h1 h3;have hsz:xs.length<=sizeLine:=by
  have:=congrArg List.length z.kx;rw[List.length_map]at this;omega
 refine wpAny_setItem_heap (hsz:=hsz) (tupleKind_room_in1 hu) (eS I sq) dd fun h' dd' hs=>?_
 obtain⟨ob,es,ep,hq,hx,hd,he,_,_⟩:=dd';have tw:TM X.K H (upd H a (.ext (bC a (storedH xs k b r)))):=.put e (fun _ z=>by cases z) fun _ _ z=>by cases z
 have tb:bC a (storedH xs k b r) h':=⟨ob,es,ep,hq,hx,hd,he⟩;have I':Inv X pins σ (upd H a (.ext (bC a (storedH xs k b r)))) {s with heap:=h',toks:=s.toks+(tupleKind (intKind X.prog X.w)).draws k}:=
  gY I (by rw[e];exact True.intro) hs ⟨ob,hq⟩ ⟨tb,⟨ob,hq⟩,fun g1 g2 ⟨o1,es1,ep1,a1,a2,a3,a4⟩ kk=>⟨o1,es1,ep1,kk _ a1,a2,a3,a4⟩⟩
 refine⟨_,I',back _ _ (rm.write (u:=.dt (am kt k) (au kt ds k y)) e (fun _ z=>by cases z) (fun _ _ z=>by cases z) ⟨vs',_,ai,⟨h1,gB z.nd,Nat.le_trans cY hz,z.no,h2,fun x hx'=>?_⟩,h3.mono tw⟩) tw h⟩
 rcases h4 x hx' with ⟨q1,q2⟩|⟨x',m,q1,q2⟩
 ·rw[q1,q2];exact tw.t _ _ sq
 ·rw[<-q1,<-q2];exact tw.t _ _ (z.at_ x' m)
end
end L2
namespace L2
open PySem PySem.Spec PyProof.Rows PySem.W
section
variable {A:Around}{s:Shared}{ob:Obj}{es:Array DictEntry}{e:DictEntry}
theorem oP(hn:(d == sysModules)=false):MeetsIn prog w (Builtin.«dict.__len__» ⟨[.ref d],[]⟩) (fun _ R s=>∃ob es ep,s.heap.get? d=some ob/\ob.data=.dict es ep/\R (.ok (.ret (.int es.size s.toks))) {s with toks:=s.toks+1}):=
 .of_wp fun A R s ⟨ob,es,ep,ho,hd,q⟩=>by
  show wpAny _ _ (dictSize d >>=_) _ _ s;unfold dictSize;refine wpAny_bind (wpAny_bind (wpAny_dictEntries ho hd (wpAny_pure ?_)));show wpAny _ _ (Builtin.Dict.pendingCount d >>=_) _ _ s;exact wpAny_bind (wpAny_pendingCount_other hn (wpAny_ret_mkInt q))
theorem Ew(hn:(d == sysModules)=false)(ho:s.heap.get? d=some ob)(hx:ob.ExactDict)(hd:ob.data=.dict es ep)(hz:(es.size:Int) < 2 ^ 63)(q:Q (.int es.size (s.toks+1)) {s with toks:=s.toks+1+1}) :
  wpAny (model prog w) A (call (.builtin "len") [.ref d]) Q E s:=by
 have hT:s.TypeIs (.ref d) "dict":=⟨_,ho,hx.1⟩;refine Calls.call_function_entry kind_len plain_len entry_len (args_len1 _) ?_;unfold Builtin.«len»;refine wpAny_bind (m:=oneArg "len" _) (wpAny_pure ?_);refine wpAny_bind (m:=callSpecial? (.ref d) (Str.ofString "__len__")) (wpAny_callSpecial?_slot (name:=Str.ofString "__len__") hT F.slot_dict_len
  (call_meetsIn F.slot_dict_len hT F.entry_dict_len (F.args_dict_len_1 _) (oP hn) ⟨ob,es,ep,ho,hd,?_⟩))
 show wpAny _ _ _ _ _ {s with toks:=s.toks+1}
 refine wpAny_bind (wpAny_holding (wpAny_pure ?_));refine wpAny_bind (wpAny_letGo ?_);show wpAny _ _ (if ((es.size:Nat):Int) < 0 then _ else _) _ _ _
 rw[if_neg (by omega)]
 show wpAny _ _ (if ((es.size:Nat):Int)>=2 ^ 63 then _ else _) _ _ _
 rw[if_neg (by omega)]
 exact wpAny_bind (wpAny_mkInt (wpAny_pure ⟨_,rfl,q⟩))
theorem uT(hn:(d == sysModules)=false)(ho:s.heap.get? d=some ob)(hx:ob.ExactDict)(hd:ob.data=.dict es ep)
  (hQ:Q (.ref s.heap.objs.size) {s with heap:=s.heap.push {cls:=.type "dict_keyiterator",data:=.fields #[.ref d,.int 0 0,.int es.size 0,.int ep 0]}}):wpAny (model prog w) A (pyIter (.ref d)) Q E s:=by
 have hT:s.TypeIs (.ref d) "dict":=⟨_,ho,hx.1⟩;refine wpAny_pyIter_slot hT F.slot_dict_iter (wpAny_call_entry F.slot_dict_iter hT F.entry_dict_iter ?_ (F.args_dict_iter_1 _));unfold Builtin.«dict.__iter__»;refine wpAny_bind ?_;unfold Builtin.Dict.dictSlotNone;refine wpAny_bind (wpAny_notOrdered_dict hT ?_);show wpAny _ _ (pure (Value.ref d)) _ _ s;refine wpAny_pure ?_;show wpAny _ _ (Builtin.Dict.showsAll d >>=_) _ _ s;unfold Builtin.Dict.showsAll;rw[if_neg (by rw[hn];exact Bool.false_ne_true)]
 refine wpAny_bind (wpAny_pure (wpAny_bind (wpAny_dictEntries ho hd (wpAny_bind (wpAny_dictEpoch ho hd ?_)))));refine wpAny_bind (wpAny_newObj_type (wpAny_pure ⟨_,rfl,"dict_keyiterator",_,⟨_,Heap.get?_push_size _ rfl,rfl⟩,F.slot_dict_keyiterator_next.lookup,?_⟩));simpa [rawInt] using hQ
theorem l7(hit:s.heap.IsKeyIter it d i es.size ep)(hod:s.heap.get? d=some ob)(hdd:ob.data=.dict es ep)(he:es[i]?=some e)
  (hQ:∀h',h'.IsKeyIter it d (i+1) es.size ep->Heap.SameBut it s.heap h'->Q (some e.key) {s with heap:=h'}):wpAny (model prog w) A (pyNext (.ref it)) Q E s:=by
 obtain⟨o,ho,hc,hd⟩:=id hit;unfold pyNext;refine wpAny_bind (wpAny_attempt (wpAny_callSpecial?_slot (name:=Str.ofString "__next__") hit.typeIs F.slot_dict_keyiterator_next
  (wpAny_call_entry F.slot_dict_keyiterator_next hit.typeIs F.entry_dict_keyiterator_next ?_ (F.args_dict_keyiterator_next_1 _))))
 refine wpAny_bind (wpAny_pure (wpAny_bind (wpAny_bind ?_)))
 first|refine wpAny_bind (wpAny_typeNameOfWhole_keyiter hit.typeIs (wpAny_pure ?_))|refine wpAny_bind (wpAny_typeNameOf_keyiter hit.typeIs (wpAny_pure ?_))
 refine wpAny_bind (wpAny_fieldsOf ho hd ?_);simp only[show Builtin.Dict_items.ownsTuple "dict_keyiterator"=false by decide,Bool.false_eq_true,if_false]
 show wpAny _ _ (if (Value.ref d == Value.none)=true then _ else _) _ _ s
 rw[if_neg (show ¬ ((Value.ref d == Value.none)=true) from Bool.false_ne_true)];refine wpAny_bind (wpAny_pure (wpAny_bind (wpAny_dictEntries hod hdd ?_)));rw[if_neg (by simp)]
 refine wpAny_bind (wpAny_pure (wpAny_bind (wpAny_dictEpoch hod hdd ?_)));rw[if_neg (by simp)]
 refine wpAny_pure ?_;simp only[show ¬ ((i:Int) < 0) from by omega,if_false,Int.toNat_natCast,he]
 refine wpAny_bind ?_
 first|refine wpAny_bind (wpAny_typeNameOfWhole_keyiter hit.typeIs (wpAny_pure ?_))|refine wpAny_bind (wpAny_typeNameOf_keyiter hit.typeIs (wpAny_pure ?_))
 refine wpAny_bind (wpAny_isOneOf_keyiter hit.typeIs ?_);show wpAny _ _ (setField (.ref it) 1 (rawInt ((i:Int)+1)) >>=_) _ _ s;refine wpAny_bind (wpAny_setField ho hd (by simp) ?_)
 have hit':(s.heap.update it (Obj.mapFields (·.setIfInBounds 1 (rawInt ((i:Int)+1))))).IsKeyIter it d (i+1) es.size ep:=
  ⟨_,Heap.get?_update_self _ ho (Obj.isFreed_of_fields (Obj.data_mapFields hd _)),(Obj.cls_mapFields ..).trans hc,by rw[Obj.data_mapFields hd];simp[rawInt]⟩
 refine wpAny_bind (wpAny_holding ?_);refine wpAny_bind (wpAny_isOneOf_keyiter (s:={s with heap:=s.heap.update it (Obj.mapFields (·.setIfInBounds 1 (rawInt ((i:Int)+1))))}) hit'.typeIs ?_)
 show wpAny _ _ (pure e.key) _ _ _;exact wpAny_pure (wpAny_pure ⟨_,rfl,wpAny_pure (hQ _ hit' (Heap.SameBut.update ..))⟩)
theorem lB(hh:A.handled=none)(hit:s.heap.IsKeyIter it d i es.size ep)(hod:s.heap.get? d=some ob)(hdd:ob.data=.dict es ep)(he:es.size<=i)
  (hQ:∀h',Heap.ExtBut it s.heap h'->Q none {s with heap:=h'}):wpAny (model prog w) A (pyNext (.ref it)) Q E s:=by
 obtain⟨o,ho,hc,hd⟩:=id hit;unfold pyNext;refine wpAny_bind (wpAny_attempt (wpAny_callSpecial?_slot (name:=Str.ofString "__next__") hit.typeIs F.slot_dict_keyiterator_next
  (wpAny_call_entry F.slot_dict_keyiterator_next hit.typeIs F.entry_dict_keyiterator_next ?_ (F.args_dict_keyiterator_next_1 _))))
 refine wpAny_bind (wpAny_pure (wpAny_bind (wpAny_bind ?_)))
 first|refine wpAny_bind (wpAny_typeNameOfWhole_keyiter hit.typeIs (wpAny_pure ?_))|refine wpAny_bind (wpAny_typeNameOf_keyiter hit.typeIs (wpAny_pure ?_))
 refine wpAny_bind (wpAny_fieldsOf ho hd ?_);simp only[show Builtin.Dict_items.ownsTuple "dict_keyiterator"=false by decide,Bool.false_eq_true,if_false]
 show wpAny _ _ (if (Value.ref d == Value.none)=true then _ else _) _ _ s
 rw[if_neg (show ¬ ((Value.ref d == Value.none)=true) from Bool.false_ne_true)];refine wpAny_bind (wpAny_pure (wpAny_bind (wpAny_dictEntries hod hdd ?_)));rw[if_neg (by simp)]
 refine wpAny_bind (wpAny_pure (wpAny_bind (wpAny_dictEpoch hod hdd ?_)));rw[if_neg (by simp)]
 refine wpAny_pure ?_;simp only[show ¬ ((i:Int) < 0) from by omega,if_false,Int.toNat_natCast,Array.getElem?_eq_none he]
 refine wpAny_bind ?_
 first|refine wpAny_bind (wpAny_typeNameOfWhole_keyiter hit.typeIs (wpAny_pure ?_))|refine wpAny_bind (wpAny_typeNameOf_keyiter hit.typeIs (wpAny_pure ?_))
 show wpAny _ _ (setField (.ref it) 0 .none >>=_) _ _ s;refine wpAny_bind (wpAny_setField ho hd (by simp) ?_)
 show wpAny _ _ (newExc (.type "StopIteration") [] >>=_) _ _ _;refine wpAny_bind ?_;simp only[newExc,newTuple];refine wpAny_bind (wpAny_newObj_type ?_ (by size_fits))
 refine wpAny_bind (m:=firstArgMember _ _) (wpAny_of_eq (a:=Value.none) (by first|rfl|(simp only[firstArgMember];rfl)) ?_)
 refine wpAny_newObj_type ?_ (by size_fits)
 simp only[raiseNew];refine wpAny_bind (wpAny_handled ?_);rw[show A.in1.handled=none from hh];refine wpAny_bind (wpAny_pure (wpAny_throw ?_));refine wpAny_bind (wpAny_isInstance (T:="StopIteration") (b:=true) ⟨_,Heap.get?_push_size _ rfl,rfl⟩ isSubtype_stop ?_);exact wpAny_pure (hQ _ (((Heap.SameBut.update ..).extBut.push _).push _))
theorem pU(hh:A.handled=none)(I d:Addr)(hne:d≠I)(hd:ob.data=.dict es ep) :
  Walks prog w A I [I,d] [I] es.size (fun i v=>∃e,es[i]?=some e/\v=e.key) (fun i h=>h.IsKeyIter I d i es.size ep/\h.get? d=some ob) where
 sub:=fun b hb=>by simp at hb;simp[hb]
 frame:=fun _ _ _ st hk=>⟨st.1.at fun o e=>hk I (by simp) o e,hk d (by simp) _ st.2⟩
 item:=fun i s Q E hi st hQ=>by
  have he:es[i]?=some es[i]:=by simp[hi]
  refine l7 st.1 st.2 hd he fun h' hit' hs'=>?_
  exact hQ _ h' s.toks ⟨_,he,rfl⟩ ⟨hit',hs'.extBut d ob hne st.2⟩ fun b o hb e=>hs'.extBut b o (fun h=>hb (by simp[h])) e
 done:=fun s Q E st hQ=>lB hh st.1 st.2 hd (Nat.le_refl _) fun h' he'=>hQ h' s.toks fun b o hb e=>he' b o (fun h=>hb (by simp[h])) e
 self:=fun _ _ _ _ st hQ=>wpAny_pyIter_keyiter st.1 hQ
theorem qE(lo:(d == sysModules)=false)(hx:ob.ExactDict)(hd:ob.data=.dict es ep):KdlSrc prog w "dict" d d es.size (fun i v=>∃e,es[i]?=some e/\v=e.key) (fun h=>h.get? d=some ob) where
 type:=fun _ hm=>⟨_,hm,hx.1⟩
 there:=fun _ hm=>⟨Heap.lt_size hm,Heap.lt_size hm⟩
 keep:=fun _ _ hm hk=>hk d (.inl rfl) _ hm
 notList:=by decide
 notTuple:=by decide
 hint:=fun _ _ _ _ hm hq=>kdl_hint_dict ⟨_,hm,hx.1⟩ hq
 iter:=fun _ _ hh hm=>⟨_,_,(fun _ _ hq=>uT lo hm hx hd hq),pU hh _ d (Nat.ne_of_lt (Heap.lt_size hm)) hd,⟨⟨_,Heap.get?_push_size _ rfl,rfl,rfl⟩,Heap.get?_push_of_some _ hm⟩⟩
end
end L2
namespace L2
open PySem PySem.Spec PyProof.Rows
section
variable {X:Cx}
theorem u8(neg:Bool):VO X (compareOp (if neg=true then .IsNot else .Is)) (p4 neg):=by
 intro pins s σ H x y v u v2 u2 M Q Q2 I rv ru dx dy rm q back;unfold p4 at q;split at q
 ·cases (show u=.non from dy);cases neg with
  |true=>exact VO.of3 uq pins s σ H x .non v .non v2 u2 M Q Q2 I rv ru dx dy rm ⟨rfl,by rw[Bool.true_xor]at q;exact q⟩ back
  |false=>exact VO.of3 ED pins s σ H x .non v .non v2 u2 M Q Q2 I rv ru dx dy rm ⟨rfl,by rw[Bool.false_xor]at q;exact q⟩ back
 ·rename_i b;cases (show u=.bl b from dy);cases ru;have fin:∀k,Q (.bl k) M->EP X pins σ Q2 (.bool k) s:=fun k q=>⟨.bl k,H,I,rfl,back _ _ _ _ bx rm (.refl _) q⟩
  split at q
  ·rename_i a;cases (show v=.bl a from dx);cases rv;have e:((Value.bool a == Value.bool b):Bool)=(a == b):=by cases a<;>cases b<;>rfl
   cases neg with
   |true=>exact wpAny_isNot_plain rfl (by rw[e];rw[Bool.true_xor]at q;exact fin _ q)
   |false=>exact wpAny_is_plain rfl (by rw[e];rw[Bool.false_xor]at q;exact fin _ q)
  ·cases (show v=.non from dx);cases rv;cases neg with
   |true=>exact wpAny_isNot_other rfl (fun z=>nomatch z) (fin _ q)
   |false=>exact wpAny_is_other rfl (fun z=>nomatch z) (fin _ q)
  ·exact q.elim
 ·exact q.elim
theorem qw:∀{ds:List D}{us:List β},Paired R ds us->(∀d u,d∈ds->R d u->e u=f d)->us.any e=ds.any f
 |_,_,.nil,_=>rfl
 |d::ds,u::us,.cons r t,h=>by
  rw[List.any_cons,List.any_cons,h d u List.mem_cons_self r,qw t fun d u hd=>h d u (List.mem_cons_of_mem _ hd)]
theorem gt{K:PySem.W.Frag}:∀{ds:List D}{vs:List V}{us:List Value},DenL K H ds vs->Vals vs us->Paired (fun d u=>∃v,Den K H d v/\RelV v u) ds us
 |[],_,_,h,r=>by cases (show _=[] from h);cases r;exact .nil
 |d::ds,_,_,h,r=>by
  obtain⟨v,r',rfl,dv,dl⟩:=h;cases r with
  |cons r1 r2=>exact .cons ⟨v,dv,r1⟩ (gt dl r2)
theorem Paired.mem_right:∀{l:List α}{m:List β},Paired R l m->∀b∈m,∃a∈l,R a b
 |_,_,.nil,b,hb=>by cases hb
 |a::l,c::m,.cons r t,b,hb=>by
  rcases List.mem_cons.mp hb with rfl|hb
  ·exact⟨a,List.mem_cons_self,r⟩
  ·obtain⟨a',h1,h2⟩:=Paired.mem_right t b hb;exact⟨a',List.mem_cons_of_mem _ h1,h2⟩
theorem vc(hu:X.A.units+64 < cLine)(neg:Bool):VO X (compareOp (if neg=true then .NotIn else .In)) (mK neg):=by
 intro pins s σ H x y v u v2 u2 M Q Q2 I rv ru dx dy rm q back;unfold mK at q;split at q
 ·rename_i ds eds;obtain⟨p1,p2,q⟩:=q;obtain⟨p,vs,rfl,hq,dl⟩:=gv rm eds dy;cases ru;obtain⟨H',I',t',d1⟩:=mj I rm dx p1;have dl':=dl.mono t';have fin:EP X pins σ Q2 (.bool (neg ^^ ds.any fun d=>eqD d (res M x))) s:=⟨.bl _,H,I,rfl,back _ _ _ _ bx rm (.refl _) q⟩
  classical
  have key:∀{its:List Value},Vals vs its->∃e:Value->Bool,its.any e=(ds.any fun d=>eqD d (res M x))/\∀w∈its,SeqAt.EqAt X.A.in1 s w v2 (e w):=fun {its} r=>by
   have pd:=gt dl' r
   let e:Value->Bool:=fun w=>if h:∃d∈ds,∃v,Den X.K H' d v/\RelV v w then eqD h.choose (res M x) else false
   have he:∀d w,d∈ds->(∃v,Den X.K H' d v/\RelV v w)->e w=eqD d (res M x):=fun d w hd ⟨v',dv,rw'⟩=>by
    have h:∃d∈ds,∃v,Den X.K H' d v/\RelV v w:=⟨d,hd,v',dv,rw'⟩;obtain⟨hm,v'',dv2,rw2⟩:=h.choose_spec;have:v''=v':=rw2.inj rw';subst this;have e1:h.choose=d:=kz I' rfl 8 (List.all_eq_true.mp p2 _ hm) (List.all_eq_true.mp p2 _ hd) dv2 dv;show (if h:∃d∈ds,∃v,Den X.K H' d v/\RelV v w then eqD h.choose (res M x) else false)=_
    rw[dif_pos h,e1]
   refine⟨e,qw pd he,fun w hw=>?_⟩
   obtain⟨d,hd,v',dv,rw'⟩:=Paired.mem_right pd w hw;rw[he d w hd ⟨v',dv,rw'⟩];exact (wz I' rfl 8 (A:=X.A.in1) (List.all_eq_true.mp p2 _ hd) p1 dv d1 rw' rv (by show X.A.units+1+8 < cLine;omega)).2.2
  rcases hq with hq|hq
  ·obtain⟨its,r,pl',hz⟩:=I.list hq;obtain⟨e,e1,e2⟩:=key r;have ea:its.toArray.any e=ds.any fun d=>eqD d (res M x):=by rw[<-e1];simp
   cases neg with
   |true=>exact SeqAt.notIn_listAt e pl'.isList (fun w hw=>e2 w (by simpa using hw)) (by rw[ea];rw[Bool.true_xor]at fin;exact fin)
   |false=>exact SeqAt.in_listAt e pl'.isList (fun w hw=>e2 w (by simpa using hw)) (by rw[ea];rw[Bool.false_xor]at fin;exact fin)
  ·obtain⟨its,r,pl',hz⟩:=I.tuple hq;obtain⟨e,e1,e2⟩:=key r;have ea:its.toArray.any e=ds.any fun d=>eqD d (res M x):=by rw[<-e1];simp
   cases neg with
   |true=>exact SeqAt.notIn_tupleAt e pl' (fun w hw=>e2 w (by simpa using hw)) (by rw[ea];rw[Bool.true_xor]at fin;exact fin)
   |false=>exact SeqAt.in_tupleAt e pl' (fun w hw=>e2 w (by simpa using hw)) (by rw[ea];rw[Bool.false_xor]at fin;exact fin)
 ·split at q
  ·rename_i o e;obtain⟨a,ov,rfl,g,od⟩:=fw (X:=X) e rm dy dx;cases ru;refine E5 neg (by omega) I g rv fun s' I'=>⟨.bl (neg ^^ ov.isSome),H,I',rfl,back _ _ (.bl _) _ bx rm (.refl _) ?_⟩
   have:o.isSome=ov.isSome:=by
    cases o<;>cases ov<;>first|rfl|exact od.elim
   rw[<-this];exact q
  ·split at q
   ·rename_i i j _ _;cases (show v=.str i from dx);cases (show u=.str j from dy);cases neg with
    |false=>exact pZ pins s σ H _ _ v2 u2 Q2 I rv ru ⟨i,j,rfl,rfl,back _ _ (.bl _) _ bx rm (.refl _) (by rw[Bool.false_xor]at q;exact q)⟩
    |true=>exact ky pins s σ H _ _ v2 u2 Q2 I rv ru ⟨i,j,rfl,rfl,back _ _ (.bl _) _ bx rm (.refl _) (by rw[Bool.true_xor]at q;exact q)⟩
   ·exact q.elim
theorem dc(hu:X.A.units+64 < cLine)(op:CmpOp):VO X (compareOp op) (aN op):=by
 cases op with
 |Eq=>exact uV hu false
 |NotEq=>exact uV hu true
 |Lt=>exact (VO.of3 Fw).imp fun _ _ _ _ h=>gk h
 |LtE=>exact (VO.of3 Ft).imp fun _ _ _ _ h=>gk h
 |Gt=>exact (VO.of3 Fb).imp fun _ _ _ _ h=>gk h
 |GtE=>exact (VO.of3 Ey).imp fun _ _ _ _ h=>gk h
 |Is=>exact u8 false
 |IsNot=>exact u8 true
 |In=>exact vc hu false
 |NotIn=>exact vc hu true
theorem eG{K:PySem.W.Frag}(h:DenL K H [d] vs):∃v,vs=[v]/\Den K H d v:=by
 obtain⟨v,r,rfl,dv,rfl⟩:=h;exact⟨v,rfl,dv⟩
noncomputable def rLen0(xs:List D)(M:MH)(Q:VK3):Prop:=match xs with
  |[x]=>match aB M x with
   |some ds=>Q (.int ds.length) M
   |none=>False
  |_=>False
theorem ub:VC X (.builtin "len") rLen0:=(VC.of3 Do).imp fun xs M Q h=>by
 simp only[rLen0]at h;split at h
 ·rename_i x;split at h
  ·rename_i ds e;refine⟨x,ds,rfl,?_,h⟩;cases x with
   |tup es=>exact .inr (by rw[show es=ds from Option.some.inj e])
   |rol es=>exact .inl (.inl (by rw[show es=ds from Option.some.inj e]))
   |ref a=>
    cases q:M a with
    |none=>simp[aB,ak,q]at e
    |some o=>
     cases o with
     |lst es=>exact .inl (.inr ⟨a,rfl,by rw[q];simp[aB,ak,q]at e;rw[e]⟩)
     |_=>simp[aB,ak,q]at e
   |_=>cases e
  ·exact h.elim
 ·exact h.elim
theorem oo{s:Shared}{ks:List (List Int)}{xs:List (List Int×Addr×Value)}(I:Inv X pins σ H s)(e:Rd H p (.ext (bC p xs)))(z:TabOk X.K H p ks xs vs) :
  ∃ob es ep,s.heap.get? p=some ob/\ob.ExactDict/\ob.data=.dict es ep/\es.toList=(xs.map fun x=>(⟨tH x.1,.ref x.2.1,x.2.2⟩:DictEntry))/\es.size=ks.length:=by
 obtain⟨⟨ob,es,ep,h1,h2,h3,h4⟩,_⟩:=(show ObjOk X.prog X.w H s.heap p (.ext (bC p xs)) from e.ok I.hok);refine⟨ob,es,ep,h1,h2,h3,h4,?_⟩;have:=congrArg List.length h4;have l3:xs.length=ks.length:=by rw[<-z.kx];simp
 simp at this;omega
theorem Am:VC X (.builtin "len") (rBi .len):=by
 intro pins s σ H xs vs us M Q Q2 I rs dl rm q back;by_cases h:rLen0 xs M Q
 ·exact ub pins s σ H xs vs us M Q Q2 I rs dl rm h back
 ·simp only[rBi]at q;split at q
  ·rename_i x;split at q
   ·rename_i ds e;exact absurd (by simp only[rLen0,e];exact q) h
   ·split at q
    ·rename_i ks ds e;obtain⟨v,rfl,dv⟩:=eG dl;obtain⟨p,ws,ts,rfl,rd,z,_⟩:=fB e rm dv;obtain⟨ob,es,ep,h1,h2,h3,h4,h5⟩:=oo I rd z;obtain⟨u,rfl,rx⟩:=gz rs;cases rx;refine Ew z.no h1 h2 h3 (by have:=z.sz;have:=sizeLine_eq;omega) ⟨.int es.size,H,I.tok _,⟨_,rfl⟩,?_⟩
     rw[h5];exact back _ _ _ _ dE rm (.refl _) q
    ·split at q
     ·rename_i z _ _;obtain⟨v,rfl,dv⟩:=eG dl;cases (show v=.str z from dv);exact lg pins s σ H _ us Q2 I rs ⟨z,rfl,q.1,back _ _ _ _ dE rm (.refl _) q.2⟩
     ·exact q.elim
  ·exact q.elim
theorem xp(hc:X.calm=true):VC X (.builtin "max") (rBi .max):=(VC.of3 (Du hc)).imp fun xs M Q h=>by
 simp only[rBi]at h;split at h
 ·exact⟨_,_,rfl,h⟩
 ·exact h.elim
theorem wn(hc:X.calm=true):VC X (.builtin "min") (rBi .min):=(VC.of3 (CW hc)).imp fun xs M Q h=>by
 simp only[rBi]at h;split at h
 ·exact⟨_,_,rfl,h⟩
 ·exact h.elim
theorem jN{K:PySem.W.Frag}:∀ks:List Int,DenL K H (ks.map D.int) (ks.map V.int)
 |[]=>rfl
 |k::r=>⟨_,_,rfl,rfl,jN r⟩
theorem mz{K:PySem.W.Frag}:∀{ts:List (List Int×Addr×Value)},(∀x∈ts,SqT K H x.2.1 (x.1.map V.int))->DenL K H ((ts.map (·.1)).map iX) (ts.map fun x=>V.ref x.2.1)
 |[],_=>rfl
 |x::r,h=>⟨_,_,rfl,kQ (h x List.mem_cons_self) (jN _),mz fun y hy=>h y (List.mem_cons_of_mem _ hy)⟩
theorem jX:∀ts:List (List Int×Addr×Value),Vals (ts.map fun x=>V.ref x.2.1) (ts.map fun x=>Value.ref x.2.1)
 |[]=>.nil
 |x::r=>.cons rfl (jX r)
theorem ui(fz:Bool)(hc:X.calm=true):VC X (.type "list") (rBi (.list fz)):=by
 intro pins s σ H xs vs us M Q Q2 I r dl rm q back;simp only[rBi]at q;split at q
 ·rename_i x;split at q
  ·rename_i ds e;obtain⟨v,rfl,dv⟩:=eG dl;obtain⟨p,vs,rfl,hq,dl2⟩:=gv rm e dv;refine thn (kT pins s σ H _ us (fun w H'=>∃l,w=.ref l/\H l=none/\H'=upd H l (.lst vs)) I r ⟨p,vs,rfl,hq,fun l hl=>⟨l,rfl,hl,rfl⟩⟩) fun u s1 ⟨w,H1,I1,r1,l,e1,hl,e2⟩=>?_
   subst e1;subst e2;cases r1;exact d9 I1 hl dl2 rm (.refl _) q back
  ·split at q
   ·rename_i ks ds e;obtain⟨v,rfl,dv⟩:=eG dl;obtain⟨p,ws,ts,rfl,rd,z,_⟩:=fB e rm dv;obtain⟨ob,es,ep,h1,h2,h3,h4,h5⟩:=oo I rd z;obtain⟨u,rfl,rx⟩:=gz r;cases rx;have hz:es.size<=sizeLine:=by have:=z.sz;omega
    refine PySem.W.kdl_call (qE z.no h2 h3) (I.ok.hd hc) h1 hz fun h' tk acc' c' kp e hi=>?_
    have hp:H s.heap.objs.size=none:=I.hok.fresh (Nat.le_refl _);have ea:acc'.toList=ts.map fun x=>Value.ref x.2.1:=by
     refine List.ext_getElem? fun j=>?_
     by_cases hj:j < acc'.size
     ·have e1:acc'[j]?=some acc'[j]:=by simp[hj]
      obtain⟨en,e2,e3⟩:=hi.2 j _ e1;have e4:es.toList[j]?=some en:=by simpa using e2
      rw[h4,List.getElem?_map]at e4;cases hx:ts[j]? with
      |none=>rw[hx]at e4;cases e4
      |some x=>
       rw[hx]at e4;cases e4;rw[Array.getElem?_toList,e1,e3,List.getElem?_map,hx];rfl
     ·have h6:=hi.1;have h7:ts.length=es.size:=by
       have:=congrArg List.length h4;simpa using this.symm
      rw[List.getElem?_eq_none (by simpa using hj),List.getElem?_eq_none (by rw[List.length_map];omega)]
    have hv:Vals (ts.map fun x=>V.ref x.2.1) acc'.toList:=by rw[ea];exact jX ts
    have I1:=I.laid (a:=s.heap.objs.size) (o:=.lst (ts.map fun x=>V.ref x.2.1)) (t':=tk) kp (Nat.le_refl _) ⟨by rw[hv.length,ea,List.length_map];have:=z.sz;rw[<-z.kx,List.length_map]at this;exact this,acc'.toList,c',hv,by simpa using e⟩
    exact d9 I1 hp (by rw[<-z.kx];exact mz z.at_) rm (.refl _) q back
   ·exact q.elim
 ·exact q.elim
end
end L2
namespace L2
open PySem PySem.Spec PyProof.Rows PySem.W
end L2
namespace L2
open PySem PySem.Spec PyProof.Rows
theorem ex9{α β γ δ:Sort _}{P1 P2 P3 P4 P5:α->β->γ->δ->Prop}{R:Prop}(h:∃a b c d,P1 a b c d/\P2 a b c d/\P3 a b c d/\P4 a b c d/\P5 a b c d)(k:∀a b c d,P1 a b c d->P2 a b c d->P3 a b c d->P4 a b c d->P5 a b c d->R):R:=
 h.elim fun a h=>h.elim fun b h=>h.elim fun c h=>h.elim fun d h=>k a b c d h.1 h.2.1 h.2.2.1 h.2.2.2.1 h.2.2.2.2
noncomputable def E6(K:PySem.W.Frag)(r:D->D->MH->VK3->Prop):R2:=fun v u H Q2=>∃x y M Q,Den K H x v/\Den K H y u/\RelM K M H/\r x y M Q/\Back K H Q Q2
noncomputable def Fi(K:PySem.W.Frag)(r:D->MH->VK3->Prop):V->Hp->VK->Prop:=fun v H Q2=>∃x M Q,Den K H x v/\RelM K M H/\r x M Q/\Back K H Q Q2
noncomputable def EW(K:PySem.W.Frag)(r:List D->MH->VK3->Prop):List V->Hp->VK->Prop:=fun vs H Q2=>∃xs M Q,DenL K H xs vs/\RelM K M H/\r xs M Q/\Back K H Q Q2
section
variable {X:Cx}
theorem VO.op{f:Value->Value->Sem Value}{r:D->D->MH->VK3->Prop}(h:VO X f r):OpR X f (E6 X.K r):=fun pins s σ H v u v2 u2 Q2 I rv ru ⟨x,y,M,Q,dx,dy,rm,q,back⟩=>h pins s σ H x y v u v2 u2 M Q Q2 I rv ru dx dy rm q back
theorem VU.op{f:Value->Sem Value}{r:D->MH->VK3->Prop}(h:VU X f r):UnR X f (Fi X.K r):=fun pins s σ H v v2 Q2 I rv ⟨x,M,Q,dx,rm,q,back⟩=>h pins s σ H x v v2 M Q Q2 I rv dx rm q back
theorem VC.op{f:Value}{r:List D->MH->VK3->Prop}(h:VC X f r):CallR X f (EW X.K r):=fun pins s σ H vs us Q2 I rv ⟨xs,M,Q,dx,rm,q,back⟩=>h pins s σ H xs vs us M Q Q2 I rv dx rm q back
end
section
variable {K:PySem.W.Frag}
theorem lY{ta tb:St3->MH->VK3->XN->Prop}{R3:D->D->MH->Prop}{R2:V->V->Hp->Prop}(rm:RelM K M H)(ds:DenS K H σ3 σ)(lk:LkE K cls H E3 (E2 σ))
  (h:ta σ3 M (fun x M1=>tb σ3 M1 (fun y M2=>R3 x y M2) E3) E3) (k:∀v u H' x y M',Den K H' x v->Den K H' y u->RelM K M' H'->TM K H H'->R3 x y M'->R2 v u H') :
  low K cls E2 ta σ H fun v H1=>low K cls E2 tb σ H1 fun u H2=>R2 v u H2:=
 ⟨σ3,M,_,E3,rm,ds,lk,h,fun v H1 x M1 dv rm1 t1 h1=>⟨σ3,M1,_,E3,rm1,ds.mono t1,lk.mono t1,h1,fun u H2 y M2 du rm2 t2 h2=>k v u H2 x y M2 (dv.mono t2) du rm2 (t1.trans t2) h2⟩⟩
theorem aX{ta:St3->MH->VK3->XN->Prop}{R3:VK3}{R2:VK}(rm:RelM K M H)(ds:DenS K H σ3 σ)(lk:LkE K cls H E3 (E2 σ))(h:ta σ3 M R3 E3)(k:∀v H' x M',Den K H' x v->RelM K M' H'->TM K H H'->R3 x M'->R2 v H') :
  low K cls E2 ta σ H R2:=⟨σ3,M,R3,E3,rm,ds,lk,h,k⟩
end
section
variable {X:Cx}{cls:Nat->Addr}{E2:St->XK}{a b c e:Expr}{ta tb tc te:St3->MH->VK3->XN->Prop}{pos:Pos}
theorem BG{i:Nat}{x:Str}(hN:X.N[i]?=some x)(hv:Vis X.env.scope x)(hd:(x == ("__debug__" : Str))=false)(hcd:(x == ("__classdict__" : Str))=false) :
  PE X (.Name x pos) (low X.K cls E2 fun σ M Q _=>match σ[i]? with|some (some d)=>Q d M|_=>False):=
 (zG hN hv hd hcd).imp fun σ H Q2 hl_=>ex9 hl_ fun σ3 M Q E3 rm ds lk h back=>by
  try dsimp only at h
  split at h
  ·rename_i d e;obtain⟨v,e1,e2⟩:=ds.2 i d e;exact⟨v,e1,back _ _ _ _ e2 rm (.refl _) h⟩
  ·exact h.elim
theorem mh{v:V}{d:D}(h:PE X e (tC v))(hd:∀H,Den X.K H d v):PE X e (low X.K cls E2 fun _ M Q _=>Q d M):=
 h.imp fun σ H Q2 hl_=>ex9 hl_ fun σ3 M Q E3 rm ds lk h back=>back _ _ _ _ (hd H) rm (.refl _) h
theorem EA{op:Operator}{r:D->D->MH->VK3->Prop}(ho:VO X (binaryOp op) r)(ha:PE X a (low X.K cls E2 ta))(hb:PE X b (low X.K cls E2 tb)) :
  PE X (.BinOp a op b pos) (low X.K cls E2 fun σ M Q E=>ta σ M (fun x M1=>tb σ M1 (fun y M2=>r x y M2 Q) E) E):=
 (DG ho.op ha hb).imp fun σ H Q2 hl_=>ex9 hl_ fun σ3 M Q E3 rm ds lk h back=>lY rm ds lk h fun v u H' x y M' dx dy rm' t q=>⟨x,y,M',Q,dx,dy,rm',q,back.mono t⟩
theorem EZ{op:UnaryOp}{r:D->MH->VK3->Prop}(ho:VU X (unaryOp op) r)(ha:PE X a (low X.K cls E2 ta)) :
  PE X (.UnaryOp op a pos) (low X.K cls E2 fun σ M Q E=>ta σ M (fun x M1=>r x M1 Q) E):=
 (Df ho.op ha).imp fun σ H Q2 hl_=>ex9 hl_ fun σ3 M Q E3 rm ds lk h back=>aX rm ds lk h fun v H' x M' dx rm' t q=>⟨x,M',Q,dx,rm',q,back.mono t⟩
theorem Di{op:CmpOp}{r:D->D->MH->VK3->Prop}(ho:VO X (compareOp op) r)(ha:PE X a (low X.K cls E2 ta))(hb:PE X b (low X.K cls E2 tb))(hm:behindInMarks op b=false) :
  PE X (.Compare a [op] [b] pos) (low X.K cls E2 fun σ M Q E=>ta σ M (fun x M1=>tb σ M1 (fun y M2=>r x y M2 Q) E) E):=
 (uL ho.op ha hb hm).imp fun σ H Q2 hl_=>ex9 hl_ fun σ3 M Q E3 rm ds lk h back=>lY rm ds lk h fun v u H' x y M' dx dy rm' t q=>⟨x,y,M',Q,dx,dy,rm',q,back.mono t⟩
noncomputable abbrev boolQ(Q:Bool->MH->Prop):VK3:=fun r M=>match r with
 |.bl k=>Q k M
 |_=>False
theorem eA{K:PySem.W.Frag}{H:Hp}{Q:Bool->MH->Prop}{Q2:Bool->Hp->Prop}(k:∀b H' M',RelM K M' H'->TM K H H'->Q b M'->Q2 b H'):Back K H (boolQ Q) fun x H1=>∃k,x=.bl k/\Q2 k H1:=fun v H' d M' dv rm t q=>by
 unfold boolQ at q;split at q
 ·exact⟨_,dv,k _ _ _ rm t q⟩
 ·exact q.elim
theorem AK{op:CmpOp}{r:D->D->MH->VK3->Prop}(ho:VO X (compareOp op) r)(ha:PE X a (low X.K cls E2 ta))(hb:PE X b (low X.K cls E2 tb))(hm:behindInMarks op b=false) :
  PT X (.Compare a [op] [b] pos) (cz X.K cls E2 fun σ M Q E=>ta σ M (fun x M1=>tb σ M1 (fun y M2=>r x y M2 (boolQ Q)) E) E):=
 (t5 ho.op ha hb hm).imp fun σ H Q2 hl_=>ex9 hl_ fun σ3 M Q E3 rm ds lk h back=>lY rm ds lk h fun v u H' x y M' dx dy rm' t q=>⟨x,y,M',_,dx,dy,rm',q,(eA back).mono t⟩
theorem B0(ha:PE X a (low X.K cls E2 ta))(he:∀whole,isTrue a X.env whole=(do let v<-whole;standAt a.pos;holding [v] (truthy v))):PT X a (cz X.K cls E2 fun σ M Q E=>ta σ M (boolQ Q) E):=
 (xm ha he).imp fun σ H Q2 hl_=>ex9 hl_ fun σ3 M Q E3 rm ds lk h back=>aX rm ds lk h fun v H' x M' dx rm' t q=>eA back v H' x M' dx rm' t q
variable {tA tB:St3->MH->(Bool->MH->Prop)->XN->Prop}{ax:List Expr}
theorem j6{K:PySem.W.Frag}{σ:St}{H:Hp}{σ3:St3}{M:MH}{E3:XN}{R3:Bool->MH->Prop}{R2:Bool->Hp->Prop}(rm:RelM K M H)(ds:DenS K H σ3 σ)(lk:LkE K cls H E3 (E2 σ))(h:tA σ3 M R3 E3)(k:∀b H' M',RelM K M' H'->TM K H H'->R3 b M'->R2 b H') :
  cz K cls E2 tA σ H R2:=⟨σ3,M,R3,E3,rm,ds,lk,h,k⟩
theorem oy(ha:PT X a (cz X.K cls E2 tA)):PW X (.BoolOp .And [a] pos) (cz X.K cls E2 tA):=tV ha
theorem rJ(ha:PT X a (cz X.K cls E2 tA)):PW X (.BoolOp .Or [a] pos) (cz X.K cls E2 tA):=v6 ha
theorem oO(ha:PT X a (cz X.K cls E2 tA))(hb:PW X (.BoolOp .And (b::ax) pos) (cz X.K cls E2 tB)) :
  PW X (.BoolOp .And (a::b::ax) pos) (cz X.K cls E2 fun σ M Q E=>tA σ M (fun c M1=>if c=true then tB σ M1 Q E else Q false M1) E):=
 (yT ha hb).imp fun σ H Q2 hl_=>ex9 hl_ fun σ3 M Q E3 rm ds lk h back=>j6 rm ds lk h fun c H' M' rm' t q=>by
  cases c with
  |true=>rw[if_pos rfl]at q ⊢;exact j6 rm' (ds.mono t) (lk.mono t) q fun b H2 M2 r2 t2 q2=>back b H2 M2 r2 (t.trans t2) q2
  |false=>rw[if_neg Bool.false_ne_true]at q ⊢;exact back _ _ _ rm' t q
theorem uv(ha:PT X a (cz X.K cls E2 tA))(hb:PW X (.BoolOp .Or (b::ax) pos) (cz X.K cls E2 tB)) :
  PW X (.BoolOp .Or (a::b::ax) pos) (cz X.K cls E2 fun σ M Q E=>tA σ M (fun c M1=>if c=true then Q true M1 else tB σ M1 Q E) E):=
 (CZ ha hb).imp fun σ H Q2 hl_=>ex9 hl_ fun σ3 M Q E3 rm ds lk h back=>j6 rm ds lk h fun c H' M' rm' t q=>by
  cases c with
  |true=>rw[if_pos rfl]at q ⊢;exact back _ _ _ rm' t q
  |false=>rw[if_neg Bool.false_ne_true]at q ⊢;exact j6 rm' (ds.mono t) (lk.mono t) q fun b H2 M2 r2 t2 q2=>back b H2 M2 r2 (t.trans t2) q2
theorem DK(ha:PT X a (cz X.K cls E2 tA)):PT X (.UnaryOp .Not a pos) (cz X.K cls E2 fun σ M Q E=>tA σ M (fun c M1=>Q (!c) M1) E):=
 (vy ha).imp fun σ H Q2 hl_=>ex9 hl_ fun σ3 M Q E3 rm ds lk h back=>j6 rm ds lk h fun c H' M' rm' t q=>back _ _ _ rm' t q
theorem uU(ha:PE X a (low X.K cls E2 ta))(hb:PE X (.BoolOp .And (b::ax) pos) (low X.K cls E2 tb)) :
  PE X (.BoolOp .And (a::b::ax) pos) (low X.K cls E2 fun σ M Q E=>ta σ M (fun x M1=>match x with|.bl c=>if c=true then tb σ M1 Q E else Q (.bl false) M1|_=>False) E):=
 (wq ha hb).imp fun σ H Q2 hl_=>ex9 hl_ fun σ3 M Q E3 rm ds lk h back=>aX rm ds lk h fun v H' x M' dx rm' t q=>by
  split at q
  ·rename_i c;cases (show v=.bl c from dx);refine⟨c,rfl,?_⟩;cases c with
   |true=>rw[if_pos rfl]at q ⊢;exact aX rm' (ds.mono t) (lk.mono t) q fun v2 H2 x2 M2 d2 r2 t2 q2=>back v2 H2 x2 M2 d2 r2 (t.trans t2) q2
   |false=>rw[if_neg Bool.false_ne_true]at q ⊢;exact back _ _ _ _ bx rm' t q
  ·exact q.elim
theorem Bq(ha:PE X a (low X.K cls E2 ta))(hb:PE X (.BoolOp .Or (b::ax) pos) (low X.K cls E2 tb)) :
  PE X (.BoolOp .Or (a::b::ax) pos) (low X.K cls E2 fun σ M Q E=>ta σ M (fun x M1=>match x with|.bl c=>if c=true then Q (.bl true) M1 else tb σ M1 Q E|_=>False) E):=
 (BF ha hb).imp fun σ H Q2 hl_=>ex9 hl_ fun σ3 M Q E3 rm ds lk h back=>aX rm ds lk h fun v H' x M' dx rm' t q=>by
  split at q
  ·rename_i c;cases (show v=.bl c from dx);refine⟨c,rfl,?_⟩;cases c with
   |true=>rw[if_pos rfl]at q ⊢;exact back _ _ _ _ bx rm' t q
   |false=>rw[if_neg Bool.false_ne_true]at q ⊢;exact aX rm' (ds.mono t) (lk.mono t) q fun v2 H2 x2 M2 d2 r2 t2 q2=>back v2 H2 x2 M2 d2 r2 (t.trans t2) q2
  ·exact q.elim
theorem Be(ha:PE X a (low X.K cls E2 ta)):PE X (.UnaryOp .Not a pos) (low X.K cls E2 fun σ M Q E=>ta σ M (fun x M1=>match x with|.bl c=>Q (.bl (!c)) M1|_=>False) E):=
 (wM ha).imp fun σ H Q2 hl_=>ex9 hl_ fun σ3 M Q E3 rm ds lk h back=>aX rm ds lk h fun v H' x M' dx rm' t q=>by
  split at q
  ·rename_i c;cases (show v=.bl c from dx);exact⟨c,rfl,back _ _ _ _ bx rm' t q⟩
  ·exact q.elim
theorem ua{op op':CmpOp}{r r':D->D->MH->VK3->Prop}(ho:VO X (compareOp op) r)(ho':VO X (compareOp op') r')(ha:PE X a (low X.K cls E2 ta))(hb:PE X b (low X.K cls E2 tb))(hc:PE X c (low X.K cls E2 tc))(hm:lastMarks [op,op'] [b,c]=false) :
  PE X (.Compare a [op,op'] [b,c] pos) (low X.K cls E2 fun σ M Q E=>ta σ M (fun x M1=>tb σ M1 (fun y M2=>r x y M2 fun z M3=>match z with
   |.bl k=>if k=true then tc σ M3 (fun z M4=>r' y z M4 Q) E else Q (.bl false) M3
   |_=>False) E) E):=
 (su ho.op ho'.op ha hb hc hm).imp fun σ H Q2 hl_=>ex9 hl_ fun σ3 M Q E3 rm ds lk h back=>lY rm ds lk h fun v u H' x y M' dx dy rm' t q=>⟨x,y,M',_,dx,dy,rm',q,fun w H1 z M1 dz rm1 t1 q1=>by
  split at q1
  ·rename_i k;refine⟨k,dz,?_⟩;cases k with
   |true=>rw[if_pos rfl]at q1 ⊢;exact aX rm1 ((ds.mono t).mono t1) ((lk.mono t).mono t1) q1 fun v2 H2 x2 M2 d2 r2 t2 q2=>⟨y,x2,M2,Q,(dy.mono t1).mono t2,d2,r2,q2,(back.mono t).mono (t1.trans t2)⟩
   |false=>rw[if_neg Bool.false_ne_true]at q1 ⊢;exact back _ _ _ _ bx rm1 (t.trans t1) q1
  ·exact q1.elim⟩
theorem sN{op op':CmpOp}{r r':D->D->MH->VK3->Prop}(ho:VO X (compareOp op) r)(ho':VO X (compareOp op') r')(ha:PE X a (low X.K cls E2 ta))(hb:PE X b (low X.K cls E2 tb))(hc:PE X c (low X.K cls E2 tc))(hm:lastMarks [op,op'] [b,c]=false) :
  PT X (.Compare a [op,op'] [b,c] pos) (cz X.K cls E2 fun σ M Q E=>ta σ M (fun x M1=>tb σ M1 (fun y M2=>r x y M2 fun z M3=>match z with
   |.bl k=>if k=true then tc σ M3 (fun z M4=>r' y z M4 (boolQ Q)) E else Q false M3
   |_=>False) E) E):=
 (qY ho.op ho'.op ha hb hc hm).imp fun σ H Q2 hl_=>ex9 hl_ fun σ3 M Q E3 rm ds lk h back=>lY rm ds lk h fun v u H' x y M' dx dy rm' t q=>⟨x,y,M',_,dx,dy,rm',q,fun w H1 z M1 dz rm1 t1 q1=>by
  split at q1
  ·rename_i k;refine⟨k,dz,?_⟩;cases k with
   |true=>rw[if_pos rfl]at q1 ⊢;exact aX rm1 ((ds.mono t).mono t1) ((lk.mono t).mono t1) q1 fun v2 H2 x2 M2 d2 r2 t2 q2=>⟨y,x2,M2,_,(dy.mono t1).mono t2,d2,r2,q2,((eA back).mono t).mono (t1.trans t2)⟩
   |false=>rw[if_neg Bool.false_ne_true]at q1 ⊢;exact⟨false,rfl,back _ _ _ rm1 (t.trans t1) q1⟩
  ·exact q1.elim⟩
noncomputable def tq(r r' r'':R2)(ta tb tc td:TE):TE:=fun σ H Q=>ta σ H fun x H1=>tb σ H1 fun y H2=>r x y H2 fun z H3=>∃k,z=.bl k/\
 (if k=true then tc σ H3 (fun w H4=>r' y w H4 fun z2 H5=>∃k2,z2=.bl k2/\(if k2=true then td σ H5 fun u H6=>r'' w u H6 Q else Q (.bl false) H5)) else Q (.bl false) H3)
theorem qe{a b c d:Expr}{ta tb tc td:TE}{op op' op'':CmpOp}{r r' r'':R2}(ho:OpR X (compareOp op) r)(ho':OpR X (compareOp op') r')(ho'':OpR X (compareOp op'') r'')(ha:PE X a ta)(hb:PE X b tb)(hc:PE X c tc)(hd:PE X d td)
  (hm:lastMarks [op,op',op''] [b,c,d]=false):PT X (.Compare a [op,op',op''] [b,c,d] pos) (qO (tq r r' r'' ta tb tc td)):=by
 intro pins s σ H Q I h;refine isTrue_chain (thn (ha pins s σ H _ I h) fun v s1 ⟨x,H1,I1,r1,q1⟩=>test_link (thn (hb pins s1 σ H1 _ I1 q1) fun u s2 ⟨y,H2,I2,r2,q2⟩=>
  thn (ho pins s2 σ H2 x y v u _ I2 r1 r2 q2) fun d s3 ⟨z,H3,I3,r3,k,e,q3⟩=>?_)) hm
 subst e;cases r3;refine wpAny_truthy_bool ?_;cases k with
 |false=>
  obtain⟨k',e',q'⟩:=q3;cases e';exact ite_ff ⟨H3,I3,q'⟩
 |true=>
  refine ite_tt (test_link (thn (hc pins s3 σ H3 _ I3 q3) fun w' s4 ⟨z',H4,I4,r4,q4⟩=>thn (ho' pins s4 σ H4 y z' u w' _ I4 r2 r4 q4) fun d' s5 ⟨z2,H5,I5,r5,k2,e2,q5⟩=>?_))
  subst e2;cases r5;refine wpAny_truthy_bool ?_;cases k2 with
  |false=>
   obtain⟨k',e',q'⟩:=q5;cases e';exact ite_ff ⟨H5,I5,q'⟩
  |true=>
   refine ite_tt (test_last (thn (hd pins s5 σ H5 _ I5 q5) fun w2 s6 ⟨z3,H6,I6,r6,q6⟩=>thn (ho'' pins s6 σ H6 z' z3 w' w2 _ I6 r4 r6 q6) fun d2 s7 ⟨z4,H7,I7,r7,k3,e3,q7⟩=>?_))
   subst e3;cases r7;exact wpAny_truthy_bool ⟨H7,I7,q7⟩
theorem rq{d:Expr}{td:St3->MH->VK3->XN->Prop}{op op' op'':CmpOp}{r r' r'':D->D->MH->VK3->Prop}(ho:VO X (compareOp op) r)(ho':VO X (compareOp op') r')(ho'':VO X (compareOp op'') r'')(ha:PE X a (low X.K cls E2 ta))(hb:PE X b (low X.K cls E2 tb))(hc:PE X c (low X.K cls E2 tc))(hd:PE X d (low X.K cls E2 td))(hm:lastMarks [op,op',op''] [b,c,d]=false) :
  PT X (.Compare a [op,op',op''] [b,c,d] pos) (cz X.K cls E2 fun σ M Q E=>ta σ M (fun x M1=>tb σ M1 (fun y M2=>r x y M2 fun z M3=>match z with
   |.bl k=>if k=true then tc σ M3 (fun z M4=>r' y z M4 fun o M5=>match o with
    |.bl k=>if k=true then td σ M5 (fun u M6=>r'' z u M6 (boolQ Q)) E else Q false M5
    |_=>False) E else Q false M3
   |_=>False) E) E):=
 (qe ho.op ho'.op ho''.op ha hb hc hd hm).imp fun σ H Q2 hl_=>ex9 hl_ fun σ3 M Q E3 rm ds lk h back=>lY rm ds lk h fun v u H' x y M' dx dy rm' t q=>⟨x,y,M',_,dx,dy,rm',q,fun w H1 z M1 dz rm1 t1 q1=>by
  split at q1
  ·rename_i k;refine⟨k,dz,?_⟩;cases k with
   |true=>
    rw[if_pos rfl]at q1 ⊢;refine aX rm1 ((ds.mono t).mono t1) ((lk.mono t).mono t1) q1 fun v2 H2 x2 M2 d2 r2 t2 q2=>⟨y,x2,M2,_,(dy.mono t1).mono t2,d2,r2,q2,fun w3 H3 z3 M3 dz3 rm3 t3 q3=>?_⟩
    split at q3
    ·rename_i k;refine⟨k,dz3,?_⟩;cases k with
     |true=>
      rw[if_pos rfl]at q3 ⊢;exact aX rm3 ((((ds.mono t).mono t1).mono t2).mono t3) ((((lk.mono t).mono t1).mono t2).mono t3) q3 fun v4 H4 x4 M4 d4 r4 t4 q4=>⟨x2,x4,M4,_,(d2.mono t3).mono t4,d4,r4,q4,(((eA back).mono t).mono (t1.trans t2)).mono (t3.trans t4)⟩
     |false=>rw[if_neg Bool.false_ne_true]at q3 ⊢;exact⟨false,rfl,back _ _ _ rm3 (((t.trans t1).trans t2).trans t3) q3⟩
    ·exact q3.elim
   |false=>rw[if_neg Bool.false_ne_true]at q1 ⊢;exact⟨false,rfl,back _ _ _ rm1 (t.trans t1) q1⟩
  ·exact q1.elim⟩
variable {es:List Expr}{tr:St3->MH->(List D->MH->Prop)->XN->Prop}
theorem eK{K:PySem.W.Frag}{σ:St}{H:Hp}{σ3:St3}{M:MH}{E3:XN}{R3:List D->MH->Prop}{R2:List V->Hp->Prop}(rm:RelM K M H)(ds:DenS K H σ3 σ)(lk:LkE K cls H E3 (E2 σ))(h:tr σ3 M R3 E3)(k:∀vs H' xs M',DenL K H' xs vs->RelM K M' H'->TM K H H'->R3 xs M'->R2 vs H') :
  dG K cls E2 tr σ H R2:=⟨σ3,M,R3,E3,rm,ds,lk,h,k⟩
theorem AM:PA X [] (dG X.K cls E2 fun _ M Q _=>Q [] M):=pa_nil.imp fun σ H Q2 hl_=>ex9 hl_ fun σ3 M Q E3 rm ds lk h back=>back _ _ _ _ .nil rm (.refl _) h
theorem vR(ha:PE X e (low X.K cls E2 te))(hr:PA X es (dG X.K cls E2 tr))(hs:starEach (e::es) X.env=(false,eval e X.env)::starEach es X.env) :
  PA X (e::es) (dG X.K cls E2 fun σ M Q E=>te σ M (fun x M1=>tr σ M1 (fun xs M2=>Q (x::xs) M2) E) E):=
 (ca ha hr hs).imp fun σ H Q2 hl_=>ex9 hl_ fun σ3 M Q E3 rm ds lk h back=>aX rm ds lk h fun v H1 x M1 dx rm1 t1 q1=>eK rm1 (ds.mono t1) (lk.mono t1) q1 fun vs H2 xs M2 dl rm2 t2 q2=>back _ _ _ _ (.cons (dx.mono t2) dl) rm2 (t1.trans t2) q2
theorem C6{x1}(h:PA X es (dG X.K cls E2 tr)):PE X (.Tuple es x1 pos) (low X.K cls E2 fun σ M Q E=>tr σ M (fun xs M1=>xs.length<=sizeLine/\Q (.tup xs) M1) E):=
 (Ax h).imp fun σ H Q2 hl_=>ex9 hl_ fun σ3 M Q E3 rm ds lk h back=>eK rm ds lk h fun vs H' xs M' dl rm' t ⟨z,q⟩=>⟨by rw[<-dl.length];exact z,fun p hp=>
  back _ _ _ _ (kQ (.of ai) (dl.mono (.new hp))) (rm'.grow hp) (t.trans (.new hp)) q⟩
theorem Dy{t2:TE}(h:PE X e t2){t:St3->MH->VK3->XN->Prop}{fz:Bool}
  (f:∀σ H σ3 M Q E3 (R2:VK),RelM X.K M H->DenS X.K H σ3 σ->LkE X.K cls H E3 (E2 σ)->t σ3 M Q E3->(∀H' vs ds M' p,H' p=none->DenL X.K H' ds vs->RelM X.K M' H'->TM X.K H H'->eV fz ds M' Q->R2 (.ref p) (upd H' p (.lst vs)))->t2 σ H R2):PE X e (low X.K cls E2 t):=by
 refine fun pins s σ H Q2 I hl_=>ex9 hl_ fun σ3 M Q E3 rm ds lk q back=>?_
 refine thn (h pins s σ H (fun v H1=>∃p H' vs ds M',v=.ref p/\H1=upd H' p (.lst vs)/\H' p=none/\DenL X.K H' ds vs/\RelM X.K M' H'/\TM X.K H H'/\eV fz ds M' Q) I
  (f σ H σ3 M Q E3 _ rm ds lk q fun H' vs ds M' p hp dl rm' t' n=>⟨p,H',vs,ds,M',rfl,rfl,hp,dl,rm',t',n⟩)) fun u s1 ⟨v,H1,I1,r1,p,H',vs,ds',M',e1,e2,hp,dl,rm',t',n⟩=>?_
 subst e1;subst e2;cases r1;exact d9 I1 hp dl rm' t' n back
theorem AF(h:PA X es (dG X.K cls E2 tr)):PE X (.List es pos) (low X.K cls E2 fun σ M Q E=>tr σ M (fun xs M1=>eV fz xs M1 Q) E):=
 Dy (fz:=fz) (xE h) fun σ H σ3 M Q E3 R2 rm ds lk q k=>eK rm ds lk q fun vs H' xs M' dl rm' t n=>⟨by rw[<-dl.length];exact n.1,fun p hp=>k H' vs xs M' p hp dl rm' t n⟩
theorem xz(hu:X.A.units+64 < cLine):IxR X (fun v u H Q2=>∃x y M Q,Den X.K H x v/\Den X.K H y u/\RelM X.K M H/\ar x y M Q/\Back X.K H Q Q2):=by
 intro value slice pins s σ H v u v2 u2 Q2 I rv ru ⟨x,y,M,Q,dx,dy,rm,q,back⟩ hs;unfold ar at q;split at q
 ·rename_i es e;split at q
  ·rename_i i;cases (show u=.int i from dy);split at q
   ·rename_i d e2;obtain⟨p,vs,rfl,hq,dl⟩:=gv rm e dx;obtain⟨w,e4,e5⟩:=tT dl e2;refine xF value slice pins s σ H _ _ v2 u2 Q2 I rv ru ?_ hs;rcases hq with hq|hq
    ·exact .inl ⟨p,vs,i,w,rfl,rfl,hq,e4,back _ _ _ _ e5 rm (.refl _) q⟩
    ·exact .inr (.inl ⟨p,vs,i,w,rfl,rfl,hq,e4,back _ _ _ _ e5 rm (.refl _) q⟩)
   ·exact q.elim
  ·exact q.elim
 ·split at q
  ·rename_i d e;obtain⟨a,ov,rfl,g,od⟩:=fw (X:=X) e rm dx dy;cases rv;cases ov with
   |none=>exact od.elim
   |some w=>exact tail_any (g.isDict I) PySem.F.slot_dict_getitem.lookup (oS (by omega) I g rfl ru fun w' s' I' rw'=>⟨w,H,I',rw',back _ _ _ _ od rm (.refl _) q⟩) hs
  ·exact q.elim
  ·split at q
   ·rename_i z i _ _;cases (show v=.str z from dx);cases (show u=.int i from dy);obtain⟨t,rfl⟩:=rv;obtain⟨t',rfl⟩:=ru;obtain⟨⟨h0,h1,h63⟩,q⟩:=q;have e:seqIndex? i z.length=some i.toNat:=PySem.StrLaws.seqIndex_nonneg h0 h1;have hz:i.toNat < z.cps.size:=by
     have:(i:Int) < (z.cps.size:Int):=h1;omega
    have hc:z.cps[i.toNat]?=some (z.cps.getD i.toNat 0):=by simp[hz]
    exact tail_any (typeIs_str s z t) slot_str_getitem.lookup (getItem_str (c:=z.cps.getD i.toNat 0) (by
     rw[decide_eq_false (by omega:¬ i < -(2 ^ 63:Int)),decide_eq_false (by omega:¬ i>=2 ^ 63)];rfl) (by rw[e];exact hc) ⟨.str (uP z i.toNat),H,I.tok _,⟨_,rfl⟩,back _ _ _ _ gX rm (.refl _) q⟩) hs
   ·exact q.elim
theorem Fx(hu:X.A.units+64 < cLine)(ha:PE X a (low X.K cls E2 ta))(hb:PE X b (low X.K cls E2 tb))(hs:kZ b):PE X (.Subscript a b pos) (low X.K cls E2 fun σ M Q E=>ta σ M (fun x M1=>tb σ M1 (fun y M2=>ar x y M2 Q) E) E):=
 (DN (xz hu) ha hb hs).imp fun σ H Q2 hl_=>ex9 hl_ fun σ3 M Q E3 rm ds lk h back=>lY rm ds lk h fun v u H' x y M' dx dy rm' t q=>⟨x,y,M',Q,dx,dy,rm',q,back.mono t⟩
variable {lo hi:Option Expr}{tl th:St3->MH->(Option Int->MH->Prop)->XN->Prop}{p2:Pos}
theorem Eu:PO X none (p9 X.K cls E2 fun _ M Q _=>Q none M):=po_none.imp fun σ H Q2 hl_=>ex9 hl_ fun σ3 M Q E3 rm ds lk h back=>back _ _ _ rm (.refl _) h
theorem BY(h:PE X e (low X.K cls E2 te)):PO X (some e) (p9 X.K cls E2 fun σ M Q E=>te σ M (fun x M1=>match x with|.int i=>Q (some i) M1|_=>False) E):=
 (uK h).imp fun σ H Q2 hl_=>ex9 hl_ fun σ3 M Q E3 rm ds lk h back=>aX rm ds lk h fun v H1 x M1 dx rm1 t1 q1=>by
  split at q1
  ·exact⟨_,dx,back _ _ _ rm1 t1 q1⟩
  ·exact q1.elim
theorem va{t:St3->MH->(Option Int->MH->Prop)->XN->Prop}{K:PySem.W.Frag}{σ:St}{H:Hp}{σ3:St3}{M:MH}{E3:XN}{R3:Option Int->MH->Prop}{R2:Option Int->Hp->Prop}(rm:RelM K M H)(ds:DenS K H σ3 σ)(lk:LkE K cls H E3 (E2 σ))(h:t σ3 M R3 E3)(k:∀o H' M',RelM K M' H'->TM K H H'->R3 o M'->R2 o H') :
  p9 K cls E2 t σ H R2:=⟨σ3,M,R3,E3,rm,ds,lk,h,k⟩
theorem Bf(h:PE X e (low X.K cls E2 te)):PE X e (low X.K cls E2 fun σ M Q E=>te σ M (aZ Q) E):=by
 refine fun pins s σ H Q2 I hl_=>ex9 hl_ fun σ3 M Q E3 rm ds lk q back=>?_
 refine thn (h pins s σ H (fun v H1=>∃d M1,Den X.K H1 d v/\RelM X.K M1 H1/\TM X.K H H1/\aZ Q d M1) I ⟨σ3,M,_,E3,rm,ds,lk,q,fun v H' d M' a b c e=>⟨d,M',a,b,c,e⟩⟩) fun u s1 ⟨v,H1,I1,r1,d,M1,dv,rm1,t1,q1⟩=>?_
 obtain⟨H2,M2,d2,I2,t2,rm2,dv2,q2⟩:=kH I1 rm1 dv q1;exact⟨v,H2,I2,r1,back _ _ _ _ dv2 rm2 (t1.trans t2) q2⟩
theorem zV(h:PE X e (low X.K cls E2 te)):PE X e (low X.K cls E2 fun σ M Q E=>te σ M (eQ Q) E):=by
 refine fun pins s σ H Q2 I hl_=>ex9 hl_ fun σ3 M Q E3 rm ds lk q back=>?_
 refine thn (h pins s σ H (fun v H1=>∃d M1,Den X.K H1 d v/\RelM X.K M1 H1/\TM X.K H H1/\eQ Q d M1) I ⟨σ3,M,_,E3,rm,ds,lk,q,fun v H' d M' a b c e=>⟨d,M',a,b,c,e⟩⟩) fun u s1 ⟨v,H1,I1,r1,d,M1,dv,rm1,t1,q1⟩=>?_
 have q1:aZ Q d M1:=by
  unfold eQ at q1;split at q1
  ·split at q1
   ·rename_i a ds' e;simp only[aZ,e];exact q1
   ·exact q1.elim
  ·exact q1.elim
 obtain⟨H2,M2,d2,I2,t2,rm2,dv2,q2⟩:=kH I1 rm1 dv q1;exact⟨v,H2,I2,r1,back _ _ _ _ dv2 rm2 (t1.trans t2) q2⟩
end
end L2
namespace L2
open PySem PySem.Spec PyProof.Rows
theorem qr{K:PySem.W.Frag}(h:CX1 P w outer H s (fun c d H'=>TM K H H'->E c d H') e s'):CX1 P w outer H s E e s':=by
 obtain⟨a,cls,B,H',dx,h1,h2,h3,un,hok,fl,ha,inc,he⟩:=h;exact⟨a,cls,B,H',dx,h1,h2,h3,un,hok,fl,ha,inc,he (.un un.tups un.frzs)⟩
section
variable {X:Cx}{cls:Nat->Addr}{E2:St->XK}{k:Nat}{f:Addr}{fd:FuncData}{ps:List Str}{x:Str}{p pos:Pos}{e:Expr}{es:List Expr}{tr:St3->MH->(List D->MH->Prop)->XN->Prop}{t3:List D->MH->VK3->XN->Prop}
noncomputable def spX(K:PySem.W.Frag)(cls:Nat->Addr)(t3:List D->MH->VK3->XN->Prop):Sp:=fun vs H Q E=>∃ds M Q3 E3,DenL K H ds vs/\RelM K M H/\t3 ds M Q3 E3/\Back K H Q3 Q/\LkE K cls H E3 E
noncomputable def BdT(K:PySem.W.Frag)(cls:Nat->Addr)(fd:FuncData)(ps:List Str)(t3:List D->MH->VK3->XN->Prop)(sp:Sp):Prop:=∀vs H Q E,spX K cls t3 vs H Q E->∃dvs ds,Vals dvs ds/\Binds K fd ps ds/\sp (vs++dvs) H Q E
theorem fJ(F:FnOk X.prog X.w X.K X.mg X.base (CX1 X.prog X.w) k f fd ps sp)(hr:Room k X.A)(hb:BdT X.K cls fd ps t3 sp)(hx:bq (CX1 X.prog X.w) X E2)
  (I:Inv X pins σ H s)(r:Vals vs us) (h:spX X.K cls t3 vs H Q (fun c d H'=>TM X.K H H'->E2 σ c d H')):wpAny (model X.prog X.w) X.A (call (.ref f) us) (EP X pins σ Q) X.xe s:=by
 obtain⟨dvs,dsv,hv,bd,h'⟩:=hb _ _ _ _ h;have r2:Vals (vs++dvs) (us++dsv):=r.append hv;have hl:(us++dsv).length=ps.length:=by rw[<-r2.length];exact F.len _ _ _ _ h'
 refine wpAny_call (codeAny_mono (F.run X.A X.stack s H ⟨us,[]⟩ (us++dsv) (vs++dvs) Q _ hr I.env0 (bd s us I.kIn hl) r2 h') fun z s' hq=>?_)
 match z,hq with
 |.error e,hq=>exact hx pins σ H s e s' I (qr hq)
 |.ok (.ret u),hq=>exact I.after hq
 |.ok .next,hq=>exact hq.elim
 |.ok .brk,hq=>exact hq.elim
 |.ok .cont,hq=>exact hq.elim
theorem iu{σ:St}{H:Hp}{xs:List D}{vs:List V}{M:MH}{Q:VK3}{Q2:VK}{E3:XN}(dl:DenL X.K H xs vs)(rm:RelM X.K M H)(lk:LkE X.K cls H E3 (E2 σ))(q:t3 xs M Q E3)(back:Back X.K H Q Q2) :
  spX X.K cls t3 vs H Q2 (fun c d H'=>TM X.K H H'->E2 σ c d H'):=
 ⟨xs,M,Q,E3,dl,rm,q,back,fun i M' H' t rm' q dx xd _=>lk i M' H' t rm' q dx xd⟩
theorem Au(F:FnOk X.prog X.w X.K X.mg X.base (CX1 X.prog X.w) k f fd ps sp)(hr:Room k X.A)(hg:Gl X x)(hm:X.mg x=some (.ref f))(hk:PySem.W.keepIn X.K (.ref f)=true)(hb:BdT X.K cls fd ps t3 sp)(hx:bq (CX1 X.prog X.w) X E2)
  (ha:PA X (e::es) (dG X.K cls E2 tr)) (hdb:(x == ("__debug__" : Str))=false) (he:starEach (e::es) X.env=(false,eval e X.env)::starEach es X.env) (hpl:(backTo pos (starEach es X.env)).any (·.1)=false) :
  PE X (.Call (.Name x p) (e::es) [] pos) (low X.K cls E2 fun σ M Q E=>tr σ M (fun xs M1=>t3 xs M1 Q E) E):=fun pins s σ H Q2 I hl_=>ex9 hl_ fun σ3 M Q E3 rm ds lk h back=>
 wpAny_Call_Name_kw (bZ I hg hm (PySem.W.callWith_K (h₀:=X.base) I.ok.mod.kin hk (thn (ha pos pins s σ H _ I (eK (R2:=fun vs H1=>spX X.K cls t3 vs H1 Q2 (fun c d H'=>TM X.K H1 H'->E2 σ c d H')) rm ds lk h
  fun vs H1 xs M1 dl rm1 t1 q1=>iu dl rm1 (lk.mono t1) q1 (back.mono t1))) fun us s1 ⟨vs,H1,I1,r,q⟩=>⟨I1.kIn,fJ F hr hb hx I1 r q⟩) he hpl) hdb)
theorem uh(F:FnOk X.prog X.w X.K X.mg X.base (CX1 X.prog X.w) k f fd ps sp)(hr:Room k X.A)(hg:Gl X x)(hm:X.mg x=some (.ref f))(hk:PySem.W.keepIn X.K (.ref f)=true)(hb:BdT X.K cls fd ps t3 sp)(hx:bq (CX1 X.prog X.w) X E2)(hdb:(x == ("__debug__" : Str))=false) :
  PE X (.Call (.Name x p) [] [] pos) (low X.K cls E2 fun σ M Q E=>t3 [] M Q E):=fun pins s σ H Q2 I hl_=>ex9 hl_ fun σ3 M Q E3 rm ds lk h back=>
 wpAny_Call_Name_kw (bZ I hg hm (PySem.W.callWith_K0 I.kIn hk (fJ (us:=[]) F hr hb hx I .nil (iu (xs:=[]) .nil rm lk h back))) hdb)
theorem fF{id:String}(hc:VC X (.builtin id) r)(hg:Gl X x)(hm:X.mg x=none)(hv:bootBuiltins x=some (.builtin id))(ha:PA X (e::es) (dG X.K cls E2 tr))(hn:x≠"__name__")(hdb:(x == ("__debug__" : Str))=false)
  (he:starEach (e::es) X.env=(false,eval e X.env)::starEach es X.env) (hpl:(backTo pos (starEach es X.env)).any (·.1)=false):PE X (.Call (.Name x p) (e::es) [] pos) (low X.K cls E2 fun σ M Q E=>tr σ M (fun xs M1=>r xs M1 Q) E):=
 (iN hc.op hg hm hv ha hn hdb he hpl).imp fun σ H Q2 hl_=>ex9 hl_ fun σ3 M Q E3 rm ds lk h back=>eK rm ds lk h fun vs H1 xs M1 dl rm1 t1 q1=>⟨xs,M1,Q,dl,rm1,q1,back.mono t1⟩
theorem t6(hc:VC X (.type T) r)(hg:Gl X x)(hm:X.mg x=none)(hv:bootBuiltins x=some (.type T))(ha:PA X (e::es) (dG X.K cls E2 tr))(hn:x≠"__name__")(hdb:(x == ("__debug__" : Str))=false)
  (he:starEach (e::es) X.env=(false,eval e X.env)::starEach es X.env) (hpl:(backTo pos (starEach es X.env)).any (·.1)=false):PE X (.Call (.Name x p) (e::es) [] pos) (low X.K cls E2 fun σ M Q E=>tr σ M (fun xs M1=>r xs M1 Q) E):=
 (pS hc.op hg hm hv ha hn hdb he hpl).imp fun σ H Q2 hl_=>ex9 hl_ fun σ3 M Q E3 rm ds lk h back=>eK rm ds lk h fun vs H1 xs M1 dl rm1 t1 q1=>⟨xs,M1,Q,dl,rm1,q1,back.mono t1⟩
noncomputable def bO:BT->String
 |.int=>"int"|.bool=>"bool"|.str=>"str"|.tuple=>"tuple"|.list=>"list"|.dict=>"dict"
theorem zt{pins:List (Addr×Obj)}{σ:St}{H:Hp}{s:Shared}{A:Around}{Ex:Value->Shared->Prop}{t:BT}{x:D}{v:V}{v2:Value}{M:MH}{Q:VK3}{Q2:VK}(I:Inv X pins σ H s)(rv:RelV v v2)(dx:Den X.K H x v)(rm:RelM X.K M H)(q:jr t x M Q)(back:Back X.K H Q Q2) :
  wpAny (model X.prog X.w) A (call (.builtin "isinstance") [v2,.type (bO t)]) (EP X pins σ Q2) Ex s:=by
 have fin:∀b,Q (.bl b) M->∀tk,EP X pins σ Q2 (.bool b) {s with toks:=tk}:=fun b q tk=>⟨.bl b,H,I.tok _,rfl,back _ _ _ _ bx rm (.refl _) q⟩
 cases x with
 |non=>cases (show v=.non from dx);cases rv;cases t<;>exact PySem.W.kia_one PySem.W.kitx_none I.kIn True.intro rfl (fun z=>nomatch z) (fin _ q)
 |bl b=>cases (show v=.bl b from dx);cases rv;cases t<;>exact PySem.W.kia_one PySem.W.kitx_bool I.kIn True.intro rfl (fun z=>nomatch z) (fin _ q)
 |int i=>cases (show v=.int i from dx);obtain⟨tk,rfl⟩:=rv;cases t<;>exact PySem.W.kia_one PySem.W.kitx_int I.kIn True.intro rfl (fun z=>nomatch z) (fin _ q)
 |str i=>cases (show v=.str i from dx);obtain⟨tk,rfl⟩:=rv;cases t<;>exact PySem.W.kia_one PySem.W.kitx_str I.kIn True.intro rfl (fun z=>nomatch z) (fin _ q)
 |tup ds=>
  obtain⟨a,vs,rfl,sq,_⟩:=dx;cases rv;obtain⟨its,_,tt,_⟩:=I.tuple sq;obtain⟨o,h1,h2,_⟩:=(show s.heap.IsTuple a its.toArray from tt);cases t<;>exact PySem.W.kia_one PySem.W.kitx_tuple I.kIn ⟨o,h1,h2⟩ rfl (fun z=>nomatch z) (fin _ q)
 |rol ds=>
  obtain⟨a,vs,rfl,sq,_⟩:=dx;cases rv;obtain⟨_,its,n,_,_,h1⟩:=I.rdL sq.rd;cases t<;>exact PySem.W.kia_one PySem.W.kitx_list I.kIn ⟨_,h1,rfl⟩ rfl (fun z=>nomatch z) (fin _ q)
 |ref a=>
  cases (show v=.ref a from dx);cases rv;simp only[jr]at q;split at q
  ·rename_i ds e;obtain⟨vs,e1,_⟩:=rm a _ e;obtain⟨_,its,n,_,_,h1⟩:=I.rdL (.inl (.inl e1));cases t<;>exact PySem.W.kia_one PySem.W.kitx_list I.kIn ⟨_,h1,rfl⟩ rfl (fun z=>nomatch z) (fin _ q)
  ·rename_i ks ds e;obtain⟨vs,e1,_,_⟩:=rm a _ e;obtain⟨_,_,_,_,o,_,_,h1,h2,_⟩:=I.hok a _ e1;cases t<;>exact PySem.W.kia_one PySem.W.kitx_dict I.kIn ⟨o,h1,h2.1⟩ rfl (fun z=>nomatch z) (fin _ q)
  ·rename_i ks ds e;obtain⟨vs,xs,e1,_⟩:=rm a _ e;obtain⟨⟨o,es,ep,h1,h2,_⟩,_⟩:=(show ObjOk X.prog X.w H s.heap a (.ext (bC a xs)) from I.hok a _ e1);cases t<;>exact PySem.W.kia_one PySem.W.kitx_dict I.kIn ⟨o,h1,h2.1⟩ rfl (fun z=>nomatch z) (fin _ q)
  ·exact q.elim
 |dik ks ds=>
  obtain⟨a,vs,ob,rfl,e1,_⟩:=dx;cases rv;obtain⟨_,_,_,ws,_,p⟩:=(show ObjOk X.prog X.w H s.heap a (.frz ob (.dK (ks.zip vs))) from I.hok a _ e1);obtain⟨o,es,ep,h1,h2,_⟩:=p;cases t<;>exact PySem.W.kia_one PySem.W.kitx_dict I.kIn ⟨o,h1,h2.1⟩ rfl (fun z=>nomatch z) (fin _ q)
 |dit ks ds=>
  obtain⟨a,vs,ob,xs,rfl,e1,_⟩:=dx;cases rv;obtain⟨_,⟨o,es,ep,h1,h2,_⟩,_⟩:=(show ObjOk X.prog X.w H s.heap a (.frz ob (.ext (bC a xs))) from I.hok a _ e1);cases t<;>exact PySem.W.kia_one PySem.W.kitx_dict I.kIn ⟨o,h1,h2.1⟩ rfl (fun z=>nomatch z) (fin _ q)
 |obj i C ns ds=>exact (show False from q).elim
theorem Cs(ha:PE X e (low X.K cls E2 te))(hg:Gl X "isinstance")(hm:X.mg "isinstance"=none)(hg2:Gl X (bO t))(hm2:X.mg (bO t)=none)(hs:starEach (e::[.Name (bO t) p2]) X.env=(false,eval e X.env)::starEach [.Name (bO t) p2] X.env) :
  PE X (.Call (.Name "isinstance" p) [e,.Name (bO t) p2] [] pos) (low X.K cls E2 fun σ M Q E=>te σ M (fun x M1=>jr t x M1 Q) E):=by
 have hT:PE X (.Name (bO t) p2) (tC (.ty (bO t))):=by
  cases t<;>exact ur hg2 hm2 (by decide +kernel) rfl
 have hc:CallR X (.builtin "isinstance") (fun vs H Q2=>∃x v M Q,vs=[v,.ty (bO t)]/\Den X.K H x v/\RelM X.K M H/\jr t x M Q/\Back X.K H Q Q2):=by
  refine fun pins s σ H vs us Q2 I r hl_=>ex9 hl_ fun x v M Q e dx rm q back=>?_
  subst e;obtain⟨u,w,rfl,ru,rw⟩:=Vals.two r;cases (show w=Value.type (bO t) from rw);exact zt I ru dx rm q back
 refine (iN hc hg hm (by decide +kernel) (ca ha (ca hT pa_nil (by rfl)) hs) (by decide +kernel) (by decide +kernel) hs (by rfl)).imp fun σ H Q2 hl_=>ex9 hl_ fun σ3 M Q E3 rm ds lk h back=>?_
 exact aX rm ds lk h fun v H1 x M1 dx rm1 t1 q1=>⟨x,v,M1,Q,rfl,dx,rm1,q1,back.mono t1⟩
end
section
variable {X:Cx}
theorem zm{K:PySem.W.Frag}(sq:SqT K H0 p vs)(dl:DenL K H0 ds vs):ItOk K H0 (Itt K p) ds (fun _=>True):=by
 refine⟨fun i H M t rm s hi=>?_,fun i H M x H' t rm s hi y=>?_,fun H M t rm s=>?_⟩
 ·have hi':i < vs.length:=by rw[<-dl.length];exact hi
  exact⟨vs,vs[i],t.t _ _ sq,by simp[hi']⟩
 ·obtain⟨e,y⟩:=y;subst e;obtain⟨d,e1,e2⟩:=(dl.mono t).get' (y vs (t.t _ _ sq));exact⟨.refl _,rm,d,e1,e2⟩
 ·exact⟨vs,t.t _ _ sq,by rw[dl.length];exact Nat.le_refl _⟩
theorem yo{K:PySem.W.Frag}(sq:SqF K H0 p vs)(dl:DenL K H0 ds vs):ItOk K H0 (Itl K p) ds (fun _=>True):=by
 refine⟨fun i H M t rm s hi=>?_,fun i H M x H' t rm s hi y=>?_,fun H M t rm s=>?_⟩
 ·have hi':i < vs.length:=by rw[<-dl.length];exact hi
  exact⟨vs,vs[i],(t.f _ _ sq).sq,by simp[hi']⟩
 ·obtain⟨e,y⟩:=y;subst e;obtain⟨d,e1,e2⟩:=(dl.mono t).get' (y vs (t.f _ _ sq).sq);exact⟨.refl _,rm,d,e1,e2⟩
 ·exact⟨vs,(t.f _ _ sq).sq,by rw[dl.length];exact Nat.le_refl _⟩
theorem v9{K:PySem.W.Frag}:ItOk K H0 (Itl K p) ds (fun M=>M p=some (.lst ds)):=by
 refine⟨fun i H M t rm s hi=>?_,fun i H M x H' t rm s hi y=>?_,fun H M t rm s=>?_⟩
 ·obtain⟨vs,e,dl⟩:=rm p _ s;have hi':i < vs.length:=by rw[<-dl.length];exact hi
  exact⟨vs,vs[i],.of e,by simp[hi']⟩
 ·obtain⟨vs,e,dl⟩:=rm p _ s;obtain⟨e',y⟩:=y;subst e';obtain⟨d,e1,e2⟩:=dl.get' (y vs (.of e));exact⟨.refl _,rm,d,e1,e2⟩
 ·obtain⟨vs,e,dl⟩:=rm p _ s;exact⟨vs,.of e,by rw[dl.length];exact Nat.le_refl _⟩
theorem kg(I:Inv X pins σ H s)(hq:SqL X.K H a xs)(q:R (Itl X.K a) H):wpAny (model X.prog X.w) X.A (pyIter (.ref a)) (PIE X pins σ tg R) Ex s:=by
 obtain⟨its,rv,p,hz⟩:=I.list hq;refine wpAny_pyIter_list p.isList ?_;refine⟨s.heap.objs.size,[s.heap.objs.size],_,_,H,rfl,I.kept (t':=s.toks) fun b o e=>Heap.get?_push_of_some _ e,pV a _,⟨_,Heap.get?_push_size _ rfl,rfl,rfl⟩,fun b hb=>?_,q⟩
 have e:b=s.heap.objs.size:=by simpa using hb
 subst e;exact I.fpOk (Nat.le_refl _) (I.hok.fresh (Nat.le_refl _))
theorem rY(I:Inv X pins σ H s)(hq:SqT X.K H a xs)(q:R (Itt X.K a) H):wpAny (model X.prog X.w) X.A (pyIter (.ref a)) (PIE X pins σ tg R) Ex s:=by
 obtain⟨its,rv,p,hz⟩:=I.tuple hq;refine wpAny_pyIter_tuple (show s.heap.IsTuple a its.toArray from p) ?_;refine⟨s.heap.objs.size,[s.heap.objs.size],_,_,H,rfl,I.kept (t':=s.toks) fun b o e=>Heap.get?_push_of_some _ e,mX a _,⟨_,Heap.get?_push_size _ rfl,rfl,rfl⟩,fun b hb=>?_,q⟩
 have e:b=s.heap.objs.size:=by simpa using hb
 subst e;exact I.fpOk (Nat.le_refl _) (I.hok.fresh (Nat.le_refl _))
noncomputable def tO(z:Str):It:=⟨fun i _=>i < z.cps.size,fun i H x H'=>H'=H/\∃c,z.cps[i]?=some c/\x=.str ⟨#[c]⟩,fun i _=>z.cps.size<=i⟩
theorem rN{K:PySem.W.Frag}(it:Addr)(z:Str)(t:Tok)(ty:String)(hty:ty = "str_ascii_iterator"\/ty = "str_iterator"):Turn P w K tg (tO z) [it] it (fun i h=>h.IsStrIter it ty z t i) where
 mem:=by simp
 obj:=fun i h st b hb=>by
  have e:b=it:=by simpa using hb
  subst e;obtain⟨o,e,c,d⟩:=st;exact⟨o,e,fun v z=>by rw[d]at z;cases z⟩
 keep:=fun i h h' st k=>let ⟨o,e,r⟩:=st;⟨o,k it (by simp) o e,r⟩
 item:=by
  intro X hP hw hK hc i pins s σ H E I hf st hg;subst hP hw hK;have hi:i < z.cps.size:=hg;obtain⟨f0,f1,f2,f3,f4,f5⟩:=hf it (by simp)
  have hx:z.cps[i]?=some z.cps[i]:=by simp[hi]
  have fin:∀h':Heap,h'.IsStrIter it ty z t (i+1)->Heap.SameBut it s.heap h'->∃u,some (Value.str ⟨#[z.cps[i]]⟩ s.toks)=some u/\wpAny (model X.prog X.w) X.A (letOwnedTupleGo tg (.ref it) u) (fun _ s2=>∃x H',Inv X pins σ H' s2/\RelV x u/\(tO z).yld i H x H'/\s2.heap.IsStrIter it ty z t (i+1)/\∀b∈[it],H' b=none) E {s with heap:=h',toks:=s.toks+1}:=fun h' st' sb=>by
   have I1:Inv X pins σ H {s with heap:=h',toks:=s.toks+1}:=I.turned (t':=s.toks+1) (fun b o hb e=>(sb.2 b hb).trans e) f0 f1 f3 f4 f5
   obtain⟨o,e,c,d⟩:=id st';exact⟨_,rfl,oJ (s:={s with heap:=h',toks:=s.toks+1}) e c d (by rcases hty with rfl|rfl<;>decide) ⟨.str ⟨#[z.cps[i]]⟩,H,I1,⟨_,rfl⟩,⟨rfl,_,hx,rfl⟩,st',fun b hb=>(hf b hb).1⟩⟩
  rcases hty with rfl|rfl
  ·exact wpAny_pyNext_ascii_item st hx fin
  ·exact wpAny_pyNext_wide_item st hx fin
 done:=by
  intro X hP hw hK hc i pins s σ H E I hf st hg;subst hP hw hK;obtain⟨f0,f1,f2,f3,f4,f5⟩:=hf it (by simp)
  have hx:z.cps[i]?=none:=by simpa using (show z.cps.size<=i from hg)
  rcases hty with rfl|rfl
  ·exact wpAny_pyNext_ascii_end (I.ok.hd hc) st hx fun h' eb=>⟨rfl,I.turned (t':=s.toks) (fun b o hb e=>eb b o hb e) f0 f1 f3 f4 f5⟩
  ·exact wpAny_pyNext_wide_end (I.ok.hd hc) st hx fun h' eb=>⟨rfl,I.turned (t':=s.toks) (fun b o hb e=>eb b o hb e) f0 f1 f3 f4 f5⟩
 self:=fun _ _ _ _ _ st h=>by
  rcases hty with rfl|rfl
  ·exact wpAny_pyIter_striter_ascii st h
  ·exact wpAny_pyIter_striter_wide st h
theorem xA{K:PySem.W.Frag}:ItOk K H0 (tO z) (gI z) (fun _=>True):=by
 have hl:(gI z).length=z.cps.size:=by simp[gI]
 refine⟨fun i H M t rm s hi=>by rw[hl]at hi;exact hi,fun i H M x H' t rm s hi y=>?_,fun H M t rm s=>by show z.cps.size<=_;rw[hl];exact Nat.le_refl _⟩
 obtain⟨rfl,c,hc,rfl⟩:=y;exact⟨.refl _,rm,.str ⟨#[c]⟩,by simp[gI,hc],rfl⟩
theorem sC{X:Cx}(I:Inv X pins σ H s)(q:R (tO z) H):wpAny (model X.prog X.w) X.A (pyIter (.str z t)) (PIE X pins σ tg R) X.xe s:=by
 have go:∀ty:String,(ty = "str_ascii_iterator"\/ty = "str_iterator")->PIE X pins σ tg R (.ref s.heap.objs.size) {s with heap:=s.heap.push {cls:=.type ty,data:=.fields #[.str z t,.int 0 0]}}:=fun ty hty=>
  ⟨s.heap.objs.size,[s.heap.objs.size],_,_,H,rfl,I.kept (t':=s.toks) (fun b o e=>Heap.get?_push_of_some _ e),rN s.heap.objs.size z t ty hty,⟨_,Heap.get?_push_size _ rfl,rfl,rfl⟩,fun b hb=>by
   have e':b=s.heap.objs.size:=by simpa using hb
   subst e';exact I.fpOk (Nat.le_refl _) (I.hok.fresh (Nat.le_refl _)),q⟩
 cases ha:z.cps.all (· < 128)
 ·exact wpAny_pyIter_wide ha (go _ (.inr rfl))
 ·exact wpAny_pyIter_ascii ha (go _ (.inl rfl))
theorem AO(hl:PE X l (low X.K cls E2 te)):PI X tg l (jB X.K cls E2 fun σ M R E=>te σ M (fun x M1=>match x with
  |.tup ds=>R ds (fun _=>True) M1
  |.rol ds=>R ds (fun _=>True) M1
  |.ref a=>match M1 a with
   |some (.lst ds)=>R ds (fun M=>M a=some (.lst ds)) M1
   |_=>False
  |.str z=>R (gI z) (fun _=>True) M1
  |_=>False) E):=by
 refine fun pins s σ H R2 I hl_=>ex9 hl_ fun σ3 M R E3 rm ds lk h k=>?_
 refine thn (hl pins s σ H _ I ⟨σ3,M,_,E3,rm,ds,lk,h,fun v H' d M' a b c e=>(⟨d,M',a,b,c,e⟩:(fun v H'=>∃d M',Den X.K H' d v/\RelM X.K M' H'/\TM X.K H H'/\(match d with
  |.tup ds=>R ds (fun _=>True) M'
  |.rol ds=>R ds (fun _=>True) M'
  |.ref a=>match M' a with
   |some (.lst ds)=>R ds (fun M=>M a=some (.lst ds)) M'
   |_=>False
  |.str z=>R (gI z) (fun _=>True) M'
  |_=>False)) v H')⟩) fun u s1 ⟨v,H1,I1,r1,d,M1,dv,rm1,t1,q1⟩=>?_
 split at q1
 ·obtain⟨p,vs,rfl,sq,dl⟩:=dv;cases r1;exact rY I1 sq (k _ _ _ _ _ (zm sq dl) rm1 t1 q1)
 ·obtain⟨p,vs,rfl,sq,dl⟩:=dv;cases r1;exact kg I1 sq.sq (k _ _ _ _ _ (yo sq dl) rm1 t1 q1)
 ·rename_i a;cases (show v=.ref a from dv);cases r1;split at q1
  ·rename_i ds' e;obtain⟨vs,e1,dl⟩:=rm1 a _ e;exact kg I1 (.of e1) (k _ _ _ _ _ v9 rm1 t1 q1)
  ·exact q1.elim
 ·rename_i z;cases (show v=.str z from dv);obtain⟨tt,rfl⟩:=r1;exact sC I1 (k _ _ _ _ _ xA rm1 t1 q1)
 ·exact q1.elim
theorem EG(hg:Gl X "range")(hm:X.mg "range"=none)(ha:PE X a (low X.K cls E2 ta))(hs:starEach [a] X.env=[(false,eval a X.env)]):PI X tg (.Call (.Name "range" p) [a] [] pos) (jB X.K cls E2 fun σ M R E=>ta σ M (fun x M1=>match x with
  |.int j=>-(2 ^ 62)<=j/\j < 2 ^ 62/\R (rng 0 j.toNat) (fun _=>True) M1
  |_=>False) E):=
 (pJ hg hm (ca ha pa_nil hs) hs).imp fun σ H R2 hl_=>ex9 hl_ fun σ3 M R E3 rm ds lk h k=>aX rm ds lk h fun v H1 x M1 dx rm1 t1 q1=>by
  split at q1
  ·rename_i j;cases (show v=.int j from dx);exact⟨j,rfl,q1.1,q1.2.1,k _ _ _ _ _ yy rm1 t1 q1.2.2⟩
  ·exact q1.elim
end
end L2
namespace L2
open PySem PySem.Spec PyProof.Rows
section
variable {X:Cx}
end
end L2
namespace L2
open PySem PySem.Spec PyProof.Rows
section
variable {K:PySem.W.Frag}
theorem eT:∀{ns:List Nat}{ds:List D}{vs:List V}{f:Nat}{d:D},DenL K H ds vs->bL f ns ds=some d->∃v,((ns.map fnm).zip vs).lookup (fnm f)=some v/\Den K H d v
 |[],_,_,_,_,_,e=>by simp[bL]at e
 |n::ns,[],_,_,_,_,e=>by simp[bL]at e
 |n::ns,d0::ds,_,f,d,dl,e=>by
  obtain⟨v,r,rfl,dv,dl⟩:=dl;simp only[bL]at e;by_cases z:n=f
  ·rw[if_pos z]at e;cases e;subst z;exact⟨v,by simp[List.lookup],dv⟩
  ·rw[if_neg z]at e;obtain⟨u,h1,h2⟩:=eT dl e;refine⟨u,?_,h2⟩;have nb:(fnm f == fnm n)=false:=beq_eq_false_iff_ne.mpr fun q=>z (kW q).symm
   simp[List.lookup,nb,h1]
theorem eR:∀{ns:List Nat}{ds:List D}{vs:List V}{f:Nat},DenL K H ds vs->ns.length=vs.length->bL f ns ds=none->((ns.map fnm).zip vs).lookup (fnm f)=none
 |[],_,_,_,_,_,_=>by simp
 |n::ns,[],vs,_,dl,hl,_=>by cases (show vs=[] from dl);cases hl
 |n::ns,d0::ds,_,f,dl,hl,e=>by
  obtain⟨v,r,rfl,dv,dl⟩:=dl;simp only[bL]at e;by_cases z:n=f
  ·rw[if_pos z]at e;cases e
  ·rw[if_neg z]at e;have h1:=eR dl (by simpa using hl) e
   have nb:(fnm f == fnm n)=false:=beq_eq_false_iff_ne.mpr fun q=>z (kW q).symm
   simp[List.lookup,nb,h1]
theorem lX:∀{ns:List Nat}{ds:List D}{vs:List V}{f:Nat}{y:D}{u:V},DenL K H ds vs->ns.length=vs.length->Den K H y u->
  ∃ws,cV (fnm f) u ((ns.map fnm).zip vs)=((bU f ns).map fnm).zip ws/\(bU f ns).length=ws.length/\DenL K H (bT f y ns ds) ws
 |[],ds,vs,f,y,u,dl,hl,dy=>by
  cases vs with
  |nil=>exact⟨[u],rfl,rfl,by unfold bT;exact .one dy⟩
  |cons _ _=>cases hl
 |n::ns,[],vs,f,y,u,dl,hl,dy=>by cases (show vs=[] from dl);cases hl
 |n::ns,d::ds,_,f,y,u,dl,hl,dy=>by
  obtain⟨v,r,rfl,dv,dl⟩:=dl;have hl':ns.length=r.length:=by simpa using hl
  by_cases z:n=f
  ·subst z;refine⟨u::r,?_,?_,?_⟩
   ·simp[cV,bU]
   ·simp[bU,hl']
   ·simp only[bT,if_pos];exact .cons dy dl
  ·obtain⟨ws,h1,h2,h3⟩:=lX (f:=f) (u:=u) dl hl' dy;have nf:¬ fnm n=fnm f:=fun q=>z (kW q)
   refine⟨v::ws,?_,?_,?_⟩
   ·simp only[List.map_cons,List.zip_cons_cons,cV,if_neg nf,bU,if_neg z];rw[h1]
   ·simp[bU,if_neg z,h2]
   ·simp only[bT,if_neg z];exact .cons dv h3
end
theorem qv{fs:List (Str×V)}(hok:HOk P w H h)(e:Rd H a (.ins C dx fs)):∃mA,ObjM h a dx C mA/\(∀f,RelO (fs.lookup f) (mA f))/\H dx=some (.own a):=by
 obtain⟨d,z,ne,ob,mA,n,r,q⟩:=(show ObjOk P w H h a (.ins C dx fs) from e.ok hok);exact⟨mA,⟨ob,n,ne⟩,r,d⟩
section
variable {X:Cx}{fs:List (Str×V)}
theorem qW(I:Inv X pins σ H s)(e:Rd H a (.ins C dx fs))(c:Cls X.K C)(n:NoAttr X.K C f)(l:fs.lookup f=some v)
  (h:∀u s',Inv X pins σ H s'->RelV v u->Q u s'):wpAny (model X.prog X.w) A (getAttr (.ref a) f b) Q E s:=by
 obtain⟨mA,O,r,_⟩:=qv I.hok e;obtain⟨u,hu,ru⟩:=RelO.some_of (v:=v) (o:=mA f) (by rw[<-l];exact r f)
 exact uw I.kIn O (c.get f) c.hd n hu (oW ru) (h u _ (I.tok _) ru)
theorem mm{m:Str}{g:Addr}{pl:Sem Bool}{Q:Value×List Value->Shared->Prop}(I:Inv X pins σ H s)(e:Rd H a (.ins C dx fs))(c:Cls X.K C)(k:Meth X.K C m g)(l:fs.lookup m=none)
  (h:Q (.ref g,[.ref a]) s):wpAny (model X.prog X.w) A (getMethod (.ref a) m pl) Q E s:=by
 obtain⟨mA,O,r,_⟩:=qv I.hok e;have hn:mA m=none:=RelO.none_of (by rw[<-l];exact r m)
 exact rM I.kIn O (c.get m) k.at_ k.fn hn h
end
structure ClsI (K:PySem.W.Frag)(C f:Addr):Prop where
 ga:PySem.W.specialIn K (.ref C) "__getattribute__"=some (some (.builtin "type.__getattribute__"))
 rd:PySem.W.readsIn K C (.type "type")=true
 at_:PySem.W.findCls K (.ref C) (.type "type") "__init__"=some (.val (.ref f))
structure TyI (K:PySem.W.Frag)(C:Addr):Prop where
 ha:PySem.W.findIn K (.ref C) "__class__"=some (some (.builtin "object.__class__"))
 hn:PySem.W.specialIn K (.builtin "object.__class__") "__get__"=some (some (.builtin "getset_descriptor.__get__"))
 htk:PySem.W.takesIn K (.builtin "object.__class__")=some true
 hm:PySem.W.mroIn K C (.type "object")=some true
structure KOk (K:PySem.W.Frag)(B:WB)(fad:Nat->Addr)(i:Nat):Prop where
 cl:Cls K (B.kls i)
 na:∀f,B.fok i f=true->NoAttr K (B.kls i) (fnm f)
 mt:∀m f,B.mth i m=some f->Meth K (B.kls i) (fnm m) (fad f)
 mkr:∀f,B.ini i=some f->Mk K (B.kls i) (fad f)
 ci:∀f,B.ini i=some f->ClsI K (B.kls i) (fad f)
 ty:TyI K (B.kls i)
 is:∀j,j < B.nk->PySem.W.kitOne K (.ref (B.kls i)) (.ref (B.kls j))=some (B.ksub i j)
section
variable {X:Cx}{B:WB}
theorem sY{K:PySem.W.Frag}(hk:∀i,i < B.nk->KOk K B fad i)(dx:Den K H x v)(rm:RelM K M H)(h:dU B f x M Q) :
  ∃a C dx fs u d,v=.ref a/\Rd H a (.ins C dx fs)/\Cls K C/\NoAttr K C (fnm f)/\fs.lookup (fnm f)=some u/\Den K H d u/\Q d M:=by
 unfold dU at h;split at h
 ·rename_i i C ns ds;obtain⟨p,vs,ob,dx',rfl,e,hl,dl⟩:=dx;obtain⟨⟨rfl,hi,hf⟩,h⟩:=h;unfold jF at h;split at h
  ·rename_i d q;obtain⟨u,h1,h2⟩:=eT dl q;exact⟨p,_,dx',_,u,d,rfl,.inr ⟨ob,e⟩,(hk i hi).cl,(hk i hi).na f hf,h1,h2,h⟩
  ·exact h.elim
 ·rename_i a;split at h
  ·rename_i i C ns ds q;obtain⟨dx',vs,e,hl,dl⟩:=rm a _ q;obtain⟨⟨rfl,hi,hf⟩,h⟩:=h;unfold jF at h;split at h
   ·rename_i d q;obtain⟨u,h1,h2⟩:=eT dl q;exact⟨a,_,dx',_,u,d,dx,.inl e,(hk i hi).cl,(hk i hi).na f hf,h1,h2,h⟩
   ·exact h.elim
  ·exact h.elim
 ·exact h.elim
theorem B6(hk:∀i,i < B.nk->KOk X.K B fad i)(he:PE X e (low X.K cls E2 te))(hb:attributeBase e (fnm f) X.env (eval e X.env)=eval e X.env):PE X (.Attribute e (fnm f) pos) (low X.K cls E2 fun σ M Q E=>te σ M (fun x M1=>dU B f x M1 Q) E):=by
 refine fun pins s σ H Q2 I hl_=>ex9 hl_ fun σ3 M Q E3 rm ds lk h back=>?_
 refine sW hb (thn (he pins s σ H (fun v H1=>∃x M1,Den X.K H1 x v/\RelM X.K M1 H1/\TM X.K H H1/\dU B f x M1 Q) I ⟨σ3,M,_,E3,rm,ds,lk,h,fun v H' d M' a b c e=>⟨d,M',a,b,c,e⟩⟩) fun u s1 ⟨v,H1,I1,r1,x,M1,dx,rm1,t1,q1⟩=>?_)
 obtain⟨a,C,dx',fs,u',d,rfl,rd,c,n,l,du,q⟩:=sY hk dx rm1 q1;obtain rfl:u=Value.ref a:=r1;exact qW I1 rd c n l fun u'' s2 I2 ru=>⟨u',H1,I2,ru,back _ _ _ _ du rm1 t1 q⟩
end
end L2
namespace L2
open PySem PySem.Spec PyProof.Rows
noncomputable def pR(X:Cx)(cls:Nat->Addr)(k:Nat)(a:Addr)(t3:List D->MH->VK3->XN->Prop):Prop:=∃fd ps sp,PySem.W.keepIn X.K (.ref a)=true/\BdT X.K cls fd ps t3 sp/\FnOk X.prog X.w X.K X.mg X.base (CX1 X.prog X.w) k a fd ps sp
section
variable {X:Cx}{B:WB}{fad:Nat->Addr}{cls:Nat->Addr}{E2:St->XK}{o e:Expr}{es:List Expr}{to te:St3->MH->VK3->XN->Prop}{tr:St3->MH->(List D->MH->Prop)->XN->Prop}{pos apos p:Pos}{m k:Nat}
 {cl3:Nat->List D->MH->VK3->XN->Prop}
theorem oG{K:PySem.W.Frag}{H:Hp}{x:D}{v:V}{M:MH}{R:Nat->Prop}(hk:∀i,i < B.nk->KOk K B fad i)(dx:Den K H x v)(rm:RelM K M H)(h:c5 B m x M R) :
  ∃a C dx fs f,v=.ref a/\Rd H a (.ins C dx fs)/\Cls K C/\Meth K C (fnm m) (fad f)/\fs.lookup (fnm m)=none/\(∃i,i < B.nk/\B.mth i m=some f)/\R f:=by
 unfold c5 at h;split at h
 ·rename_i i C ns ds;obtain⟨p,vs,ob,dx',rfl,e,hl,dl⟩:=dx;obtain⟨⟨rfl,hi,hf⟩,h⟩:=h;unfold fR at h;split at h
  ·rename_i f q;exact⟨p,_,dx',_,f,rfl,.inr ⟨ob,e⟩,(hk i hi).cl,(hk i hi).mt m f q,eR dl hl hf,⟨i,hi,q⟩,h⟩
  ·exact h.elim
 ·rename_i a;split at h
  ·rename_i i C ns ds q;obtain⟨dx',vs,e,hl,dl⟩:=rm a _ q;obtain⟨⟨rfl,hi,hf⟩,h⟩:=h;unfold fR at h;split at h
   ·rename_i f q;exact⟨a,_,dx',_,f,dx,.inl e,(hk i hi).cl,(hk i hi).mt m f q,eR dl hl hf,⟨i,hi,q⟩,h⟩
   ·exact h.elim
  ·exact h.elim
 ·exact h.elim
theorem wR(hk:∀i,i < B.nk->KOk X.K B fad i)(hf:∀i m f,i < B.nk->B.mth i m=some f->pR X cls k (fad f) (cl3 f))(hr:Room k X.A)(hx:bq (CX1 X.prog X.w) X E2)
  (ho:PE X o (low X.K cls E2 to)) (ha:PA X (e::es) (dG X.K cls E2 tr)) (hb:attributeBase o (fnm m) X.env (eval o X.env)=eval o X.env) (hl:(apos.endLine == pos.line)=true) (hn:(e::es).length < 30)
  (he:starEach (e::es) X.env=(false,eval e X.env)::starEach es X.env) (hpl:(backTo pos (starEach es X.env)).any (·.1)=false) :
  PE X (.Call (.Attribute o (fnm m) apos) (e::es) [] pos) (low X.K cls E2 fun σ M Q E=>to σ M (fun x M1=>c5 B m x M1 fun f=>tr σ M1 (fun xs M2=>cl3 f (x::xs) M2 Q E) E) E):=by
 refine fun pins s σ H Q2 I hl_=>ex9 hl_ fun σ3 M Q E3 rm ds lk h back=>?_
 have hst:(backTo pos (starEach (e::es) X.env)).any (·.1)=false:=by
  rw[he];show ((false,_)::backTo pos (starEach es X.env)).any (·.1)=false;rw[List.any_cons,hpl];rfl
 refine PySem.W.methodCall_KW (thn (ho pins s σ H (fun v H1=>∃x M1,Den X.K H1 x v/\RelM X.K M1 H1/\TM X.K H H1/\c5 B m x M1 fun f=>tr σ3 M1 (fun xs M2=>cl3 f (x::xs) M2 Q E3) E3) I ⟨σ3,M,_,E3,rm,ds,lk,h,fun v H' d M' a b c e=>⟨d,M',a,b,c,e⟩⟩) fun u s1 ⟨v,H1,I1,r1,x,M1,dx,rm1,t1,q1⟩=>?_) (gy hb (hJ hst hn) hl)
 obtain⟨a,C,dx',fs,f,rfl,rd,c,mt,l,⟨i,hi,hfi⟩,q⟩:=oG hk dx rm1 q1;obtain rfl:u=Value.ref a:=r1;obtain⟨fd,ps,sp,kp,bd,F⟩:=hf i m f hi hfi;refine mm I1 rd c mt l ?_;refine PySem.W.callWith_K (first:=[.ref a]) (h₀:=X.base) I.ok.mod.kin mt.kp (thn (ha pos pins s1 σ H1 _ I1 (eK (R2:=fun vs H2=>spX X.K cls (cl3 f) (.ref a::vs) H2 Q2 (fun c d H'=>TM X.K H2 H'->E2 σ c d H')) rm1 (ds.mono t1) (lk.mono t1) q
  fun vs H2 xs M2 dl rm2 t2 q2=>iu (.cons (dx.mono t2) dl) rm2 (lk.mono (t1.trans t2)) q2 (back.mono (t1.trans t2)))) fun us s2 ⟨vs,H2,I2,r,q2⟩=>⟨I2.kIn,?_⟩) he hpl
 exact fJ (us:=.ref a::us) (vs:=.ref a::vs) F hr bd hx I2 (.cons rfl r) q2
theorem t8(hk:∀i,i < B.nk->KOk X.K B fad i)(hf:∀i m f,i < B.nk->B.mth i m=some f->pR X cls k (fad f) (cl3 f))(hr:Room k X.A)(hx:bq (CX1 X.prog X.w) X E2)
  (ho:PE X o (low X.K cls E2 to)) (hb:attributeBase o (fnm m) X.env (eval o X.env)=eval o X.env) (hl:(apos.endLine == pos.line)=true) :
  PE X (.Call (.Attribute o (fnm m) apos) [] [] pos) (low X.K cls E2 fun σ M Q E=>to σ M (fun x M1=>c5 B m x M1 fun f=>cl3 f [x] M1 Q E) E):=by
 refine fun pins s σ H Q2 I hl_=>ex9 hl_ fun σ3 M Q E3 rm ds lk h back=>?_
 refine PySem.W.methodCall_KW (thn (ho pins s σ H (fun v H1=>∃x M1,Den X.K H1 x v/\RelM X.K M1 H1/\TM X.K H H1/\c5 B m x M1 fun f=>cl3 f [x] M1 Q E3) I ⟨σ3,M,_,E3,rm,ds,lk,h,fun v H' d M' a b c e=>⟨d,M',a,b,c,e⟩⟩) fun u s1 ⟨v,H1,I1,r1,x,M1,dx,rm1,t1,q1⟩=>?_) (gy hb (hJ (by rfl) (by decide)) hl)
 obtain⟨a,C,dx',fs,f,rfl,rd,c,mt,l,⟨i,hi,hfi⟩,q⟩:=oG hk dx rm1 q1;obtain rfl:u=Value.ref a:=r1;obtain⟨fd,ps,sp,kp,bd,F⟩:=hf i m f hi hfi;refine mm I1 rd c mt l ?_;exact PySem.W.callWith_K0 (first:=[.ref a]) I1.kIn mt.kp (fJ (us:=[.ref a]) (vs:=[.ref a]) F hr bd hx I1 (.cons rfl .nil) (iu (.one dx) rm1 (lk.mono t1) q (back.mono t1)))
theorem AG{i f:Nat}{x:Str}{px:Pos}(hg:Gl X x)(hm:X.mg x=some (.ref (B.kls i)))(hdb:(x == ("__debug__" : Str))=false)(ci:ClsI X.K (B.kls i) (fad f))(hf:pR X cls k (fad f) (cl3 f))(hr:Room k X.A)(hx:bq (CX1 X.prog X.w) X E2)
  (ha:PA X (e::es) (dG X.K cls E2 tr)) (hl:(apos.endLine == pos.line)=true) (hn:(e::es).length < 30)
  (he:starEach (e::es) X.env=(false,eval e X.env)::starEach es X.env) (hpl:(backTo pos (starEach es X.env)).any (·.1)=false) :
  PE X (.Call (.Attribute (.Name x px) "__init__" apos) (e::es) [] pos) (low X.K cls E2 fun σ M Q E=>tr σ M (fun xs M1=>cl3 f xs M1 Q E) E):=by
 refine fun pins s σ H Q2 I hl_=>ex9 hl_ fun σ3 M Q E3 rm ds lk h back=>?_
 have hst:(backTo pos (starEach (e::es) X.env)).any (·.1)=false:=by
  rw[he];show ((false,_)::backTo pos (starEach es X.env)).any (·.1)=false;rw[List.any_cons,hpl];rfl
 obtain⟨fd,ps,sp,kp,bd,F⟩:=hf;have hT:PE X (.Name x px) (tC (.ref (B.kls i))):=oq hg hm rfl hdb;refine PySem.W.methodCall_KW (thn (hT pins s σ H (fun v H1=>v=.ref (B.kls i)/\H1=H) I ⟨rfl,rfl⟩) fun u s1 ⟨v,H1,I1,r1,e1,e2⟩=>?_) (gy (by rfl) (hJ hst hn) hl)
 subst e1 e2;obtain rfl:u=Value.ref (B.kls i):=r1;refine PySem.W.method_cls I1.kIn ci.ga (PySem.W.cls_value I1.kIn ci.rd ci.at_ rfl ?_);have I2:=I1.tok (s1.toks+1);refine PySem.W.callWith_K (first:=[]) (h₀:=X.base) I.ok.mod.kin kp (thn (ha pos pins _ σ H1 _ I2 (eK (R2:=fun vs H2=>spX X.K cls (cl3 f) vs H2 Q2 (fun c d H'=>TM X.K H2 H'->E2 σ c d H')) rm ds lk h
  fun vs H2 xs M2 dl rm2 t2 q2=>iu dl rm2 (lk.mono t2) q2 (back.mono t2))) fun us s2 ⟨vs,H2,I3,r,q2⟩=>⟨I3.kIn,?_⟩) he hpl
 exact fJ F hr bd hx I3 r q2
theorem j4(M:Mk X.K C f)(F:FnOk X.prog X.w X.K X.mg X.base (CX1 X.prog X.w) k f fd ps sp)(hr:Room (k+1) X.A)(hb:BdT X.K cls fd ps t3 sp)
  (hx:bq (CX1 X.prog X.w) X E2) (I:Inv X pins σ H s)(r:Vals vs us)
  (h:∀x dx,H x=none->H dx=none->dx≠x->spX X.K cls t3 (.ref x::vs) (upd (upd H dx (.own x)) x (.ins C dx [])) (fun v H2=>v=.non/\Q (.ref x) H2) (fun c d H'=>TM X.K (upd (upd H dx (.own x)) x (.ins C dx [])) H'->E2 σ c d H')) :
  wpAny (model X.prog X.w) X.A (call (.ref C) us) (EP X pins σ Q) X.xe s:=by
 have hq:=h (s.heap.objs.size+1) s.heap.objs.size (I.hok.fresh (Nat.le_succ _)) (I.hok.fresh (Nat.le_refl _)) (Nat.ne_of_lt (Nat.lt_succ_self _));have I2:=Inv.made (C:=C) I;have r2:Vals (V.ref (s.heap.objs.size+1)::vs) (Value.ref (s.heap.objs.size+1)::us):=.cons rfl r;obtain⟨dvs,dsv,hv,bd,hq⟩:=hb _ _ _ _ hq;have r2:Vals ((V.ref (s.heap.objs.size+1)::vs)++dvs) ((Value.ref (s.heap.objs.size+1)::us)++dsv):=r2.append hv;have hl:(Value.ref (s.heap.objs.size+1)::us++dsv).length=ps.length:=by rw[<-r2.length];exact F.len _ _ _ _ hq
 have hb':=bd _ (Value.ref (s.heap.objs.size+1)::us) I2.kIn hl;refine wpAny_call (si (f:=f) I.kIn M.makes M.init (beq_iff_eq.mp M.fn) (codeAny_mono (F.run _ X.stack _ _ ⟨Value.ref (s.heap.objs.size+1)::us,[]⟩ (Value.ref (s.heap.objs.size+1)::us++dsv) _ _ _ (hr.make C us [])
  (I2.env0.make C us []) hb' r2 hq) fun r s' hq'=>?_))
 match r,hq' with
 |.error e,hq'=>exact hx pins σ _ _ e s' I2 (qr hq')
 |.ok (.ret u),hq'=>
  obtain⟨v,H',I3,rv,ev,q3⟩:=I2.after hq';subst ev;exact⟨rv,⟨V.ref (s.heap.objs.size+1),H',I3,rfl,q3⟩⟩
 |.ok .next,hq'=>exact hq'.elim
 |.ok .brk,hq'=>exact hq'.elim
 |.ok .cont,hq'=>exact hq'.elim
theorem TM.made{K:PySem.W.Frag}(hx:H x=none)(hd:H dx=none)(ne:dx≠x):TM K H (upd (upd H dx (.own x)) x (.ins C dx [])):=
 (TM.new hd).trans (.new (by rw[ag (Ne.symm ne)];exact hx))
theorem nS{σ:St}{H:Hp}{xs:List D}{vs:List V}{M:MH}{Q:VK3}{Q2:VK}{E3:XN}{i:Nat}{fz:Bool}{t3:List D->MH->VK3->XN->Prop}(dl:DenL X.K H xs vs)(rm:RelM X.K M H)(lk:LkE X.K cls H E3 (E2 σ))
  (q:∀p,M p=none->t3 (.ref p::xs) (put M p (.ins i (B.kls i) [] [])) (fun v M2=>v=.non/\if fz=true then aZ Q (.ref p) M2 else Q (.ref p) M2) (fun j M'=>E3 j (del M' p))) :
  ∀x dx,H x=none->H dx=none->dx≠x->spX X.K cls t3 (.ref x::vs) (upd (upd H dx (.own x)) x (.ins (B.kls i) dx [])) (fun v H2=>v=.non/\∃M2,RelM X.K M2 H2/\TM X.K H H2/\if fz=true then aZ Q (.ref x) M2 else Q (.ref x) M2)
   (fun c d H'=>TM X.K (upd (upd H dx (.own x)) x (.ins (B.kls i) dx [])) H'->E2 σ c d H'):=fun x dx hx hd ne=>by
 have t:=TM.made (K:=X.K) (C:=B.kls i) hx hd ne;have hx':(upd H dx (.own x)) x=none:=by rw[ag (Ne.symm ne)];exact hx
 have rm2:RelM X.K (put M x (.ins i (B.kls i) [] [])) (upd (upd H dx (.own x)) x (.ins (B.kls i) dx [])):=(rm.grow hd).lay hx' ⟨dx,[],ai,rfl,rfl⟩;refine⟨.ref x::xs,_,_,_,.cons rfl (dl.mono t),rm2,q x (rm.fresh hx),fun v H' d M' dv rm' t' ⟨e,q'⟩=>?_,fun j M' H' t' rm' q' dy xd _=>lk j (del M' x) H' (t.trans t') (rm'.sub fun b o z=>(gZ z).2) q' dy xd⟩
 subst e;exact⟨dv,M',rm',t.trans t',q'⟩
theorem mn(back:Back X.K H Q Q2)
  (h:EP X pins σ (fun v H2=>∃x,v=.ref x/\∃M2,RelM X.K M2 H2/\TM X.K H H2/\if fz=true then aZ Q (.ref x) M2 else Q (.ref x) M2) u s'):EP X pins σ Q2 u s':=by
 obtain⟨v,H2,I2,r,x,rfl,M2,rm2,t2,q⟩:=h;cases fz with
 |true=>
  obtain⟨H3,M3,d,I3,t3,rm3,dv,q3⟩:=kH I2 rm2 fP (show aZ Q (.ref x) M2 from q);exact⟨.ref x,H3,I3,r,back _ _ _ _ dv rm3 (t2.trans t3) q3⟩
 |false=>exact⟨.ref x,H2,I2,r,back _ _ _ _ fP rm2 t2 q⟩
theorem Av{i f:Nat}{fz:Bool}{x:Str}(hg:Gl X x)(hm:X.mg x=some (.ref (B.kls i)))(hdb:(x == ("__debug__" : Str))=false)(mk:Mk X.K (B.kls i) (fad f))(hf:pR X cls k (fad f) (cl3 f))(hr:Room (k+1) X.A)(hx:bq (CX1 X.prog X.w) X E2)
  (ha:PA X (e::es) (dG X.K cls E2 tr)) (he:starEach (e::es) X.env=(false,eval e X.env)::starEach es X.env) (hpl:(backTo pos (starEach es X.env)).any (·.1)=false) :
  PE X (.Call (.Name x p) (e::es) [] pos) (low X.K cls E2 fun σ M Q E=>tr σ M (fun xs M1=>∀p,M1 p=none->cl3 f (.ref p::xs) (put M1 p (.ins i (B.kls i) [] [])) (fun v M2=>v=.non/\if fz=true then aZ Q (.ref p) M2 else Q (.ref p) M2) (fun i M'=>E i (del M' p))) E):=by
 refine fun pins s σ H Q2 I hl_=>ex9 hl_ fun σ3 M Q E3 rm ds lk h back=>?_
 obtain⟨fd,ps,sp,kp,bd,F⟩:=hf;refine wpAny_Call_Name_kw (bZ I hg hm ?_ hdb);refine PySem.W.callWith_K (h₀:=X.base) I.ok.mod.kin mk.kp (thn (ha pos pins s σ H (fun vs H1=>TM X.K H H1/\∃xs M1,DenL X.K H1 xs vs/\RelM X.K M1 H1/\∀p,M1 p=none->cl3 f (.ref p::xs) (put M1 p (.ins i (B.kls i) [] [])) (fun v M2=>v=.non/\if fz=true then aZ Q (.ref p) M2 else Q (.ref p) M2) (fun i M'=>E3 i (del M' p))) I
  (eK rm ds lk h fun vs H1 xs M1 dl rm1 t1 q1=>⟨t1,xs,M1,dl,rm1,q1⟩)) fun us s1 ⟨vs,H1,I1,r,t1,xs,M1,dl,rm1,q1⟩=>⟨I1.kIn,?_⟩) he hpl
 refine thn (j4 (Q:=fun v H2=>∃x,v=.ref x/\∃M2,RelM X.K M2 H2/\TM X.K H1 H2/\if fz=true then aZ Q (.ref x) M2 else Q (.ref x) M2) mk F hr bd hx I1 r fun x dx n1 n2 n3=>?_) fun u s2 q2=>mn (fz:=fz) (back.mono t1) q2
 obtain⟨a1,a2,a3,a4,b1,b2,b3,b4,b5⟩:=nS (fz:=fz) (i:=i) (t3:=cl3 f) (Q2:=Q2) dl rm1 (lk.mono t1) q1 x dx n1 n2 n3;exact⟨a1,a2,a3,a4,b1,b2,b3,fun v H' d M' dv rm' t' q'=>by
  obtain⟨e,w⟩:=b4 v H' d M' dv rm' t' q';exact⟨e,x,rfl,w⟩,b5⟩
theorem uz{i f:Nat}{fz:Bool}{x:Str}(hg:Gl X x)(hm:X.mg x=some (.ref (B.kls i)))(hdb:(x == ("__debug__" : Str))=false)(mk:Mk X.K (B.kls i) (fad f))(hf:pR X cls k (fad f) (cl3 f))(hr:Room (k+1) X.A)(hx:bq (CX1 X.prog X.w) X E2) :
  PE X (.Call (.Name x p) [] [] pos) (low X.K cls E2 fun σ M Q E=>∀p,M p=none->cl3 f [.ref p] (put M p (.ins i (B.kls i) [] [])) (fun v M2=>v=.non/\if fz=true then aZ Q (.ref p) M2 else Q (.ref p) M2) (fun i M'=>E i (del M' p))):=by
 refine fun pins s σ H Q2 I hl_=>ex9 hl_ fun σ3 M Q E3 rm ds lk h back=>?_
 obtain⟨fd,ps,sp,kp,bd,F⟩:=hf;refine wpAny_Call_Name_kw (bZ I hg hm ?_ hdb);refine PySem.W.callWith_K0 I.kIn mk.kp ?_;refine thn (j4 (us:=[]) (vs:=[]) (Q:=fun v H2=>∃x,v=.ref x/\∃M2,RelM X.K M2 H2/\TM X.K H H2/\if fz=true then aZ Q (.ref x) M2 else Q (.ref x) M2) mk F hr bd hx I .nil fun x dx n1 n2 n3=>?_) fun u s2 q2=>mn (fz:=fz) back q2
 obtain⟨a1,a2,a3,a4,b1,b2,b3,b4,b5⟩:=nS (fz:=fz) (i:=i) (t3:=cl3 f) (xs:=[]) (vs:=[]) (Q2:=Q2) .nil rm lk h x dx n1 n2 n3;exact⟨a1,a2,a3,a4,b1,b2,b3,fun v H' d M' dv rm' t' q'=>by
  obtain⟨e,w⟩:=b4 v H' d M' dv rm' t' q';exact⟨e,x,rfl,w⟩,b5⟩
theorem Ag(hk:∀i,i < B.nk->KOk X.K B fad i)(ho:PE X o (low X.K cls E2 to))(hv:PE X value (low X.K cls E2 tv))(hs:swapsWith value (some (.Attribute o (fnm f) pos')) pos.line X.env=pure false) :
  PS X (.Assign [.Attribute o (fnm f) pos'] value pos) (bN X.K cls E2 fun D E σ M=>tv σ M (fun y M1=>to σ M1 (fun x M2=>match x with
  |.ref a=>match M2 a with
   |some (.ins i C ns ds)=>(C=B.kls i/\i < B.nk/\B.fok i f=true/\ns.length < 1000)/\D.nx σ (put M2 a (.ins i C (bU f ns) (bT f y ns ds)))
   |_=>False
  |_=>False) (E σ)) (E σ)):=
 (wW ho hv hs).imp fun D2 σ H hl_=>ex9 hl_ fun σ3 M D3 E3 rm ds lk h er=>aX rm ds (lk.at ds) h fun v H1 y M1 dy rm1 t1 q1=>aX rm1 (ds.mono t1) ((lk.at ds).mono t1) q1 fun w H2 x M2 dx rm2 t2 q2=>by
  split at q2
  ·rename_i a;split at q2
   ·rename_i i C ns es q;obtain⟨dx',vs,e,hl,dl⟩:=rm2 a _ q;obtain⟨⟨rfl,hi,hf,hz⟩,q2⟩:=q2;obtain⟨ws,h1,h2,h3⟩:=lX (f:=f) (u:=v) dl hl (dy.mono t2);refine⟨a,_,dx',_,dx,e,(hk i hi).cl,(hk i hi).na f hf,?_,?_⟩
    ·rw[List.length_zip,List.length_map,hl,Nat.min_self,<-hl];exact hz
    ·have tw:TM X.K H2 (upd H2 a (.ins (B.kls i) dx' (cV (fnm f) v ((ns.map fnm).zip vs)))):=.put e (fun _ z=>by cases z) fun _ _ z=>by cases z
     refine er.nx _ _ σ3 _ (rm2.write (u:=.ins i (B.kls i) (bU f ns) (bT f y ns es)) e (fun _ z=>by cases z) (fun _ _ z=>by cases z) ⟨dx',ws,by rw[ai,h1],h2,h3.mono tw⟩) (((ds.mono t1).mono t2).mono tw) ((t1.trans t2).trans tw) q2
   ·exact q2.elim
  ·exact q2.elim
theorem Dx(hg:Gl X x)(hm:X.mg x=some u)(r:RelV v u)(hdb:(x == ("__debug__" : Str))=false)(hd:∀H,Den X.K H d v):PE X (.Name x pos) (low X.K cls E2 fun _ M Q _=>Q d M):=mh (oq hg hm r hdb) hd
end
end L2
namespace L2
open PySem PySem.Spec PyProof.Rows
noncomputable def VS(X:Cx)(r:D->Option Int->Option Int->MH->VK3->Prop):Prop:=
 ∀(pins:List (Addr×Obj)) (s:Shared)(σ:St)(H:Hp)(x:D)(v:V)(v2 vl vu:Value)(lo hi:Option Int)(sl:Addr)(M:MH)(Q:VK3)(Q2:VK),Inv X pins σ H s->RelV v v2->Den X.K H x v->RelM X.K M H->s.heap.IsSliceOf sl vl vu .none->IsPart vl lo->IsPart vu hi->r x lo hi M Q->Back X.K H Q Q2->
  ∃T id,typeLookup (.type T) "__getitem__"=pure (some (.builtin id))/\s.TypeIs v2 T/\wpAny (model X.prog X.w) X.A (getItem v2 (.ref sl)) (EP X pins σ Q2) X.xe s
section
variable {X:Cx}{lo:Option Expr}
theorem VS.op(h:VS X r):SlR X (fun v lo hi H Q2=>∃x M Q,Den X.K H x v/\RelM X.K M H/\r x lo hi M Q/\Back X.K H Q Q2):=by
 intro pins s σ H v v2 vl vu lo hi sl Q2 I rv hs pl pu ⟨x,M,Q,dx,rm,q,back⟩;exact h pins s σ H x v v2 vl vu lo hi sl M Q Q2 I rv dx rm hs pl pu q back
theorem lu{K:PySem.W.Frag}{lo:Option Int}(dl:DenL K H ds vs):DenL K H (de ds lo hi) (nc vs lo hi):=by
 unfold de nc;rw[dl.length];exact (dl.drop _).take _
theorem C0(fz:Bool):VS X (lD fz):=by
 intro pins s σ H x v v2 vl vu lo hi sl M Q Q2 I rv dx rm hs pl pu q back;unfold lD at q;split at q
 ·rename_i ds;obtain⟨p,vs,rfl,sq,dl⟩:=dx;obtain⟨hw,q⟩:=q;refine ve pins s σ H _ v2 vl vu lo hi sl Q2 I rv hs pl pu ⟨p,vs,rfl,sq,fun z=>?_,fun p' hp=>?_⟩
  ·unfold whole at hw;rw[dl.length,z.1,z.2]at hw;simp at hw
  ·exact back _ _ (.tup (de ds lo hi)) _ ⟨p',_,rfl,.of ai,(lu dl).mono (.new hp)⟩ (rm.grow hp) (.new hp) q
 ·rename_i z;cases (show v=.str z from dx);obtain⟨t,rfl⟩:=rv;obtain⟨hz,q⟩:=q;have fin:∀t' k,EP X pins σ Q2 (.str (Txt.slice z lo hi) t') {s with toks:=k}:=fun t' k=>⟨.str _,H,I.tok _,⟨_,rfl⟩,back _ _ _ _ gX rm (.refl _) q⟩
  refine⟨"str",_,PySem.F.slot_str_getitem.lookup,typeIs_str _ _ _,?_⟩;cases pl with
  |none=>
   cases pu with
   |none=>exact wpAny_getItem_str_slice (l:=none) (u:=none) (st:=none) hs rfl (post_val_or_str ⟨Nat.le_trans (Txt.slice_le z _ _) hz,fin⟩)
   |int j u=>exact wpAny_getItem_str_slice (l:=none) (u:=some (j,u)) (st:=none) hs rfl (post_val_or_str ⟨Nat.le_trans (Txt.slice_le z _ _) hz,fin⟩)
  |int i u'=>
   cases pu with
   |none=>exact wpAny_getItem_str_slice (l:=some (i,u')) (u:=none) (st:=none) hs rfl (post_val_or_str ⟨Nat.le_trans (Txt.slice_le z _ _) hz,fin⟩)
   |int j u=>exact wpAny_getItem_str_slice (l:=some (i,u')) (u:=some (j,u)) (st:=none) hs rfl (post_val_or_str ⟨Nat.le_trans (Txt.slice_le z _ _) hz,fin⟩)
 ·split at q
  ·rename_i ds e;obtain⟨p,vs,rfl,hq,dl⟩:=cf rm e dx;cases rv;obtain⟨its,r,ht,hz⟩:=I.list hq.sq;have hlen:=r.length;refine⟨"list",_,slot_list_getitem.lookup,ht.isList.typeIs,?_⟩;refine wpAny_getItem_list_slice ht.isList hs pl pu .none (by simp) ?_ (by rw[List.size_toArray]<;>omega)
   rw[ju,<-hlen];have I2:=I.laid (t':=s.toks) (o:=.lst (nc vs lo hi)) (h':=s.heap.push {cls:=.type "list",data:=.seq ((its.drop (HT.sIx vs.length 0 lo)).take (HT.sIx vs.length vs.length hi - HT.sIx vs.length 0 lo)).toArray 0}) (fun b ob q=>Heap.get?_push_of_some _ q) (Nat.le_refl _)
    ⟨Nat.le_trans (gK vs lo hi) hz,_,0,(r.drop (HT.sIx vs.length 0 lo)).take (HT.sIx vs.length vs.length hi - HT.sIx vs.length 0 lo),Heap.get?_push_size _ rfl⟩
   exact d9 I2 (I.hok.fresh (Nat.le_refl _)) (lu dl) rm (.refl _) q back
  ·exact q.elim
theorem EH(ha:PE X a (low X.K cls E2 ta))(hl:PO X lo (p9 X.K cls E2 tl))(hh:PO X hi (p9 X.K cls E2 th)) :
  PE X (.Subscript a (.Slice lo hi none p2) pos) (low X.K cls E2 fun σ M Q E=>ta σ M (fun x M1=>tl σ M1 (fun l M2=>th σ M2 (fun h M3=>lD fz x l h M3 Q) E) E) E):=
 (sf (C0 fz).op ha hl hh).imp fun σ H Q2 hl_=>ex9 hl_ fun σ3 M Q E3 rm ds lk h back=>aX rm ds lk h fun v H1 x M1 dx rm1 t1 q1=>va rm1 (ds.mono t1) (lk.mono t1) q1 fun l H2 M2 rm2 t2 q2=>va rm2 ((ds.mono t1).mono t2) ((lk.mono t1).mono t2) q2 fun h H3 M3 rm3 t3 q3=>
  ⟨x,M3,Q,(dx.mono t2).mono t3,rm3,q3,back.mono ((t1.trans t2).trans t3)⟩
theorem kj{K:PySem.W.Frag}:∀{ds:List D}{bs:List Bool}{vs:List V}{us:List Value},dQ ds=some bs->DenL K H ds vs->Vals vs us->LSm.BoolsAre us bs
 |[],bs,vs,us,e,dl,r=>by
  cases (show vs=[] from dl);cases r;cases (show some []=some bs from e);exact .nil
 |d::ds,bs,_,us,e,dl,r=>by
  obtain⟨v,vs,rfl,dv,dl⟩:=dl;cases r with
  |cons ru rt=>
   cases d with
   |bl b=>
    simp only[dQ]at e;split at e
    ·rename_i ns q;cases e;cases (show v=.bl b from dv);cases ru;exact .cons b (kj q dl rt)
    ·cases e
   |_=>cases e
theorem uR(al:Bool)(hc:X.calm=true):VC X (.builtin (if al=true then "all" else "any")) (rBi (if al=true then .all else .any)):=by
 intro pins s σ H xs vs us M Q Q2 I r dl rm q back;have hh:X.A.handled=none:=I.ok.hd hc;have key:∃x ds bs,xs=[x]/\ak M x=some ds/\dQ ds=some bs/\Q (.bl (if al=true then bs.all id else bs.any id)) M:=by
  cases al with
  |true=>
   simp only[if_true,rBi]at q;split at q
   ·split at q
    ·split at q
     ·exact⟨_,_,_,rfl,by assumption,by assumption,q⟩
     ·exact q.elim
    ·exact q.elim
   ·exact q.elim
  |false=>
   simp only[Bool.false_eq_true,if_false,rBi]at q;split at q
   ·split at q
    ·split at q
     ·exact⟨_,_,_,rfl,by assumption,by assumption,q⟩
     ·exact q.elim
    ·exact q.elim
   ·exact q.elim
 obtain⟨x,ds,bs,rfl,e1,e2,q⟩:=key;obtain⟨v,rfl,dv⟩:=eG dl;obtain⟨u,rfl,ru⟩:=gz r;obtain⟨p,ws,rfl,hq,dl2⟩:=cf rm e1 dv;cases ru;obtain⟨its,r2,pl',hz⟩:=I.list hq.sq;have hb:=kj e2 dl2 r2;have hl:=pl'.isList;have hlt:p < s.heap.objs.size:=by obtain⟨_,e,_⟩:=hl;exact Heap.lt_size e
 have fin:∀h' tk,(∀b o,s.heap.get? b=some o->h'.get? b=some o)->EP X pins σ Q2 (.bool (if al=true then bs.all id else bs.any id)) {s with heap:=h',toks:=tk}:=fun h' tk hk=>
  ⟨.bl _,H,I.kept (t':=tk) hk,rfl,back _ _ _ _ bx rm (.refl _) q⟩
 cases al with
 |true=>
  refine call_all_walk (wpAny_pyIter_list hl ?_);refine⟨s.heap.objs.size,[s.heap.objs.size,p],[s.heap.objs.size],its.toArray.size,_,_,fun i=>(bs[i]?).getD true,rfl,Walks.list (A:=X.A.in1) hh _ p (Nat.ne_of_lt hlt) its.toArray,
   ⟨⟨_,Heap.get?_push_size _ rfl,rfl,rfl⟩,hl.push _⟩,fun i v s' Q' E' hP hQ=>?_,fun h' tk hk=>?_⟩
  ·obtain⟨b,e,rfl⟩:=hb.get i v (by simpa using hP)
   simp only[e,Option.getD_some]at hQ;exact wpAny_truthy_bool hQ
  ·have e:((List.range its.toArray.size).all fun i=>(bs[i]?).getD true)=bs.all id:=by
    rw[List.size_toArray,hb.length];exact LSm.range_all bs
   rw[e];exact fin h' tk (LSm.kept_iter hk)
 |false=>
  refine call_any_walk (wpAny_pyIter_list hl ?_);refine⟨s.heap.objs.size,[s.heap.objs.size,p],[s.heap.objs.size],its.toArray.size,_,_,fun i=>(bs[i]?).getD false,rfl,Walks.list (A:=X.A.in1) hh _ p (Nat.ne_of_lt hlt) its.toArray,
   ⟨⟨_,Heap.get?_push_size _ rfl,rfl,rfl⟩,hl.push _⟩,fun i v s' Q' E' hP hQ=>?_,fun h' tk hk=>?_⟩
  ·obtain⟨b,e,rfl⟩:=hb.get i v (by simpa using hP)
   simp only[e,Option.getD_some]at hQ;exact wpAny_truthy_bool hQ
  ·have e:((List.range its.toArray.size).any fun i=>(bs[i]?).getD false)=bs.any id:=by
    rw[List.size_toArray,hb.length];exact LSm.range_any bs
   rw[e];exact fin h' tk (LSm.kept_iter hk)
end
end L2
namespace L2
open PySem PySem.Spec PyProof.Rows
noncomputable def TyV(X:Cx)(T:String)(x:V)(H:Hp):Prop:=∀(pins:List (Addr×Obj)) (σ:St)(s:Shared)(v:Value),Inv X pins σ H s->RelV x v->s.TypeIs v T/\∀a,v=.ref a->∃ob,s.heap.get? a=some ob/\ob.dict=none
section
variable {X:Cx}{o:Expr}{apos cpos pos:Pos}{id:String}
theorem v3(pa:PlainAttrs T)(slot:Slot T name id)(hty:typeOf (.builtin id)=pure (.type "method_descriptor"))(hm:MtR X id r)(ho:PE X o t2)(ha:PA X (e::es) ta)
  (hbase:attributeBase o name X.env (eval o X.env)=eval o X.env)
  (hfew:((backTo cpos (starEach (e::es) X.env)).all (fun x=>!x.1)&&(backToKw cpos (keywordEach [] X.env)).all (fun x=>x.1.isSome)
   &&decide ((e::es).length+([]:List Keyword).length+(if ([]:List Keyword).isEmpty then 0 else 1) < 30))=true)
  (hline:(apos.endLine == cpos.line)=true) (hs:starEach (e::es) X.env=(false,eval e X.env)::starEach es X.env) (hplain:(backTo cpos (starEach es X.env)).any (·.1)=false) :
  PE X (.Call (.Attribute o name apos) (e::es) [] cpos) (fun σ H Q=>t2 σ H fun x H1=>TyV X T x H1/\ta σ H1 fun xs H2=>r x xs H2 Q):=by
 intro pins s σ H Q I h;refine wpAny_Call_method_late hbase hfew hline rfl (thn (ho pins s σ H _ I h) fun v s1 ⟨x,H1,I1,r1,ty,q1⟩=>?_)
 obtain⟨h1,h2⟩:=ty pins σ s1 v I1 r1;refine⟨T,id,pa,slot,hty,h1,h2,?_⟩;have hA:=ha cpos pins s1 σ H1 _ I1 q1;rw[hs]at hA ⊢;refine Calls.callWith_builtin (by show (false||(backTo cpos (starEach es X.env)).any (·.1))=false;rw[hplain]<;>rfl) (Calls.evalArgs_plain ?_)
 exact thn hA fun us s2 ⟨vs,H2,I2,r2,q2⟩=>hm pins s2 σ H2 x vs v us Q I2 r1 r2 q2
theorem ue(pa:PlainAttrs T)(slot:Slot T name id)(hty:typeOf (.builtin id)=pure (.type "method_descriptor"))(hm:MtR X id r)(ho:PE X o t2)
  (hbase:attributeBase o name X.env (eval o X.env)=eval o X.env) (hline:(apos.endLine == cpos.line)=true):PE X (.Call (.Attribute o name apos) [] [] cpos) (fun σ H Q=>t2 σ H fun x H1=>TyV X T x H1/\r x [] H1 Q):=by
 intro pins s σ H Q I h;refine wpAny_Call_method0_late hbase hline (thn (ho pins s σ H _ I h) fun v s1 ⟨x,H1,I1,r1,ty,q1⟩=>?_)
 obtain⟨h1,h2⟩:=ty pins σ s1 v I1 r1;exact⟨T,id,pa,slot,hty,h1,h2,Calls.callWith_builtin rfl (PySem.evalArgs_none (hm pins s1 σ H1 x [] v [] Q I1 r1 .nil q1))⟩
noncomputable def VM(X:Cx)(id:String)(r:D->List D->MH->VK3->Prop):Prop:=
 ∀(pins:List (Addr×Obj)) (s:Shared)(σ:St)(H:Hp)(x:D)(xs:List D)(v:V)(vs:List V)(v2:Value)(us:List Value)(M:MH)(Q:VK3)(Q2:VK),Inv X pins σ H s->RelV v v2->Vals vs us->Den X.K H x v->DenL X.K H xs vs->RelM X.K M H->r x xs M Q->Back X.K H Q Q2->
  wpAny (model X.prog X.w) X.A (call (.builtin id) (v2::us)) (EP X pins σ Q2) X.xe s
theorem VM.op(h:VM X id r):MtR X id (fun v vs H Q2=>∃x xs M Q,Den X.K H x v/\DenL X.K H xs vs/\RelM X.K M H/\r x xs M Q/\Back X.K H Q Q2):=by
 intro pins s σ H v vs v2 us Q2 I rv rs ⟨x,xs,M,Q,dx,dl,rm,q,back⟩;exact h pins s σ H x xs v vs v2 us M Q Q2 I rv rs dx dl rm q back
noncomputable def TyD(X:Cx)(T:String)(tb:D->MH->Bool):Prop:=∀(x:D)(v:V)(M:MH)(H:Hp),Den X.K H x v->RelM X.K M H->tb x M=true->TyV X T v H
theorem rD(pa:PlainAttrs T)(slot:Slot T name id)(hty:typeOf (.builtin id)=pure (.type "method_descriptor"))(hm:VM X id r)(ht:TyD X T tb)(ho:PE X o (low X.K cls E2 to))(ha:PA X (e::es) (dG X.K cls E2 tr))
  (hbase:attributeBase o name X.env (eval o X.env)=eval o X.env) (hn:(e::es).length < 30)
  (hline:(apos.endLine == cpos.line)=true) (hs:starEach (e::es) X.env=(false,eval e X.env)::starEach es X.env) (hplain:(backTo cpos (starEach es X.env)).any (·.1)=false) :
  PE X (.Call (.Attribute o name apos) (e::es) [] cpos) (low X.K cls E2 fun σ M Q E=>to σ M (fun x M1=>tb x M1=true/\tr σ M1 (fun xs M2=>r x xs M2 Q) E) E):=by
 have hst:(backTo cpos (starEach (e::es) X.env)).any (·.1)=false:=by
  rw[hs];show ((false,_)::backTo cpos (starEach es X.env)).any (·.1)=false;rw[List.any_cons,hplain];rfl
 refine (v3 pa slot hty hm.op ho ha hbase (hJ hst hn) hline hs hplain).imp fun σ H Q2 hl_=>ex9 hl_ fun σ3 M Q E3 rm ds lk h back=>aX rm ds lk h fun v H1 x M1 dx rm1 t1 q1=>?_
 exact⟨ht x v M1 H1 dx rm1 q1.1,eK rm1 (ds.mono t1) (lk.mono t1) q1.2 fun vs H2 xs M2 dl rm2 t2 q2=>⟨x,xs,M2,Q,dx.mono t2,dl,rm2,q2,back.mono (t1.trans t2)⟩⟩
theorem lT(pa:PlainAttrs T)(slot:Slot T name id)(hty:typeOf (.builtin id)=pure (.type "method_descriptor"))(hm:VM X id r)(ht:TyD X T tb)(ho:PE X o (low X.K cls E2 to))
  (hbase:attributeBase o name X.env (eval o X.env)=eval o X.env) (hline:(apos.endLine == cpos.line)=true) :
  PE X (.Call (.Attribute o name apos) [] [] cpos) (low X.K cls E2 fun σ M Q E=>to σ M (fun x M1=>tb x M1=true/\r x [] M1 Q) E):=
 (ue pa slot hty hm.op ho hbase hline).imp fun σ H Q2 hl_=>ex9 hl_ fun σ3 M Q E3 rm ds lk h back=>aX rm ds lk h fun v H1 x M1 dx rm1 t1 q1=>⟨ht x v M1 H1 dx rm1 q1.1,x,[],M1,Q,dx,.nil,rm1,q1.2,back.mono t1⟩
theorem uu(hb:∀x M,tb x M=true->(ak M x).isSome=true):TyD X "list" tb:=fun x v M H dx rm h pins σ s v2 I rv=>by
 obtain⟨ds,e⟩:=Option.isSome_iff_exists.mp (hb x M h);obtain⟨p,vs,rfl,hq,dl⟩:=cf rm e dx;cases rv;obtain⟨its,_,pl,_⟩:=I.list hq.sq;refine⟨pl.isList.typeIs,fun a e=>?_⟩
 cases e;obtain⟨o,n,e,c,hd,_⟩:=pl;exact⟨o,e,hd⟩
theorem oE:∀{ds:List D}{k j:Nat},nI y ds k=some j->k<=j/\(∃d,ds[j - k]?=some d/\eqD d y=true)/\∀m d,m < j - k->ds[m]?=some d->eqD d y=false
 |[],_,_,e=>by cases e
 |d::r,k,j,e=>by
  simp only[nI]at e;by_cases h:eqD d y=true
  ·rw[if_pos h]at e;cases e;exact⟨Nat.le_refl _,⟨d,by simp,h⟩,fun m d' hm _=>absurd hm (by omega)⟩
  ·rw[if_neg h]at e;obtain⟨h1,⟨d1,h2,h3⟩,h4⟩:=oE e;refine⟨by omega,⟨d1,?_,h3⟩,fun m d' hm he=>?_⟩
   ·have:j - k=(j - (k+1))+1:=by omega
    rw[this,List.getElem?_cons_succ];exact h2
   ·cases m with
    |zero=>simp at he;subst he;simpa using h
    |succ m=>exact h4 m d' (by omega) (by simpa using he)
theorem kE:TyD X "dict" (tyB .get):=fun x v M H dx rm h pins σ s v2 I rv=>by
 simp only[tyB,Bool.or_eq_true]at h;rcases h with h|h
 ·obtain⟨⟨ks,ds⟩,e⟩:=Option.isSome_iff_exists.mp h;obtain⟨p,vs,rfl,rd,_⟩:=lL e rm dx;cases rv;obtain⟨_,_,ws,_,dd⟩:=gG I.hok rd;refine⟨dd.typeIs,fun b q=>?_⟩
  cases q;obtain⟨ob,_,_,h1,h2,_⟩:=dd;exact⟨ob,h1,h2.2.1⟩
 ·obtain⟨⟨ks,ds⟩,e⟩:=Option.isSome_iff_exists.mp h;obtain⟨p,vs,xs,rfl,rd,z,_⟩:=fB e rm dx;cases rv;have dd:=cx I rd z;refine⟨dd.typeIs,fun b q=>?_⟩
  cases q;obtain⟨ob,_,_,h1,h2,_⟩:=dd;exact⟨ob,h1,h2.2.1⟩
theorem OptDen.getD{K:PySem.W.Frag}{o:Option D}{ov:Option V}(h:OptDen K H o ov)(dv:Den K H d v):Den K H (o.getD d) (ov.getD v):=by
 cases o with
 |none=>cases ov with
  |none=>exact dv
  |some _=>exact h.elim
 |some d'=>cases ov with
  |none=>exact h.elim
  |some v'=>exact h
theorem gc{K:PySem.W.Frag}(h:DenL K H (d::ds) vs):∃v ws,vs=v::ws/\Den K H d v/\DenL K H ds ws:=by
 obtain⟨v,r,e,dv,dl⟩:=h;exact⟨v,r,e,dv,dl⟩
theorem rK(hu:X.A.units+64 < cLine):VM X "dict.get" (rBm .get):=by
 intro pins s σ H x xs v vs v2 us M Q Q2 I rv rs dx dl rm q back;simp only[rBm]at q;split at q
 ·rename_i y;split at q
  ·rename_i o e;obtain⟨yv,rfl,dy⟩:=eG dl;obtain⟨u,rfl,ru⟩:=rs.one;obtain⟨a,ov,rfl,g,od⟩:=fw e rm dx dy;cases rv;exact xo (by omega) I g ru fun w' s' I' rw'=>⟨_,H,I',rw',back _ _ _ _ (od.getD (show Den X.K H .non .non from rfl)) rm (.refl _) q⟩
  ·exact q.elim
 ·rename_i y z;split at q
  ·rename_i o e;obtain⟨yv,wv,rfl,dy,dw⟩:=gc dl;obtain⟨zv,rfl,dz⟩:=eG dw;obtain⟨u,w,rfl,ru,rw'⟩:=rs.two;obtain⟨a,ov,rfl,g,od⟩:=fw e rm dx dy;cases rv;exact wf (by omega) I g ru rw' fun w' s' I' rw'=>⟨_,H,I',rw',back _ _ _ _ (od.getD dz) rm (.refl _) q⟩
  ·exact q.elim
 ·exact q.elim
theorem xJ(hu:X.A.units+64 < cLine):yz X (fun o i v H R2=>∃x k y M R,Den X.K H x o/\Den X.K H k i/\Den X.K H y v/\RelM X.K M H/\bc x k y M R/\∀H' M',RelM X.K M' H'->TM X.K H H'->R M'->R2 H'):=by
 intro pins s σ H o i v ov iv u R2 I ro ri rv ⟨x,k,y,M,R,dx,dk,dy,rm,q,back⟩;unfold bc at q;split at q
 ·rename_i a;cases (show o=.ref a from dx);split at q
  ·rename_i ds n e;split at q
   ·rename_i j ej;cases (show i=.int n from dk);obtain⟨vs,e1,dl⟩:=rm a _ e;have tw:TM X.K H (upd H a (.lst (vs.set j v))):=.put e1 (fun _ z=>by cases z) fun _ _ z=>by cases z
    refine rG pins s σ H _ _ v ov iv u R2 I ro ri rv ⟨a,vs,n,j,rfl,rfl,e1,by rw[<-dl.length];exact ej,?_⟩
    exact back _ _ (rm.write (u:=.lst (ds.set j y)) e1 (fun _ z=>by cases z) (fun _ _ z=>by cases z) ⟨_,ai,(dl.set dy j).mono tw⟩) tw q
   ·exact q.elim
  ·rename_i ks ds e;split at q
   ·rename_i k' ek;cases ro;exact At (by omega) I rm e (jf ek dk) ri dy rv q.1 q.2 back
   ·exact q.elim
  ·rename_i ks ds e;split at q
   ·rename_i k' ek;cases ro;obtain⟨b,rfl,sq⟩:=lF ek dk;cases ri;exact xL (by omega) I rm e sq dy rv q.1 q.2 back
   ·exact q.elim
  ·exact q.elim
 ·exact q.elim
theorem sP(hu:X.A.units+64 < cLine)(ho:PE X o (low X.K cls E2 to))(hi:PE X ixe (low X.K cls E2 ti))(hv:PE X value (low X.K cls E2 tv))
  (ha:∀v,assign (.Subscript o ixe pos') X.env v=(do
   let ov<-holding [v] (eval o X.env)
   let iv<-holding [v,ov] (eval ixe X.env)
   standAt pos'
   holding [v,ov,iv] (setItem ov iv v)
   release [v,ov,iv] [])) (hs:swapsWithSole [.Subscript o ixe pos'] value pos.line X.env=pure false) (hw:swappedStores [.Subscript o ixe pos'] value X.env=pure none) (h1:(assignEach [.Subscript o ixe pos'] X.env).map (·.2)=[assign (.Subscript o ixe pos') X.env]) :
  PS X (.Assign [.Subscript o ixe pos'] value pos) (bN X.K cls E2 fun D E σ M=>tv σ M (fun y M1=>to σ M1 (fun x M2=>ti σ M2 (fun k M3=>bc x k y M3 fun M4=>D.nx σ M4) (E σ)) (E σ)) (E σ)):=
 (sr hv (zl ho hi (xJ hu) ha) hs hw h1).imp fun D2 σ H hl_=>ex9 hl_ fun σ3 M D3 E3 rm ds lk h er=>aX rm ds (lk.at ds) h fun v H1 y M1 dy rm1 t1 q1=>
  aX rm1 (ds.mono t1) ((lk.at ds).mono t1) q1 fun w H2 x M2 dx rm2 t2 q2=>aX rm2 ((ds.mono t1).mono t2) (((lk.at ds).mono t1).mono t2) q2 fun z H3 k M3 dk rm3 t3 q3=>
   ⟨x,k,y,M3,_,dx.mono t3,dk,(dy.mono t2).mono t3,rm3,q3,fun H' M' rm' t' q'=>er.nx _ _ σ3 M' rm' ((((ds.mono t1).mono t2).mono t3).mono t') (((t1.trans t2).trans t3).trans t') q'⟩
end
end L2
namespace L2
open PySem PySem.Spec PyProof.Rows PySem.W
section
variable {A:Around}{s:Shared} [DecidableEq κ] {knd:HeapKind prog w κ}{xs:List (κ×Addr×Value)}{p:Addr×Value}
end
section
variable {X:Cx}
end
end L2
namespace L2
open PySem PySem.Spec PyProof.Rows
section
variable {X:Cx}
theorem VM.of{id:String}{r3:D->List D->MH->VK3->Prop}{r:V->List V->Hp->VK->Prop}(h:MtM X id r)
  (hr:∀(H:Hp)(x:D)(xs:List D)(v:V)(vs:List V)(M:MH)(Q:VK3)(Q2:VK),Den X.K H x v->DenL X.K H xs vs->RelM X.K M H->r3 x xs M Q->Back X.K H Q Q2->r v vs H Q2):VM X id r3:=
 fun pins s σ H x xs v vs v2 us M Q Q2 I rv rs dx dl rm q back=>h pins s σ H v vs v2 us Q2 I rv rs (hr H x xs v vs M Q Q2 dx dl rm q back)
theorem cS:TyD X "list" isLstM:=uu fun x M h=>by
 unfold isLstM at h;split at h
 ·split at h
  ·rename_i e;simp[ak,e]
  ·cases h
 ·cases h
theorem DenL.app{K:PySem.W.Frag}:∀{ds es:List D}{vs ws:List V},DenL K H ds vs->DenL K H es ws->DenL K H (ds++es) (vs++ws)
 |[],es,vs,ws,h,g=>by cases (show vs=[] from h);exact g
 |d::ds,es,vs,ws,h,g=>by
  obtain⟨v,us,rfl,dv,dw⟩:=gc h;exact .cons dv (DenL.app dw g)
theorem kN{K:PySem.W.Frag}{H:Hp}{M:MH}{a:Addr}{ds es:List D}{vs:List V}(rm:RelM K M H)(e:H a=some (.lst vs))(ws:List V)(h:DenL K H es ws):RelM K (put M a (.lst es)) (upd H a (.lst ws))/\TM K H (upd H a (.lst ws)):=by
 have tw:TM K H (upd H a (.lst ws)):=.put e (fun _ z=>by cases z) fun _ _ z=>by cases z
 exact⟨rm.write (u:=.lst es) e (fun _ z=>by cases z) (fun _ _ z=>by cases z) ⟨_,ai,h.mono tw⟩,tw⟩
noncomputable def r0:V->List V->Hp->VK->Prop:=fun x vs H Q=>∃l b xs zs,x=.ref l/\vs=[.ref b]/\H l=some (.lst xs)/\RdL X.K H b zs/\xs.length+zs.length<=sizeLine/\Q .non (upd H l (.lst (xs++zs)))
theorem m7:MtM X "list.extend" (r0 (X:=X)):=by
 intro pins s σ H x vs v us Q I rx rv h;obtain⟨l,b,xs,zs,rfl,rfl,hH,hB,hz,q⟩:=h;cases rx;obtain⟨u,rfl,ru⟩:=rv.one;cases ru;obtain⟨z,its,n,r,hl,e⟩:=I.lstM hH;obtain⟨z2,its2,n2,r2,hl2,e2⟩:=I.rdL hB;have hsz:its.toArray.size+its2.toArray.size<=sizeLine:=by rw[List.size_toArray,List.size_toArray];omega
 have hlong:¬ (!its.toArray.isEmpty&&Builtin.List.listTooLong (its.toArray.size+its2.toArray.size))=true:=by
  rw[qV hsz,Bool.and_false];exact Bool.false_ne_true
 refine call_meets F.slot_list_extend ⟨_,e,rfl⟩ F.entry_list_extend (F.args_list_extend_2 _ _)
  (AutoSeq1.list_extend_list_list_0 l its.toArray n b its2.toArray n2 hlong (by rw[List.size_toArray];omega) (by omega)) ⟨e,e2,?_⟩
 refine⟨.non,_,I.lset (its':=its++its2) hH e (by simp) (r.append r2) ?_,rfl,q⟩
 rw[List.length_append];omega
theorem j3:VM X "list.extend" (rBm .extend):=VM.of m7 fun H x xs v vs M Q Q2 dx dl rm q back=>by
 simp only[rBm]at q;split at q
 ·rename_i a y;split at q
  ·rename_i ds es e e';obtain⟨ws,e1,dw⟩:=rm a _ e;cases (show v=.ref a from dx);obtain⟨yv,rfl,dy⟩:=eG dl;obtain⟨p,us,rfl,hq,du⟩:=cf rm e' dy;obtain⟨r1,t1⟩:=kN (ds:=ds) rm e1 _ (dw.append du);exact⟨a,p,ws,us,rfl,rfl,e1,hq,by rw[<-dw.length,<-du.length];exact q.1,back _ _ .non _ rfl r1 t1 q.2⟩
  ·exact q.elim
 ·exact q.elim
theorem lA:VM X "list.clear" (rBm .clear):=VM.of rV fun H x xs v vs M Q Q2 dx dl rm q back=>by
 simp only[rBm]at q;split at q
 ·rename_i a;split at q
  ·rename_i ds e;obtain⟨ws,e1,dw⟩:=rm a _ e;cases (show v=.ref a from dx);cases (show vs=[] from dl);obtain⟨r1,t1⟩:=kN (ds:=ds) (es:=[]) rm e1 [] .nil;exact⟨a,ws,rfl,rfl,e1,back _ _ .non _ rfl r1 t1 q⟩
  ·exact q.elim
 ·exact q.elim
theorem DenL.at{K:PySem.W.Frag}{H:Hp}{ds:List D}{vs:List V}{k:Nat}{d:D}(h:DenL K H ds vs)(e:ds[k]?=some d):∃v,vs[k]?=some v/\Den K H d v:=h.get e
theorem DenL.erase{K:PySem.W.Frag}{H:Hp}{ds:List D}{vs:List V}(k:Nat)(h:DenL K H ds vs):DenL K H (ds.eraseIdx k) (vs.eraseIdx k):=by
 rw[List.eraseIdx_eq_take_drop_succ,List.eraseIdx_eq_take_drop_succ];exact (h.take _).app (h.drop _)
end
end L2
namespace L2
open PySem PySem.Spec PyProof.Rows SeqAt PySem.MeetsSeq AutoSeq1
theorem nV(p:Addr)(its:Array Value)(c:Nat)(x:Value)(f:Value->Bool)(j:Nat)(hj:j < its.size)(hz:its.size<=sizeLine)(hit:f its[j]=true):∀(k i:Nat),j - i=k->i<=j->(∀m (hm:m < its.size),i<=m->m < j->f its[m]=false)->
  Meets (Builtin.«list.remove.loop» ⟨[.ref p,x,rawInt i],[]⟩) (fun A R s=>s.heap.get? p=some {cls:=.type "list",dict:=none,data:=.seq its c,slots:=#[]}/\(∀y,y∈its->EqAt A.in1 s y x (f y))/\R (.ok (.ret .none)) {s with heap:=s.heap.update p (Obj.mapSeq fun xs=>xs.eraseIdxIfInBounds j)})
 |0,i,e,hle,_=>by
  intro prog w A R s q;obtain⟨h1,h2,h3,h4,h5⟩:=s;obtain⟨hg,he,q⟩:=q;obtain rfl:i=j:=by omega
  wp_walk using wpAny_loadPart' hg
  rw[show its[((i:Nat):Int).toNat]?=some its[i] by simp[hj]]
  refine wpAny_bind (he _ (Array.getElem_mem hj) prog w _ _ ?_);rw[hit];have z2:(its.eraseIdxIfInBounds i).size<=sizeLine+1:=Nat.le_trans (size_erased its _) (Nat.le_succ_of_le hz)
  wp_walk using (wpAny_updateSeq hg rfl (hz:=hz) (_hz':=z2)),wpAny_loadPart' hg
  simpa using q
 |k+1,i,e,hle,hno=>by
  intro prog w A R s q;obtain⟨h1,h2,h3,h4,h5⟩:=s;obtain⟨hg,he,q⟩:=q;have lt:i < its.size:=by omega
  wp_walk using wpAny_loadPart' hg
  rw[show its[((i:Nat):Int).toNat]?=some its[i] by simp[lt]]
  refine wpAny_bind (he _ (Array.getElem_mem lt) prog w _ _ ?_);rw[hno i lt (Nat.le_refl _) (by omega)]
  wp_walk
  rw[show ((i:Int)+1)=((i+1:Nat):Int) by push_cast;rfl]
  exact⟨plainId_quiet plain_remove_loop _,codeAny_builtin entry_remove_loop (by
   rw[Around.under_plainId plain_remove_loop _];exact nV p its c x f j hj hz hit k (i+1) (by omega) (by omega) (fun m hm a b=>hno m hm (by omega) b) prog w A R _ ⟨hg,he,q⟩)⟩
theorem CD(p:Addr)(its:Array Value)(c:Nat)(x:Value)(f:Value->Bool)(j:Nat)(hj:j < its.size)(hz:its.size<=sizeLine)(hit:f its[j]=true)(hno:∀m (hm:m < its.size),m < j->f its[m]=false) :
  Meets (Builtin.«list.remove» ⟨[.ref p,x],[]⟩) (fun A R s=>s.heap.get? p=some {cls:=.type "list",dict:=none,data:=.seq its c,slots:=#[]}/\(∀y,y∈its->EqAt A.in1 s y x (f y))/\R (.ok (.ret .none)) {s with heap:=s.heap.update p (Obj.mapSeq fun xs=>xs.eraseIdxIfInBounds j)}):=by
 intro prog w A R s q;obtain⟨h1,h2,h3,h4,h5⟩:=s;obtain⟨hg,he,q⟩:=q
 wp_walk using wpAny_loadPart' hg
 exact⟨plainId_quiet plain_remove_loop _,codeAny_builtin entry_remove_loop (by
  rw[Around.under_plainId plain_remove_loop _];exact nV p its c x f j hj hz hit j 0 (by omega) (Nat.zero_le _) (fun m hm _ b=>hno m hm b) prog w A R _ ⟨hg,he,q⟩)⟩
theorem jh:∀{vs:List V}{us:List Value},Vals vs us->∀j,Vals (vs.eraseIdx j) (us.eraseIdx j)
 |_,_,.nil,_=>.nil
 |_,_,.cons _ r,0=>r
 |_,_,.cons h r,j+1=>.cons h (jh r j)
theorem j2{X:Cx}(hu:X.A.units+64 < cLine):VM X "list.remove" (rBm .remove):=by
 intro pins s σ H x xs v vs v2 us M Q Q2 I rv rs dx dl rm q back;simp only[rBm]at q;split at q
 ·rename_i p y;split at q
  ·rename_i ds e;obtain⟨⟨p1,p2⟩,q⟩:=q;split at q
   ·rename_i j ej;obtain⟨_,⟨d1,h2,h3⟩,h4⟩:=oE ej;obtain⟨ws,hH,dl2⟩:=rm p _ e;cases (show v=.ref p from dx);cases rv;obtain⟨yv,rfl,dy⟩:=eG dl;obtain⟨u,rfl,ru⟩:=rs.one;obtain⟨z,its,n,r2,hl2,ho⟩:=I.lstM hH;obtain⟨H',I',t',d2⟩:=mj I rm dy p1;have dl':=dl2.mono t';have pd:=gt dl' r2
    classical
    let f:Value->Bool:=fun w=>if h:∃d∈ds,∃v,Den X.K H' d v/\RelV v w then eqD h.choose (res M y) else false
    have hf:∀d w,d∈ds->(∃v,Den X.K H' d v/\RelV v w)->f w=eqD d (res M y):=fun d w hd ⟨v',dv,rw'⟩=>by
     have h:∃d∈ds,∃v,Den X.K H' d v/\RelV v w:=⟨d,hd,v',dv,rw'⟩;obtain⟨hm,v'',dv2,rw2⟩:=h.choose_spec;have:v''=v':=rw2.inj rw';subst this;have e1:h.choose=d:=kz I' rfl 8 (List.all_eq_true.mp p2 _ hm) (List.all_eq_true.mp p2 _ hd) dv2 dv;show (if h:∃d∈ds,∃v,Den X.K H' d v/\RelV v w then eqD h.choose (res M y) else false)=_
     rw[dif_pos h,e1]
    have hat:∀(m:Nat)(hm:m < its.toArray.size),∃d,ds[m]?=some d/\f its.toArray[m]=eqD d (res M y):=fun m hm=>by
     have hm':m < ds.length:=by rw[dl2.length,hl2];simpa using hm
     refine⟨ds[m],by simp[hm'],?_⟩
     obtain⟨v',e1,e2⟩:=dl'.get (i:=m) (d:=ds[m]) (by simp[hm'])
     obtain⟨w',e3,e4⟩:=r2.get e1;have:its.toArray[m]=w':=by
      have hm2:m < its.length:=by simpa using hm
      have:its[m]?=some its[m]:=by simp[hm2]
      rw[this]at e3;simpa using e3
     rw[this];exact hf _ _ (List.getElem_mem hm') ⟨v',e2,e4⟩
    have hj:j < its.toArray.size:=by
     have h5:j < ds.length:=(List.getElem?_eq_some_iff.mp (by simpa using h2)).1
     rw[List.size_toArray,<-hl2,<-dl2.length];exact h5
    have hzz:its.toArray.size<=sizeLine:=by rw[List.size_toArray,<-hl2];exact z
    obtain⟨r1,t1⟩:=kN (ds:=ds) rm hH _ (dl2.erase j);refine call_meets PySem.F.slot_list_remove ⟨_,ho,rfl⟩ PySem.F.entry_list_remove (PySem.F.args_list_remove_2 _ _) (CD p its.toArray n u f j hj hzz ?_ ?_) ⟨ho,fun w hw=>?_,?_⟩
    ·obtain⟨d,e1,e2⟩:=hat j hj;rw[e2];simp at h2;rw[e1]at h2;cases h2;exact h3
    ·intro m hm hlt;obtain⟨d,e1,e2⟩:=hat m hm;rw[e2];exact h4 m d (by simpa using hlt) e1
    ·obtain⟨d,hd,v',dv,rw'⟩:=Paired.mem_right pd w (by simpa using hw)
     rw[hf d w hd ⟨v',dv,rw'⟩];exact (wz I' rfl 8 (A:=X.A.in1) (List.all_eq_true.mp p2 _ hd) p1 dv d2 rw' ru (by show X.A.units+1+8 < cLine;omega)).2.2
    ·refine⟨.non,_,I.lset (its':=its.eraseIdx j) hH ho ?_ (jh r2 j) ?_,rfl,back _ _ .non _ rfl r1 t1 q⟩
     ·show its.toArray.eraseIdxIfInBounds j=_;unfold Array.eraseIdxIfInBounds;rw[dif_pos hj];simp
     ·exact Nat.le_trans (by rw[List.length_eraseIdx];split<;>omega) z
   ·exact q.elim
  ·exact q.elim
 ·exact q.elim
end L2
namespace L2
open PySem PySem.Spec PyProof.Rows PySem.W
section
variable {X:Cx}
theorem zQ{A:Around}{s:Shared}{kvs:List (Key×V)}{k:Key}{d:V}{u r:Value}{Q:Value->Shared->Prop}(I:Inv X pins σ H s)(e:H a=some (.dK kvs))(ry:RelV (kV k) u)(rd:RelV d r)(l:kvs.length < sizeLine)
  (h1:∀v,cA kvs k=some v->∀w' s',Inv X pins σ H s'->RelV v w'->Q w' s') (h2:cA kvs k=none->∀s',Inv X pins σ (upd H a (.dK (cQ kvs k d))) s'->Q r s') :
  wpAny (model X.prog X.w) A (call (.builtin "dict.setdefault") [.ref a,u,r]) Q E s:=by
 obtain⟨z,hd,vs,rel,dd⟩:=qS I.hok e;have hz:vs.length<=sizeLine:=by rw[<-rel.length];exact z
 refine call_meetsIn PySem.F.slot_dict_setdefault dd.typeIs PySem.F.entry_dict_setdefault (PySem.F.args_dict_setdefault_3 _ _ _) (kt_meets_setdefault (aE X.prog X.w) a (gC ry) hd r) ⟨vs,dd,hz,fun v hv=>?_,fun hv h' dd' hs=>?_⟩
 ·have q:=rel.val k;rw[hv]at q;cases g:cA kvs k with
  |none=>rw[g]at q;exact q.elim
  |some v'=>rw[g]at q;exact h1 v' g v _ (I.tok _) q
 ·have q:=rel.val k;rw[hv]at q;have hl:(cQ kvs k d).length<=sizeLine:=by have:=dO kvs k d;omega
  have he:∃q,h'.get? a=some q:=let ⟨q,_,_,hq,_⟩:=dd';⟨q,hq⟩
  cases g:cA kvs k with
  |some v'=>rw[g]at q;exact q.elim
  |none=>exact h2 g _ (gY I (by rw[e];exact True.intro) hs he (rR hl hd (rel.put k rd) dd'))
theorem lN:TyD X "dict" (tyB .setdef):=kE
theorem jK:VM X "dict.setdefault" (rBm .setdef):=by
 intro pins s σ H x xs v vs v2 us M Q Q2 I rv rs dx dl rm q back;simp only[rBm]at q;split at q
 ·rename_i a y z;split at q
  ·rename_i ks ds k e ek;obtain⟨hz,q⟩:=q;obtain⟨yv,wv,rfl,dy,dw⟩:=gc dl;obtain⟨zv,rfl,dz⟩:=eG dw;obtain⟨u,w,rfl,ru,rw'⟩:=rs.two;cases (show v=.ref a from dx);cases rv;obtain⟨vs,eH,hl,dl0⟩:=rm a _ e;have hk:=jf ek dy;subst hk;have g:=fK (k:=k) dl0 hl;obtain⟨vs',h1,h2,h3⟩:=jc (k:=k) (v:=zv) (lq I eH hl) dl0 hl dz;refine zQ I eH ru rw' (by rw[List.length_zip,hl,Nat.min_self,<-hl];exact hz) (fun v' hv w' s' I' r'=>?_) (fun hv s' I'=>?_)
   ·cases q0:getD ks ds k with
    |none=>rw[g.2 q0]at hv;cases hv
    |some d0=>
     obtain⟨w0,h1,h2⟩:=g.1 d0 q0;rw[q0]at q;rw[h1]at hv;cases hv;exact⟨_,H,I',r',back _ _ _ _ h2 rm (.refl _) q⟩
   ·cases q0:getD ks ds k with
    |some d0=>obtain⟨w0,h1,h2⟩:=g.1 d0 q0;rw[h1]at hv;cases hv
    |none=>
     rw[q0]at q;have tw:TM X.K H (upd H a (.dK (cQ (ks.zip vs) k zv))):=.put eH (fun _ z=>by cases z) fun _ _ z=>by cases z
     exact⟨_,_,I',rw',back _ _ _ _ (dz.mono tw) (rm.write (u:=.dk (am ks k) (au ks ds k z)) eH (fun _ z=>by cases z) (fun _ _ z=>by cases z) ⟨vs',by rw[ai,h1],h2,h3.mono tw⟩) tw q⟩
  ·exact q.elim
 ·exact q.elim
end
end L2
namespace L2
open PySem PySem.Spec PyProof.Rows PySem.Calls PySem.NumText PySem.W.KIN
end L2
namespace L2
open PySem PySem.Spec PyProof.Rows
noncomputable def xH(K:PySem.W.Frag):Prop:=PySem.W.nsIn K cStatics "sys.int_max_str_digits"=some none
section
variable {X:Cx}
end
end L2
namespace L2
open PySem PySem.Spec PyProof.Rows
section
variable {X:Cx}{s:Shared}{h':Heap}
theorem Inv.turned2(I:Inv X pins σ H s)(k:∀b o,b≠it->b≠it'->s.heap.get? b=some o->h'.get? b=some o)(f:eX X pins H it)(f':eX X pins H it'):Inv X pins σ H {s with heap:=h',toks:=t'}:=by
 obtain⟨hn,hL,_,h1,h2,h3⟩:=f;obtain⟨hn',hL',_,h1',h2',h3'⟩:=f';have nit:∀b u,H b=some u->b≠it:=fun b u e z=>by rw[z,hn]at e;cases e
 have nit':∀b u,H b=some u->b≠it':=fun b u e z=>by rw[z,hn']at e;cases e
 have kc:∀b o,b∉[it,it']->s.heap.get? b=some o->h'.get? b=some o:=fun b o hc e=>k b o (fun z=>hc (by simp[z])) (fun z=>hc (by simp[z])) e
 refine I.step (g':=s.gens) (d':=s.drawn) (ch:=[it,it']) (fun b hb=>?_) (fun b o _ _ hc e _=>kc b o hc e) (fun b o _ _ hc e _=>⟨o.slots,kc b o hc e⟩) (fun _ _ _ _ n=>n)
  (fun b o hc e=>⟨o,kc b o hc e⟩) (fun _ _ e=>e) (fun _ _ _ e=>e) (fun b ps e=>⟨#[],by rw[e];simp⟩) (fun m hm=>?_) (fun b u e=>?_) I.bare
 ·rcases List.mem_cons.mp hb with rfl|hb
  ·exact⟨h1,hL,h2,h3⟩
  ·have e:b=it':=by simpa using hb
   subst e;exact⟨h1',hL',h2',h3'⟩
 ·obtain⟨o,es,ep,ho,r⟩:=hm;exact⟨o,es,ep,k _ o (Ne.symm hL) (Ne.symm hL') ho,r⟩
 ·refine (I.hok b u e).stay (fun c v hc q=>k c v ?_ ?_ q) (fun _ q=>q) fun _ _ q=>q
  ·rcases hc with z|z
   ·rw[z];exact nit b u e
   ·exact nit c _ z
  ·rcases hc with z|z
   ·rw[z];exact nit' b u e
   ·exact nit' c _ z
noncomputable def Ite(K:PySem.W.Frag)(a:Addr):It:=
 ⟨fun i H=>∃xs x,SqL K H a xs/\xs[i]?=some x,fun i H v H'=>∃p,v=.ref p/\H p=none/\∃x,(∀xs,SqL K H a xs->xs[i]?=some x)/\H'=upd H p (.tup [.int i,x]),fun i H=>∃xs,SqL K H a xs/\xs.length<=i⟩
theorem pA{K:PySem.W.Frag}(a e it:Addr)(hne:e≠it):Turn P w K (.Tuple elts x1 pos) (Ite K a) [e,it] e (fun i h=>(∃old,IsEnum h e it i old)/\h.IsListIter it a i) where
 mem:=by simp
 obj:=fun i h st b hb=>by
  obtain⟨⟨old,h1⟩,h2⟩:=st;rcases List.mem_cons.mp hb with rfl|hb
  ·exact⟨_,h1,fun v z=>by
    have z':Data.fields _=Data.cell v:=z;cases z'⟩
  ·have e':b=it:=by simpa using hb
   subst e';obtain⟨o,e1,c,d⟩:=h2;exact⟨o,e1,fun v z=>by rw[d]at z;cases z⟩
 keep:=fun i h h' st k=>⟨let ⟨old,h1⟩:=st.1;⟨old,k e (by simp) _ h1⟩,st.2.at fun o e1=>k it (by simp) o e1⟩
 item:=by
  intro X hP hw hK hc i pins s σ H E I hf st hg;subst hP hw hK;obtain⟨xs,x,hq,hx⟩:=hg;obtain⟨its,rv,p,hz⟩:=I.list hq;obtain⟨u,hu,ru⟩:=rv.get hx;obtain⟨⟨old,he⟩,hit⟩:=st;have fe:=hf e (by simp)
  have fi:=hf it (by simp)
  have hel:e < s.heap.objs.size:=Heap.lt_size he;obtain⟨oi,hoi,_⟩:=id hit;have hil:it < s.heap.objs.size:=Heap.lt_size hoi;refine wpAny_pyNext_enum_item he hit p.isList (x:=u) (by simpa using hu) hne fun h' heo hit' ht hsz k=>?_
  have hp:H s.heap.objs.size=none:=I.hok.fresh (Nat.le_refl _);have I1:Inv X pins σ (upd H s.heap.objs.size (.tup [.int i,x])) {s with heap:=s.heap.push {cls:=.type "tuple",data:=.seq #[.int i s.toks,u]},toks:=s.toks+1}:=
   I.laid (fun b o e1=>Heap.get?_push_of_some _ e1) (Nat.le_refl _) ⟨by show 2<=sizeLine;decide,[.int i s.toks,u],.cons ⟨_,rfl⟩ (.cons ru .nil),⟨_,Heap.get?_push_size _ rfl,rfl,_,rfl⟩⟩
  have fe':eX X pins (upd H s.heap.objs.size (.tup [.int i,x])) e:=⟨by rw[ag (Nat.ne_of_lt hel)];exact fe.1,fe.2⟩
  have fi':eX X pins (upd H s.heap.objs.size (.tup [.int i,x])) it:=⟨by rw[ag (Nat.ne_of_lt hil)];exact fi.1,fi.2⟩
  have I2:Inv X pins σ (upd H s.heap.objs.size (.tup [.int i,x])) {s with heap:=h',toks:=s.toks+1}:=I1.turned2 (t':=s.toks+1) (fun b o h1 h2 e1=>by
   by_cases hb:b=s.heap.objs.size
   ·subst hb;have e2:(s.heap.push {cls:=.type "tuple",data:=.seq #[.int i s.toks,u]}).get? s.heap.objs.size=some {cls:=.type "tuple",data:=.seq #[.int i s.toks,u]}:=Heap.get?_push_size _ rfl;rw[e2]at e1;cases e1;exact ht
   ·exact k b o h1 h2 ((Heap.get?_push_ne _ _ _ hb).symm.trans e1)) fe' fi'
  refine⟨.ref s.heap.objs.size,rfl,wpAny_letOwnedTupleGo_enum (s:={s with heap:=h',toks:=s.toks+1}) heo fun h2 he2 hs2=>?_⟩
  obtain⟨f0,f1,f2,f3,f4,f5⟩:=fe';have I3:Inv X pins σ (upd H s.heap.objs.size (.tup [.int i,x])) {s with heap:=h2,toks:=s.toks+1}:=I2.turned (t':=s.toks+1) (fun b o hb e1=>(hs2.2 b hb).trans e1) f0 f1 f3 f4 f5
  refine⟨.ref s.heap.objs.size,_,I3,rfl,⟨_,rfl,hp,x,fun ys hy=>by rw[I.list_inj hy hq];exact hx,rfl⟩,⟨⟨_,he2⟩,?_⟩,fun b hb=>?_⟩
  ·exact hit'.at fun o e1=>(hs2.2 it (Ne.symm hne)).trans e1
  ·rcases List.mem_cons.mp hb with rfl|hb
   ·exact f0
   ·have e':b=it:=by simpa using hb
    subst e';exact fi'.1
 done:=by
  intro X hP hw hK hc i pins s σ H E I hf st hg;subst hP hw hK;obtain⟨xs,hq,hx⟩:=hg;obtain⟨its,rv,p,hz⟩:=I.list hq;obtain⟨⟨old,he⟩,hit⟩:=st;obtain⟨f0,f1,f2,f3,f4,f5⟩:=hf it (by simp)
  have hl:=rv.length;exact wpAny_pyNext_enum_end (I.ok.hd hc) he hit p.isList (by simp;omega) fun h' eb=>⟨rfl,I.turned (t':=s.toks) (fun b o hb e=>eb b o hb e) f0 f1 f3 f4 f5⟩
 self:=fun _ _ _ _ _ st h=>let ⟨⟨_,he⟩,_⟩:=st;wpAny_pyIter_enum he h
theorem gu:∀{ds:List D}{k i:Nat}{d:D},ds[i]?=some d->(be k ds)[i]?=some (.tup [.int (k+i:Nat),d])
 |[],_,_,_,h=>by simp at h
 |x::r,k,0,d,h=>by
  have e:x=d:=by simpa using h
  subst e;rfl
 |x::r,k,i+1,d,h=>by
  have:=gu (ds:=r) (k:=k+1) (i:=i) (d:=d) (by simpa using h)
  rw[show k+1+i=k+(i+1) by omega]at this
  exact this
theorem cR:∀{ds:List D}{k:Nat},(be k ds).length=ds.length
 |[],_=>rfl
 |x::r,k=>by
  show (be (k+1) r).length+1=r.length+1;rw[cR]
theorem uM{K:PySem.W.Frag}(sq:SqF K H0 p vs)(dl:DenL K H0 ds vs):ItOk K H0 (Ite K p) (be 0 ds) (fun _=>True):=by
 have hlen:=dl.length;refine⟨fun i H M t rm s hi=>?_,fun i H M x H' t rm s hi y=>?_,fun H M t rm s=>?_⟩
 ·rw[cR]at hi;have hi':i < vs.length:=by omega
  exact⟨vs,vs[i],(t.f _ _ sq).sq,by simp[hi']⟩
 ·obtain⟨q,rfl,hq,v,hv,rfl⟩:=y;obtain⟨d,e1,e2⟩:=(dl.mono t).get' (hv vs (t.f _ _ sq).sq);refine⟨.new hq,rm.grow hq,.tup [.int i,d],?_,⟨q,[.int i,v],rfl,.inl (.inl ai),⟨_,_,rfl,rfl,_,_,rfl,e2.mono (.new hq),rfl⟩⟩⟩;have:=gu (k:=0) e1;simpa using this
 ·rw[cR];exact⟨vs,(t.f _ _ sq).sq,by omega⟩
theorem qP{K:PySem.W.Frag}:ItOk K H0 (Ite K p) (be 0 ds) (fun M=>M p=some (.lst ds)):=by
 refine⟨fun i H M t rm s hi=>?_,fun i H M x H' t rm s hi y=>?_,fun H M t rm s=>?_⟩
 ·obtain⟨vs,e,dl⟩:=rm p _ s;rw[cR]at hi;have hi':i < vs.length:=by rw[<-dl.length];exact hi
  exact⟨vs,vs[i],.of e,by simp[hi']⟩
 ·obtain⟨vs,e,dl⟩:=rm p _ s;obtain⟨q,rfl,hq,v,hv,rfl⟩:=y;obtain⟨d,e1,e2⟩:=dl.get' (hv vs (.of e));refine⟨.new hq,rm.grow hq,.tup [.int i,d],?_,⟨q,[.int i,v],rfl,.inl (.inl ai),⟨_,_,rfl,rfl,_,_,rfl,e2.mono (.new hq),rfl⟩⟩⟩;have:=gu (k:=0) e1;simpa using this
 ·obtain⟨vs,e,dl⟩:=rm p _ s;rw[cR];exact⟨vs,.of e,by rw[dl.length];exact Nat.le_refl _⟩
noncomputable def DI(K:PySem.W.Frag)(ta:TA):TI:=fun σ H R=>ta σ H fun vs H1=>∃a,vs=[.ref a]/\(∃xs,SqL K H1 a xs)/\R (Ite K a) H1
theorem tz(hg:Gl X "enumerate")(hm:X.mg "enumerate"=none)(ha:PA X [a] ta)(hs:starEach [a] X.env=[(false,eval a X.env)]):PI X (.Tuple elts x1 pt) (.Call (.Name "enumerate" p) [a] [] pos) (DI X.K ta):=by
 intro pins s σ H R I h;refine Call_ (gw I hg hm (u:=.type "enumerate") (by decide +kernel) (PyProof.Rows.callWith_type1 (thn (ha pos pins s σ H _ I h) fun us s1 ⟨vs,H1,I1,r1,q1⟩=>?_) hs rfl))
 obtain⟨b,e,⟨xs,hq⟩,q⟩:=q1;subst e;obtain⟨u,rfl,ru⟩:=gz r1;cases ru;obtain⟨its,rv,pl,hz⟩:=I1.list hq;refine call_enumerate_list pl.isList fun h' he hit hsz k=>?_
 refine wpAny_pyIter_enum (s:={s1 with heap:=h'}) he ?_
 refine⟨s1.heap.objs.size+1,[s1.heap.objs.size+1,s1.heap.objs.size],_,_,H1,rfl,I1.kept (t':=s1.toks) k,pA b (s1.heap.objs.size+1) s1.heap.objs.size (Nat.succ_ne_self _),⟨⟨_,he⟩,hit⟩,fun c hc=>?_,q⟩
 have hle:s1.heap.objs.size<=c:=by
  rcases List.mem_cons.mp hc with rfl|hc
  ·exact Nat.le_succ _
  ·have e':c=s1.heap.objs.size:=by simpa using hc
   exact Nat.le_of_eq e'.symm
 exact I1.fpOk hle (I1.hok.fresh hle)
theorem ym(hg:Gl X "enumerate")(hm:X.mg "enumerate"=none)(ha:PE X a (low X.K cls E2 ta))(hs:starEach [a] X.env=[(false,eval a X.env)]) :
  PI X (.Tuple elts x1 pt) (.Call (.Name "enumerate" p) [a] [] pos) (jB X.K cls E2 fun σ M R E=>ta σ M (fun x M1=>match x with
  |.rol ds=>R (be 0 ds) (fun _=>True) M1
  |.ref a=>match M1 a with
   |some (.lst ds)=>R (be 0 ds) (fun M=>M a=some (.lst ds)) M1
   |_=>False
  |_=>False) E):=
 (tz hg hm (ca ha pa_nil hs) hs).imp fun σ H R2 hl_=>ex9 hl_ fun σ3 M R E3 rm ds lk h k=>aX rm ds lk h fun v H1 x M1 dx rm1 t1 q1=>by
  cases x with
  |rol es=>
   obtain⟨q,vs,rfl,sq,dl⟩:=dx;exact⟨q,rfl,⟨vs,sq.sq⟩,k _ _ _ _ _ (uM sq dl) rm1 t1 q1⟩
  |ref a=>
   cases (show v=.ref a from dx);have q1:(match M1 a with
    |some (.lst ds)=>R (be 0 ds) (fun M=>M a=some (.lst ds)) M1
    |_=>False):=q1
   split at q1
   ·rename_i ds e;obtain⟨vs,eH,dl⟩:=rm1 a _ e;exact⟨a,rfl,⟨vs,.of eH⟩,k _ _ _ _ _ qP rm1 t1 q1⟩
   ·exact q1.elim
  |_=>exact q1.elim
end
end L2
namespace L2
open PySem PySem.Spec PyProof.Rows
section
variable {X:Cx}{s:Shared}{h':Heap}
theorem Inv.turnedL{t':Nat}{ch:List Addr}(I:Inv X pins σ H s)(k:∀b o,b∉ch->s.heap.get? b=some o->h'.get? b=some o)(f:∀b∈ch,eX X pins H b):Inv X pins σ H {s with heap:=h',toks:=t'}:=by
 have nit:∀b u,H b=some u->b∉ch:=fun b u e z=>by rw[(f b z).1]at e;cases e
 refine I.step (g':=s.gens) (d':=s.drawn) (ch:=ch) (fun b hb=>?_) (fun b o _ _ hc e _=>k b o hc e) (fun b o _ _ hc e _=>⟨o.slots,k b o hc e⟩) (fun _ _ _ _ n=>n)
  (fun b o hc e=>⟨o,k b o hc e⟩) (fun _ _ e=>e) (fun _ _ _ e=>e) (fun b ps e=>⟨#[],by rw[e];simp⟩) (fun m hm=>?_) (fun b u e=>?_) I.bare
 ·obtain⟨hn,hL,_,h1,h2,h3⟩:=f b hb;exact⟨h1,hL,h2,h3⟩
 ·obtain⟨o,es,ep,ho,r⟩:=hm;exact⟨o,es,ep,k _ o (fun z=>(f _ z).2.1 rfl) ho,r⟩
 ·refine (I.hok b u e).stay (fun c v hc q=>k c v ?_ q) (fun _ q=>q) fun _ _ q=>q
  rcases hc with z|z
  ·rw[z];exact nit b u e
  ·exact nit c _ z
noncomputable def Itz(K:PySem.W.Frag)(a b:Addr):It:=
 ⟨fun i H=>∃xs ys x y,SqL K H a xs/\SqL K H b ys/\xs[i]?=some x/\ys[i]?=some y,fun i H v H'=>∃p,v=.ref p/\H p=none/\∃x y,(∀xs,SqL K H a xs->xs[i]?=some x)/\(∀ys,SqL K H b ys->ys[i]?=some y)/\H'=upd H p (.tup [x,y]),fun i H=>∃xs ys,SqL K H a xs/\SqL K H b ys/\(xs.length<=i\/ys.length<=i)⟩
theorem qC{P:Program}{w:World}{K:PySem.W.Frag}{elts:List Expr}{x1:Nat}{pos:Pos}(a b z TI TO i1 i2:Addr)(D:ZipApart z TI TO i1 i2 a b):Turn P w K (.Tuple elts x1 pos) (Itz K a b) [z,TI,TO,i1,i2] z (fun i h=>IsZip h z TI TO .none/\IsPair h TI (.ref i1) (.ref i2)/\(∃c d,IsPair h TO c d)/\h.IsListIter i1 a i/\h.IsListIter i2 b i) where
 mem:=by simp
 obj:=fun i h st c hc=>by
  obtain⟨h1,h2,⟨_,_,h3⟩,h4,h5⟩:=st;simp only[List.mem_cons,List.not_mem_nil,or_false]at hc;rcases hc with rfl|rfl|rfl|rfl|rfl
  ·exact⟨_,h1,fun v q=>by have q':Data.fields _=Data.cell v:=q;cases q'⟩
  ·exact⟨_,h2,fun v q=>by have q':Data.seq _ _=Data.cell v:=q;cases q'⟩
  ·exact⟨_,h3,fun v q=>by have q':Data.seq _ _=Data.cell v:=q;cases q'⟩
  ·obtain⟨o,e1,c,d⟩:=h4;exact⟨o,e1,fun v q=>by rw[d]at q;cases q⟩
  ·obtain⟨o,e1,c,d⟩:=h5;exact⟨o,e1,fun v q=>by rw[d]at q;cases q⟩
 keep:=fun i h h' st k=>by
  obtain⟨h1,h2,⟨c,d,h3⟩,h4,h5⟩:=st;exact⟨k z (by simp) _ h1,k TI (by simp) _ h2,⟨c,d,k TO (by simp) _ h3⟩,h4.at fun o e1=>k i1 (by simp) o e1,h5.at fun o e1=>k i2 (by simp) o e1⟩
 item:=by
  intro X hP hw hK hc i pins s σ H E I hf st hg;subst hP hw hK;obtain⟨xs,ys,x,y,hq,hq2,hx,hy⟩:=hg;obtain⟨its,rv,p,hz⟩:=I.list hq;obtain⟨its2,rv2,p2,hz2⟩:=I.list hq2;obtain⟨u,hu,ru⟩:=rv.get hx;obtain⟨u2,hu2,ru2⟩:=rv2.get hy;obtain⟨h1,h2,⟨c,d,h3⟩,h4,h5⟩:=st;have lt:∀{c o},s.heap.get? c=some o->c < s.heap.objs.size:=fun e=>Heap.lt_size e
  refine wpAny_pyNext_zip_item D h1 h2 h3 h4 h5 p.isList p2.isList (x:=u) (y:=u2) (by simpa using hu) (by simpa using hu2) fun h' a1 a2 a3 a4 a5 a6 k=>?_
  have hp:H s.heap.objs.size=none:=I.hok.fresh (Nat.le_refl _);have I1:Inv X pins σ (upd H s.heap.objs.size (.tup [x,y])) {s with heap:=s.heap.push {cls:=.type "tuple",data:=.seq #[u,u2]},toks:=s.toks}:=
   I.laid (fun b o e1=>Heap.get?_push_of_some _ e1) (Nat.le_refl _) ⟨by show 2<=sizeLine;decide,[u,u2],.cons ru (.cons ru2 .nil),⟨_,Heap.get?_push_size _ rfl,rfl,_,rfl⟩⟩
  have hlt:∀b∈[z,TI,TO,i1,i2],b < s.heap.objs.size:=fun b hb=>by
   simp only[List.mem_cons,List.not_mem_nil,or_false]at hb;rcases hb with rfl|rfl|rfl|rfl|rfl
   ·exact lt h1
   ·exact lt h2
   ·exact lt h3
   ·obtain⟨_,e,_⟩:=h4;exact lt e
   ·obtain⟨_,e,_⟩:=h5;exact lt e
  have hf':∀b∈[z,TI,TO,i1,i2],eX X pins (upd H s.heap.objs.size (.tup [x,y])) b:=fun b hb=>⟨by rw[ag (Nat.ne_of_lt (hlt b hb))];exact (hf b hb).1,(hf b hb).2⟩
  have I2:=I1.turnedL (t':=s.toks) (h':=h') (ch:=[z,TI,TO,i1,i2]) (fun b o hb e1=>by
   simp only[List.mem_cons,List.not_mem_nil,or_false,not_or]at hb;obtain⟨n1,n2,n3,n4,n5⟩:=hb;by_cases hb:b=s.heap.objs.size
   ·subst hb;have e2:(s.heap.push {cls:=.type "tuple",data:=.seq #[u,u2]}).get? s.heap.objs.size=some {cls:=.type "tuple",data:=.seq #[u,u2]}:=Heap.get?_push_size _ rfl;rw[e2]at e1;cases e1;exact a5
   ·exact k b o n1 n3 n4 n5 ((Heap.get?_push_ne _ _ _ hb).symm.trans e1)) hf'
  refine⟨.ref s.heap.objs.size,rfl,wpAny_letOwnedTupleGo_zip (s:={s with heap:=h',toks:=s.toks}) a1 fun h2' he2 hs2=>?_⟩
  have I3:=I2.turnedL (t':=s.toks) (h':=h2') (ch:=[z,TI,TO,i1,i2]) (fun b o hb e1=>(hs2.2 b (fun q=>hb (by simp[q]))).trans e1) hf'
  refine⟨.ref s.heap.objs.size,_,I3,rfl,⟨_,rfl,hp,x,y,fun ys' hy'=>by rw[I.list_inj hy' hq];exact hx,fun ys' hy'=>by rw[I.list_inj hy' hq2];exact hy,rfl⟩,⟨he2,?_,⟨u,u2,?_⟩,?_,?_⟩,fun b hb=>(hf' b hb).1⟩
  ·exact (hs2.2 TI D.TIz).trans (k _ _ D.TIz D.TITO D.TIi1 D.TIi2 h2)
  ·exact (hs2.2 TO D.TOz).trans a2
  ·exact a3.at fun o e1=>(hs2.2 i1 D.i1z).trans e1
  ·exact a4.at fun o e1=>(hs2.2 i2 D.i2z).trans e1
 done:=by
  intro X hP hw hK hc i pins s σ H E I hf st hg;subst hP hw hK;obtain⟨xs,ys,hq,hq2,hx⟩:=hg;obtain⟨its,rv,p,hz⟩:=I.list hq;obtain⟨its2,rv2,p2,hz2⟩:=I.list hq2;obtain⟨h1,h2,⟨c,d,h3⟩,h4,h5⟩:=st;have hl:=rv.length;have hl2:=rv2.length;refine wpAny_pyNext_zip_end (I.ok.hd hc) D h1 h2 h3 h4 h5 p.isList p2.isList ?_ fun h' eb=>⟨rfl,I.turnedL (t':=s.toks) (ch:=[z,TI,TO,i1,i2]) (fun b o hb e=>?_) hf⟩
  ·rcases hx with hx|hx
   ·exact .inl (by simp;omega)
   ·exact .inr (by simp;omega)
  ·simp only[List.mem_cons,List.not_mem_nil,or_false,not_or]at hb;exact eb b o hb.1 hb.2.2.1 hb.2.2.2.1 hb.2.2.2.2 e
 self:=fun _ _ _ _ _ st h=>wpAny_pyIter_zip st.1 h
theorem vM{K:PySem.W.Frag}(sq:SqF K H0 p vs)(dl:DenL K H0 ds vs)(sq2:SqF K H0 q ws)(dl2:DenL K H0 es ws):ItOk K H0 (Itz K p q) (dI ds es) (fun _=>True):=by
 have hlen:=dl.length;have hlen2:=dl2.length;refine⟨fun i H M t rm s hi=>?_,fun i H M x H' t rm s hi y=>?_,fun H M t rm s=>?_⟩
 ·simp only[dI,List.length_map,List.length_zip]at hi;have hi':i < vs.length:=by omega
  have hi2:i < ws.length:=by omega
  exact⟨vs,ws,vs[i],ws[i],(t.f _ _ sq).sq,(t.f _ _ sq2).sq,by simp[hi'],by simp[hi2]⟩
 ·obtain⟨q,rfl,hq,v,w,hv,hw,rfl⟩:=y;obtain⟨d,e1,e2⟩:=(dl.mono t).get' (hv vs (t.f _ _ sq).sq);obtain⟨d',e1',e2'⟩:=(dl2.mono t).get' (hw ws (t.f _ _ sq2).sq);refine⟨.new hq,rm.grow hq,.tup [d,d'],?_,⟨q,[v,w],rfl,.inl (.inl ai),⟨_,_,rfl,e2.mono (.new hq),_,_,rfl,e2'.mono (.new hq),rfl⟩⟩⟩;have ez:(ds.zip es)[i]?=some (d,d'):=List.getElem?_zip_eq_some.mpr ⟨e1,e1'⟩;simp[dI,ez]
 ·refine⟨vs,ws,(t.f _ _ sq).sq,(t.f _ _ sq2).sq,?_⟩;simp only[dI,List.length_map,List.length_zip];omega
theorem t7{K:PySem.W.Frag}(sq:SqF K H0 p vs)(dl:DenL K H0 ds vs):ItOk K H0 (Itz K p q) (dI ds es) (fun M=>M q=some (.lst es)):=by
 have hlen:=dl.length;refine⟨fun i H M t rm s hi=>?_,fun i H M x H' t rm s hi y=>?_,fun H M t rm s=>?_⟩
 ·obtain⟨ws,e,dl2⟩:=rm q _ s;have hlen2:=dl2.length;simp only[dI,List.length_map,List.length_zip]at hi;have hi':i < vs.length:=by omega
  have hi2:i < ws.length:=by omega
  exact⟨vs,ws,vs[i],ws[i],(t.f _ _ sq).sq,.of e,by simp[hi'],by simp[hi2]⟩
 ·obtain⟨ws,e,dl2⟩:=rm q _ s;obtain⟨q',rfl,hq,v,w,hv,hw,rfl⟩:=y;obtain⟨d,e1,e2⟩:=(dl.mono t).get' (hv vs (t.f _ _ sq).sq);obtain⟨d',e1',e2'⟩:=dl2.get' (hw ws (.of e));refine⟨.new hq,rm.grow hq,.tup [d,d'],?_,⟨q',[v,w],rfl,.inl (.inl ai),⟨_,_,rfl,e2.mono (.new hq),_,_,rfl,e2'.mono (.new hq),rfl⟩⟩⟩;have ez:(ds.zip es)[i]?=some (d,d'):=List.getElem?_zip_eq_some.mpr ⟨e1,e1'⟩;simp[dI,ez]
 ·obtain⟨ws,e,dl2⟩:=rm q _ s;have hlen2:=dl2.length;refine⟨vs,ws,(t.f _ _ sq).sq,.of e,?_⟩;simp only[dI,List.length_map,List.length_zip];omega
noncomputable def Fe(K:PySem.W.Frag)(ta:TA):TI:=fun σ H R=>ta σ H fun vs H1=>∃a b,vs=[.ref a,.ref b]/\(∃xs,SqL K H1 a xs)/\(∃ys,SqL K H1 b ys)/\R (Itz K a b) H1
theorem zY(hg:Gl X "zip")(hm:X.mg "zip"=none)(ha:PA X [a,b] ta)(hs:starEach [a,b] X.env=[(false,eval a X.env),(false,eval b X.env)])(hs2:starEach [b] X.env=[(false,eval b X.env)]):PI X (.Tuple elts x1 pt) (.Call (.Name "zip" p) [a,b] [] pos) (Fe X.K ta):=by
 intro pins s σ H R I h;refine Call_ (gw I hg hm (u:=.type "zip") (by decide +kernel) (PyProof.Rows.callWith_type1 (thn (ha pos pins s σ H _ I h) fun us s1 ⟨vs,H1,I1,r1,q1⟩=>?_) (by rw[hs,hs2]) (by rw[hs2];rfl)))
 obtain⟨c,d,e,⟨xs,hq⟩,⟨ys,hq2⟩,q⟩:=q1;subst e;obtain⟨u,w,rfl,ru,rw'⟩:=r1.two;cases ru;cases rw';obtain⟨its,rv,pl,hz⟩:=I1.list hq;obtain⟨its2,rv2,pl2,hz2⟩:=I1.list hq2;have a1:c < s1.heap.objs.size:=by obtain⟨_,_,e,_⟩:=pl;exact Heap.lt_size e
 have a2:d < s1.heap.objs.size:=by obtain⟨_,_,e,_⟩:=pl2;exact Heap.lt_size e
 refine call_zip_2 pl.isList pl2.isList fun h' h1 h2 h3 h4 h5 _ k=>?_
 refine wpAny_pyIter_zip (s:={s1 with heap:=h'}) h1 ?_
 refine⟨s1.heap.objs.size+4,[s1.heap.objs.size+4,s1.heap.objs.size+2,s1.heap.objs.size+3,s1.heap.objs.size,s1.heap.objs.size+1],_,_,H1,rfl,I1.kept (t':=s1.toks) k,qC c d _ _ _ _ _ (zipApart_new a1 a2),⟨h1,h2,⟨_,_,h3⟩,h4,h5⟩,fun b hb=>?_,q⟩
 have hle:s1.heap.objs.size<=b:=by
  simp only[List.mem_cons,List.not_mem_nil,or_false]at hb;rcases hb with rfl|rfl|rfl|rfl|rfl<;>first|exact Nat.le_refl _|exact Nat.le_add_right _ _
 exact I1.fpOk hle (I1.hok.fresh hle)
theorem AQ(hg:Gl X "zip")(hm:X.mg "zip"=none)(ha:PE X a (low X.K cls E2 ta))(hb:PE X b (low X.K cls E2 tb))(hs:starEach [a,b] X.env=[(false,eval a X.env),(false,eval b X.env)])(hs2:starEach [b] X.env=[(false,eval b X.env)]) :
  PI X (.Tuple elts x1 pt) (.Call (.Name "zip" p) [a,b] [] pos) (jB X.K cls E2 fun σ M R E=>ta σ M (fun x M1=>tb σ M1 (fun y M2=>match x,y with
  |.rol xs,.rol ys=>R (dI xs ys) (fun _=>True) M2
  |.rol xs,.ref b=>match M2 b with
   |some (.lst ys)=>R (dI xs ys) (fun M=>M b=some (.lst ys)) M2
   |_=>False
  |_,_=>False) E) E):=
 (zY hg hm (ca ha (ca hb pa_nil hs2) (by rw[hs,hs2])) hs hs2).imp fun σ H R2 hl_=>ex9 hl_ fun σ3 M R E3 rm ds lk h k=>lY rm ds lk h fun v w H2 x y M2 dx dy rm2 t2 q2=>by
  cases x with
  |rol es=>
   cases y with
   |rol fs=>
    obtain⟨q,vs,rfl,sq,dl⟩:=dx;obtain⟨q',ws,rfl,sq2,dl2⟩:=dy;exact⟨q,q',rfl,⟨vs,sq.sq⟩,⟨ws,sq2.sq⟩,k _ _ _ _ _ (vM sq dl sq2 dl2) rm2 t2 q2⟩
   |ref b=>
    obtain⟨q,vs,rfl,sq,dl⟩:=dx;cases (show w=.ref b from dy);have q2:(match M2 b with
     |some (.lst ys)=>R (dI es ys) (fun M=>M b=some (.lst ys)) M2
     |_=>False):=q2
    split at q2
    ·rename_i ys e;obtain⟨ws,eH,dl2⟩:=rm2 b _ e;exact⟨q,b,rfl,⟨vs,sq.sq⟩,⟨ws,.of eH⟩,k _ _ _ _ _ (t7 sq dl) rm2 t2 q2⟩
    ·exact q2.elim
   |_=>exact q2.elim
  |_=>exact q2.elim
end
end L2
namespace L2
open PySem PySem.Spec PyProof.Rows
section
variable {A:Around}{s:Shared}
end
section
variable {prog:Program}{w:World}{A:Around}{E:Value->Shared->Prop}{s:Shared}{z TI TO i1 i2 l1 l2 S:Addr}{xs ys:Array Value}{i:Nat}
end
section
variable {prog:Program}{w:World}{A:Around}{s:Shared}{R:Result->Shared->Prop}{z TI TO i1 i2 l1 l2 S lo:Addr}{xs ys:Array Value}
end
section
variable {prog:Program}{w:World}{A:Around}{E:Value->Shared->Prop}{s:Shared}{R:Result->Shared->Prop}{z TI TO i1 i2 l1 l2 S lo:Addr}{xs ys:Array Value}
end
section
variable {X:Cx}{s:Shared}{h':Heap}
end
end L2
namespace L2
open PySem PySem.Spec PyProof.Rows
section
variable {X:Cx}
end
end L2
namespace L2
open PySem PySem.Spec PyProof.Rows
section
variable {A:Around}{s:Shared}{items:Array Value}
end
end L2
namespace L2
open PySem PySem.Spec PyProof.Rows
end L2
namespace L2
open PySem PySem.Spec PyProof.Rows
section
variable {X:Cx}
theorem vX(rm:RelM X.K M H)(dx:Den X.K H x v)(e:ak M x=some ds):∃a vs,v=.ref a/\RdL X.K H a vs/\DenL X.K H ds vs:=by
 cases x with
 |rol es=>
  cases e;obtain⟨a,vs,rfl,sq,dl⟩:=dx;exact⟨a,vs,rfl,sq.rd,dl⟩
 |ref a=>
  cases q:M a with
  |none=>simp[ak,q]at e
  |some o=>
   cases o with
   |lst es=>
    simp[ak,q]at e;subst e;cases (show v=.ref a from dx);obtain⟨vs,e1,dl⟩:=rm a _ q;exact⟨a,vs,rfl,.inl (.inl e1),dl⟩
   |_=>simp[ak,q]at e
 |_=>cases e
theorem zL{s:Shared}(I:Inv X pins σ H s):(s.heap.objs.size == sysModules)=false:=by
 have h:mainGlobals < s.heap.objs.size:=(I.mod.glob.keeps I.bk).lt;have h2:sysModules < mainGlobals:=by decide
 exact beq_eq_false_iff_ne.mpr (Nat.ne_of_gt (Nat.lt_trans h2 h))
theorem yi(tk:Bool):PE X (.Dict [] [] pos) (low X.K cls E2 fun σ M Q E=>∀p,M p=none->Q (.ref p) (put M p (if tk=true then .dt [] [] else .dk [] []))):=by
 refine fun pins s σ H Q2 I hl_=>ex9 hl_ fun σ3 M Q E3 rm ds lk q back=>?_
 have hp:H s.heap.objs.size=none:=I.hok.fresh (Nat.le_refl _);have hb:=zL I;have q0:=q s.heap.objs.size (rm.fresh hp);cases tk with
 |false=>
  have ok0:ObjOk X.prog X.w (upd H s.heap.objs.size (.dK [])) (s.heap.push {cls:=.type "dict",data:=.dict #[]}) s.heap.objs.size (.dK []):=⟨Nat.zero_le _,hb,[],.nil,Heap.DictOf.new s.heap⟩;have I1:=I.laid (a:=s.heap.objs.size) (o:=.dK []) (h':=s.heap.push {cls:=.type "dict",data:=.dict #[]}) (t':=s.toks) (fun _ _ q=>Heap.get?_push_of_some _ q) (Nat.le_refl _) ok0
  have rm1:RelM X.K (put M s.heap.objs.size (.dk [] [])) (upd H s.heap.objs.size (.dK [])):=rm.lay hp ⟨[],ai,rfl,rfl⟩;exact wpAny_Dict_empty ⟨.ref s.heap.objs.size,_,I1,rfl,back _ _ (.ref s.heap.objs.size) _ rfl rm1 (.new hp) q0⟩
 |true=>
  obtain⟨ob,es,ep,hq,hx,hd,he,_,_⟩:=(Heap.DictOfH.new (knd:=tupleKind (intKind X.prog X.w)) s.heap);have tb:bC s.heap.objs.size [] (s.heap.push {cls:=.type "dict",data:=.dict #[]}):=⟨ob,es,ep,hq,hx,hd,he⟩;have ok0:ObjOk X.prog X.w (upd H s.heap.objs.size (.ext (bC s.heap.objs.size []))) (s.heap.push {cls:=.type "dict",data:=.dict #[]}) s.heap.objs.size (.ext (bC s.heap.objs.size [])):=
   ⟨tb,⟨ob,hq⟩,fun g1 g2 ⟨o1,es1,ep1,a1,a2,a3,a4⟩ kk=>⟨o1,es1,ep1,kk _ a1,a2,a3,a4⟩⟩
  have I1:=I.laid (a:=s.heap.objs.size) (o:=.ext (bC s.heap.objs.size [])) (h':=s.heap.push {cls:=.type "dict",data:=.dict #[]}) (t':=s.toks) (fun _ _ q=>Heap.get?_push_of_some _ q) (Nat.le_refl _) ok0
  have rm1:RelM X.K (put M s.heap.objs.size (.dt [] [])) (upd H s.heap.objs.size (.ext (bC s.heap.objs.size []))):=rm.lay hp ⟨[],[],ai,⟨rfl,.nil,Nat.zero_le _,hb,.nil,fun x hx=>nomatch hx⟩,rfl⟩
  exact wpAny_Dict_empty ⟨.ref s.heap.objs.size,_,I1,rfl,back _ _ (.ref s.heap.objs.size) _ rfl rm1 (.new hp) q0⟩
end
end L2
namespace L2
open PySem PySem.Spec PyProof.Rows
section
variable {X:Cx}
end
end L2
namespace L2
open PySem PySem.Spec PyProof.Rows
theorem n6:∀{ds:List D}{ps:List (Int×Int)},pT ds=some ps->ds=ps.map prD
 |[],ps,h=>by cases h;rfl
 |d::r,ps,h=>by
  unfold pT at h;split at h
  ·rename_i e;cases e
  ·rename_i a b r' e;cases e;split at h
   ·rename_i qs e2;cases h;rw[n6 e2];rfl
   ·cases h
  ·cases h
theorem iJ(bt:Nat->Nat->Bool):∀k,argBest bt k<=k
 |0=>Nat.le_refl _
 |k+1=>by
  unfold argBest;split
  ·exact Nat.le_refl _
  ·exact Nat.le_succ_of_le (iJ bt k)
theorem p6{ps:List (Int×Int)}(h:ps≠[]):j7 ps∈ps:=by
 have hl:0 < ps.length:=List.length_pos_iff.mpr h;unfold j7;have:=iJ (fun i j=>lt2 (ps.getD i (0,0)) (ps.getD j (0,0))) (ps.length - 1)
 rw[List.getD_eq_getElem?_getD,List.getElem?_eq_getElem (by omega)]
 exact List.getElem_mem _
section
variable {X:Cx}{cls:Nat->Addr}{E2:St->XK}{e:Expr}{pos p:Pos}
theorem CM{pins:List (Addr×Obj)}{σ:St}{H:Hp}{s:Shared}{Ex:Value->Shared->Prop}{x:D}{v:V}{v2:Value}{M:MH}{Q:VK3}{Q2:VK}(hc:X.calm=true)(hu:X.A.units+64 < cLine)
  (I:Inv X pins σ H s)(rv:RelV v v2)(dx:Den X.K H x v)(rm:RelM X.K M H)(q:rMp x M Q)(back:Back X.K H Q Q2) :
  wpAny (model X.prog X.w) X.A (call (.builtin "min") [v2]) (EP X pins σ Q2) Ex s:=by
 have hh:=I.ok.hd hc;unfold rMp at q;split at q
 ·rename_i ds e1;obtain⟨a,vs,rfl,rd,dl⟩:=vX rm dx e1;cases rv;obtain⟨_,its,n,r,hlen,hg⟩:=I.rdL rd;have hl:s.heap.IsList a its.toArray:=⟨_,hg,rfl,n,rfl⟩;split at q
  ·rename_i p0 ps e2;have el:=n6 e2;have lv:vs.length=its.length:=r.length;have ld:ds.length=vs.length:=dl.length;have lp:ds.length=(p0::ps).length:=by rw[el,List.length_map]
   have at_:∀(i:Nat)(u:Value),its.toArray[i]?=some u->∃w,Den X.K H (prD ((p0::ps).getD i (0,0))) w/\RelV w u:=fun i u hv=>by
    have hv:its[i]?=some u:=by simpa using hv
    have hi:i < its.length:=(List.getElem?_eq_some_iff.mp hv).1;have hi2:i < (p0::ps).length:=by omega
    have ed:ds[i]?=some (prD ((p0::ps).getD i (0,0))):=by
     rw[el,List.getElem?_map,List.getElem?_eq_getElem hi2,List.getD_eq_getElem?_getD,List.getElem?_eq_getElem hi2];rfl
    obtain⟨w,w1,w2⟩:=dl.get ed;obtain⟨u',u1,u2⟩:=r.get w1;rw[hv]at u1;cases u1;exact⟨w,w2,u2⟩
   refine xf (ps:=fun i=>(p0::ps).getD i (0,0)) hh (by omega) hl (by rw[List.size_toArray];simp at lp;omega) (fun i u hv=>?_) fun u h' tk hv k=>?_
   ·obtain⟨w,w2,u2⟩:=at_ i u hv;obtain⟨b,zs,rfl,sq,dz⟩:=w2;cases u2;have ez:=DenL.int_of (ns:=[((p0::ps).getD i (0,0)).1,((p0::ps).getD i (0,0)).2]) dz;subst ez;obtain⟨it2,r2,⟨⟨c1,dd,da,sl⟩,g2,cc,m,d2⟩,_⟩:=I.tuple sq;simp only at cc d2;subst cc d2;cases r2 with
    |cons h1 r2=>
     cases r2 with
     |cons h2 r2=>
      cases r2;obtain⟨t1,rfl⟩:=h1;obtain⟨t2,rfl⟩:=h2;exact⟨b,m,t1,t2,dd,sl,rfl,g2⟩
   ·have es:its.toArray.size=(p0::ps).length:=by rw[List.size_toArray];omega
    rw[es]at hv;obtain⟨w,w2,u2⟩:=at_ _ u hv;exact⟨w,H,I.kept k,u2,back _ _ _ _ w2 rm (.refl _) q⟩
  ·exact q.elim
 ·exact q.elim
theorem Cu{te:St3->MH->VK3->XN->Prop}(hc:X.calm=true)(hu:X.A.units+64 < cLine)(ha:PE X e (low X.K cls E2 te))(hg:Gl X "min")(hm:X.mg "min"=none)(hs:starEach (e::[]) X.env=(false,eval e X.env)::starEach [] X.env) :
  PE X (.Call (.Name "min" p) [e] [] pos) (low X.K cls E2 fun σ M Q E=>te σ M (fun x M1=>rMp x M1 Q) E):=by
 have hcl:CallR X (.builtin "min") (fun vs H Q2=>∃x v M Q,vs=[v]/\Den X.K H x v/\RelM X.K M H/\rMp x M Q/\Back X.K H Q Q2):=by
  refine fun pins s σ H vs us Q2 I r hl_=>ex9 hl_ fun x v M Q e dx rm q back=>?_
  subst e;obtain⟨u,rfl,ru⟩:=gz r;exact CM hc hu I ru dx rm q back
 refine (iN hcl hg hm (by decide +kernel) (ca ha pa_nil hs) (by decide +kernel) (by decide +kernel) hs (by rfl)).imp fun σ H Q2 hl_=>ex9 hl_ fun σ3 M Q E3 rm ds lk h back=>?_
 exact aX rm ds lk h fun v H1 x M1 dx rm1 t1 q1=>⟨x,v,M1,Q,rfl,dx,rm1,q1,back.mono t1⟩
end
end L2
namespace L2
open PySem PySem.Spec PyProof.Rows
noncomputable def isN(i:Int):Expr->Bool
 |.Constant k _ _=>match k with
  |.int j=>decide (j=i)
  |_=>false
 |_=>false
section
variable {X:Cx}
end
end L2
namespace L2
open PySem PySem.Spec PyProof.Rows
section
variable {X:Cx}{A:Around}
end
end L2
namespace L2
open PySem PySem.Spec PyProof.Rows
section
variable {A:Around}{s:Shared}{ob:Obj}{es:Array DictEntry}
theorem mQ(hn:(d == sysModules)=false):MeetsIn prog w (Builtin.«dict.items» ⟨[.ref d],[]⟩) (fun _ R s=>s.TypeIs (.ref d) "dict"/\R (.ok (.ret (.ref s.heap.objs.size))) {s with heap:=s.heap.push {cls:=.type "dict_items",data:=.fields #[.ref d]}}):=
 .of_wp fun A R s ⟨ty,q⟩=>by
  unfold Builtin.«dict.items»;refine wpAny_bind ?_;unfold Builtin.Dict.noArgs;refine wpAny_bind (wpAny_notOrdered_dict ty (show wpAny _ _ (pure d) _ _ s from wpAny_pure (show wpAny _ _ (Builtin.Dict.showsAll d >>=_) _ _ s from ?_)));unfold Builtin.Dict.showsAll;rw[hn];exact wpAny_bind (wpAny_pure (wpAny_bind (wpAny_newObj_type (wpAny_pure ⟨_,rfl,q⟩))))
theorem mP(vw:s.heap.IsItemsView p d)(ho:s.heap.get? d=some ob)(hd:ob.data=.dict es ep)
  (q:Q (.ref s.heap.objs.size) {s with heap:=s.heap.push {cls:=.type "dict_itemiterator",data:=.fields #[.none,.bool false,.ref d,.int 0 0,.int es.size 0,.int ep 0,.none,.none]}}):wpAny (model prog w) A (pyIter (.ref p)) Q E s:=by
 obtain⟨ov,e1,e2,e3⟩:=id vw;refine wpAny_pyIter_slot vw.typeIs F.slot_dict_items_iter (wpAny_call_entry F.slot_dict_items_iter vw.typeIs F.entry_dict_items_iter ?_ (F.args_dict_items_iter_1 _));unfold Builtin.«dict_items.__iter__» Builtin.Dict_items.dictOf Builtin.Dict_items.newIterator;refine wpAny_bind (wpAny_pure (wpAny_bind (wpAny_bind (wpAny_field e1 e3 (x:=.ref d) rfl (wpAny_pure (wpAny_bind (wpAny_bind (wpAny_dictEntries ho hd (wpAny_bind (wpAny_dictEpoch ho hd ?_))))))))));simp only[show Builtin.Dict_items.ownsTuple "dict_itemiterator"=true by decide,if_true]
 refine wpAny_newObj_type (wpAny_pure ⟨_,rfl,"dict_itemiterator",_,⟨_,Heap.get?_push_size _ rfl,rfl⟩,F.slot_dict_itemiterator_next.lookup,?_⟩) (by simp only[sizeOk,Builtin.Dict_items.ownedTupleFields,List.size_toArray,List.length_append,List.length_cons,List.length_nil,sizeLine_eq];omega)
 simpa [rawInt,Builtin.Dict_items.ownedTupleFields] using q
theorem nB{e:DictEntry}(hit:IsItemIter s.heap it d i es.size ep a1 a2)(ho:s.heap.get? d=some ob)(hd:ob.data=.dict es ep)(he:es[i]?=some e)
  (hQ:∀h',IsItemIterOut h' it d (i+1) es.size ep e.key e.val s.heap.objs.size->h'.get? s.heap.objs.size=some {cls:=.type "tuple",data:=.seq #[e.key,e.val]}->
   (∀b o,b≠it->s.heap.get? b=some o->h'.get? b=some o)->Q (some (.ref s.heap.objs.size)) {s with heap:=h'}):wpAny (model prog w) A (pyNext (.ref it)) Q E s:=by
 obtain⟨hp,g,dr,tk,os⟩:=s;have ty:Shared.TypeIs ⟨hp,g,dr,tk,os⟩ (.ref it) "dict_itemiterator":=⟨_,hit,rfl⟩;have hlt:i < es.size:=(Array.getElem?_eq_some_iff.mp he).1;unfold pyNext;refine wpAny_bind (wpAny_attempt (wpAny_callSpecial?_slot (name:=Str.ofString "__next__") ty F.slot_dict_itemiterator_next (wpAny_call_entry F.slot_dict_itemiterator_next ty F.entry_dict_itemiterator_next ?_ (F.args_dict_itemiterator_next_1 _))));refine wpAny_bind (wpAny_pure (wpAny_bind (wpAny_bind ?_)))
 first|refine wpAny_bind (wpAny_typeNameOfWhole_itemiter ty (wpAny_pure (wpAny_bind (wpAny_fieldsOf hit rfl ?_))))|refine wpAny_bind (wpAny_typeNameOf_itemiter ty (wpAny_pure (wpAny_bind (wpAny_fieldsOf hit rfl ?_))))
 simp only[show Builtin.Dict_items.ownsTuple "dict_itemiterator"=true by decide,if_true]
 have nn:¬ ((Value.ref d == Value.none)=true):=Bool.false_ne_true;refine (show wpAny _ _ (if (Value.ref d == Value.none)=true then _ else _) _ _ _ from ?_)
 rw[if_neg nn];refine wpAny_bind (wpAny_pure (wpAny_bind (wpAny_dictEntries ho hd ?_)));rw[if_neg (by simp)]
 refine wpAny_bind (wpAny_pure (wpAny_bind (wpAny_dictEpoch ho hd ?_)));rw[if_neg (by simp)]
 refine wpAny_pure ?_;simp only[show ¬ ((i:Int) < 0) from by omega,if_false,Int.toNat_natCast,he]
 refine wpAny_bind ?_
 first|refine wpAny_bind (wpAny_typeNameOfWhole_itemiter ty (wpAny_pure (wpAny_bind (wpAny_isOneOf_itemiter ty ?_))))|refine wpAny_bind (wpAny_typeNameOf_itemiter ty (wpAny_pure (wpAny_bind (wpAny_isOneOf_itemiter ty ?_))))
 refine (show wpAny _ _ (setField (.ref it) 3 (rawInt ((i:Int)+1)) >>=_) _ _ ⟨hp,g,dr,tk,os⟩ from ?_);refine wpAny_bind (wpAny_setField_rec hit (by simp) fun k1 f1 u1=>?_)
 replace u1:Heap.SameBut it hp k1:=u1
 replace f1:IsItemIter k1 it d (i+1) es.size ep a1 a2:=by
  unfold IsItemIter;rw[show ((i+1:Nat):Int)=(i:Int)+1 by omega]
  simpa [rawInt] using f1
 have ty1:Shared.TypeIs ⟨k1,g,dr,tk,os⟩ (.ref it) "dict_itemiterator":=⟨_,f1,rfl⟩;refine wpAny_bind (wpAny_holding (wpAny_bind (wpAny_isOneOf_itemiter ty1 (wpAny_bind (wpAny_isOneOf_itemiter ty1 ?_)))));show wpAny _ _ (Builtin.Dict_items.pairFromOwner (.ref it) 6 e.key e.val) _ _ ⟨k1,g,dr,tk,os⟩;unfold Builtin.Dict_items.pairFromOwner;refine wpAny_bind (wpAny_newTuple ?_);have f2:IsItemIter (k1.push {cls:=.type "tuple",data:=.seq #[e.key,e.val]}) it d (i+1) es.size ep a1 a2:=Heap.get?_push_of_some _ f1;generalize hk2:k1.push {cls:=.type "tuple",data:=.seq #[e.key,e.val]}=k2 at f2;have z1:k1.objs.size=hp.objs.size:=u1.1;have lt:it < hp.objs.size:=Heap.lt_size hit;have t2:k2.get? hp.objs.size=some {cls:=.type "tuple",data:=.seq #[e.key,e.val]}:=by rw[<-hk2,<-z1];exact Heap.get?_push_size _ rfl
 have r2:∀b o,b≠it->hp.get? b=some o->k2.get? b=some o:=fun b o hb q=>by rw[<-hk2];exact Heap.get?_push_of_some _ (u1.extBut b o hb q)
 show wpAny _ _ (Builtin.Dict_items.ownedTupleIsFree (.ref it) >>=_) _ _ ⟨k2,g,dr,tk,os⟩;rw[z1];clear hk2 f1 u1 ty1 z1 k1;unfold Builtin.Dict_items.ownedTupleIsFree;refine wpAny_bind (wpAny_bind (wpAny_field f2 rfl (x:=.none) rfl (wpAny_pure ?_)));simp only[if_true];refine wpAny_bind (wpAny_field f2 rfl (x:=a1) rfl (wpAny_bind (wpAny_field f2 rfl (x:=a2) rfl (wpAny_bind (wpAny_setField_rec f2 (by simp) fun k3 f3 u3=>?_)))))
 replace u3:Heap.SameBut it k2 k3:=u3
 replace f3:IsItemIter k3 it d (i+1) es.size ep e.key a2:=f3
 refine wpAny_bind (wpAny_setField_rec f3 (by simp) fun k4 f4 u4=>?_)
 replace u4:Heap.SameBut it k3 k4:=u4
 replace f4:IsItemIter k4 it d (i+1) es.size ep e.key e.val:=f4
 refine wpAny_bind (wpAny_setField_rec f4 (by simp) fun k5 f5 u5=>?_)
 replace u5:Heap.SameBut it k4 k5:=u5
 replace f5:IsItemIterOut k5 it d (i+1) es.size ep e.key e.val hp.objs.size:=f5
 refine wpAny_bind (wpAny_setField_rec f5 (by simp) fun k6 f6 u6=>?_)
 replace u6:Heap.SameBut it k5 k6:=u6
 replace f6:IsItemIterOut k6 it d (i+1) es.size ep e.key e.val hp.objs.size:=f6
 have up:∀b o,b≠it->k2.get? b=some o->k6.get? b=some o:=fun b o hb q=>u6.extBut b o hb (u5.extBut b o hb (u4.extBut b o hb (u3.extBut b o hb q)))
 exact wpAny_bind (wpAny_letGo (wpAny_pure (wpAny_pure ⟨_,rfl,wpAny_pure (hQ k6 f6 (up _ _ (Nat.ne_of_gt lt) t2) fun b o hb q=>up b o hb (r2 b o hb q))⟩)))
theorem mW(cm:A.handled=none)(hit:IsItemIter s.heap it d i es.size ep a1 a2)(ho:s.heap.get? d=some ob)(hd:ob.data=.dict es ep)(he:es.size<=i)
  (hQ:∀h',Heap.ExtBut it s.heap h'->Q none {s with heap:=h'}):wpAny (model prog w) A (pyNext (.ref it)) Q E s:=by
 have ty:s.TypeIs (.ref it) "dict_itemiterator":=⟨_,hit,rfl⟩;unfold pyNext;refine wpAny_bind (wpAny_attempt (wpAny_callSpecial?_slot (name:=Str.ofString "__next__") ty F.slot_dict_itemiterator_next (wpAny_call_entry F.slot_dict_itemiterator_next ty F.entry_dict_itemiterator_next ?_ (F.args_dict_itemiterator_next_1 _))));refine wpAny_bind (wpAny_pure (wpAny_bind (wpAny_bind ?_)))
 first|refine wpAny_bind (wpAny_typeNameOfWhole_itemiter ty (wpAny_pure (wpAny_bind (wpAny_fieldsOf hit rfl ?_))))|refine wpAny_bind (wpAny_typeNameOf_itemiter ty (wpAny_pure (wpAny_bind (wpAny_fieldsOf hit rfl ?_))))
 simp only[show Builtin.Dict_items.ownsTuple "dict_itemiterator"=true by decide,if_true]
 have nn:¬ ((Value.ref d == Value.none)=true):=Bool.false_ne_true;refine (show wpAny _ _ (if (Value.ref d == Value.none)=true then _ else _) _ _ s from ?_)
 rw[if_neg nn];refine wpAny_bind (wpAny_pure (wpAny_bind (wpAny_dictEntries ho hd ?_)));rw[if_neg (by simp)]
 refine wpAny_bind (wpAny_pure (wpAny_bind (wpAny_dictEpoch ho hd ?_)));rw[if_neg (by simp)]
 refine wpAny_pure ?_;simp only[show ¬ ((i:Int) < 0) from by omega,if_false,Int.toNat_natCast,Array.getElem?_eq_none he]
 refine wpAny_bind ?_
 first|refine wpAny_bind (wpAny_typeNameOfWhole_itemiter ty (wpAny_pure ?_))|refine wpAny_bind (wpAny_typeNameOf_itemiter ty (wpAny_pure ?_))
 refine (show wpAny _ _ (setField (.ref it) 2 .none >>=_) _ _ s from wpAny_bind (wpAny_setField hit rfl (by simp) ?_))
 refine (show wpAny _ _ (newExc (.type "StopIteration") [] >>=_) _ _ _ from wpAny_bind ?_);simp only[newExc,newTuple,raiseNew];refine wpAny_bind (wpAny_newObj_type (wpAny_bind (m:=firstArgMember _ _) (wpAny_of_eq (a:=Value.none) (by first|rfl|(simp only[firstArgMember];rfl)) (wpAny_newObj_type (wpAny_bind (wpAny_handled ?_)) (by size_fits)))) (by size_fits))
 rw[show A.in1.handled=none from cm];refine wpAny_bind (wpAny_pure (wpAny_throw ?_));have fin:=fun (h':Heap) (z:Heap.ExtBut it s.heap h')=>hQ h' z
 refine wpAny_bind (wpAny_isInstance (T:="StopIteration") (b:=true) ⟨_,Heap.get?_push_size _ rfl,rfl⟩ isSubtype_stop (wpAny_pure (fin _ (((Heap.SameBut.update ..).extBut.push _).push _))))
end
noncomputable def DOb(o:Obj)(ps:List (V×V)):Prop:=∃es ep,o.ExactDict/\o.data=.dict es ep/\es.size=ps.length/\∀(i:Nat) p e,ps[i]?=some p->es[i]?=some e->RelV p.1 e.key/\RelV p.2 e.val
noncomputable def Itd(d:Addr)(o:Obj)(ps:List (V×V)):It:=
 ⟨fun i H=>(∃u,H d=some (.frz o u))/\i < ps.length,fun i H v H'=>∃p,v=.ref p/\H p=none/\∃kv,ps[i]?=some kv/\H'=upd H p (.tup [kv.1,kv.2]),fun i H=>(∃u,H d=some (.frz o u))/\ps.length<=i⟩
theorem Inv.frzGet{s:Shared}(I:Inv X pins σ H s)(e:H d=some (.frz o u)):s.heap.get? d=some o:=(I.hok _ _ e).1
theorem mL{K:PySem.W.Frag}(d it:Addr){o:Obj}{ps:List (V×V)}{es:Array DictEntry}(hd:o.data=.dict es ep)(hz:es.size=ps.length)
  (hr:∀(i:Nat) p e,ps[i]?=some p->es[i]?=some e->RelV p.1 e.key/\RelV p.2 e.val) (hne:d≠it):Turn P w K (.Tuple elts x1 pos) (Itd d o ps) [it] it (fun i h=>∃a1 a2,IsItemIter h it d i es.size ep a1 a2) where
 mem:=by simp
 obj:=fun i h st b hb=>by
  obtain⟨a1,a2,h1⟩:=st;have e':b=it:=by simpa using hb
  subst e';exact⟨_,h1,fun v z=>by
   have z':Data.fields _=Data.cell v:=z;cases z'⟩
 keep:=fun i h h' st k=>let ⟨a1,a2,h1⟩:=st;⟨a1,a2,k it (by simp) _ h1⟩
 item:=by
  intro X hP hw hK hc i pins s σ H E I hf st hg;subst hP hw hK;obtain⟨⟨u,hu⟩,hi⟩:=hg;obtain⟨a1,a2,hit⟩:=st;have fi:=hf it (by simp)
  have hil:it < s.heap.objs.size:=Heap.lt_size hit;have he:es[i]?=some es[i]:=by simp[show i < es.size by omega]
  have hp':ps[i]?=some ps[i]:=by simp[hi]
  obtain⟨rk,rv⟩:=hr i _ _ hp' he;refine nB hit (I.frzGet hu) hd he fun h' hio ht k=>?_
  have hp:H s.heap.objs.size=none:=I.hok.fresh (Nat.le_refl _);have I1:Inv X pins σ (upd H s.heap.objs.size (.tup [ps[i].1,ps[i].2])) {s with heap:=s.heap.push {cls:=.type "tuple",data:=.seq #[es[i].key,es[i].val]},toks:=s.toks}:=
   I.laid (fun b o e1=>Heap.get?_push_of_some _ e1) (Nat.le_refl _) ⟨by show 2<=sizeLine;decide,[es[i].key,es[i].val],.cons rk (.cons rv .nil),⟨_,Heap.get?_push_size _ rfl,rfl,_,rfl⟩⟩
  have fi':eX X pins (upd H s.heap.objs.size (.tup [ps[i].1,ps[i].2])) it:=⟨by rw[ag (Nat.ne_of_lt hil)];exact fi.1,fi.2⟩
  obtain⟨f0,f1,f2,f3,f4,f5⟩:=fi';have I2:Inv X pins σ (upd H s.heap.objs.size (.tup [ps[i].1,ps[i].2])) {s with heap:=h',toks:=s.toks}:=I1.turned (t':=s.toks) (fun b o hb e1=>by
   by_cases hb':b=s.heap.objs.size
   ·subst hb';have e2:(s.heap.push {cls:=.type "tuple",data:=.seq #[es[i].key,es[i].val]}).get? s.heap.objs.size=some {cls:=.type "tuple",data:=.seq #[es[i].key,es[i].val]}:=Heap.get?_push_size _ rfl;rw[e2]at e1;cases e1;exact ht
   ·exact k b o hb ((Heap.get?_push_ne _ _ _ hb').symm.trans e1)) f0 f1 f3 f4 f5
  refine⟨.ref s.heap.objs.size,rfl,wpAny_letOwnedTupleGo_items (s:={s with heap:=h'}) hio fun h2 he2 hs2=>?_⟩
  have I3:Inv X pins σ (upd H s.heap.objs.size (.tup [ps[i].1,ps[i].2])) {s with heap:=h2,toks:=s.toks}:=I2.turned (t':=s.toks) (fun b o hb e1=>(hs2.2 b hb).trans e1) f0 f1 f3 f4 f5
  refine⟨.ref s.heap.objs.size,_,I3,rfl,⟨_,rfl,hp,_,hp',rfl⟩,⟨_,_,he2⟩,fun b hb=>?_⟩
  have e':b=it:=by simpa using hb
  subst e';exact f0
 done:=by
  intro X hP hw hK hc i pins s σ H E I hf st hg;subst hP hw hK;obtain⟨⟨u,hu⟩,hi⟩:=hg;obtain⟨a1,a2,hit⟩:=st;obtain⟨f0,f1,f2,f3,f4,f5⟩:=hf it (by simp)
  exact mW (I.ok.hd hc) hit (I.frzGet hu) hd (by omega) fun h' eb=>⟨rfl,I.turned (t':=s.toks) (fun b o hb e=>eb b o hb e) f0 f1 f3 f4 f5⟩
 self:=fun _ _ _ _ _ st h=>let ⟨_,_,hit⟩:=st;PySem.W.kcp_self hit h
theorem iO{K:PySem.W.Frag}:∀ks:List Int,DenL K H (ks.map D.int) (ks.map V.int)
 |[]=>rfl
 |k::r=>⟨_,_,rfl,rfl,iO r⟩
section
variable {X:Cx}{apos cpos:Pos}
noncomputable def prs(xs:List (List Int×Addr×Value))(vs:List V):List (V×V):=(xs.map fun x=>V.ref x.2.1).zip vs
theorem kK{ob:Obj}(I:Inv X pins σ H s)(e:H d=some (.frz ob (.ext (bC d xs))))(z:TabOk X.K H d ks xs vs):DOb ob (prs xs vs)/\ob.ExactDict:=by
 obtain⟨h1,⟨o',es,ep,g1,g2,g3,g4⟩,_⟩:=(show ObjOk X.prog X.w H s.heap d (.frz ob (.ext (bC d xs))) from I.hok _ _ e);rw[h1]at g1;cases g1;have hl:=z.vx.length;rw[List.length_map]at hl;have hsz:es.size=xs.length:=by
  have:=congrArg List.length g4;simpa using this
 refine⟨⟨es,ep,g2,g3,by simp[prs,hl,hsz],fun i p e' hp he=>?_⟩,g2⟩
 unfold prs at hp;obtain⟨a1,a2⟩:=List.getElem?_zip_eq_some.mp hp;rw[List.getElem?_map]at a1;cases hx:xs[i]? with
 |none=>rw[hx]at a1;cases a1
 |some x=>
  rw[hx]at a1;have he2:es.toList[i]?=some e':=by simpa using he
  rw[g4,List.getElem?_map,hx]at he2;cases he2;obtain⟨u,hu,ru⟩:=z.vx.get a2;rw[List.getElem?_map,hx]at hu;cases hu;have a1:V.ref x.2.1=p.1:=by simpa using a1
  rw[<-a1];exact⟨rfl,ru⟩
noncomputable def zF(K:PySem.W.Frag)(v:V)(vs:List V)(H:Hp)(Q:VK):Prop:=∃d ob xs ks ws,v=.ref d/\vs=[]/\H d=some (.frz ob (.ext (bC d xs)))/\TabOk K H d ks xs ws/\∀p,H p=none->Q (.ref p) (upd H p (.ext fun h=>h.IsItemsView p d))
theorem qZ:MtR X "dict.items" (zF X.K):=by
 intro pins s σ H v vs v2 us Q I rv rs ⟨d,ob,xs,ks,ws,e1,e2,hH,z,q⟩;subst e1 e2;cases rv;cases rs;have ho:=I.frzGet hH;have hc:=(kK I hH z).2.1;have hf:H s.heap.objs.size=none:=I.hok.fresh (Nat.le_refl _);refine call_meetsIn PySem.F.slot_dict_items ⟨_,ho,hc⟩ PySem.F.entry_dict_items (PySem.F.args_dict_items_1 _) (mQ z.no) ⟨⟨_,ho,hc⟩,?_⟩;have I1:Inv X pins σ (upd H s.heap.objs.size (.ext fun h=>h.IsItemsView s.heap.objs.size d)) {s with heap:=s.heap.push {cls:=.type "dict_items",data:=.fields #[.ref d]},toks:=s.toks}:=
  I.laid (o:=.ext fun h=>h.IsItemsView s.heap.objs.size d) (fun b o e1=>Heap.get?_push_of_some _ e1) (Nat.le_refl _) ⟨⟨_,Heap.get?_push_size _ rfl,rfl,rfl⟩,⟨_,Heap.get?_push_size _ rfl⟩,fun h1 h2 ⟨ov,g1,g2,g3⟩ k=>⟨ov,k _ g1,g2,g3⟩⟩
 exact⟨.ref s.heap.objs.size,_,I1,rfl,q _ hf⟩
noncomputable def zy(K:PySem.W.Frag)(t2:TE):TI:=fun σ H R=>t2 σ H fun v H1=>∃d ob xs ks ws,v=.ref d/\H1 d=some (.frz ob (.ext (bC d xs)))/\TabOk K H1 d ks xs ws/\∀p,H1 p=none->R (Itd d ob (prs xs ws)) (upd H1 p (.ext fun h=>h.IsItemsView p d))
theorem TabOk.grow{K:PySem.W.Frag}(z:TabOk K H d ks xs vs)(t:TM K H H'):TabOk K H' d ks xs vs:=⟨z.kx,z.nd,z.sz,z.no,z.vx,fun x hx=>t.t _ _ (z.at_ x hx)⟩
theorem rl(ho:PE X o t2)(hbase:attributeBase o "items" X.env (eval o X.env)=eval o X.env)(hline:(apos.endLine == cpos.line)=true):PI X (.Tuple elts x1 pt) (.Call (.Attribute o "items" apos) [] [] cpos) (zy X.K t2):=by
 intro pins s σ H R I h;refine wpAny_Call_method0_late hbase hline (thn (ho pins s σ H _ I h) fun v s0 ⟨x,H1,I1,r1,d,ob,xs,ks,ws,e1,e3,z,q⟩=>?_)
 subst e1;cases r1;obtain⟨_,xd⟩:=kK I1 e3 z;refine⟨"dict","dict.items",PySem.F.plainAttrs_dict,PySem.F.slot_dict_items,PySem.F.type_dict_items,⟨_,I1.frzGet e3,xd.1⟩,fun a ha=>?_,Calls.callWith_builtin rfl (PySem.evalArgs_none ?_)⟩
 ·cases ha;exact⟨_,I1.frzGet e3,xd.2.1⟩
 refine thn (qZ pins s0 σ H1 (.ref d) [] (.ref d) [] (fun v H2=>∃p,v=.ref p/\H1 p=none/\H2=upd H1 p (.ext fun h=>h.IsItemsView p d)) I1 rfl .nil ⟨d,ob,xs,ks,ws,rfl,rfl,e3,z,fun p hp=>⟨p,rfl,hp,rfl⟩⟩) fun v2 s1 ⟨v,H2,I2,rv,p,e1,hp,e2⟩=>?_
 have q:=q p hp;have e3:H2 d=some (.frz ob (.ext (bC d xs))):=by rw[e2,ag (ay e3 hp)];exact e3
 have z:TabOk X.K H2 d ks xs ws:=z.grow (by rw[e2];exact .new hp)
 have e4:H2 p=some (.ext fun h=>h.IsItemsView p d):=by rw[e2,ai]
 rw[<-e2]at q
 ·subst e1;cases rv;obtain⟨⟨es,ep,hx,hd,hz,hr⟩,_⟩:=kK I2 e3 z;have hv:=(I2.hok _ _ e4).1;have ho:=I2.frzGet e3;refine mP hv ho hd ?_;have hf:H2 s1.heap.objs.size=none:=I2.hok.fresh (Nat.le_refl _);have hdl:d < s1.heap.objs.size:=Heap.lt_size ho;exact⟨s1.heap.objs.size,[s1.heap.objs.size],_,_,H2,rfl,I2.kept (t':=s1.toks) (fun b o e=>Heap.get?_push_of_some _ e),mL d s1.heap.objs.size hd hz hr (Nat.ne_of_lt hdl),⟨_,_,Heap.get?_push_size _ rfl⟩,fun b hb=>by
   have e':b=s1.heap.objs.size:=by simpa using hb
   subst e';exact I2.fpOk (Nat.le_refl _) hf,q⟩
theorem qU{K:PySem.W.Frag}(e:H0 d=some (.frz ob (.ext (bC d xs))))(z:TabOk K H0 d ks xs vs)(dl:DenL K H0 ds vs):ItOk K H0 (Itd d ob (prs xs vs)) (cy ks ds) (fun _=>True):=by
 have l1:=dl.length;have l2:=z.vx.length;have l3:xs.length=ks.length:=by rw[<-z.kx];simp
 rw[List.length_map]at l2;have lp:(prs xs vs).length=(cy ks ds).length:=by simp[prs,cy];omega
 refine⟨fun i H M t rm s hi=>⟨⟨_,t.g _ _ _ e⟩,by omega⟩,fun i H M x H' t rm s hi y=>?_,fun H M t rm s=>⟨⟨_,t.g _ _ _ e⟩,by omega⟩⟩
 obtain⟨q,rfl,hq,kv,hkv,rfl⟩:=y;obtain⟨a1,a2⟩:=List.getElem?_zip_eq_some.mp hkv;rw[List.getElem?_map]at a1;cases hx:xs[i]? with
 |none=>rw[hx]at a1;cases a1
 |some x=>
  rw[hx]at a1;have a1:V.ref x.2.1=kv.1:=by simpa using a1
  obtain⟨dd,e1,e2⟩:=(dl.mono t).get' a2;have hk:ks[i]?=some x.1:=by rw[<-z.kx,List.getElem?_map,hx];rfl
  have sq:=t.t _ _ (z.at_ x (List.mem_of_getElem? hx));refine⟨.new hq,rm.grow hq,.tup [.tup (x.1.map D.int),dd],?_,⟨q,[kv.1,kv.2],rfl,.inl (.inl ai),⟨_,_,rfl,?_,_,_,rfl,e2.mono (.new hq),rfl⟩⟩⟩
  ·have ez:(ks.zip ds)[i]?=some (x.1,dd):=List.getElem?_zip_eq_some.mpr ⟨hk,e1⟩;unfold cy;rw[List.getElem?_map,ez];rfl
  ·rw[<-a1];exact⟨x.2.1,x.1.map V.int,rfl,(TM.new (K:=K) hq).t _ _ sq,iO _⟩
theorem um(ho:PE X o (low X.K cls E2 to))(hbase:attributeBase o "items" X.env (eval o X.env)=eval o X.env)(hline:(apos.endLine == cpos.line)=true) :
  PI X (.Tuple elts x1 pt) (.Call (.Attribute o "items" apos) [] [] cpos) (jB X.K cls E2 fun σ M R E=>to σ M (fun x M1=>match x with
  |.dit ks ds=>R (cy ks ds) (fun _=>True) M1
  |_=>False) E):=
 (rl ho hbase hline).imp fun σ H R2 hl_=>ex9 hl_ fun σ3 M R E3 rm ds lk h k=>aX rm ds lk h fun v H1 x M1 dx rm1 t1 q1=>by
  cases x with
  |dit ks es=>
   obtain⟨d,vs,ob,xs,rfl,e,z,dl⟩:=dx;refine⟨d,ob,xs,ks,vs,rfl,e,z,fun p hp=>?_⟩
   have t2:TM X.K H1 (upd H1 p (.ext fun h=>h.IsItemsView p d)):=.new hp
   exact k _ _ _ _ _ (qU (t2.g _ _ _ e) (z.grow t2) (dl.mono t2)) (rm1.grow hp) (t1.trans t2) q1
  |_=>exact q1.elim
end
end L2
namespace L2
open PySem PySem.Spec PyProof.Rows PySem.W
noncomputable def Itk(d:Addr)(o:Obj)(vs:List V):It:=
 ⟨fun i H=>(∃u,H d=some (.frz o u))/\i < vs.length,fun i H v H'=>H'=H/\vs[i]?=some v,fun i H=>(∃u,H d=some (.frz o u))/\vs.length<=i⟩
theorem oU{K:PySem.W.Frag}(d it:Addr){o:Obj}{vs:List V}{es:Array DictEntry}(hd:o.data=.dict es ep)(hz:es.size=vs.length)
  (hr:∀(i:Nat) v e,vs[i]?=some v->es[i]?=some e->RelV v e.key) (hne:d≠it):Turn P w K tg (Itk d o vs) [it] it (fun i h=>h.IsKeyIter it d i es.size ep) where
 mem:=by simp
 obj:=fun i h st b hb=>by
  obtain⟨o1,h1,h2,h3⟩:=st;have e':b=it:=by simpa using hb
  subst e';exact⟨_,h1,fun v z=>by rw[h3]at z;cases z⟩
 keep:=fun i h h' st k=>st.at fun o e=>k it (by simp) o e
 item:=by
  intro X hP hw hK hc i pins s σ H E I hf st hg;subst hP hw hK;obtain⟨⟨u,hu⟩,hi⟩:=hg;have he:es[i]?=some es[i]:=by simp[show i < es.size by omega]
  have hp':vs[i]?=some vs[i]:=by simp[hi]
  have rk:=hr i _ _ hp' he;obtain⟨f0,f1,f2,f3,f4,f5⟩:=hf it (by simp)
  refine l7 st (I.frzGet hu) hd he fun h' hit' hs'=>?_
  have I2:Inv X pins σ H {s with heap:=h',toks:=s.toks}:=I.turned (t':=s.toks) (fun b o hb e1=>hs'.extBut b o hb e1) f0 f1 f3 f4 f5
  refine⟨_,rfl,letGo_keyiter (s':={s with heap:=h'}) hit' ?_⟩
  refine⟨vs[i],H,I2,rk,⟨rfl,hp'⟩,hit',fun b hb=>?_⟩
  have e':b=it:=by simpa using hb
  subst e';exact f0
 done:=by
  intro X hP hw hK hc i pins s σ H E I hf st hg;subst hP hw hK;obtain⟨⟨u,hu⟩,hi⟩:=hg;obtain⟨f0,f1,f2,f3,f4,f5⟩:=hf it (by simp)
  exact lB (I.ok.hd hc) st (I.frzGet hu) hd (by omega) fun h' eb=>⟨rfl,I.turned (t':=s.toks) (fun b o hb e=>eb b o hb e) f0 f1 f3 f4 f5⟩
 self:=fun _ _ _ _ _ st h=>wpAny_pyIter_keyiter st h
section
variable {X:Cx}{apos cpos:Pos}
theorem t9{K:PySem.W.Frag}{xs:List (List Int×Addr×Value)}{ks:List (List Int)}(e:H0 d=some (.frz ob (.ext (bC d xs))))(z:TabOk K H0 d ks xs vs):ItOk K H0 (Itk d ob (xs.map fun x=>V.ref x.2.1)) (ks.map iX) (fun _=>True):=by
 have l3:xs.length=ks.length:=by rw[<-z.kx];simp
 refine⟨fun i H M t rm s hi=>⟨⟨_,t.g _ _ _ e⟩,by simp at hi ⊢;omega⟩,fun i H M x H' t rm s hi y=>?_,fun H M t rm s=>⟨⟨_,t.g _ _ _ e⟩,by simp;omega⟩⟩
 obtain⟨rfl,hv⟩:=y;rw[List.getElem?_map]at hv;cases hx:xs[i]? with
 |none=>rw[hx]at hv;cases hv
 |some x'=>
  rw[hx]at hv;cases hv;have hk:ks[i]?=some x'.1:=by rw[<-z.kx,List.getElem?_map,hx];rfl
  have sq:=t.t _ _ (z.at_ x' (List.mem_of_getElem? hx));exact⟨.refl _,rm,iX x'.1,by rw[List.getElem?_map,hk];rfl,kQ sq (iO _)⟩
end
end L2
namespace L2
open PySem PySem.Spec PyProof.Rows
section
variable {X:Cx}
end
end L2
namespace L2
open PySem PySem.Spec PyProof.Rows
theorem ER.upd_nx{K:PySem.W.Frag}(er:ER K H D3 D2)(h:∀σ' H' σ3' M',RelM K M' H'->DenS K H' σ3' σ'->TM K H H'->n3 σ3' M'->n2 σ' H'):ER K H {D3 with nx:=n3} {D2 with nx:=n2}:=⟨h,er.rt,er.bk,er.ct⟩
section
variable {X:Cx}{cls:Nat->Addr}{E2:St->XK}{st:Stmt}{ax:List Stmt}{t u:Ends3->(St3->XN)->St3->MH->Prop}{e:Expr}{te:St3->MH->VK3->XN->Prop}{pos:Pos}
theorem Bo:PSs X [] (bN X.K cls E2 fun D _ σ M=>D.nx σ M):=pss_nil.imp fun D2 σ H hl_=>ex9 hl_ fun σ3 M D3 E3 rm ds lk h er=>er.nx σ H σ3 M rm ds (.refl _) h
theorem wA(h1:PS X st (bN X.K cls E2 t))(h2:PSs X ax (bN X.K cls E2 u)):PSs X (st::ax) (bN X.K cls E2 fun D E σ M=>t {D with nx:=fun σ' M'=>u D E σ' M'} E σ M):=
 (rW h1 h2).imp fun D2 σ H hl_=>ex9 hl_ fun σ3 M D3 E3 rm ds lk h er=>⟨σ3,M,_,E3,rm,ds,lk,h,er.upd_nx fun σ' H' σ3' M' rm' ds' tm q=>⟨σ3',M',D3,E3,rm',ds',lk.mono tm,q,er.mono tm⟩⟩
theorem Cv{i:Nat}(h2:PSs X ax (bN X.K cls E2 u)):PSs X ax (bN X.K cls E2 fun D E σ M=>match σ[i]? with
  |some (some (.ref a))=>u D E σ (del M a)
  |_=>False):=h2.imp fun D2 σ H hl_=>ex9 hl_ fun σ3 M D3 E3 rm ds lk h er=>by
 dsimp only at h;split at h
 ·rename_i a e;exact⟨σ3,_,D3,E3,rm.sub fun b o q=>(gZ q).2,ds,lk,h,er⟩
 ·exact h.elim
theorem Ab:PS X st (bN X.K cls E2 fun _ _ _ _=>False):=fun _ _ _ _ _ _ hl_=>ex9 hl_ fun _ _ _ _ _ _ _ h _=>h.elim
theorem w6(he:PE X e (low X.K cls E2 te))(hs:swapsWith e none pos.line X.env=pure false):PS X (.Expr e pos) (bN X.K cls E2 fun D E σ M=>te σ M (fun _ M1=>D.nx σ M1) (E σ)):=
 (nR he hs).imp fun D2 σ H hl_=>ex9 hl_ fun σ3 M D3 E3 rm ds lk h er=>aX rm ds (lk.at ds) h fun v H1 x M1 dx rm1 t1 q1=>er.nx σ H1 σ3 M1 rm1 (ds.mono t1) t1 q1
theorem CC(he:PE X e (low X.K cls E2 te)):PS X (.Return (some e) pos) (bN X.K cls E2 fun D E σ M=>te σ M D.rt (E σ)):=
 (yw he).imp fun D2 σ H hl_=>ex9 hl_ fun σ3 M D3 E3 rm ds lk h er=>aX rm ds (lk.at ds) h fun v H1 x M1 dx rm1 t1 q1=>er.rt v H1 x M1 dx rm1 t1 q1
theorem E0(hc:PT X c (cz X.K cls E2 tA))(ha:PSs X a (bN X.K cls E2 t))(hb:PSs X b (bN X.K cls E2 u)) :
  PS X (.If c a b pos) (bN X.K cls E2 fun D E σ M=>tA σ M (fun k M1=>if k=true then t D E σ M1 else u D E σ M1) (E σ)):=
 (CL hc ha hb).imp fun D2 σ H hl_=>ex9 hl_ fun σ3 M D3 E3 rm ds lk h er=>j6 rm ds (lk.at ds) h fun k H1 M1 rm1 t1 q1=>by
  cases k with
  |true=>rw[if_pos rfl]at q1 ⊢;exact⟨σ3,M1,D3,E3,rm1,ds.mono t1,lk.mono t1,q1,er.mono t1⟩
  |false=>rw[if_neg Bool.false_ne_true]at q1 ⊢;exact⟨σ3,M1,D3,E3,rm1,ds.mono t1,lk.mono t1,q1,er.mono t1⟩
theorem u0(hN:X.N.Nodup)(hi:X.N[i]?=some x)(hx:Loc X.env.scope x)(he:PE X e (low X.K cls E2 te))(hs:swapsWith e (some (.Name x pos')) pos.line X.env=pure false)(hf:X.fn x=true\/X.env.scope.names.lookup x=some .local) :
  PS X (.Assign [.Name x pos'] e pos) (bN X.K cls E2 fun D E σ M=>te σ M (fun x M1=>D.nx (σ.set i (some x)) M1) (E σ)):=
 (wl hN hi hx he hs hf).imp fun D2 σ H hl_=>ex9 hl_ fun σ3 M D3 E3 rm ds lk h er=>aX rm ds (lk.at ds) h fun v H1 x M1 dx rm1 t1 q1=>er.nx _ _ _ _ rm1 ((ds.mono t1).set dx) t1 q1
theorem xr(hN:X.N.Nodup)(hi:X.N[i]?=some x)(hx:Loc X.env.scope x)(hf:X.fn x=true\/X.env.scope.names.lookup x=some .local):PG X (.Name x pos) (qi X.K (wpG (.name i))):=
 (g9 hN hi hx hf).imp fun v σ H Q2 ⟨d,σ3,M,Q,dv,rm,ds,h,back⟩=>back _ _ _ _ rm (ds.set dv) (.refl _) h
noncomputable def bG(N:List Str)(sc:Scope)(fn:Bool):List Nat->List Expr->Bool
 |[],[]=>true
 |i::is,.Name x _::es=>(N[i]? == some x)&&(sc.names.lookup x == some .local||(fn&&sc.names.lookup x == some .cell))&&bG N sc fn is es
 |_,_=>false
noncomputable def iG(is:List Nat)(xs:List α)(σ:List (Option α)):List (Option α):=(is.zip xs).foldl (fun σ p=>σ.set p.1 (some p.2)) σ
theorem kf(hN:X.N.Nodup)(hfn:fn=true->∀x,X.fn x=true):∀{is:List Nat}{es:List Expr},bG X.N X.env.scope fn is es=true->
  PGs X es (fun vs σ H Q=>vs.length=is.length/\Q (iG is vs σ) H)/\(assignEach es X.env).length=is.length/\(assignEach es X.env).findIdx? (·.1)=none
 |[],[],_=>⟨fun pins s σ H vs us Q I r ⟨e,h⟩=>sU pins s σ H vs us Q I r ⟨List.length_eq_zero_iff.mp e,by cases List.length_eq_zero_iff.mp e;exact h⟩,rfl,rfl⟩
 |[],_::_,h=>by simp[bG]at h
 |i::is,es,h=>by
  unfold bG at h;split at h
  ·rename_i heq;cases heq
  ·rename_i i' is' x px es' heq;cases heq;simp only[Bool.and_eq_true,beq_iff_eq,Bool.or_eq_true]at h;obtain⟨⟨h1,h2⟩,h3⟩:=h;obtain⟨ih,il,ix⟩:=kf hN hfn h3;have hg:PG X (.Name x px) (ot i):=by
    rcases h2 with h2|⟨h2,h4⟩
    ·exact g9 hN h1 (.inl h2) (.inr h2)
    ·exact g9 hN h1 (.inr h4) (.inl (hfn h2 x))
   refine⟨fun pins s σ H vs us Q I r ⟨e,q⟩=>?_,by show (assignEach es' X.env).length+1=is.length+1;rw[il],?_⟩
   ·cases vs with
    |nil=>cases e
    |cons v vs=>exact qm hg ih rfl pins s σ H (v::vs) us Q I r ⟨v,vs,rfl,by simpa using e,q⟩
   ·show List.findIdx? (·.1) ((false,assign (.Name x px) X.env)::assignEach es' X.env)=none;rw[List.findIdx?_cons];simp[ix]
  ·cases h
theorem iy{K:PySem.W.Frag}:∀{is:List Nat}{ds:List D}{vs:List V}{σ3:St3}{σ:St},DenL K H ds vs->DenS K H σ3 σ->DenS K H (iG is ds σ3) (iG is vs σ)
 |[],_,_,_,_,_,h=>by simpa [iG] using h
 |i::is,[],vs,_,_,dl,h=>by cases (show vs=[] from dl);simpa [iG] using h
 |i::is,d::ds,vs,_,_,dl,h=>by
  obtain⟨v,r,rfl,dv,dl⟩:=dl;exact iy (is:=is) dl (h.set (i:=i) dv)
theorem uZ(hc:X.calm=true)(hN:X.N.Nodup)(hfn:fn=true->∀x,X.fn x=true)(ok:bG X.N X.env.scope fn is es=true):PG X (.Tuple es k pos) (qi X.K (wpG (.tup is))):=by
 obtain⟨h1,h2,h3⟩:=kf hN hfn ok;refine (vO hc h1 h2 h3).imp fun v σ H Q2 ⟨d,σ3,M,Q,dv,rm,ds,h,back⟩=>?_
 simp only[wpG]at h;split at h
 ·rename_i es';obtain⟨p,vs,rfl,sq,dl⟩:=dv;obtain⟨z,q⟩:=h;exact⟨p,vs,rfl,sq,by rw[<-dl.length];exact z,by rw[<-dl.length];exact z,back _ _ _ _ rm (iy dl ds) (.refl _) q⟩
 ·exact h.elim
theorem BV{is:List Nat}(hc:X.calm=true)(hN:X.N.Nodup)(hfn:fn=true->∀x,X.fn x=true)(ok:bG X.N X.env.scope fn is es=true)(he:PE X e (low X.K cls E2 te))
  (hs:swapsWithSole [.Tuple es k p2] e pos.line X.env=pure false) (hw:swappedStores [.Tuple es k p2] e X.env=pure none) :
  PS X (.Assign [.Tuple es k p2] e pos) (bN X.K cls E2 fun D E σ M=>te σ M (fun x M1=>match x with
  |.tup ds=>ds.length=is.length/\D.nx ((is.zip ds).foldl (fun σ p=>σ.set p.1 (some p.2)) σ) M1
  |_=>False) (E σ)):=
 (sr he (uZ (is:=is) hc hN hfn ok) hs hw (by rfl)).imp fun D2 σ H hl_=>ex9 hl_ fun σ3 M D3 E3 rm ds lk h er=>aX rm ds (lk.at ds) h fun v H1 x M1 dx rm1 t1 q1=>
  ⟨x,σ3,M1,D3.nx,dx,rm1,ds.mono t1,by simp only[wpG];exact q1,fun σ' H' σ3' M' r' d' t' q'=>er.nx σ' H' σ3' M' r' d' (t1.trans t') q'⟩
theorem Bc(hp:PassesOwn (model X.prog X.w) X.A X.env X.xe)(hc:X.calm=true)(hi:PI X tg iter (jB X.K cls E2 wi))(hg:PG X tg (qi X.K g))(hb:PSs X body (bN X.K cls E2 t))
  (hs:∀x,foldedSetIterable iter X.env x=pure x):PS X (.For tg iter body [] pos) (bN X.K cls E2 fun D E σ M=>wi σ M (fun ds S M1=>iK g (fun D σ M=>t D E σ M) S D ds σ M1) (E σ)):=by
 refine (yL hp hc hi hg hb hs).imp fun D2 σ H hl_=>ex9 hl_ fun σ3 M D3 E3 rm ds0 lk h er=>⟨σ3,M,_,E3 σ3,rm,ds0,lk.at ds0,h,fun J H1 ds S M1 ok rm1 tm1 hP=>?_⟩
 refine⟨fun i m σ' H'=>∃σ3' M',m=ds.length - i/\i<=ds.length/\RelM X.K M' H'/\DenS X.K H' σ3' σ'/\TM X.K H1 H'/\iK g (fun D σ M=>t D E3 σ M) S D3 (ds.drop i) σ3' M',⟨ds.length,σ3,M1,by simp,Nat.zero_le _,rm1,ds0.mono tm1,.refl _,hP⟩,?_⟩
 rintro i m σ' H' ⟨σ3',M',rfl,hil,rm',ds',tm',p⟩;by_cases hlt:i < ds.length
 ·rw[List.drop_eq_getElem_cons hlt]at p;obtain⟨s',p⟩:=p;refine .inr ⟨ok.go i H' M' tm' rm' s' hlt,fun σ4 H4=>∃σ34 M4,RelM X.K M4 H4/\DenS X.K H4 σ34 σ4/\TM X.K H1 H4/\iK g (fun D σ M=>t D E3 σ M) S D3 (ds.drop (i+1)) σ34 M4,?_,?_⟩
  ·rintro σ4 H4 ⟨σ34,M4,e1,e2,e3,e4⟩;exact⟨ds.length - (i+1),by omega,σ34,M4,rfl,hlt,e1,e2,e3,e4⟩
  ·intro x H2 y;obtain⟨tm2,rm2,d,hd,dv⟩:=ok.yld i H' M' x H2 tm' rm' s' hlt y;rw[List.getElem?_eq_getElem hlt]at hd;cases hd;refine⟨_,σ3',M',_,dv,rm2,ds'.mono tm2,p,fun σ5 H5 σ35 M5 rm5 ds5 tm5 q5=>?_⟩
   have tmA:TM X.K H1 H5:=(tm'.trans tm2).trans tm5;exact⟨σ35,M5,_,E3,rm5,ds5,lk.mono (tm1.trans tmA),q5,⟨fun σ6 H6 σ36 M6 rm6 ds6 tm6 q6=>⟨σ36,M6,rm6,ds6,tmA.trans tm6,q6⟩,fun v H6 d6 M6 dv6 rm6 tm6 q6=>er.rt v H6 d6 M6 dv6 rm6 (tm1.trans (tmA.trans tm6)) q6,
    fun σ6 H6 σ36 M6 rm6 ds6 tm6 q6=>er.nx σ6 H6 σ36 M6 rm6 ds6 (tm1.trans (tmA.trans tm6)) q6,fun σ6 H6 σ36 M6 rm6 ds6 tm6 q6=>⟨σ36,M6,rm6,ds6,tmA.trans tm6,q6⟩⟩⟩
 ·have e:i=ds.length:=by omega
  subst e;rw[List.drop_length]at p;exact .inl ⟨ok.stop H' M' tm' rm' p.1,er.nx σ' H' σ3' M' rm' ds' (tm1.trans tm') p.2⟩
theorem Bl{apos cpos:Pos}(ho:PE X o (low X.K cls E2 to))(he:PE X e (low X.K cls E2 te))(hbase:attributeBase o "append" X.env (eval o X.env)=eval o X.env)
  (hline:(apos.endLine == cpos.line)=true) (hs:starEach [e] X.env=[(false,eval e X.env)]) :
  PS X (.Expr (.Call (.Attribute o "append" apos) [e] [] cpos) pos) (bN X.K cls E2 fun D E σ M=>to σ M (fun x M1=>match x with
  |.ref a=>match M1 a with
   |some (.lst _)=>te σ M1 (fun y M2=>match M2 a with
    |some (.lst ds)=>ds.length < sizeLine/\D.nx σ (put M2 a (.lst (ds++[y])))
    |_=>False) (E σ)
   |_=>False
  |_=>False) (E σ)):=by
 have hm:MtR X "list.append" rAppend:=kh;have h1:=CB (X:=X) PySem.F.plainAttrs_list PySem.F.slot_list_append PySem.F.type_list_append hm ho (ca he pa_nil hs) hbase (by rw[hs];rfl) hline hs (by rfl)
 refine (nR h1 (by rfl)).imp fun D2 σ H hl_=>ex9 hl_ fun σ3 M D3 E3 rm ds lk h er=>?_
 refine aX rm ds (lk.at ds) h fun v H1 x M1 dx rm1 t1 q1=>?_
 split at q1
 ·rename_i a;cases (show v=.ref a from dx);split at q1
  ·rename_i ds0 e0;obtain⟨vs0,f0,_⟩:=rm1 a _ e0;refine⟨.inl ⟨rfl,vs0,.of f0⟩,aX rm1 (ds.mono t1) ((lk.mono t1).at (ds.mono t1)) q1 fun u H2 y M2 dy rm2 t2 q2=>?_⟩
   split at q2
   ·rename_i ds1 e1;obtain⟨vs,f1,dl⟩:=rm2 a _ e1;refine⟨a,vs,u,rfl,rfl,f1,by rw[<-dl.length];exact q2.1,?_⟩
    have tw:TM X.K H2 (upd H2 a (.lst (vs++[u]))):=.put f1 (fun _=>fun z=>nomatch z) fun _ _=>fun z=>nomatch z
    exact er.nx _ _ _ _ (rm2.write (u:=.lst (ds1++[y])) f1 (fun _=>fun z=>nomatch z) (fun _ _=>fun z=>nomatch z) ⟨_,ai,(dl.append (.one dy)).mono tw⟩) (((ds.mono t1).mono t2).mono tw) ((t1.trans t2).trans tw) q2.2
   ·exact q2.elim
  ·exact q1.elim
 ·exact q1.elim
end
end L2
namespace L2
open PySem PySem.Spec PyProof.Rows
noncomputable abbrev no2:St->XK:=fun _ _ _ _=>False
theorem qD{K:PySem.W.Frag}(h:DenS K H σ3 σ):DenS K H (aG js σ3) (i6 js σ):=by
 refine⟨by simp[aG,i6],fun i d e=>?_⟩
 unfold aG at e;unfold i6;rw[List.getElem?_map]at e ⊢;cases q:js[i]? with
 |none=>rw[q]at e;cases e
 |some o=>
  rw[q]at e;cases o with
  |none=>cases e
  |some j=>
   rw[Option.map_some,Option.bind_some]at e;cases z:σ3[j]? with
   |none=>rw[z]at e;cases e
   |some y=>
    rw[z]at e;have e:some (id y)=some (some d):=e;have e:y=some d:=Option.some.inj e;subst e;obtain⟨v,e1,e2⟩:=h.2 j d z;refine⟨v,?_,e2⟩;rw[Option.map_some,Option.bind_some,e1];rfl
section
variable {X:Cx}
theorem iV(rm:RelM X.K M H)(ds0:DenS X.K H σ3 σ)(lk:LkE X.K cls H E3 (E2 σ))
  (h:wi σ3 M (fun ds S M1=>∀p,M1 p=none->di g (fun σ M Q=>tt σ M Q (fun _ _=>False)) (fun σ M Q=>te σ M Q (fun _ _=>False)) S p Q ds [] (aG js σ3) (put M1 p (.lst []))) E3) (back:Back X.K H Q Q2) :
  nW js (jB X.K cls E2 wi) (qi X.K g) (cz X.K cls no2 tt) (low X.K cls no2 te) σ H Q2:=by
 refine⟨σ3,M,_,E3,rm,ds0,lk,h,fun J H1 ds S M1 ok rm1 tm1 hP p hp=>?_⟩
 have hP:=hP p (rm1.fresh hp);refine⟨fun i m σc H'=>∃σ3c ys M',m=ds.length - i/\i<=ds.length/\RelM X.K M' H'/\DenS X.K H' σ3c σc/\TM X.K H1 H'/\di g (fun σ M Q=>tt σ M Q (fun _ _=>False)) (fun σ M Q=>te σ M Q (fun _ _=>False)) S p Q (ds.drop i) ys σ3c M',
  ⟨ds.length,_,[],_,by simp,Nat.zero_le _,rm1.lay (u:=.lst []) hp ⟨[],ai,.nil⟩,(qD ds0).mono (tm1.trans (.new hp)),.new hp,hP⟩,?_⟩
 rintro i m σc H' ⟨σ3c,ys,M',rfl,hil,rm',ds',tm',q⟩;by_cases hlt:i < ds.length
 ·rw[List.drop_eq_getElem_cons hlt]at q;obtain⟨s',hl,q⟩:=q;refine .inr ⟨ok.go i H' M' tm' rm' s' hlt,fun x H2 y=>?_⟩
  obtain⟨tm2,rm2,d,hd,dv⟩:=ok.yld i H' M' x H2 tm' rm' s' hlt y;rw[List.getElem?_eq_getElem hlt]at hd;cases hd;refine⟨_,σ3c,M',_,dv,rm2,ds'.mono tm2,q,fun σ5 H5 σ35 M5 rm5 ds5 tm5 q5=>?_⟩
  refine⟨σ35,M5,_,_,rm5,ds5,LkE.no,q5,fun b H6 M6 rm6 tm6 q6=>?_⟩
  have tmA:TM X.K H1 H6:=((tm'.trans tm2).trans tm5).trans tm6;cases b with
  |true=>
   rw[if_pos rfl]at q6;dsimp only;rw[if_pos rfl];refine⟨σ35,M6,_,_,rm6,ds5.mono tm6,LkE.no,q6,fun v H7 y M7 dy rm7 tm7 ⟨e7,q7⟩=>?_⟩
   obtain⟨vs,f7,dl⟩:=rm7 p _ e7;have tw:TM X.K H7 (upd H7 p (.lst (vs++[v]))):=.put f7 (fun _=>fun z=>nomatch z) fun _ _=>fun z=>nomatch z
   exact⟨vs,f7,by rw[<-dl.length];exact hl,ds.length - (i+1),by omega,σ35,ys++[y],_,rfl,hlt,rm7.write (u:=.lst (ys++[y])) f7 (fun _=>fun z=>nomatch z) (fun _ _=>fun z=>nomatch z) ⟨_,ai,(dl.append (.one dy)).mono tw⟩,((ds5.mono tm6).mono tm7).mono tw,(tmA.trans tm7).trans tw,q7⟩
  |false=>
   rw[if_neg Bool.false_ne_true]at q6;dsimp only;rw[if_neg Bool.false_ne_true];exact⟨ds.length - (i+1),by omega,σ35,ys,M6,rfl,hlt,rm6,ds5.mono tm6,tmA,q6⟩
 ·have e:i=ds.length:=by omega
  subst e;rw[List.drop_length]at q;exact .inl ⟨ok.stop H' M' tm' rm' q.1,back _ _ _ _ fP rm' (tm1.trans tm') q.2⟩
variable (hok:dP N js scope X.env.scope X.N=true) (hcalm:X.calm=true) (hi:PI X tg iter (jB X.K cls E2 wi))
  (hg:∀C s2 H2 fp pn,PG (compCx X scope C N s2 H2 fp pn) tg (qi X.K g)) (ht:∀C s2 H2 fp pn,PIf (compCx X scope C N s2 H2 fp pn) ifs (cz X.K cls no2 tt)) (he:∀C s2 H2 fp pn,PE (compCx X scope C N s2 H2 fp pn) elt (low X.K cls no2 te))
  (hs:∀x,foldedSetIterable iter X.env x=pure x)
include hok hcalm hi hg ht he hs
theorem oa:PE X (.ListComp elt [⟨tg,iter,ifs,0⟩] scope pos) (low X.K cls E2 fun σ M Q E=>wi σ M (fun ds S M1=>∀p,M1 p=none->di g (fun σ M Q=>tt σ M Q (fun _ _=>False)) (fun σ M Q=>te σ M Q (fun _ _=>False)) S p Q ds [] (aG js σ) (put M1 p (.lst []))) E):=
 (uG hok hcalm hi hg ht he hs).imp fun σ H Q2 hl_=>ex9 hl_ fun σ3 M Q E3 rm ds lk h back=>iV rm ds lk h back
theorem xK(fz:Bool):PE X (.ListComp elt [⟨tg,iter,ifs,0⟩] scope pos) (low X.K cls E2 fun σ M Q E=>wi σ M (fun ds S M1=>∀p,M1 p=none->di g (fun σ M Q=>tt σ M Q (fun _ _=>False)) (fun σ M Q=>te σ M Q (fun _ _=>False)) S p (if fz=true then eQ Q else Q) ds [] (aG js σ) (put M1 p (.lst []))) E):=by
 cases fz with
 |false=>exact oa hok hcalm hi hg ht he hs
 |true=>exact zV (oa hok hcalm hi hg ht he hs)
theorem nt{spos:Pos}(hN:X.N.Nodup)(hy:X.N[i]?=some y)(hl:X.env.scope.names.lookup y=some .local)(hsw:swapsWith (.ListComp elt [⟨tg,iter,ifs,0⟩] scope pos) (some (.Name y py)) spos.line X.env=pure true)(fz:Bool) :
  PS X (.Assign [.Name y py] (.ListComp elt [⟨tg,iter,ifs,0⟩] scope pos) spos) (bN X.K cls E2 fun D E σ M=>wi σ M (fun ds S M1=>∀p,M1 p=none->di g (fun σ M Q=>tt σ M Q (fun _ _=>False)) (fun σ M Q=>te σ M Q (fun _ _=>False)) S p (if fz=true then eQ (fun x M1=>D.nx (σ.set i (some x)) M1) else (fun x M1=>D.nx (σ.set i (some x)) M1)) ds [] (aG js σ) (put M1 p (.lst []))) (E σ)):=by
 cases fz with
 |false=>exact (iC hN hy hl hok hcalm hi hg ht he hs hsw).imp fun D2 σ H hl_=>ex9 hl_ fun σ3 M D3 E3 rm ds lk h er=>iV rm ds (lk.at ds) h fun v H1 x M1 dx rm1 t1 q1=>er.nx _ _ _ _ rm1 ((ds.mono t1).set dx) t1 q1
 |true=>
  refine fun pins s σ H D2 I hl_=>ex9 hl_ fun σ3 M D3 E3 rm ds lk h er=>?_
  refine thn (iC hN hy hl hok hcalm hi hg ht he hs hsw pins s σ H {D2 with nx:=fun σ' H'=>∃x v M1,σ'=σ.set i (some v)/\Den X.K H' x v/\RelM X.K M1 H'/\TM X.K H H'/\eQ (fun x M1=>D3.nx (σ3.set i (some x)) M1) x M1} I
   (iV rm ds (lk.at ds) h fun v H1 x M1 dx rm1 t1 q1=>⟨x,v,M1,rfl,dx,rm1,t1,q1⟩)) fun fl s1 q=>?_
  cases fl with
  |next=>
   obtain⟨σ',H',I1,x,v,M1,rfl,dx,rm1,t1,q1⟩:=q;unfold eQ at q1;split at q1
   ·rename_i a;cases (show v=.ref a from dx);split at q1
    ·rename_i es e;obtain⟨vs,e1,dl⟩:=rm1 a _ e;obtain⟨o,I2⟩:=I1.freeze e1;exact⟨_,_,I2,er.nx _ _ _ _ (rm1.freeze e1) ((ds.mono (t1.trans (.freeze e1))).set (fg dl e1)) (t1.trans (.freeze e1)) q1⟩
    ·exact q1.elim
   ·exact q1.elim
  |brk=>exact q
  |cont=>exact q
  |ret u=>exact q
end
noncomputable def pO(K:PySem.W.Frag)(cls:Nat->Addr)(t:XE->Ends3->St3->MH->Prop):Ends->St->XK:=fun D2 σ c dx H=>∃i σ3 M D3,(c=.ref (cls i.c)/\XD K H i dx)/\RelM K M H/\DenS K H σ3 σ/\t i D3 σ3 M/\ER K H D3 D2
theorem ER.goes{K:PySem.W.Frag}{D2:Ends}(er:ER K H D3 D2)(i:Nat):ER K H (sk D3 i) (D2.goes i):=
 ⟨fun σ' H' σ3' M' rm ds t q=>er.nx _ _ _ _ rm ds.drop t q,er.rt,fun σ' H' σ3' M' rm ds t q=>er.bk _ _ _ _ rm ds.drop t q,fun σ' H' σ3' M' rm ds t q=>er.ct _ _ _ _ rm ds.drop t q⟩
section
variable {X:Cx}{cls:Nat->Addr}{E2:St->XK}{c n:Str}{k j ne:Nat}{sub:Nat->Nat->Bool}{b0:Stmt}{suite:List Stmt}{np hpos pos:Pos}{ax:List ExceptHandler}{tb:Ends3->(St3->XN)->St3->MH->Prop}{tr:XE->Ends3->St3->MH->Prop}
theorem zH:PH X [] (pO X.K cls fun _ _ _ _=>False):=fun _ _ _ _ _ _ _ _ _ ⟨_,_,_,_,_,_,_,h,_⟩=>h.elim
theorem BS(hg:Gl X c)(hm:X.mg c=some (.ref (cls k)))(hsub:∀i,i < ne->PySem.W.exmOne X.K (.ref (cls i)) (.ref (cls k))=some (sub i k))(hN:X.N.Nodup)(hj:X.N[j]?=some n)(hl:X.env.scope.names.lookup n=some .local)
  (hs:∀v,PSs (X.marked v) (b0::suite) (bN X.K cls no2 tb)) (hr:PH X ax (pO X.K cls tr)) (hdb:(c == ("__debug__" : Str))=false) :
  PH X (.ExceptHandler (some (.Name c np)) (some n) (b0::suite) hpos::ax) (pO X.K cls fun i D σ M=>i.c < ne/\if sub i.c k=true then (∀a,M a=none->tb (sk D j) (fun _ _ _=>False) (σ.set j (some (.ref a))) (put M a (.exc i (.ref (cls i.c))))) else tr i D σ M):=by
 intro pins s σ H D a cv dx xi ⟨i,σ3,M,D3,⟨e,xd⟩,rm,ds,⟨hi,h⟩,er⟩;subst e;refine AV (i:=j) hg hm hN hj hl hs hr hdb pins s σ H D a _ dx xi ?_;have z:=hsub i.c hi;cases q:sub i.c k with
 |true=>
  rw[q]at z;rw[if_pos q]at h;refine .inl ⟨z,fun a' ha=>?_⟩
  have tn:TM X.K H (upd H a' (uH a' (.ref (cls i.c)) dx)):=.new ha;exact⟨_,_,_,_,rm.lay (u:=.exc i (.ref (cls i.c))) ha ⟨dx,ai,xd.mono tn⟩,(ds.mono tn).set fP,(fun _ _ _ _ _ _ _ _ w=>w.elim),h a' (rm.fresh ha),(er.goes j).mono tn⟩
 |false=>
  rw[q]at z;rw[if_neg (by rw[q];exact Bool.false_ne_true)]at h
  exact .inr ⟨z,i,σ3,M,D3,⟨rfl,xd⟩,rm,ds,h,er⟩
theorem AE(hg:Gl X c)(hm:X.mg c=some (.ref (cls k)))(hsub:∀i,i < ne->PySem.W.exmOne X.K (.ref (cls i)) (.ref (cls k))=some (sub i k))
  (hs:∀v,PSs (X.marked v) (b0::suite) (bN X.K cls no2 tb)) (hr:PH X ax (pO X.K cls tr)) (hdb:(c == ("__debug__" : Str))=false) :
  PH X (.ExceptHandler (some (.Name c np)) none (b0::suite) hpos::ax) (pO X.K cls fun i D σ M=>i.c < ne/\if sub i.c k=true then tb D (fun _ _ _=>False) σ M else tr i D σ M):=by
 intro pins s σ H D a cv dx xi ⟨i,σ3,M,D3,⟨e,xd⟩,rm,ds,⟨hi,h⟩,er⟩;subst e;refine Cm hg hm hs hr hdb pins s σ H D a _ dx xi ?_;have z:=hsub i.c hi;cases q:sub i.c k with
 |true=>
  rw[q]at z;rw[if_pos q]at h;exact .inl ⟨z,σ3,M,D3,_,rm,ds,(fun _ _ _ _ _ _ _ _ w=>w.elim),h,er⟩
 |false=>
  rw[q]at z;rw[if_neg (by rw[q];exact Bool.false_ne_true)]at h
  exact .inr ⟨z,i,σ3,M,D3,⟨rfl,xd⟩,rm,ds,h,er⟩
end
end L2
namespace L2
open PySem PySem.Spec PyProof.Rows
section
variable {X:Cx}{s:Shared}{kvs:List (Key×V)}{o:Obj}
end
section
variable {X:Cx}{apos cpos:Pos}
end
end L2
namespace L2
open PySem PySem.Spec PyProof.Rows
section
variable {X:Cx}{s:Shared}
end
section
variable {X:Cx}{apos cpos:Pos}
end
end L2
namespace L2
open PySem PySem.Spec PyProof.Rows PySem.W
section
variable {X:Cx}
end
end L2
namespace L2
open PySem PySem.Spec PyProof.Rows
section
variable {X:Cx}{cls:Nat->Addr}{E2:St->XK}{tg o:Expr}
theorem Ca{t2:TE}(ho:PE X o t2):PI X tg o (fun σ H R=>t2 σ H fun v H1=>∃d ob xs ks ws,v=.ref d/\H1 d=some (.frz ob (.ext (bC d xs)))/\TabOk X.K H1 d ks xs ws/\R (Itk d ob (xs.map fun x=>V.ref x.2.1)) H1):=by
 intro pins s σ H R I h;refine thn (ho pins s σ H _ I h) fun v s1 ⟨x,H2,I2,r1,d,ob,xs,ks,ws,e1,e3,z,q⟩=>?_
 subst e1;cases r1;obtain⟨⟨es,ep,hx,hd,hz,hr⟩,xd⟩:=kK I2 e3 z;have ho:=I2.frzGet e3;refine uT z.no ho xd hd ?_;have hf:H2 s1.heap.objs.size=none:=I2.hok.fresh (Nat.le_refl _);have hdl:d < s1.heap.objs.size:=Heap.lt_size ho;have l2:=z.vx.length;rw[List.length_map]at l2;have hz2:es.size=((xs.map fun x=>V.ref x.2.1)).length:=by rw[hz];simp[prs];omega
 exact⟨s1.heap.objs.size,[s1.heap.objs.size],_,_,H2,rfl,I2.kept (t':=s1.toks) (fun b o e=>Heap.get?_push_of_some _ e),oU d s1.heap.objs.size hd hz2 (fun i v e hv he=>by
  obtain⟨w,hw⟩:∃w,ws[i]?=some w:=⟨ws[i]'(by have:=(List.getElem?_eq_some_iff.mp hv).1;simp at this;omega),by simp⟩
  exact (hr i (v,w) e (List.getElem?_zip_eq_some.mpr ⟨hv,hw⟩) he).1) (Nat.ne_of_lt hdl),⟨_,Heap.get?_push_size _ rfl,rfl,rfl⟩,fun b hb=>by
  have e':b=s1.heap.objs.size:=by simpa using hb
  subst e';exact I2.fpOk (Nat.le_refl _) hf,q⟩
theorem FC{to:St3->MH->VK3->XN->Prop}(ho:PE X o (low X.K cls E2 to)):PI X tg o (jB X.K cls E2 fun σ M R E=>to σ M (fun x M1=>match x with
  |.dit ks ds=>R (ks.map iX) (fun _=>True) M1
  |_=>False) E):=
 (Ca ho).imp fun σ H R2 hl_=>ex9 hl_ fun σ3 M R E3 rm ds lk h k=>aX rm ds lk h fun v H1 x M1 dx rm1 t1 q1=>by
  cases x with
  |dit ks es=>
   obtain⟨d,vs,ob,xs,rfl,e,z,dl⟩:=dx;exact⟨d,ob,xs,ks,vs,rfl,e,z,k _ _ _ _ _ (t9 e z) rm1 t1 q1⟩
  |_=>exact q1.elim
end
end L2
namespace L2
open PySem PySem.Spec PyProof.Rows
section
variable {X:Cx}{apos cpos:Pos}
end
end L2
namespace L2
open PySem PySem.Spec PyProof.Rows
structure Cfg where
 N:List Str
 sc:Scope
 fns:List (Option Str×Nat)
 exc:List Str
 kln:List Str
 gln:List Str
 xin:List (Nat×Nat)
 calm:Bool
 own:Bool
 tr:Bool
 fn:Bool
 cel:List (Str×NameKind):=[]
noncomputable def glB(c:Cfg)(x:Str):Bool:=c.sc.names.lookup x == some .globalImplicit
noncomputable def z7(sc:Scope)(x:Str):Bool:=match sc.names.lookup x with
 |some .local=>true
 |some .cell=>true
 |some .free=>true
 |_=>false
noncomputable def tF(c:Cfg)(x:Str):Bool:=c.sc.names.lookup x == some .local||(c.fn&&c.sc.names.lookup x == some .cell)||(c.cel.lookup x == some .cell&&c.sc.names.lookup x == some .cell)
noncomputable def eI:Expr->Bool
 |.Starred ..=>false
 |_=>true
noncomputable def kJ:Expr->Bool
 |.Set ..=>false
 |_=>true
noncomputable def jV:Expr->Bool
 |.ListComp ..=>false
 |.SetComp ..=>false
 |.DictComp ..=>false
 |_=>true
noncomputable def uk:Expr->Bool
 |.Tuple ..=>false
 |_=>true
noncomputable def k8:Expr->Bool
 |.Slice ..=>false
 |_=>true
noncomputable def uQ:Expr->Bool
 |.Call ..=>false
 |_=>true
noncomputable def mi:Expr->Bool
 |.Call (.Name _ _) [] [] _=>false
 |_=>true
noncomputable def ow:Expr->Bool
 |.UnaryOp ..=>false
 |.BoolOp ..=>false
 |.IfExp ..=>false
 |.Compare ..=>false
 |_=>true
noncomputable def iS:BI->String
 |.len=>"len"|.max=>"max"|.min=>"min"|.list _=>"list"|.all=>"all"|.any=>"any"
noncomputable def hV:BM->String
 |.get=>"get"|.clear=>"clear"|.extend=>"extend"|.remove=>"remove"|.setdef=>"setdefault"
noncomputable def biNames:List Str:=["len","abs","max","min","str","list","tuple","isinstance","range","int","bool","dict","ValueError","enumerate","all","any","sum","zip","reversed","sorted"]
noncomputable def wj(sc osc:Scope):Scope:={sc with names:=sc.names.map fun (n,k)=>if (k == .free&&osc.kind == .function&&osc.names.lookup n == some .cell) then (n,.cell) else (n,k)}
noncomputable def Cfg.comp(c:Cfg)(N:List Str)(sc:Scope):Cfg:={c with N:=N,sc:=wj sc c.sc,own:=false,tr:=false,fn:=false,cel:=sc.names}
noncomputable def Cfg.caught(c:Cfg):Cfg:={c with calm:=false,own:=false,tr:=false}
noncomputable def okG(c:Cfg):ITg->Expr->Bool
 |.name i,e=>match e with
  |.Name x _=>(c.N[i]? == some x)&&tF c x
  |_=>false
 |.tup is,e=>match e with
  |.Tuple es _ _=>c.calm&&bG c.N c.sc c.fn is es
  |_=>false
noncomputable def qh:II->Expr->Bool
 |.enum _,e=>match e with
  |.Tuple ..=>true
  |_=>false
 |.zip _ _,e=>match e with
  |.Tuple ..=>true
  |_=>false
 |.items _,e=>match e with
  |.Tuple ..=>true
  |_=>false
 |_,_=>true
mutual
noncomputable def okE:IE->Cfg->Expr->Bool
 |.var i,c,e=>match e with
  |.Name x _=>(c.N[i]? == some x)&&z7 c.sc x&&!(x == ("__debug__" : Str))&&!(x == ("__classdict__" : Str))
  |_=>false
 |.con d,_,e=>match e with
  |.Constant k _ _=>match k,d with
   |.int i,.int j=>decide (i=j)
   |.bool i,.bl j=>decide (i=j)
   |.none,.non=>true
   |.str i,.str j=>decide (i=j)
   |_,_=>false
  |_=>false
 |.bin op a b,c,e=>match e with
  |.BinOp x op' y _=>decide (op=op')&&okE a c x&&okE b c y
  |_=>false
 |.neg a,c,e=>match e with
  |.UnaryOp op x _=>decide (op=.USub)&&okE a c x
  |_=>false
 |.cmp op a b,c,e=>match e with
  |.Compare x [op'] [y] _=>decide (op=op')&&kJ y&&okE a c x&&okE b c y
  |_=>false
 |.chain op1 op2 a b d,c,e=>match e with
  |.Compare x [op1',op2'] [y,z] _=>decide (op1=op1')&&decide (op2=op2')&&kJ z&&okE a c x&&okE b c y&&okE d c z
  |_=>false
 |.and a b,c,e=>match e with
  |.BoolOp op (x::y::r) p=>decide (op=.And)&&okE a c x&&(match r with|[]=>okE b c y|_::_=>okE b c (.BoolOp .And (y::r) p))
  |_=>false
 |.or a b,c,e=>match e with
  |.BoolOp op (x::y::r) p=>decide (op=.Or)&&okE a c x&&(match r with|[]=>okE b c y|_::_=>okE b c (.BoolOp .Or (y::r) p))
  |_=>false
 |.not a,c,e=>match e with
  |.UnaryOp op x _=>decide (op=.Not)&&okE a c x
  |_=>false
 |.tup es,c,e=>match e with
  |.Tuple xs _ _=>okA es c xs
  |_=>false
 |.lst _ es,c,e=>match e with
  |.List xs _=>okA es c xs
  |_=>false
 |.frz a,c,e=>okE a c e
 |.ix a b,c,e=>match e with
  |.Subscript x y _=>k8 y&&okE a c x&&okE b c y
  |_=>false
 |.sl _ a lo hi,c,e=>match e with
  |.Subscript x (.Slice l h none _) _=>okE a c x&&okO lo c l&&okO hi c h
  |_=>false
 |.call f es,c,e=>match e with
  |.Call (.Name x _) args [] _=>c.calm&&(match c.fns[f]? with|some p=>decide (some x=p.1)&&decide (args.length=p.2)|none=>false)&&glB c x&&!(x == ("__debug__" : Str))&&okA es c args
  |_=>false
 |.bi b es,c,e=>match e with
  |.Call (.Name x _) args [] _=>c.calm&&decide (x=(iS b:Str))&&glB c x&&!args.isEmpty&&okA es c args
  |_=>false
 |.isB a t,c,e=>match e with
  |.Call (.Name x _) [y,.Name z _] [] _=>decide (x=("isinstance" : Str))&&decide (z=(bO t:Str))&&glB c x&&glB c z&&eI y&&okE a c y
  |_=>false
 |.comp _ N js tg it cond elt,c,e=>match e with
  |.ListComp el [⟨tgE,iter,ifs,as⟩] scope _=>c.calm&&decide (as=0)&&qh it tgE&&kJ iter&&dP N js scope c.sc c.N&&okI it c iter&&okG (c.comp N scope) tg tgE&&tI cond (c.comp N scope) ifs&&okE elt (c.comp N scope) el
  |_=>false
 |.mmp a,c,e=>match e with
  |.Call (.Name x _) [y] [] _=>c.calm&&decide (x=("min" : Str))&&glB c x&&eI y&&okE a c y
  |_=>false
 |.fld a f,c,e=>match e with
  |.Attribute x m _=>decide (m=fnm f)&&mi x&&okE a c x
  |_=>false
 |.make _ i es,c,e=>match e with
  |.Call (.Name x _) args [] _=>c.calm&&(c.kln[i]? == some x)&&glB c x&&!(x == ("__debug__" : Str))&&okA es c args
  |_=>false
 |.meth a m es,c,e=>match e with
  |.Call (.Attribute x n ap) args [] cp=>c.calm&&decide (n=fnm m)&&mi x&&(ap.endLine == cp.line)&&decide (args.length < 30)&&okE a c x&&okA es c args
  |_=>false
 |.ini i es,c,e=>match e with
  |.Call (.Attribute (.Name x _) n ap) args [] cp=>c.calm&&decide (n=("__init__" : Str))&&(c.kln[i]? == some x)&&glB c x&&!(x == ("__debug__" : Str))&&(ap.endLine == cp.line)&&decide (args.length < 30)&&!args.isEmpty&&okA es c args
  |_=>false
 |.glo k,c,e=>match e with
  |.Name x _=>(c.gln[k]? == some x)&&glB c x&&!(x == ("__debug__" : Str))
  |_=>false
 |.bm b o es,c,e=>match e with
  |.Call (.Attribute x n ap) args [] cp=>c.calm&&decide (n=(hV b:Str))&&mi x&&(ap.endLine == cp.line)&&decide (args.length < 30)&&okE o c x&&okA es c args
  |_=>false
 |.dnew _,_,e=>match e with
  |.Dict [] [] _=>true
  |_=>false
noncomputable def okT:IT->Cfg->Expr->Bool
 |.val a,c,e=>ow e&&okE a c e
 |.cmp op a b,c,e=>match e with
  |.Compare x [op'] [y] _=>decide (op=op')&&kJ y&&okE a c x&&okE b c y
  |_=>false
 |.chain op1 op2 a b d,c,e=>match e with
  |.Compare x [op1',op2'] [y,z] _=>decide (op1=op1')&&decide (op2=op2')&&kJ z&&okE a c x&&okE b c y&&okE d c z
  |_=>false
 |.chain3 op1 op2 op3 a b d f,c,e=>match e with
  |.Compare x [op1',op2',op3'] [y,z,u] _=>decide (op1=op1')&&decide (op2=op2')&&decide (op3=op3')&&kJ u&&okE a c x&&okE b c y&&okE d c z&&okE f c u
  |_=>false
 |.and a b,c,e=>match e with
  |.BoolOp op (x::y::r) p=>decide (op=.And)&&okT a c x&&(match r with|[]=>okT b c y|_::_=>okT b c (.BoolOp .And (y::r) p))
  |_=>false
 |.or a b,c,e=>match e with
  |.BoolOp op (x::y::r) p=>decide (op=.Or)&&okT a c x&&(match r with|[]=>okT b c y|_::_=>okT b c (.BoolOp .Or (y::r) p))
  |_=>false
 |.not a,c,e=>match e with
  |.UnaryOp op x _=>decide (op=.Not)&&okT a c x
  |_=>false
noncomputable def okA:IA->Cfg->List Expr->Bool
 |.nil,_,es=>es.isEmpty
 |.cons a r,c,es=>match es with
  |x::xs=>eI x&&okE a c x&&okA r c xs
  |[]=>false
noncomputable def okO:IO->Cfg->Option Expr->Bool
 |.no,_,o=>o.isNone
 |.yes a,c,o=>match o with
  |some x=>okE a c x
  |none=>false
noncomputable def tI:ITO->Cfg->List Expr->Bool
 |.no,_,es=>es.isEmpty
 |.yes t,c,es=>match es with
  |[x]=>okT t c x
  |_=>false
noncomputable def okI:II->Cfg->Expr->Bool
 |.seq a,c,e=>okE a c e
 |.enum a,c,e=>match e with
  |.Call (.Name x _) [y] [] _=>decide (x=("enumerate" : Str))&&glB c x&&eI y&&okE a c y
  |_=>false
 |.zip a b,c,e=>match e with
  |.Call (.Name x _) [y,z] [] _=>decide (x=("zip" : Str))&&glB c x&&eI y&&eI z&&okE a c y&&okE b c z
  |_=>false
 |.items a,c,e=>match e with
  |.Call (.Attribute x n ap) [] [] cp=>decide (n=("items" : Str))&&mi x&&(ap.endLine == cp.line)&&okE a c x
  |_=>false
 |.dk a,c,e=>okE a c e
 |.rng1 a,c,e=>match e with
  |.Call (.Name x _) [y] [] _=>decide (x=("range" : Str))&&glB c x&&eI y&&okE a c y
  |_=>false
end
noncomputable def swB(c:Cfg)(scope:Scope)(x:Str)(l1 l2:Nat):Bool:=c.sc.kind == .function&&c.sc.names.lookup x == some .local&&l1 == l2&&!(scope.names.any fun (n,k)=>n == x&&(k == .local||k == .cell))
mutual
noncomputable def okS:IS->Cfg->Stmt->Bool
 |.set i a,c,s=>match s with
  |.Assign [.Name x px] e _=>(c.N[i]? == some x)&&tF c x&&okE a c e&&(jV e||match e,a with
   |.ListComp _ _ scope pos,.comp ..=>swB c scope x px.line pos.line||c.sc.names.lookup x == some .cell
   |_,_=>false)
  |_=>false
 |.unp is a,c,s=>match s with
  |.Assign [.Tuple es _ _] e _=>c.calm&&bG c.N c.sc c.fn is es&&uk e&&jV e&&okE a c e
  |_=>false
 |.expr a,c,s=>match s with
  |.Expr e _=>jV e&&okE a c e
  |_=>false
 |.ret a,c,s=>match s with
  |.Return (some e) _=>okE a c e
  |_=>false
 |.ifs t a b,c,s=>match s with
  |.If x y z _=>okT t c x&&jC a c y&&jC b c z
  |_=>false
 |.for_ tg it body,c,s=>match s with
  |.For tgE iter b [] _=>c.own&&qh it tgE&&c.calm&&kJ iter&&okG c tg tgE&&okI it c iter&&jC body c b
  |_=>false
 |.app o a,c,s=>match s with
  |.Expr (.Call (.Attribute x m ap) [y] [] cp) _=>decide (m=("append" : Str))&&uQ x&&(ap.endLine == cp.line)&&eI y&&okE o c x&&okE a c y
  |_=>false
 |.del _,_,_=>false
 |.dead,_,_=>true
 |.fset o f a,c,s=>match s with
  |.Assign [.Attribute x m _] v _=>decide (m=fnm f)&&jV v&&okE o c x&&okE a c v
  |_=>false
 |.ixset o i a,c,s=>match s with
  |.Assign [.Subscript x y _] v _=>k8 y&&jV v&&okE o c x&&okE i c y&&okE a c v
  |_=>false
noncomputable def jC:ISs->Cfg->List Stmt->Bool
 |.nil,_,sts=>sts.isEmpty
 |.cons s r,c,sts=>match s with
  |.del _=>jC r c sts
  |s=>match sts with
   |st::ax=>okS s c st&&jC r c ax
   |[]=>false
noncomputable def tX:IHs->Cfg->List ExceptHandler->Bool
 |.nil,_,hs=>hs.isEmpty
 |.cons k nm body r,c,hs=>match hs with
  |.ExceptHandler (some (.Name x _)) nmE bodyE _::ax=>(c.exc[k]? == some x)&&glB c x&&!(x == ("__debug__" : Str))&&(match nm,nmE with
   |none,none=>true
   |some j,some n=>(c.N[j]? == some n)&&c.sc.names.lookup n == some .local
   |_,_=>false)&&!bodyE.isEmpty&&jC body c.caught bodyE&&tX r c ax
  |_=>false
end
end L2
namespace L2
open PySem PySem.Spec PyProof.Rows
structure Good (c:Cfg)(W:WC)(X:Cx)(E2:St->XK):Prop where
 N:X.N=c.N
 nd:c.N.Nodup
 sc:X.env.scope=c.sc
 un:X.A.units+64 < cLine
 calm:c.calm=true->X.calm=true
 fnx:c.fn=true->∀x,X.fn x=true
 cel:∀x,c.cel.lookup x=some .cell->X.fn x=true
 own:c.own=true->PassesOwn (model X.prog X.w) X.A X.env X.xe/\∃E,(E2=fun _=>E)/\qJ X E/\nU X E/\Room 2 X.A
 tr:c.tr=true->X.stack=X.env::X.outer/\X.env.frame=some X.env.locals/\X.ex=[]
 fns:c.calm=true->∃k,Room (k+1) X.A/\∀f,f < c.fns.length->pR X W.cls k (W.fad f) (W.call f)
 fnn:∀f x n,c.fns[f]?=some (some x,n)->X.mg x=some (.ref (W.fad f))
 kok:∀i,i < W.nk->KOk X.K W.toWB W.fad i
 kin:∀i,i < W.nk->∃f,W.ini i=some f
 kfi:∀i f,i < W.nk->W.ini i=some f->f < c.fns.length
 kfm:∀i m f,i < W.nk->W.mth i m=some f->f < c.fns.length
 knm:∀i x,c.kln[i]?=some x->X.mg x=some (.ref (W.kls i))/\i < W.nk
 glo:∀k x,c.gln[k]?=some x->∃u v,X.mg x=some u/\RelV v u/\∀H,Den X.K H (W.glo k) v
 exc:∀i x,c.exc[i]?=some x->X.mg x=some (.ref (W.cls i))/\(c.xin.lookup i=none->DF X.K (W.cls i))/\∀j,j < W.ne->PySem.W.exmOne X.K (.ref (W.cls j)) (.ref (W.cls i))=some (W.sub j i)
 exi:∀i,i < W.ne->ExcI X.K (W.cls i)/\PySem.W.kitOne X.K (.ref (W.cls i)) (.type "ValueError")=some true/\∀j x,c.exc[j]?=some x->PySem.W.kitOne X.K (.ref (W.cls i)) (.ref (W.cls j))=some (W.sub i j)
 xi:∀i f,c.xin.lookup i=some f->W.xin i=some f/\∃fI fd ps,XIni X.K (W.cls i) fI (fnm f)/\Binds X.K fd ps []/\FnOk X.prog X.w X.K X.mg X.base (CX1 X.prog X.w) 1 fI fd ps (rH (cpF f) X.K (W.cls i) (fnm f))
 xn:∀i f,i < W.ne->W.xin i=some f->NoAttr X.K (W.cls i) (fnm f)
 bi:∀x∈biNames,X.mg x=none
 dig:xH X.K
 pass:bq (CX1 X.prog X.w) X E2
section
variable {c:Cfg}{X:Cx}
theorem Good.gl(G:Good c W X E2)(h:glB c x=true):Gl X x:=by
 show X.env.scope.names.lookup x=_;rw[G.sc];exact beq_iff_eq.mp h
theorem Good.loc(G:Good c W X E2)(h:tF c x=true):Loc X.env.scope x/\(X.fn x=true\/X.env.scope.names.lookup x=some .local):=by
 unfold tF at h;rw[G.sc];simp only[Bool.or_eq_true,Bool.and_eq_true,beq_iff_eq]at h;rcases h with (h|⟨h1,h2⟩)|⟨h1,h2⟩
 ·exact⟨.inl h,.inr h⟩
 ·exact⟨.inr h2,.inl (G.fnx h1 x)⟩
 ·exact⟨.inr h2,.inl (G.cel x h1)⟩
theorem Good.vis(G:Good c W X E2)(h:z7 c.sc x=true):Vis X.env.scope x:=by
 rw[G.sc];unfold z7 at h;split at h
 ·exact .inl (by assumption)
 ·exact .inr (.inl (by assumption))
 ·exact .inr (.inr (by assumption))
 ·cases h
theorem Good.at{i:Nat}{x:Str}(G:Good c W X E2)(h:(c.N[i]? == some x)=true):X.N[i]?=some x:=by rw[G.N];exact beq_iff_eq.mp h
theorem Good.ndX(G:Good c W X E2):X.N.Nodup:=by rw[G.N];exact G.nd
theorem Good.names(G:Good c W X E2)(h:bG c.N c.sc c.fn is es=true):bG X.N X.env.scope c.fn is es=true:=by rw[G.N,G.sc];exact h
theorem r8:bq (CX1 P w) X no2:=fun _ _ _ _ _ _ _ h=>by
 obtain⟨_,_,_,_,_,_,_,_,_,_,_,_,_,he⟩:=h;exact he.elim
theorem Good.caught(G:Good c W X E2)(v:Value):Good c.caught W (X.marked v) no2:=
 ⟨G.N,G.nd,G.sc,G.un,(fun z=>nomatch z),G.fnx,G.cel,(fun z=>nomatch z),(fun z=>nomatch z),(fun z=>nomatch z),G.fnn,G.kok,G.kin,G.kfi,G.kfm,G.knm,G.glo,G.exc,G.exi,G.xi,G.xn,G.bi,G.dig,r8⟩
theorem Good.comp(G:Good c W X E2){N:List Str}{js:List (Option Nat)}{scope:Scope}(h:dP N js scope c.sc c.N=true)(C:Addr)(s2:Shared)(H2:Hp)(fp:List Addr)(pn:List (Addr×Obj)):Good (c.comp N scope) W (compCx X scope C N s2 H2 fp pn) no2:=by
 have hc:=j5 h;refine⟨rfl,hc.nd,?_,G.un,G.calm,(fun z=>nomatch z),(fun x z=>beq_iff_eq.mpr z),(fun z=>nomatch z),(fun z=>nomatch z),G.fns,G.fnn,G.kok,G.kin,G.kfi,G.kfm,G.knm,G.glo,G.exc,G.exi,G.xi,G.xn,G.bi,G.dig,r8⟩
 show relabel scope X.env=wj scope c.sc;unfold relabel wj;rw[<-G.sc];rfl
end
theorem bR(h:eI e=true):starEach (e::es) env=(false,eval e env)::starEach es env:=by
 cases e<;>first|rfl|cases h
theorem qG(h:kJ e=true):∀x,foldedSetIterable e env x=pure x:=by
 intro x;cases e<;>first|rfl|cases h
theorem fN(h:kJ e=true):behindInMarks op e=false:=by
 cases e<;>first|rfl|cases h
theorem iZ(h:jV e=true):swapsWith e t n env=pure false:=by
 cases e<;>first|rfl|cases h
theorem ph{e:Expr}(h:ow e=true):∀whole,isTrue e env whole=(do let v<-whole;standAt e.pos;holding [v] (truthy v)):=by
 intro whole;cases e<;>first|rfl|cases h
theorem uy(h:k8 e=true):kZ e:=by
 intro o i;cases e<;>first|rfl|cases h
theorem zR{e:Expr}{m:Str}{env:Env}{whole:Sem Value}(h:uQ e=true):attributeBase e m env whole=whole:=by
 cases e<;>first|rfl|cases h
theorem eg{e:Expr}{m:Str}{env:Env}{whole:Sem Value}(h:mi e=true):attributeBase e m env whole=whole:=by
 cases e with
 |Call f as ks p=>
  cases f with
  |Name x px=>
   cases as with
   |nil=>
    cases ks with
    |nil=>cases h
    |cons _ _=>rfl
   |cons _ _=>rfl
  |_=>rfl
 |_=>rfl
theorem vC(h:k8 i=true):∀v,assign (.Subscript o i p) env v=(do
   let ov<-holding [v] (eval o env)
   let iv<-holding [v,ov] (eval i env)
   standAt p
   holding [v,ov,iv] (setItem ov iv v)
   release [v,ov,iv] []):=by
 intro v;cases i<;>first|rfl|cases h
theorem sy(h:uk e=true):swappedStores [.Tuple es k p] e env=pure none:=by
 cases e<;>first|rfl|cases h
theorem c6(pos:Pos):∀{r:IA}{c:Cfg}{es:List Expr}{env:Env},okA r c es=true->(backTo pos (starEach es env)).any (·.1)=false
 |.nil,c,es,env,h=>by
  simp only[okA]at h;cases es with
  |nil=>rfl
  |cons _ _=>cases h
 |.cons a r,c,es,env,h=>by
  cases es with
  |nil=>simp[okA]at h
  |cons x xs=>
   simp only[okA,Bool.and_eq_true]at h;rw[bR h.1.1];show (false||(backTo pos (starEach xs env)).any (·.1))=false
   rw[c6 pos h.2];rfl
end L2
namespace L2
open PySem PySem.Spec PyProof.Rows
theorem uW(h:PE X a t):PE X (.BoolOp op [a] pos) t:=zq h
theorem wU(b:BI):((iS b:String):Str)∈biNames:=by
 cases b with
 |list fz=>cases fz<;>decide +kernel
 |_=>decide +kernel
theorem za(t:BT):((bO t:String):Str)∈biNames:=by cases t<;>decide +kernel
theorem uE{X:Cx}(hu:X.A.units+64 < cLine)(hc:X.calm=true)(hd:xH X.K)(hg:Gl X (iS b:String))(hm:X.mg (iS b:String)=none)(ha:PA X (e::es) (dG X.K cls E2 tr))
  (he:starEach (e::es) X.env=(false,eval e X.env)::starEach es X.env) (hpl:(backTo pos (starEach es X.env)).any (·.1)=false):PE X (.Call (.Name (iS b:String) p) (e::es) [] pos) (low X.K cls E2 fun σ M Q E=>tr σ M (fun xs M1=>rBi b xs M1 Q) E):=by
 cases b with
 |len=>exact fF Am hg hm (by decide +kernel) ha (by decide +kernel) (by decide +kernel) he hpl
 |max=>exact fF (xp hc) hg hm (by decide +kernel) ha (by decide +kernel) (by decide +kernel) he hpl
 |min=>exact fF (wn hc) hg hm (by decide +kernel) ha (by decide +kernel) (by decide +kernel) he hpl
 |list fz=>exact t6 (ui fz hc) hg hm (by cases fz<;>decide +kernel) ha (by cases fz<;>decide +kernel) (by cases fz<;>decide +kernel) he hpl
 |all=>exact fF (uR true hc) hg hm (by decide +kernel) ha (by decide +kernel) (by decide +kernel) he hpl
 |any=>exact fF (uR false hc) hg hm (by decide +kernel) ha (by decide +kernel) (by decide +kernel) he hpl
theorem tL{X:Cx}{apos pos:Pos}(hu:X.A.units+64 < cLine)(ho:PE X o (low X.K cls E2 to))(ha:PA X (e::es) (dG X.K cls E2 tr))
  (hb:attributeBase o (hV b:String) X.env (eval o X.env)=eval o X.env) (hn:(e::es).length < 30) (hl:(apos.endLine == pos.line)=true) (he:starEach (e::es) X.env=(false,eval e X.env)::starEach es X.env) (hpl:(backTo pos (starEach es X.env)).any (·.1)=false) :
  PE X (.Call (.Attribute o (hV b:String) apos) (e::es) [] pos) (low X.K cls E2 fun σ M Q E=>to σ M (fun x M1=>tyB b x M1=true/\tr σ M1 (fun xs M2=>rBm b x xs M2 Q) E) E):=by
 cases b with
 |get=>exact rD PySem.F.plainAttrs_dict PySem.F.slot_dict_get PySem.F.type_dict_get (rK hu) kE ho ha hb hn hl he hpl
 |clear=>exact rD PySem.F.plainAttrs_list PySem.F.slot_list_clear PySem.F.type_list_clear lA cS ho ha hb hn hl he hpl
 |extend=>exact rD PySem.F.plainAttrs_list PySem.F.slot_list_extend PySem.F.type_list_extend j3 cS ho ha hb hn hl he hpl
 |remove=>exact rD PySem.F.plainAttrs_list PySem.F.slot_list_remove PySem.F.type_list_remove (j2 hu) cS ho ha hb hn hl he hpl
 |setdef=>exact rD PySem.F.plainAttrs_dict PySem.F.slot_dict_setdefault PySem.F.type_dict_setdefault jK lN ho ha hb hn hl he hpl
theorem qz{X:Cx}{apos pos:Pos}(hu:X.A.units+64 < cLine)(ho:PE X o (low X.K cls E2 to))
  (hb:attributeBase o (hV b:String) X.env (eval o X.env)=eval o X.env) (hl:(apos.endLine == pos.line)=true) :
  PE X (.Call (.Attribute o (hV b:String) apos) [] [] pos) (low X.K cls E2 fun σ M Q E=>to σ M (fun x M1=>tyB b x M1=true/\rBm b x [] M1 Q) E):=by
 cases b with
 |get=>exact lT PySem.F.plainAttrs_dict PySem.F.slot_dict_get PySem.F.type_dict_get (rK hu) kE ho hb hl
 |clear=>exact lT PySem.F.plainAttrs_list PySem.F.slot_list_clear PySem.F.type_list_clear lA cS ho hb hl
 |extend=>exact lT PySem.F.plainAttrs_list PySem.F.slot_list_extend PySem.F.type_list_extend j3 cS ho hb hl
 |remove=>exact lT PySem.F.plainAttrs_list PySem.F.slot_list_remove PySem.F.type_list_remove (j2 hu) cS ho hb hl
 |setdef=>exact lT PySem.F.plainAttrs_dict PySem.F.slot_dict_setdefault PySem.F.type_dict_setdefault jK lN ho hb hl
theorem dj(h:okA (.cons a r) c es=true):∃x xs,es=x::xs/\eI x=true/\okE a c x=true/\okA r c xs=true:=by
 cases es with
 |nil=>simp[okA]at h
 |cons x xs=>
  simp only[okA,Bool.and_eq_true]at h;exact⟨x,xs,rfl,h.1.1,h.1.2,h.2⟩
noncomputable def E9:IT->Bool
 |.and _ _=>true
 |.or _ _=>true
 |_=>false
section
variable {W:WC}
theorem sG:∀(tg:ITg) {c:Cfg}{e:Expr}{X:Cx}{E2:St->XK},okG c tg e=true->Good c W X E2->PG X e (qi X.K (wpG tg))
 |.name i,c,e,X,E2,h,G=>by
  simp only[okG]at h;split at h
  ·simp only[Bool.and_eq_true]at h;obtain⟨l1,l2⟩:=G.loc h.2;exact xr G.ndX (G.at h.1) l1 l2
  ·cases h
 |.tup is,c,e,X,E2,h,G=>by
  simp only[okG]at h;split at h
  ·simp only[Bool.and_eq_true]at h;exact uZ (G.calm h.1) G.ndX G.fnx (G.names h.2)
  ·cases h
mutual
theorem sE:∀(ie:IE) {c:Cfg}{e:Expr}{X:Cx}{E2:St->XK},okE ie c e=true->Good c W X E2->PE X e (low X.K W.cls E2 (wpE W ie))
 |.var i,c,e,X,E2,h,G=>by
  unfold okE at h;split at h
  ·simp only[Bool.and_eq_true,Bool.not_eq_true']at h;exact BG (G.at h.1.1.1) (G.vis h.1.1.2) h.1.2 h.2
  ·cases h
 |.con d,c,e,X,E2,h,G=>by
  unfold okE at h;split at h
  ·split at h
   ·cases of_decide_eq_true h;exact mh wS fun _=>rfl
   ·cases of_decide_eq_true h;exact mh Dt fun _=>rfl
   ·exact mh zA fun _=>rfl
   ·cases of_decide_eq_true h;exact mh Ap fun _=>rfl
   ·cases h
  ·cases h
 |.bin op a b,c,e,X,E2,h,G=>by
  unfold okE at h;split at h
  ·simp only[Bool.and_eq_true,decide_eq_true_eq]at h;obtain⟨⟨rfl,h1⟩,h2⟩:=h;exact EA (wK op) (sE a h1 G) (sE b h2 G)
  ·cases h
 |.neg a,c,e,X,E2,h,G=>by
  unfold okE at h;split at h
  ·simp only[Bool.and_eq_true,decide_eq_true_eq]at h;obtain⟨rfl,h1⟩:=h;exact EZ (ta:=wpE W a) (r:=rNeg) xk (sE a h1 G)
  ·cases h
 |.cmp op a b,c,e,X,E2,h,G=>by
  unfold okE at h;split at h
  ·simp only[Bool.and_eq_true,decide_eq_true_eq]at h;obtain⟨⟨⟨rfl,h0⟩,h1⟩,h2⟩:=h;exact Di (dc G.un op) (sE a h1 G) (sE b h2 G) (fN h0)
  ·cases h
 |.chain op1 op2 a b d,c,e,X,E2,h,G=>by
  unfold okE at h;split at h
  ·simp only[Bool.and_eq_true,decide_eq_true_eq]at h;obtain⟨⟨⟨⟨⟨rfl,rfl⟩,h0⟩,h1⟩,h2⟩,h3⟩:=h;exact ua (dc G.un op1) (dc G.un op2) (sE a h1 G) (sE b h2 G) (sE d h3 G) (fN h0)
  ·cases h
 |.and a b,c,e,X,E2,h,G=>by
  unfold okE at h;split at h
  ·rename_i op x y r p;simp only[Bool.and_eq_true,decide_eq_true_eq]at h;obtain⟨⟨rfl,h1⟩,h2⟩:=h;cases r with
   |nil=>exact uU (sE a h1 G) (uW (sE b h2 G))
   |cons z r=>exact uU (sE a h1 G) (sE b h2 G)
  ·cases h
 |.or a b,c,e,X,E2,h,G=>by
  unfold okE at h;split at h
  ·rename_i op x y r p;simp only[Bool.and_eq_true,decide_eq_true_eq]at h;obtain⟨⟨rfl,h1⟩,h2⟩:=h;cases r with
   |nil=>exact Bq (sE a h1 G) (uW (sE b h2 G))
   |cons z r=>exact Bq (sE a h1 G) (sE b h2 G)
  ·cases h
 |.not a,c,e,X,E2,h,G=>by
  unfold okE at h;split at h
  ·simp only[Bool.and_eq_true,decide_eq_true_eq]at h;obtain⟨rfl,h1⟩:=h;exact Be (sE a h1 G)
  ·cases h
 |.tup es,c,e,X,E2,h,G=>by
  unfold okE at h;split at h
  ·exact C6 (sA es h G)
  ·cases h
 |.lst fz es,c,e,X,E2,h,G=>by
  unfold okE at h;split at h
  ·exact AF (sA es h G)
  ·cases h
 |.frz a,c,e,X,E2,h,G=>by
  unfold okE at h;exact Bf (sE a h G)
 |.ix a b,c,e,X,E2,h,G=>by
  unfold okE at h;split at h
  ·simp only[Bool.and_eq_true]at h;exact Fx G.un (sE a h.1.2 G) (sE b h.2 G) (uy h.1.1)
  ·cases h
 |.sl fz a lo hi,c,e,X,E2,h,G=>by
  unfold okE at h;split at h
  ·simp only[Bool.and_eq_true]at h;exact EH (sE a h.1.1 G) (sO lo h.1.2 G) (sO hi h.2 G)
  ·cases h
 |.call f es,c,e,X,E2,h,G=>by
  unfold okE at h;split at h
  ·rename_i x px args pos;simp only[Bool.and_eq_true,Bool.not_eq_true']at h;obtain⟨⟨⟨⟨h0,h1⟩,h2⟩,h3⟩,h4⟩:=h;split at h1
   ·rename_i p hp;simp only[Bool.and_eq_true,decide_eq_true_eq]at h1;obtain⟨h1,_⟩:=h1;obtain⟨p1,p2⟩:=p;cases h1;obtain⟨k,hr,hF⟩:=G.fns h0;obtain⟨fd,ps,sp0,m2,m3,m5⟩:=hF f (List.getElem?_eq_some_iff.mp hp).1;have m1:=G.fnn f x p2 hp;have m4:=hr.mono (Nat.le_succ k);have hA:=sA es h4 G;cases args with
    |nil=>
     cases es with
     |nil=>exact uh m5 m4 (G.gl h2) m1 m2 m3 G.pass h3
     |cons _ _=>simp[okA]at h4
    |cons z zs=>
     cases es with
     |nil=>simp[okA]at h4
     |cons ea er=>
      obtain⟨_,_,e1,n1,_,n3⟩:=dj h4;cases e1;exact Au m5 m4 (G.gl h2) m1 m2 m3 G.pass hA h3 (bR n1) (c6 _ n3)
   ·cases h1
  ·cases h
 |.bi b es,c,e,X,E2,h,G=>by
  unfold okE at h;split at h
  ·rename_i x px args pos;simp only[Bool.and_eq_true,decide_eq_true_eq]at h;obtain⟨⟨⟨⟨h0,rfl⟩,h2⟩,h3⟩,h4⟩:=h;have hA:=sA es h4 G;cases args with
   |nil=>cases h3
   |cons z zs=>
    cases es with
    |nil=>simp[okA]at h4
    |cons ea er=>
     obtain⟨_,_,e1,n1,_,n3⟩:=dj h4;cases e1;exact uE G.un (G.calm h0) G.dig (G.gl h2) (G.bi _ (wU b)) hA (bR n1) (c6 _ n3)
  ·cases h
 |.isB a t,c,e,X,E2,h,G=>by
  unfold okE at h;split at h
  ·simp only[Bool.and_eq_true,decide_eq_true_eq]at h;obtain⟨⟨⟨⟨⟨rfl,rfl⟩,h2⟩,h3⟩,h4⟩,h5⟩:=h;exact Cs (sE a h5 G) (G.gl h2) (G.bi _ (by decide +kernel)) (G.gl h3) (G.bi _ (za t)) (bR h4)
  ·cases h
 |.comp fz N js tg it cond elt,c,e,X,E2,h,G=>by
  unfold okE at h;split at h
  ·simp only[Bool.and_eq_true,decide_eq_true_eq]at h;obtain⟨⟨⟨⟨⟨⟨⟨⟨h0,rfl⟩,ht⟩,h1⟩,h2⟩,h3⟩,h4⟩,h5⟩,h6⟩:=h;have hok:=h2;rw[<-G.sc,<-G.N]at hok;exact xK hok (G.calm h0) (sI it h3 G ht) (fun C s2 H2 fp pn=>sG tg h4 (G.comp h2 C s2 H2 fp pn)) (fun C s2 H2 fp pn=>sTO cond h5 (G.comp h2 C s2 H2 fp pn)) (fun C s2 H2 fp pn=>sE elt h6 (G.comp h2 C s2 H2 fp pn)) (qG h1) fz
  ·cases h
 |.mmp a,c,e,X,E2,h,G=>by
  unfold okE at h;split at h
  ·simp only[Bool.and_eq_true,decide_eq_true_eq]at h;obtain⟨⟨⟨⟨h0,rfl⟩,h1⟩,h2⟩,h3⟩:=h;exact Cu (G.calm h0) G.un (sE a h3 G) (G.gl h1) (G.bi _ (by decide +kernel)) (bR h2)
  ·cases h
 |.fld a f,c,e,X,E2,h,G=>by
  unfold okE at h;split at h
  ·simp only[Bool.and_eq_true,decide_eq_true_eq]at h;obtain⟨⟨rfl,h1⟩,h2⟩:=h;exact B6 G.kok (sE a h2 G) (eg h1)
  ·cases h
 |.make fz i es,c,e,X,E2,h,G=>by
  unfold okE at h;split at h
  ·rename_i x px args pos;simp only[Bool.and_eq_true,Bool.not_eq_true']at h;obtain⟨⟨⟨⟨h0,h1⟩,h2⟩,h3⟩,h4⟩:=h;obtain⟨m1,hi⟩:=G.knm i x (beq_iff_eq.mp h1);obtain⟨k,hr,hF⟩:=G.fns h0;have hA:=sA es h4 G;cases q:W.ini i with
   |none=>exact absurd q (by obtain⟨f,hf⟩:=G.kin i hi;rw[hf];exact fun z=>nomatch z)
   |some f=>
    have F:=hF f (G.kfi i f hi q);cases args with
    |nil=>
     cases es with
     |nil=>exact (uz (B:=W.toWB) (fz:=fz) (G.gl h2) m1 h3 ((G.kok i hi).mkr f q) F hr G.pass).imp fun σ H Q2 hl_=>ex9 hl_ fun σ3 M Q E3 rm ds lk hh back=>⟨σ3,M,Q,E3,rm,ds,lk,by simp only[wpE,wpA,q,fR]at hh;exact hh.2,back⟩
     |cons _ _=>simp[okA]at h4
    |cons z zs=>
     cases es with
     |nil=>simp[okA]at h4
     |cons ea er=>
      obtain⟨_,_,e1,n1,_,n3⟩:=dj h4;cases e1;have hA2:PA X (z::zs) (dG X.K W.cls E2 fun σ M Q E=>wpA W (.cons ea er) σ M (fun xs M1=>i < W.nk/\Q xs M1) E):=hA.imp fun σ H Q2 hl_=>ex9 hl_ fun σ3 M Q E3 rm ds lk hh back=>⟨σ3,M,_,E3,rm,ds,lk,hh,fun vs H' xs M' a b c d=>back vs H' xs M' a b c d.2⟩
      exact (Av (B:=W.toWB) (fz:=fz) (G.gl h2) m1 h3 ((G.kok i hi).mkr f q) F hr G.pass hA2 (bR n1) (c6 _ n3)).imp fun σ H Q2 hl_=>ex9 hl_ fun σ3 M Q E3 rm ds lk hh back=>⟨σ3,M,Q,E3,rm,ds,lk,by simp only[wpE,q,fR]at hh;exact hh,back⟩
  ·cases h
 |.meth a m es,c,e,X,E2,h,G=>by
  unfold okE at h;split at h
  ·rename_i x n ap args cp;simp only[Bool.and_eq_true,decide_eq_true_eq]at h;obtain⟨⟨⟨⟨⟨⟨h0,rfl⟩,h1⟩,h2⟩,h3⟩,h4⟩,h5⟩:=h;obtain⟨k,hr,hF⟩:=G.fns h0;have hA:=sA es h5 G;cases args with
   |nil=>
    cases es with
    |nil=>exact t8 (B:=W.toWB) G.kok (fun i m f hi q=>hF f (G.kfm i m f hi q)) (hr.mono (Nat.le_succ k)) G.pass (sE a h4 G) (eg h1) h2
    |cons _ _=>simp[okA]at h5
   |cons z zs=>
    cases es with
    |nil=>simp[okA]at h5
    |cons ea er=>
     obtain⟨_,_,e1,n1,_,n3⟩:=dj h5;cases e1;exact wR (B:=W.toWB) G.kok (fun i m f hi q=>hF f (G.kfm i m f hi q)) (hr.mono (Nat.le_succ k)) G.pass (sE a h4 G) hA (eg h1) h2 h3 (bR n1) (c6 _ n3)
  ·cases h
 |.ini i es,c,e,X,E2,h,G=>by
  unfold okE at h;split at h
  ·rename_i x px n ap args cp;simp only[Bool.and_eq_true,decide_eq_true_eq,Bool.not_eq_true']at h;obtain⟨⟨⟨⟨⟨⟨⟨⟨h0,rfl⟩,h1⟩,h2⟩,h3⟩,h4⟩,h5⟩,h6⟩,h7⟩:=h;obtain⟨m1,hi⟩:=G.knm i x (beq_iff_eq.mp h1);obtain⟨k,hr,hF⟩:=G.fns h0;have hA:=sA es h7 G;cases args with
   |nil=>cases h6
   |cons z zs=>
    cases es with
    |nil=>simp[okA]at h7
    |cons ea er=>
     obtain⟨_,_,e1,n1,_,n3⟩:=dj h7;cases e1;cases q:W.ini i with
     |none=>exact absurd q (by obtain⟨f,hf⟩:=G.kin i hi;rw[hf];exact fun z=>nomatch z)
     |some f=>
      have hA2:PA X (z::zs) (dG X.K W.cls E2 fun σ M Q E=>wpA W (.cons ea er) σ M (fun xs M1=>i < W.nk/\Q xs M1) E):=hA.imp fun σ H Q2 hl_=>ex9 hl_ fun σ3 M Q E3 rm ds lk hh back=>⟨σ3,M,_,E3,rm,ds,lk,hh,fun vs H' xs M' a b c d=>back vs H' xs M' a b c d.2⟩
      exact (AG (B:=W.toWB) (G.gl h2) m1 h3 ((G.kok i hi).ci f q) (hF f (G.kfi i f hi q)) (hr.mono (Nat.le_succ k)) G.pass hA2 h4 h5 (bR n1) (c6 _ n3)).imp fun σ H Q2 hl_=>ex9 hl_ fun σ3 M Q E3 rm ds lk hh back=>⟨σ3,M,Q,E3,rm,ds,lk,by simp only[wpE,q,fR]at hh;exact hh,back⟩
  ·cases h
 |.glo k,c,e,X,E2,h,G=>by
  unfold okE at h;split at h
  ·rename_i x px;simp only[Bool.and_eq_true,Bool.not_eq_true']at h;obtain⟨u,v,m1,r,hd⟩:=G.glo k x (beq_iff_eq.mp h.1.1);exact Dx (G.gl h.1.2) m1 r h.2 hd
  ·cases h
 |.bm b o es,c,e,X,E2,h,G=>by
  unfold okE at h;split at h
  ·rename_i x n ap args cp;simp only[Bool.and_eq_true,decide_eq_true_eq]at h;obtain⟨⟨⟨⟨⟨⟨h0,rfl⟩,h1⟩,h2⟩,h3⟩,h4⟩,h5⟩:=h;have hA:=sA es h5 G;cases args with
   |nil=>
    cases es with
    |nil=>exact qz G.un (sE o h4 G) (eg h1) h2
    |cons _ _=>simp[okA]at h5
   |cons z zs=>
    cases es with
    |nil=>simp[okA]at h5
    |cons ea er=>
     obtain⟨_,_,e1,n1,_,n3⟩:=dj h5;cases e1;exact tL G.un (sE o h4 G) hA (eg h1) h3 h2 (bR n1) (c6 _ n3)
  ·cases h
 |.dnew tk,c,e,X,E2,h,G=>by
  unfold okE at h;split at h
  ·exact yi tk
  ·cases h
theorem sT:∀(it:IT) {c:Cfg}{e:Expr}{X:Cx}{E2:St->XK},okT it c e=true->Good c W X E2->PT X e (cz X.K W.cls E2 (wpT W it))/\(E9 it=true->PW X e (cz X.K W.cls E2 (wpT W it)))
 |.val a,c,e,X,E2,h,G=>by
  unfold okT at h;simp only[Bool.and_eq_true]at h;exact⟨B0 (sE a h.2 G) (ph h.1),fun z=>nomatch z⟩
 |.cmp op a b,c,e,X,E2,h,G=>by
  unfold okT at h;split at h
  ·simp only[Bool.and_eq_true,decide_eq_true_eq]at h;obtain⟨⟨⟨rfl,h0⟩,h1⟩,h2⟩:=h;exact⟨AK (dc G.un op) (sE a h1 G) (sE b h2 G) (fN h0),fun z=>nomatch z⟩
  ·cases h
 |.chain op1 op2 a b d,c,e,X,E2,h,G=>by
  unfold okT at h;split at h
  ·simp only[Bool.and_eq_true,decide_eq_true_eq]at h;obtain⟨⟨⟨⟨⟨rfl,rfl⟩,h0⟩,h1⟩,h2⟩,h3⟩:=h;exact⟨sN (dc G.un op1) (dc G.un op2) (sE a h1 G) (sE b h2 G) (sE d h3 G) (fN h0),fun z=>nomatch z⟩
  ·cases h
 |.chain3 op1 op2 op3 a b d f,c,e,X,E2,h,G=>by
  unfold okT at h;split at h
  ·simp only[Bool.and_eq_true,decide_eq_true_eq]at h;obtain⟨⟨⟨⟨⟨⟨⟨rfl,rfl⟩,rfl⟩,h0⟩,h1⟩,h2⟩,h3⟩,h4⟩:=h;exact⟨rq (dc G.un op1) (dc G.un op2) (dc G.un op3) (sE a h1 G) (sE b h2 G) (sE d h3 G) (sE f h4 G) (fN h0),fun z=>nomatch z⟩
  ·cases h
 |.and a b,c,e,X,E2,h,G=>by
  unfold okT at h;split at h
  ·rename_i op x y r p;simp only[Bool.and_eq_true,decide_eq_true_eq]at h;obtain⟨⟨rfl,h1⟩,h2⟩:=h;have hA:=(sT a h1 G).1;cases r with
   |nil=>exact⟨(oO hA (oy (sT b h2 G).1)).pt,fun _=>oO hA (oy (sT b h2 G).1)⟩
   |cons z r=>
    have hB:=(sT b h2 G).2;cases b with
    |and b1 b2=>exact⟨(oO hA (hB rfl)).pt,fun _=>oO hA (hB rfl)⟩
    |val b1=>simp[okT,ow]at h2
    |cmp=>simp[okT]at h2
    |chain=>simp[okT]at h2
    |chain3=>simp[okT]at h2
    |or=>simp[okT]at h2
    |not=>simp[okT]at h2
  ·cases h
 |.or a b,c,e,X,E2,h,G=>by
  unfold okT at h;split at h
  ·rename_i op x y r p;simp only[Bool.and_eq_true,decide_eq_true_eq]at h;obtain⟨⟨rfl,h1⟩,h2⟩:=h;have hA:=(sT a h1 G).1;cases r with
   |nil=>exact⟨(uv hA (rJ (sT b h2 G).1)).pt,fun _=>uv hA (rJ (sT b h2 G).1)⟩
   |cons z r=>
    have hB:=(sT b h2 G).2;cases b with
    |or b1 b2=>exact⟨(uv hA (hB rfl)).pt,fun _=>uv hA (hB rfl)⟩
    |val b1=>simp[okT,ow]at h2
    |cmp=>simp[okT]at h2
    |chain=>simp[okT]at h2
    |chain3=>simp[okT]at h2
    |and=>simp[okT]at h2
    |not=>simp[okT]at h2
  ·cases h
 |.not a,c,e,X,E2,h,G=>by
  unfold okT at h;split at h
  ·simp only[Bool.and_eq_true,decide_eq_true_eq]at h;obtain⟨rfl,h1⟩:=h;exact⟨DK (sT a h1 G).1,fun z=>nomatch z⟩
  ·cases h
theorem sA:∀(ia:IA) {c:Cfg}{es:List Expr}{X:Cx}{E2:St->XK},okA ia c es=true->Good c W X E2->PA X es (dG X.K W.cls E2 (wpA W ia))
 |.nil,c,es,X,E2,h,G=>by
  simp only[okA]at h;cases es with
  |nil=>exact AM
  |cons _ _=>cases h
 |.cons a r,c,es,X,E2,h,G=>by
  obtain⟨x,xs,rfl,h1,h2,h3⟩:=dj h;exact vR (sE a h2 G) (sA r h3 G) (bR h1)
theorem sO:∀(io:IO) {c:Cfg}{o:Option Expr}{X:Cx}{E2:St->XK},okO io c o=true->Good c W X E2->PO X o (p9 X.K W.cls E2 (wpO W io))
 |.no,c,o,X,E2,h,G=>by
  simp only[okO]at h;cases o with
  |none=>exact Eu
  |some _=>cases h
 |.yes a,c,o,X,E2,h,G=>by
  cases o with
  |none=>simp[okO]at h
  |some x=>
   simp only[okO]at h;exact BY (sE a h G)
theorem sTO:∀(io:ITO) {c:Cfg}{es:List Expr}{X:Cx}{E2:St->XK},tI io c es=true->Good c W X E2->PIf X es (cz X.K W.cls E2 (lE W io))
 |.no,c,es,X,E2,h,G=>by
  simp only[tI]at h;cases es with
  |nil=>exact fun pins s σ H Q2 I ⟨σ3,M,Q,E3,rm,ds,lk,h,back⟩=>uf pins s σ H Q2 I (back _ _ _ rm (.refl _) h)
  |cons _ _=>cases h
 |.yes t,c,es,X,E2,h,G=>by
  unfold tI at h;split at h
  ·exact tY (sT t h G).1
  ·cases h
theorem sI:∀(ii:II) {c:Cfg}{e:Expr}{X:Cx}{E2:St->XK}{tg:Expr},okI ii c e=true->Good c W X E2->qh ii tg=true->PI X tg e (jB X.K W.cls E2 (wpI W ii))
 |.seq a,c,e,X,E2,tg,h,G,_=>by
  unfold okI at h;exact AO (sE a h G)
 |.enum a,c,e,X,E2,tg,h,G,ht=>by
  unfold okI at h;split at h
  ·simp only[Bool.and_eq_true,decide_eq_true_eq]at h;obtain⟨⟨⟨rfl,h1⟩,h2⟩,h3⟩:=h;have hA:=sE a h3 G;cases tg<;>first
    |exact ym (G.gl h1) (G.bi _ (by decide +kernel)) hA (bR h2)
    |(simp[qh]at ht)
  ·cases h
 |.zip a b,c,e,X,E2,tg,h,G,ht=>by
  unfold okI at h;split at h
  ·simp only[Bool.and_eq_true,decide_eq_true_eq]at h;obtain⟨⟨⟨⟨⟨rfl,h1⟩,h2⟩,h3⟩,h4⟩,h5⟩:=h;have hA:=sE a h4 G;have hB:=sE b h5 G;cases tg<;>first
    |exact AQ (G.gl h1) (G.bi _ (by decide +kernel)) hA hB (by rw[bR h2,bR h3];rfl) (bR h3)
    |(simp[qh]at ht)
  ·cases h
 |.items a,c,e,X,E2,tg,h,G,ht=>by
  unfold okI at h;split at h
  ·simp only[Bool.and_eq_true,decide_eq_true_eq]at h;obtain⟨⟨⟨rfl,h1⟩,h2⟩,h3⟩:=h;have hA:=sE a h3 G;cases tg<;>first
    |exact um hA (eg h1) h2
    |(simp[qh]at ht)
  ·cases h
 |.dk a,c,e,X,E2,tg,h,G,_=>by
  unfold okI at h;exact FC (sE a h G)
 |.rng1 a,c,e,X,E2,tg,h,G,_=>by
  unfold okI at h;split at h
  ·simp only[Bool.and_eq_true,decide_eq_true_eq]at h;obtain⟨⟨⟨rfl,h1⟩,h2⟩,h3⟩:=h;exact EG (G.gl h1) (G.bi _ (by decide +kernel)) (sE a h3 G) (bR h2)
  ·cases h
end
end
end L2
namespace L2
open PySem PySem.Spec PyProof.Rows
theorem qx{X:Cx}(G:Good c W X E2){pos px spos:Pos}(h:swB c scope x px.line pos.line=true) :
  swapsWith (.ListComp el gs scope pos) (some (.Name x px)) spos.line X.env=pure true:=by
 unfold swB at h;simp only[Bool.and_eq_true]at h;have h1:X.env.scope.kind=.function:=by rw[G.sc];exact beq_iff_eq.mp h.1.1.1
 have h2:X.env.kindOf x=some .local:=by show X.env.scope.names.lookup x=_;rw[G.sc];exact beq_iff_eq.mp h.1.1.2
 have hb:(X.env.blockKind == .function)=true:=by
  unfold Env.blockKind;rw[h1];rfl
 show (pure (X.env.blockKind == .function&&X.env.kindOf x == some .local&&px.line == pos.line&&!(scope.names.any fun (n,k)=>n == x&&(k == .local||k == .cell))):Sem Bool)=pure true
 rw[hb,h2,h.1.2,h.2];rfl
theorem xS{c:Cfg}{X:Cx}(G:Good c W X E2){spos:Pos}(h:(c.sc.names.lookup x == some .cell)=true) :
  swapsWith (.ListComp el gs scope pos) (some (.Name x px)) spos.line X.env=pure false:=by
 have h2:X.env.kindOf x=some .cell:=by show X.env.scope.names.lookup x=_;rw[G.sc];exact beq_iff_eq.mp h
 show (pure (X.env.blockKind == .function&&X.env.kindOf x == some .local&&px.line == pos.line&&!(scope.names.any fun (n,k)=>n == x&&(k == .local||k == .cell))):Sem Bool)=pure false
 rw[h2,show ((some NameKind.cell:Option NameKind) == some .local)=false from rfl,Bool.and_false];rfl
theorem tW{c:Cfg}(h:swB c scope x a b=true):c.sc.names.lookup x=some .local:=by
 unfold swB at h;simp only[Bool.and_eq_true,beq_iff_eq]at h;exact h.1.1.2
section
variable {W:WC}
theorem rg{fz:Bool}{N:List Str}{js:List (Option Nat)}{tg:ITg}{it:II}{cond:ITO}{elt:IE}{c:Cfg}{X:Cx}{E2:St->XK}{i:Nat}{x:Str}{px spos pos:Pos}{el:Expr}{gs:List Comprehension}{scope:Scope}
  (h:okE (.comp fz N js tg it cond elt) c (.ListComp el gs scope pos)=true) (hi:(c.N[i]? == some x)=true) (hsw:swB c scope x px.line pos.line=true) (G:Good c W X E2) :
  PS X (.Assign [.Name x px] (.ListComp el gs scope pos) spos) (bN X.K W.cls E2 (wpS W (.set i (.comp fz N js tg it cond elt)))):=by
 have sp:=qx (spos:=spos) (el:=el) (gs:=gs) G hsw;unfold okE at h;split at h
 ·rename_i el' tgE iter ifs as scope' pos' heq;cases heq;simp only[Bool.and_eq_true,decide_eq_true_eq]at h;obtain⟨⟨⟨⟨⟨⟨⟨⟨h0,rfl⟩,ht⟩,h1⟩,h2⟩,h3⟩,h4⟩,h5⟩,h6⟩:=h;have hok:=h2;rw[<-G.sc,<-G.N]at hok;exact nt hok (G.calm h0) (sI it h3 G ht) (fun C s2 H2 fp pn=>sG tg h4 (G.comp h2 C s2 H2 fp pn)) (fun C s2 H2 fp pn=>sTO cond h5 (G.comp h2 C s2 H2 fp pn)) (fun C s2 H2 fp pn=>sE elt h6 (G.comp h2 C s2 H2 fp pn)) (qG h1) G.ndX (G.at hi) (by rw[G.sc];exact tW hsw) sp fz
 ·cases h
mutual
theorem sS:∀(is:IS) {c:Cfg}{s:Stmt}{X:Cx}{E2:St->XK},okS is c s=true->Good c W X E2->PS X s (bN X.K W.cls E2 (wpS W is))
 |.set i a,c,s,X,E2,h,G=>by
  unfold okS at h;split at h
  ·simp only[Bool.and_eq_true,Bool.or_eq_true]at h;obtain⟨⟨⟨h1,h2⟩,h3⟩,h4⟩:=h;obtain⟨l1,l2⟩:=G.loc h2;rcases h4 with h4|h4
   ·exact u0 G.ndX (G.at h1) l1 (sE a h3 G) (iZ h4) l2
   ·split at h4
    ·rcases Bool.or_eq_true_iff.mp h4 with h4|h4
     ·exact rg h3 h1 h4 G
     ·exact u0 G.ndX (G.at h1) l1 (sE _ h3 G) (xS G h4) l2
    ·cases h4
  ·cases h
 |.unp is a,c,s,X,E2,h,G=>by
  unfold okS at h;split at h
  ·simp only[Bool.and_eq_true]at h;obtain⟨⟨⟨⟨h1,h2⟩,h3⟩,h4⟩,h5⟩:=h;exact BV (G.calm h1) G.ndX G.fnx (G.names h2) (sE a h5 G) (by unfold swapsWithSole;exact iZ h4) (sy h3)
  ·cases h
 |.expr a,c,s,X,E2,h,G=>by
  unfold okS at h;split at h
  ·simp only[Bool.and_eq_true]at h;exact w6 (sE a h.2 G) (iZ h.1)
  ·cases h
 |.ret a,c,s,X,E2,h,G=>by
  unfold okS at h;split at h
  ·exact CC (sE a h G)
  ·cases h
 |.dead,c,s,X,E2,h,G=>Ab
 |.ifs t a b,c,s,X,E2,h,G=>by
  unfold okS at h;split at h
  ·simp only[Bool.and_eq_true]at h;exact E0 (sT t h.1.1 G).1 (sSs a h.1.2 G) (sSs b h.2 G)
  ·cases h
 |.for_ tg it body,c,s,X,E2,h,G=>by
  unfold okS at h;split at h
  ·simp only[Bool.and_eq_true]at h;obtain⟨⟨⟨⟨⟨⟨h1,ht⟩,h2⟩,h3⟩,h4⟩,h5⟩,h6⟩:=h;exact Bc (G.own h1).1 (G.calm h2) (sI it h5 G ht) (sG tg h4 G) (sSs body h6 G) (qG h3)
  ·cases h
 |.app o a,c,s,X,E2,h,G=>by
  unfold okS at h;split at h
  ·simp only[Bool.and_eq_true,decide_eq_true_eq]at h;obtain⟨⟨⟨⟨⟨rfl,h1⟩,h2⟩,h3⟩,h4⟩,h5⟩:=h;exact Bl (sE o h4 G) (sE a h5 G) (zR h1) h2 (bR h3)
  ·cases h
 |.del i,c,s,X,E2,h,G=>by
  unfold okS at h;cases h
 |.fset o f a,c,s,X,E2,h,G=>by
  unfold okS at h;split at h
  ·simp only[Bool.and_eq_true,decide_eq_true_eq]at h;obtain⟨⟨⟨rfl,h1⟩,h2⟩,h3⟩:=h;exact Ag (B:=W.toWB) G.kok (sE o h2 G) (sE a h3 G) (iZ h1)
  ·cases h
 |.ixset o i a,c,s,X,E2,h,G=>by
  unfold okS at h;split at h
  ·simp only[Bool.and_eq_true]at h;obtain⟨⟨⟨⟨h0,h1⟩,h2⟩,h3⟩,h4⟩:=h;exact sP G.un (sE o h2 G) (sE i h3 G) (sE a h4 G) (vC h0) (by unfold swapsWithSole;exact iZ h1) (by rfl) (by rfl)
  ·cases h
theorem sSs:∀(is:ISs) {c:Cfg}{sts:List Stmt}{X:Cx}{E2:St->XK},jC is c sts=true->Good c W X E2->PSs X sts (bN X.K W.cls E2 (ao W is))
 |.nil,c,sts,X,E2,h,G=>by
  simp only[jC]at h;cases sts with
  |nil=>exact Bo
  |cons _ _=>cases h
 |.cons s r,c,sts,X,E2,h,G=>by
  unfold jC at h;split at h
  ·exact Cv (sSs r h G)
  ·split at h
   ·simp only[Bool.and_eq_true]at h;exact wA (t:=wpS W s) (u:=ao W r) (sS s h.1 G) (sSs r h.2 G)
   ·cases h
theorem sHs:∀(ih:IHs) {c:Cfg}{hs:List ExceptHandler}{X:Cx}{E2:St->XK},tX ih c hs=true->Good c W X E2->PH X hs (pO X.K W.cls (wpH W ih))
 |.nil,c,hs,X,E2,h,G=>by
  simp only[tX]at h;cases hs with
  |nil=>exact zH
  |cons _ _=>cases h
 |.cons k nm body r,c,hs,X,E2,h,G=>by
  unfold tX at h;split at h
  ·rename_i x px nmE bodyE hp ax;simp only[Bool.and_eq_true,Bool.not_eq_true']at h;obtain⟨⟨⟨⟨⟨⟨h1,h2⟩,h3⟩,h4⟩,h5⟩,h6⟩,h7⟩:=h;obtain⟨m1,m2,m3⟩:=G.exc k x (beq_iff_eq.mp h1);have hB:=fun v=>sSs body h6 (G.caught v)
   have hR:=sHs r h7 G;cases bodyE with
   |nil=>cases h5
   |cons b0 suite=>
    cases nm with
    |none=>
     cases nmE with
     |none=>exact AE (G.gl h2) m1 m3 hB hR h3
     |some n=>cases h4
    |some j=>
     cases nmE with
     |none=>cases h4
     |some n=>
      simp only[Bool.and_eq_true,beq_iff_eq]at h4;exact BS (G.gl h2) m1 m3 G.ndX (by rw[G.N];exact h4.1) (by rw[G.sc];exact h4.2) hB hR h3
  ·cases h
end
end
end L2
namespace L2
open PySem PySem.Spec PyProof.Rows
theorem eZ:∀{l:List (Nat×Nat)}{m f:Nat},l.lookup m=some f->(m,f)∈l
 |[],_,_,h=>by cases h
 |(a,b)::r,m,f,h=>by
  rw[List.lookup_cons]at h;by_cases e:m=a
  ·subst e;simp at h;subst h;exact List.mem_cons_self
  ·have:(m == a)=false:=by simpa using e
   rw[this]at h;exact List.mem_cons_of_mem _ (eZ h)
theorem ixc{α:Type}{P:Nat->α->Prop}{a:α}{r:List α}(h0:P 0 a)(hr:∀i x,r[i]?=some x->P (i+1) x):∀i x,(a::r)[i]?=some x->P i x
 |0,x,h=>by cases h;exact h0
 |i+1,x,h=>hr i x h
theorem ixn{α:Type}{P:Nat->α->Prop}:∀i x,([]:List α)[i]?=some x->P i x:=fun i x h=>by simp at h
theorem us0{P:List Value->Prop}(h:P []):∀us:List Value,us.length=0->P us:=fun us e=>(List.eq_nil_of_length_eq_zero e)▸h
theorem usS{n:Nat}{P:List Value->Prop}(h:∀a,∀us:List Value,us.length=n->P (a::us)):∀us:List Value,us.length=n+1->P us:=fun us e=>by
 cases us with
 |nil=>cases e
 |cons a r=>exact h a r (Nat.succ.inj e)
structure FB where
 np:Nat
 nl:Nat
 cl:Bool
 body:ISs
 df:List Int:=[]
noncomputable def FB.full(fb:FB)(ds:List D):List D:=ds++(fb.df.drop (ds.length+fb.df.length - fb.np)).map D.int
noncomputable def nG(nl:Nat)(ds:List D):St3:=ds.map some++List.replicate (nl - ds.length) none
noncomputable def aa(T:List FB)(B:WB):Nat->Nat->List D->MH->VK3->XN->Prop
 |0,_,_,_,_,_=>False
 |n+1,f,ds,M,Q,E=>match T[f]? with
  |none=>False
  |some fb=>(fb.full ds).length=fb.np/\ao {toWB:=B,call:=aa T B n} fb.body {nx:=fun _ M'=>Q .non (kp fb.cl M M'),rt:=fun v M'=>Q v (kp fb.cl M M')} (fun _ i M'=>E i (ac M M')) (nG fb.nl (fb.full ds)) M
structure FL where
 name:Str
 qual:Str
 glob:Bool
 cl:Bool
 st:Stmt
 N:List Str
 ps:List Str
 body:ISs
 gn:Str:=name
 df:List Int:=[]
noncomputable def mR(N ps:List Str)(sc:Scope):Bool:=(sc.kind == .function)&&!sc.isCoroutine&&!sc.isGenerator&&decide N.Nodup&&(N.take ps.length == ps)&&
 ps.all (fun x=>sc.names.lookup x == some .local||sc.names.lookup x == some .cell)&&sc.names.all (fun y=>y.2 != .free)
theorem pp(h:mR N ps sc=true):FnScope N ps sc:=by
 unfold mR at h;simp only[Bool.and_eq_true,Bool.not_eq_true',beq_iff_eq,decide_eq_true_eq,List.all_eq_true,Bool.or_eq_true,bne_iff_ne]at h;obtain⟨⟨⟨⟨⟨⟨h1,h2⟩,h3⟩,h4⟩,h5⟩,h6⟩,h7⟩:=h;exact⟨h1,h2,h3,h4,h5,h6,h7⟩
structure NM where
 exc:List Str
 kln:List Str
 gln:List Str
 xin:List (Nat×Nat)
noncomputable def FL.cfg(l:FL)(fns:List (Option Str×Nat))(n:NM):Cfg:={N:=l.N,sc:=bK l.st,fns:=fns,exc:=n.exc,kln:=n.kln,gln:=n.gln,xin:=n.xin,calm:=true,own:=true,tr:=true,fn:=true}
noncomputable def FL.fb(l:FL):FB:=⟨l.ps.length,l.N.length,l.cl,l.body,l.df⟩
noncomputable def FL.ok(l:FL)(fns:List (Option Str×Nat))(n:NM):Bool:=mR l.N l.ps (bK l.st)&&jC l.body (l.cfg fns n) (d7 l.st)
noncomputable def eL(L:List FL):List (Option Str×Nat):=L.map fun l=>(if l.glob=true then some l.gn else none,l.ps.length)
structure FunD (K:PySem.W.Frag)(x qual:Str)(st:Stmt)(f:Addr)(fd:FuncData):Prop where
 ex:∃(oc:Value) (od:Option Addr) (dV kV doc pm:Value) (an:Option Addr) (cdv ct:Value) (osl:Array (Option Value)),
  fd=PySem.W.fnOf x qual (fj st) (d7 st) (bK st) dV kV doc pm an cdv ct/\K.lookup f=some ⟨oc,od,.func fd,osl⟩/\PySem.W.codeIn K cdv qual=true
 kp:PySem.W.keepIn K (.ref f)=true
structure Top (K:PySem.W.Frag)(mg:Str->Option Value)(L:List FL)(n:NM)(B:WB):Prop where
 ok:∀l∈L,l.ok (eL L) n=true
 fn:∀f l,L[f]?=some l->∃fd,FunD K l.name l.qual l.st (B.fad f) fd/\(l.glob=true->mg l.gn=some (.ref (B.fad f)))/\(l.df=[]->∀us:List Value,us.length=l.ps.length->bindArgs fd ⟨us,[]⟩=pure (l.ps.zip us))/\∃dv,Vals (l.df.map V.int) dv/\∀j,Binds K fd l.ps (dv.drop j)
 exi:∀i,i < B.ne->ExcI K (B.cls i)/\PySem.W.kitOne K (.ref (B.cls i)) (.type "ValueError")=some true/\∀j x,n.exc[j]?=some x->PySem.W.kitOne K (.ref (B.cls i)) (.ref (B.cls j))=some (B.sub i j)
 exc:∀i x,n.exc[i]?=some x->mg x=some (.ref (B.cls i))/\(n.xin.lookup i=none->DF K (B.cls i))/\∀j,j < B.ne->PySem.W.exmOne K (.ref (B.cls j)) (.ref (B.cls i))=some (B.sub j i)
 kok:∀i,i < B.nk->KOk K B B.fad i
 kin:∀i,i < B.nk->∃f,B.ini i=some f
 kfi:∀i f,i < B.nk->B.ini i=some f->f < L.length
 kfm:∀i m f,i < B.nk->B.mth i m=some f->f < L.length
 knm:∀i x,n.kln[i]?=some x->mg x=some (.ref (B.kls i))/\i < B.nk
 glo:∀k x,n.gln[k]?=some x->∃u v,mg x=some u/\RelV v u/\∀H,Den K H (B.glo k) v
 bi:∀x∈biNames,mg x=none
 dig:xH K
 xi:∀i f,n.xin.lookup i=some f->B.xin i=some f/\∃fI fd ps,XIni K (B.cls i) fI (fnm f)/\Binds K fd ps []/\∀(P:Program)(w:World)(base:Heap),FnOk P w K mg base (CX1 P w) 1 fI fd ps (rH (cpF f) K (B.cls i) (fnm f))
 xn:∀i f,i < B.ne->B.xin i=some f->NoAttr K (B.cls i) (fnm f)
section
variable {w:World}{K:PySem.W.Frag}{L:List FL}{B:WB}
noncomputable def spF(K:PySem.W.Frag)(cls:Nat->Addr)(l:FL)(t3:List D->MH->VK3->XN->Prop):Sp:=fun vs H Q E=>vs.length=l.ps.length/\spX K cls t3 vs H Q E
theorem FB.full_at{fb:FB}{ds:List D}(h:ds.length=fb.np):fb.full ds=ds:=by
 unfold FB.full;rw[List.drop_of_length_le (by omega),List.map_nil,List.append_nil]
theorem jM:∀{vs:List V}{us:List Value} (j:Nat),Vals vs us->Vals (vs.drop j) (us.drop j)
 |_,_,0,h=>h
 |_,_,_+1,.nil=>.nil
 |_,_,j+1,.cons _ h=>jM j h
theorem AD{l:FL}(hl:L[f]?=some l){dv:List Value}(hv:Vals (l.df.map V.int) dv)(hb:∀j,Binds K fd l.ps (dv.drop j)):BdT K B.cls fd l.ps (aa (L.map FL.fb) B n f) (spF K B.cls l (aa (L.map FL.fb) B n f)):=by
 rintro vs H Q E ⟨ds,M,Q3,E3,dl,rm,h,back,lk⟩;cases n with
 |zero=>exact h.elim
 |succ n=>
  have hT:(L.map FL.fb)[f]?=some l.fb:=by rw[List.getElem?_map,hl];rfl
  have h0:=h;simp only[aa,hT]at h0;have e:=h0.1;have hlen:=dl.length;refine⟨(l.df.map V.int).drop (ds.length+l.df.length - l.ps.length),dv.drop (ds.length+l.df.length - l.ps.length),jM _ hv,hb _,?_,?_⟩
  ·have e2:(l.fb.full ds).length=l.ps.length:=e;unfold FB.full at e2;rw[List.length_append,List.length_map]at e2;rw[List.length_append,List.length_drop,List.length_map,<-hlen];rw[List.length_drop]at e2;exact e2
  ·refine⟨l.fb.full ds,M,Q3,E3,?_,rm,?_,back,lk⟩
   ·unfold FB.full;rw[<-List.map_drop];exact dl.append DenL.of_int
   ·simp only[aa,hT];rw[FB.full_at e];exact h0
theorem sF(T:Top K mg L nm B):∀(n f:Nat)(l:FL),L[f]?=some l->∀(fd:FuncData),FunD K l.name l.qual l.st (B.fad f) fd->FnOk P w K mg base (CX1 P w) (2 * n+2) (B.fad f) fd l.ps (spF K B.cls l (aa (L.map FL.fb) B n f)):=by
 intro n
 induction n with
 |zero=>
  intro f l hl fd F;exact⟨fun vs H Q E h=>h.1,fun A outer s H args us vs Q E hr e0 hb r ⟨_,_,_,_,_,_,_,h,_⟩=>h.elim⟩
 |succ n ih=>
  intro f l hl fd F;have hT:(L.map FL.fb)[f]?=some l.fb:=by rw[List.getElem?_map,hl];rfl
  have hm:l∈L:=List.mem_of_getElem? hl;have okl:=T.ok l hm;unfold FL.ok at okl;rw[Bool.and_eq_true]at okl;have S:=pp okl.1;obtain⟨oc,od,dV,kV,doc,pm,an,cdv,ct,osl,rfl,lk,hcd⟩:=F.ex;have un:∀ds M Q E,aa (L.map FL.fb) B (n+1) f ds M Q E->ds.length=l.ps.length->ao {toWB:=B,call:=aa (L.map FL.fb) B n} l.body {nx:=fun _ M'=>Q .non (kp l.cl M M'),rt:=fun v M'=>Q v (kp l.cl M M')} (fun _ i M'=>E i (ac M M')) (nG l.N.length ds) M:=fun ds M Q E h e=>by
   simp only[aa,hT]at h;rw[FB.full_at (fb:=l.fb) e]at h;exact h.2
  show FnOk P w K mg base (CX1 P w) (2 * n+3+1) _ _ _ _;refine Bp lk hcd S (fun vs H Q E h=>?_) fun A outer s H vs Q E hr hsp=>?_
  ·exact h.1
  ·obtain⟨hle,ds,M,Q3,E3,dl,rm,h,back,lkE⟩:=hsp;have h:=un _ _ _ _ h (by rw[dl.length];exact hle)
   have len:(eL L).length=L.length:=by unfold eL;rw[List.length_map]
   have G:Good (l.cfg (eL L) nm) {toWB:=B,call:=aa (L.map FL.fb) B n} (cT (CX1 P w) P w K mg base l.N l.qual (bK l.st) (B.fad f) cdv A outer s H E) (fun _=>E):=by
    refine⟨rfl,S.nd,rfl,hr.units,fun _=>rfl,fun _ _=>rfl,(fun _ z=>nomatch z),fun _=>⟨Es,E,rfl,uA,rb,hr.mono (by omega)⟩,fun _=>⟨rfl,rfl,rfl⟩,fun _=>⟨2 * n+2,hr,fun g hg=>?_⟩,fun g x k hg=>?_,T.kok,T.kin,fun i g hi q=>?_,fun i m g hi q=>?_,T.knm,T.glo,T.exc,T.exi,(fun i f hi=>?_),T.xn,T.bi,T.dig,fun pins σ H' s' e s'' I hc=>DB pins σ H' s' e s'' I hc⟩
    ·have hg:g < (eL L).length:=hg;rw[len]at hg;obtain⟨fd2,F2,_,_,dv2,v2,b2⟩:=T.fn g L[g] (by simp[hg])
     exact⟨fd2,_,_,F2.kp,AD (by simp[hg]) v2 b2,ih g L[g] (by simp[hg]) fd2 F2⟩
    ·have hg:(eL L)[g]?=some (some x,k):=hg;unfold eL at hg;rw[List.getElem?_map]at hg;cases q:L[g]? with
     |none=>rw[q]at hg;cases hg
     |some l2=>
      rw[q]at hg;obtain⟨fd2,F2,m2,_⟩:=T.fn g l2 q;have e:((if l2.glob=true then some l2.gn else none),l2.ps.length)=(some x,k):=Option.some.inj hg
      by_cases z:l2.glob=true
      ·rw[if_pos z]at e;cases e;exact m2 z
      ·rw[if_neg z]at e;cases e
    ·show g < (eL L).length;rw[len];exact T.kfi i g hi q
    ·show g < (eL L).length;rw[len];exact T.kfm i m g hi q
    ·obtain⟨a,fI,fd3,ps3,x3,b3,F3⟩:=T.xi i f hi;exact⟨a,fI,fd3,ps3,x3,b3,F3 P w base⟩
   exact⟨_,sSs l.body okl.2 G,nG l.N.length ds,M,_,_,rm,nP dl,fun σ3 σ i M' H' t _ rm' q dx xd=>lkE i _ H' t (rm'.sub fun _ _ z=>j0 z) q dx xd,h,
    ⟨fun σ' H' σ3' M' rm' ds' tm q=>back _ _ _ _ rO (rm'.sub fun _ _ z=>qT z) tm q,fun v H' d M' dv rm' tm q=>back _ _ _ _ dv (rm'.sub fun _ _ z=>qT z) tm q,fun _ _ _ _ _ _ _ z=>z.elim,fun _ _ _ _ _ _ _ z=>z.elim⟩⟩
end
noncomputable abbrev scr(ns:List Int):D:=.rol (ns.map D.int)
theorem walkD{l:PySem.W.OpenLaw}{k f:Nat}{q:Program}{loose:List Str}{XP:(Str->Option Value)->Heap->Prop}{YP:World->Heap->Prop}{d:DefRec}{K:Params->PySem.W.Frag}{fl:FL}{x:Str}{L:List FL}{nm:NM}{BB:(Nat->Addr)->(Nat->Addr)->(Nat->Addr)->WB}
  (hn:l.most=some 63) (hdf:d.params.defaults=[]) (hr:Room (2 * k+2) callerA) (hY:∀(w:World)(h:Heap),YP w h->(K w.params).In h) (hf:L[f]?=some fl) (hps:fl.ps=[x]) (hname:fl.gn=d.name) (hgl:fl.glob=true)
  (T:∀(w:World)(mg:Str->Option Value)(h:Heap),(K w.params).In h->h.Ns mainGlobals mg->∃cls kls fad,Top (K w.params) mg L nm (BB cls kls fad))
  (main:∀(cls kls fad:Nat->Addr)(ns:List Int),ns.length<=63->aa (L.map FL.fb) (BB cls kls fad) k f [scr ns] (fun _=>none) (fun d _=>d=.bl true) (fun _ _=>False)) (hd0:fl.df=[]:=by rfl) :
  PySem.W.WalkO q loose XP YP l.row.toRowW d [] (fun f vs=>PySem.call f vs):=by
 refine Att.attach_call hn hdf fun w s₀ s₁ mg mb fa o pm cd doc a vs ns G Y ho hd hcd hmg hobj hints hlen hg=>?_
 have KX:=hY w _ Y;obtain⟨cls,kls,fad,T⟩:=T w mg _ KX G.T.g;obtain⟨fd,F,m1,b1,_⟩:=T.fn f fl hf;have m1:=m1 hgl;rw[hname,hmg]at m1;have m1:=Value.ref.inj (Option.some.inj m1);subst m1;refine rZ (K:=K w.params) (CX:=CX1 l.prog w) (fd:=fd) (x:=x) (sp:=spF (K w.params) (BB cls kls fad).cls fl (aa (L.map FL.fb) (BB cls kls fad) k f)) KX G.T.g G.T.b G.T.builtins G.T.nolimit hg hobj hints (Nat.le_trans hlen (by decide)) hr (fun base kb gb=>by rw[<-hps];exact sF T k f fl hf fd F) (fun s u=>?_) (fun H hO hS=>?_) fun H e s' h=>?_
 ·have hb:=b1 hd0 [u] (by rw[hps];rfl)
  rw[hps]at hb;exact .of_eq hb
 ·have sq:SqF (K w.params) H a (ns.map V.int):=by
   cases hk:(K w.params).lookup a with
   |some ob=>
    have e:=KX a ob hk;rw[hobj]at e;cases e;exact .inr ⟨vs,_,hk,by rw[hints.length];exact Nat.le_trans hlen (by decide),fX hints⟩
   |none=>
    rcases hS with (h|⟨ob,h⟩)|⟨ob,_,_,h,_⟩
    ·rcases hO a with z|⟨o2,xs,z⟩
     ·rw[h]at z;cases z
     ·rw[h]at z;cases z
    ·exact .inl ⟨ob,h⟩
    ·rw[hk]at h;cases h
  refine⟨by rw[hps];rfl,[scr ns],fun _=>none,fun d _=>d=.bl true,fun _ _=>False,.one ⟨a,_,rfl,sq,.of_int⟩,fun a o e=>(by cases e),main cls kls fad ns hlen,fun v H' d M' dv _ _ q=>?_,fun _ _ _ _ _ h=>h.elim⟩
  subst q;exact dv
 ·obtain⟨_,_,_,_,_,_,_,_,_,_,_,_,_,he⟩:=h;exact he
end L2
namespace L2
open PySem
noncomputable def ml(K:PySem.W.Frag)(a:Addr):Option FuncData:=match K.lookup a with
 |some ⟨_,_,.func fd,_⟩=>some fd
 |_=>none
noncomputable def fdN(l:FL)(fd:FuncData):FuncData:=PySem.W.fnOf l.name l.qual (fj l.st) (d7 l.st) (bK l.st) (if l.df.isEmpty=true then .none else fd.defaults) fd.kwdefaults fd.doc fd.pyModule fd.annotations fd.code fd.closureTuple
noncomputable def fnB(K:PySem.W.Frag)(B:WB)(l:FL)(i:Nat):Bool:=(match ml K (B.fad i) with
 |some fd=>PySem.W.codeIn K fd.code l.qual
 |none=>false)&&PySem.W.keepIn K (.ref (B.fad i))&&(!l.glob||PySem.W.nsIn K mainGlobals l.gn == some (some (.ref (B.fad i))))
theorem uC{K:PySem.W.Frag}(h:ml K a=some fd):∃oc od sl,K.lookup a=some ⟨oc,od,.func fd,sl⟩:=by
 unfold ml at h;split at h
 ·rename_i oc od fd' sl e;cases h;exact⟨oc,od,sl,e⟩
 ·cases h
noncomputable def BZ(K:PySem.W.Frag)(C:Addr):Bool:=PySem.W.hasDictIn K C&&PySem.W.findIn K (.ref C) "__getattribute__" == some (some (.builtin "BaseException.__getattribute__"))&&PySem.W.findIn K (.ref C) "__getattr__" == some none&&PySem.W.findIn K (.ref C) "__class__" == some (some (.builtin "object.__class__"))&&PySem.W.mroIn K C (.type "object") == some true&&PySem.W.mroIn K C (.type "BaseException") == some true&&PySem.W.kitOne K (.ref C) (.type "ValueError") == some true
noncomputable def B7(K:PySem.W.Frag):Bool:=PySem.W.specialIn K (.builtin "object.__class__") "__get__" == some (some (.builtin "getset_descriptor.__get__"))&&PySem.W.takesIn K (.builtin "object.__class__") == some true&&PySem.W.nsIn K cStatics "sys.int_max_str_digits" == some none&&biNames.all fun x=>PySem.W.nsIn K mainGlobals x == some none
noncomputable def Bn(K:PySem.W.Frag)(B:WB)(n:NM):Bool:=(List.range B.ne).all (fun i=>BZ K (B.cls i)&&(List.range n.exc.length).all fun j=>PySem.W.kitOne K (.ref (B.cls i)) (.ref (B.cls j)) == some (B.sub i j)&&PySem.W.exmOne K (.ref (B.cls i)) (.ref (B.cls j)) == some (B.sub i j))&&
 n.exc.zipIdx.all fun p=>PySem.W.nsIn K mainGlobals p.1 == some (some (.ref (B.cls p.2)))&&((n.xin.lookup p.2).isSome||PySem.W.excIn K (B.cls p.2) bmV "ValueError.__new__")
noncomputable def kB(K:PySem.W.Frag)(B:WB)(fT:List (List Nat))(mT:List (List (Nat×Nat)))(iT:List Nat)(i:Nat):Bool:=
 PySem.W.plainGet K (B.kls i) Str.empty&&PySem.W.hasDictIn K (B.kls i)&&PySem.W.plainOver K (B.kls i)&&PySem.W.findIn K (.ref (B.kls i)) "__setattr__" == some (some (.builtin "object.__setattr__"))&&
 (fT.getD i []).all (fun f=>PySem.W.findIn K (.ref (B.kls i)) (fnm f) == some none)&&
 (mT.getD i []).all (fun p=>PySem.W.findIn K (.ref (B.kls i)) (fnm p.1) == some (some (.ref (B.fad p.2)))&&PySem.W.isFn K (.ref (B.fad p.2))&&PySem.W.keepIn K (.ref (B.fad p.2)))&&
 (match iT[i]? with
  |some f=>PySem.W.makesIn K (B.kls i)&&PySem.W.findIn K (.ref (B.kls i)) "__init__" == some (some (.ref (B.fad f)))&&PySem.W.isFn K (.ref (B.fad f))&&PySem.W.keepIn K (.ref (B.kls i))&&PySem.W.specialIn K (.ref (B.kls i)) "__getattribute__" == some (some (.builtin "type.__getattribute__"))&&PySem.W.readsIn K (B.kls i) (.type "type")&&
   (match PySem.W.findCls K (.ref (B.kls i)) (.type "type") "__init__" with
    |some (.val (.ref g))=>g == B.fad f
    |_=>false)
  |none=>false)&&
 PySem.W.findIn K (.ref (B.kls i)) "__class__" == some (some (.builtin "object.__class__"))&&PySem.W.mroIn K (B.kls i) (.type "object") == some true&&
 (List.range B.nk).all fun j=>PySem.W.kitOne K (.ref (B.kls i)) (.ref (B.kls j)) == some (B.ksub i j)
noncomputable def C1(L m:Nat)(mT:List (List (Nat×Nat)))(iT:List Nat):Bool:=iT.length == m&&iT.all (fun f=>decide (f < L))&&mT.all fun l=>l.all fun p=>decide (p.2 < L)
theorem gr(h:(List.range n).all p=true)(hi:i < n):p i=true:=List.all_eq_true.mp h i (List.mem_range.mpr hi)
theorem mH{l:List α}(h:l.zipIdx.all p=true)(hx:l[i]?=some x):p (x,i)=true:=by
 refine List.all_eq_true.mp h (x,i) ?_;rw[List.mem_zipIdx_iff_getElem?];exact hx
theorem BU{K:PySem.W.Frag}{L:List FL}{B:WB}(h:L.all (fun l=>l.df.isEmpty)=true):∀(f:Nat)(l:FL),L[f]?=some l->l.df≠[]->∀fd,ml K (B.fad f)=some fd->∃dv,Vals (l.df.map V.int) dv/\∀j,Binds K fd l.ps (dv.drop j):=fun f l hl z=>absurd (List.isEmpty_iff.mp (List.all_eq_true.mp h l (List.mem_of_getElem? hl))) z
theorem Top.of{K:PySem.W.Frag}{h:Heap}{L:List FL}{n:NM}{B:WB}{fT:List (List Nat)}{mT:List (List (Nat×Nat))}(X:K.In h)(Gn:h.Ns mainGlobals mg)
  (h1:L.all (fun l=>l.ok (eL L) n)=true)
  (h2:L.zipIdx.map (fun p=>ml K (B.fad p.2))=L.zipIdx.map fun p=>(ml K (B.fad p.2)).map (fdN p.1))
  (h3:L.zipIdx.all (fun p=>fnB K B p.1 p.2)=true)
  (h4:∀(f:Nat)(l:FL),L[f]?=some l->∀us:List Value,us.length=l.ps.length->∀(kV doc pm:Value)(an:Option Addr)(cdv ct:Value),bindArgs (PySem.W.fnOf l.name l.qual (fj l.st) (d7 l.st) (bK l.st) .none kV doc pm an cdv ct) ⟨us,[]⟩=pure (l.ps.zip us))
  (h5:B7 K=true) (h6:Bn K B n=true)
  (h7:(List.range B.nk).all (kB K B fT mT iT)=true) (h8:C1 L.length B.nk mT iT=true)
  (hf:∀i f,B.fok i f=(fT.getD i []).contains f) (hm:∀i m,B.mth i m=(mT.getD i []).lookup m) (hi:∀i,B.ini i=iT[i]?)
  (h9:n.kln.zipIdx.all (fun p=>PySem.W.nsIn K mainGlobals p.1 == some (some (.ref (B.kls p.2)))&&decide (p.2 < B.nk))=true)
  (glo:∀(k:Nat)(x:Str),n.gln[k]?=some x->∃u v,mg x=some u/\RelV v u/\∀H,Den K H (B.glo k) v)
  (xi:∀i f,n.xin.lookup i=some f->B.xin i=some f/\∃fI fd ps,XIni K (B.cls i) fI (fnm f)/\Binds K fd ps []/\∀(P:Program)(w:World)(base:Heap),FnOk P w K mg base (CX1 P w) 1 fI fd ps (rH (cpF f) K (B.cls i) (fnm f)))
  (xn:∀i f,i < B.ne->B.xin i=some f->NoAttr K (B.cls i) (fnm f))
  (hd:∀(f:Nat)(l:FL),L[f]?=some l->l.df≠[]->∀fd,ml K (B.fad f)=some fd->∃dv,Vals (l.df.map V.int) dv/\∀j,Binds K fd l.ps (dv.drop j)):Top K mg L n B:=by
 unfold B7 at h5;simp only[Bool.and_eq_true,beq_iff_eq]at h5;obtain⟨⟨⟨o1,o2⟩,o3⟩,o4⟩:=h5;unfold Bn at h6;rw[Bool.and_eq_true]at h6;obtain⟨e1,e2⟩:=h6;unfold C1 at h8;simp only[Bool.and_eq_true,beq_iff_eq]at h8;obtain⟨⟨t1,t2⟩,t3⟩:=h8;have ki:∀i,i < B.nk->kB K B fT mT iT i=true:=fun i hi=>gr h7 hi
 refine⟨fun l hl=>List.all_eq_true.mp h1 l hl,fun f l hl=>?_,fun i hi=>?_,fun i x hx=>?_,fun i hi'=>?_,fun i hi'=>?_,fun i f hi' hf'=>?_,fun i m f hi' hf'=>?_,fun i x hx=>?_,glo,fun x hx=>?_,o3,xi,xn⟩
 ·have g:=mH h3 hl;unfold fnB at g;simp only[Bool.and_eq_true]at g;obtain⟨⟨g1,g2⟩,g3⟩:=g;have hz:L.zipIdx[f]?=some (l,f):=by
   rw[List.getElem?_zipIdx,hl];simp
  have e:=congrArg (fun z:List (Option FuncData)=>z[f]?) h2
  simp only[List.getElem?_map,hz,Option.map_some,Option.some.injEq]at e;cases hfd:ml K (B.fad f) with
  |none=>rw[hfd]at g1;cases g1
  |some fd=>
   rw[hfd]at e g1;simp only[Option.map_some,Option.some.injEq]at e;obtain⟨oc,od,sl,lk⟩:=uC hfd;have hb:l.df=[]->∀us:List Value,us.length=l.ps.length->bindArgs fd ⟨us,[]⟩=pure (l.ps.zip us):=fun z us hu=>by
    rw[e];unfold fdN;rw[z];exact h4 f l hl us hu _ _ _ _ _ _
   refine⟨fd,⟨⟨oc,od,_,fd.kwdefaults,fd.doc,fd.pyModule,fd.annotations,fd.code,fd.closureTuple,sl,e,lk,g1⟩,g2⟩,fun z=>?_,hb,?_⟩
   ·rw[z]at g3;exact PySem.W.mg_of X Gn (beq_iff_eq.mp (by simpa using g3))
   ·by_cases z:l.df=[]
    ·exact⟨[],by rw[z];exact .nil,fun j=>by rw[List.drop_nil];exact .all (hb z)⟩
    ·exact hd f l hl z fd hfd
 ·have g:=gr e1 hi;rw[Bool.and_eq_true]at g;obtain⟨g1,g2⟩:=g;unfold BZ at g1;simp only[Bool.and_eq_true,beq_iff_eq]at g1;obtain⟨⟨⟨⟨⟨⟨a1,a2⟩,a3⟩,a4⟩,a5⟩,a6⟩,a7⟩:=g1;refine⟨⟨a1,a2,a3,a4,o1,o2,a5,a6⟩,a7,fun j x hx=>?_⟩
  have hj:j < n.exc.length:=(List.getElem?_eq_some_iff.mp hx).1;have g:=gr g2 hj;rw[Bool.and_eq_true,beq_iff_eq]at g;exact g.1
 ·have g:=mH e2 hx;rw[Bool.and_eq_true,beq_iff_eq]at g;refine⟨PySem.W.mg_of X Gn g.1,fun z=>?_,fun j hj=>?_⟩
  ·have g2:=g.2;rw[show n.xin.lookup (x,i).2=none from z]at g2;have g3:PySem.W.excIn K (B.cls i) bmV "ValueError.__new__"=true:=by simpa using g2
   exact g3
  ·have q:=gr e1 hj;rw[Bool.and_eq_true]at q;have hi:i < n.exc.length:=(List.getElem?_eq_some_iff.mp hx).1;have g:=gr q.2 hi;rw[Bool.and_eq_true,beq_iff_eq,beq_iff_eq]at g;exact g.2
 ·have g:=ki i hi';unfold kB at g;simp only[Bool.and_eq_true,beq_iff_eq]at g;obtain⟨⟨⟨⟨⟨⟨⟨⟨⟨a1,a2⟩,a3⟩,a4⟩,a5⟩,a6⟩,a7⟩,a8⟩,a9⟩,a10⟩:=g;have iI:∀f,B.ini i=some f->PySem.W.makesIn K (B.kls i)=true/\PySem.W.findIn K (.ref (B.kls i)) "__init__"=some (some (.ref (B.fad f)))/\PySem.W.isFn K (.ref (B.fad f))=true/\PySem.W.keepIn K (.ref (B.kls i))=true/\PySem.W.specialIn K (.ref (B.kls i)) "__getattribute__"=some (some (.builtin "type.__getattribute__"))/\PySem.W.readsIn K (B.kls i) (.type "type")=true/\PySem.W.findCls K (.ref (B.kls i)) (.type "type") "__init__"=some (.val (.ref (B.fad f))):=fun f hf=>by
   rw[hi i]at hf;rw[hf]at a7;simp only[Bool.and_eq_true,beq_iff_eq]at a7;obtain⟨⟨⟨⟨⟨⟨b1,b2⟩,b3⟩,b4⟩,b5⟩,b6⟩,b7⟩:=a7;refine⟨b1,b2,b3,b4,b5,b6,?_⟩;split at b7
   ·rename_i g hg;rw[hg,beq_iff_eq.mp b7]
   ·cases b7
  refine⟨⟨a1,a2,a3,a4⟩,fun f hf'=>?_,fun m f hm'=>?_,fun f hf'=>?_,fun f hf'=>?_,⟨a8,o1,o2,a9⟩,fun j hj=>?_⟩
  ·rw[hf i f]at hf';exact beq_iff_eq.mp (List.all_eq_true.mp a5 f (List.contains_iff_mem.mp hf'))
  ·rw[hm i m]at hm';have q:=List.all_eq_true.mp a6 (m,f) (eZ hm');simp only[Bool.and_eq_true,beq_iff_eq]at q;exact⟨q.1.1,q.1.2,q.2⟩
  ·obtain⟨b1,b2,b3,b4,_⟩:=iI f hf';exact⟨b1,b2,b3,b4⟩
  ·obtain⟨_,_,_,_,b5,b6,b7⟩:=iI f hf';exact⟨b5,b6,b7⟩
  ·exact beq_iff_eq.mp (gr a10 hj)
 ·rw[hi i];have:i < iT.length:=by rw[t1];exact hi'
  exact⟨iT[i],List.getElem?_eq_getElem this⟩
 ·rw[hi i]at hf';exact of_decide_eq_true (List.all_eq_true.mp t2 f (List.mem_of_getElem? hf'))
 ·rw[hm i m]at hf';have q:=eZ hf';by_cases z:i < mT.length
  ·rw[List.getD_eq_getElem?_getD,List.getElem?_eq_getElem z]at q;exact of_decide_eq_true (List.all_eq_true.mp (List.all_eq_true.mp t3 _ (List.getElem_mem z)) _ q)
  ·rw[List.getD_eq_getElem?_getD,List.getElem?_eq_none (by omega)]at q
   cases q
 ·have g:=mH h9 hx;rw[Bool.and_eq_true,beq_iff_eq]at g;exact⟨PySem.W.mg_of X Gn g.1,of_decide_eq_true g.2⟩
 ·exact PySem.W.mg_none_of X Gn (beq_iff_eq.mp (List.all_eq_true.mp o4 x hx))
theorem n0{P:List Value->Prop}(h:P []):∀us:List Value,us.length=0->P us:=us0 h
theorem n1{P:List Value->Prop}(h:∀a,P [a]):∀us:List Value,us.length=1->P us:=usS fun a=>us0 (h a)
theorem n2{P:List Value->Prop}(h:∀a b,P [a,b]):∀us:List Value,us.length=2->P us:=usS fun a=>usS fun b=>us0 (h a b)
theorem n3{P:List Value->Prop}(h:∀a b c,P [a,b,c]):∀us:List Value,us.length=3->P us:=usS fun a=>usS fun b=>usS fun c=>us0 (h a b c)
theorem n4{P:List Value->Prop}(h:∀a b c d,P [a,b,c,d]):∀us:List Value,us.length=4->P us:=usS fun a=>usS fun b=>usS fun c=>usS fun d=>us0 (h a b c d)
theorem n5{P:List Value->Prop}(h:∀a b c d e,P [a,b,c,d,e]):∀us:List Value,us.length=5->P us:=usS fun a=>usS fun b=>usS fun c=>usS fun d=>usS fun e=>us0 (h a b c d e)
end L2
namespace L2
noncomputable def oi:Option Int->D
 |none=>.non
 |some i=>.int i
noncomputable abbrev pr(a b:Option Int):D:=.tup [oi a,oi b]
theorem cC{i j:Int}(h1:0 < j)(h2:j < 10 ^ 250):jS i j=True:=by
 refine eq_true ⟨h1,nH ?_⟩;omega
theorem dR{i j:Int}(h1 : -(10 ^ 240) < i)(h2:i < 10 ^ 240)(h3 : -(10 ^ 240) < j)(h4:j < 10 ^ 240):bV i j=True:=by
 refine eq_true ⟨nH ?_,nH ?_⟩<;>omega
theorem gO{i j:Int}(h1:0<=j)(h2:j<=1000000)(h3:i.natAbs < 2 ^ 64):rL i j=True:=eq_true ⟨h1,h2,h3⟩
theorem pX{α:Type}(a:α)(l:List α):atI (a::l) 0=some a:=by simp[atI,ixN]
theorem pi{α:Type}(a b:α)(l:List α):atI (a::b::l) 1=some b:=cK (j:=1) rfl
theorem pc{α:Type}(a b c:α)(l:List α):atI (a::b::c::l) 2=some c:=cK (j:=2) rfl
theorem rj{α:Type}(a b c d:α)(l:List α):atI (a::b::c::d::l) 3=some d:=cK (j:=3) rfl
end L2
namespace L2
open PySem
section
variable {W:WC}{σ:St3}
@[simp ↓] theorem G1:wpE W (.var 0) (some v::σ) M Q E=Q v M:=rfl
@[simp ↓] theorem GT:wpE W (.var 1) (y0::some v::σ) M Q E=Q v M:=rfl
@[simp ↓] theorem GX:wpE W (.var 2) (y0::y1::some v::σ) M Q E=Q v M:=rfl
@[simp ↓] theorem GY:wpE W (.var 3) (y0::y1::y2::some v::σ) M Q E=Q v M:=rfl
@[simp ↓] theorem G3:wpE W (.var 4) (y0::y1::y2::y3::some v::σ) M Q E=Q v M:=rfl
@[simp ↓] theorem G6:wpE W (.var 5) (y0::y1::y2::y3::y4::some v::σ) M Q E=Q v M:=rfl
@[simp ↓] theorem G0:wpE W (.var 6) (y0::y1::y2::y3::y4::y5::some v::σ) M Q E=Q v M:=rfl
@[simp ↓] theorem G2:wpE W (.var 7) (y0::y1::y2::y3::y4::y5::y6::some v::σ) M Q E=Q v M:=rfl
@[simp ↓] theorem Hb:wpE W (.var 8) (y0::y1::y2::y3::y4::y5::y6::y7::some v::σ) M Q E=Q v M:=rfl
@[simp ↓] theorem G7:wpE W (.var 9) (y0::y1::y2::y3::y4::y5::y6::y7::y8::some v::σ) M Q E=Q v M:=rfl
@[simp ↓] theorem FS:wpE W (.var 10) (y0::y1::y2::y3::y4::y5::y6::y7::y8::y9::some v::σ) M Q E=Q v M:=rfl
@[simp ↓] theorem Ge:wpE W (.var 11) (y0::y1::y2::y3::y4::y5::y6::y7::y8::y9::y10::some v::σ) M Q E=Q v M:=rfl
@[simp ↓] theorem GI:wpE W (.var 12) (y0::y1::y2::y3::y4::y5::y6::y7::y8::y9::y10::y11::some v::σ) M Q E=Q v M:=rfl
@[simp ↓] theorem GJ:wpE W (.var 13) (y0::y1::y2::y3::y4::y5::y6::y7::y8::y9::y10::y11::y12::some v::σ) M Q E=Q v M:=rfl
@[simp ↓] theorem GC:wpE W (.var 14) (y0::y1::y2::y3::y4::y5::y6::y7::y8::y9::y10::y11::y12::y13::some v::σ) M Q E=Q v M:=rfl
@[simp ↓] theorem FR:wpE W (.var 15) (y0::y1::y2::y3::y4::y5::y6::y7::y8::y9::y10::y11::y12::y13::y14::some v::σ) M Q E=Q v M:=rfl
@[simp ↓] theorem FQ:wpE W (.var 16) (y0::y1::y2::y3::y4::y5::y6::y7::y8::y9::y10::y11::y12::y13::y14::y15::some v::σ) M Q E=Q v M:=rfl
@[simp ↓] theorem GR:wpE W (.var 17) (y0::y1::y2::y3::y4::y5::y6::y7::y8::y9::y10::y11::y12::y13::y14::y15::y16::some v::σ) M Q E=Q v M:=rfl
@[simp ↓] theorem Gb:wpE W (.con v) σ M Q E=Q v M:=rfl
@[simp ↓] theorem Gd{op a b}:wpE W (.bin op a b) σ M Q E=wpE W a σ M (fun x M1=>wpE W b σ M1 (fun y M2=>jE op x y M2 Q) E) E:=rfl
@[simp ↓] theorem GO{a}:wpE W (.neg a) σ M Q E=wpE W a σ M (fun x M1=>rNeg x M1 Q) E:=rfl
@[simp ↓] theorem F7{op a b}:wpE W (.cmp op a b) σ M Q E=wpE W a σ M (fun x M1=>wpE W b σ M1 (fun y M2=>aN op x y M2 Q) E) E:=rfl
@[simp ↓] theorem DY{op op' a b c}:wpE W (.chain op op' a b c) σ M Q E=wpE W a σ M (fun x M1=>wpE W b σ M1 (fun y M2=>aN op x y M2 fun r M3=>match r with
  |.bl k=>if k=true then wpE W c σ M3 (fun z M4=>aN op' y z M4 Q) E else Q (.bl false) M3
  |_=>False) E) E:=rfl
@[simp ↓] theorem Gu{a b}:wpE W (.and a b) σ M Q E=wpE W a σ M (fun x M1=>match x with
  |.bl c=>if c=true then wpE W b σ M1 Q E else Q (.bl false) M1
  |_=>False) E:=rfl
@[simp ↓] theorem Gq{a}:wpE W (.not a) σ M Q E=wpE W a σ M (fun x M1=>match x with
  |.bl c=>Q (.bl (!c)) M1
  |_=>False) E:=rfl
@[simp ↓] theorem GP{es}:wpE W (.tup es) σ M Q E=wpA W es σ M (fun xs M1=>xs.length<=sizeLine/\Q (.tup xs) M1) E:=rfl
@[simp ↓] theorem Gj{fz es}:wpE W (.lst fz es) σ M Q E=wpA W es σ M (fun xs M1=>eV fz xs M1 Q) E:=rfl
@[simp ↓] theorem GA{e}:wpE W (.frz e) σ M Q E=wpE W e σ M (aZ Q) E:=rfl
@[simp ↓] theorem GV{a b}:wpE W (.ix a b) σ M Q E=wpE W a σ M (fun x M1=>wpE W b σ M1 (fun y M2=>ar x y M2 Q) E) E:=rfl
@[simp ↓] theorem G8{fz a lo hi}:wpE W (.sl fz a lo hi) σ M Q E=wpE W a σ M (fun x M1=>wpO W lo σ M1 (fun l M2=>wpO W hi σ M2 (fun h M3=>lD fz x l h M3 Q) E) E) E:=rfl
@[simp ↓] theorem E8{f es}:wpE W (.call f es) σ M Q E=wpA W es σ M (fun xs M1=>W.call f xs M1 Q E) E:=rfl
@[simp ↓] theorem G5{b es}:wpE W (.bi b es) σ M Q E=wpA W es σ M (fun xs M1=>rBi b xs M1 Q) E:=rfl
@[simp ↓] theorem Gm{e t}:wpE W (.isB e t) σ M Q E=wpE W e σ M (fun x M1=>jr t x M1 Q) E:=rfl
@[simp ↓] theorem GB{e}:wpE W (.mmp e) σ M Q E=wpE W e σ M (fun x M1=>rMp x M1 Q) E:=rfl
@[simp ↓] theorem F6{e f}:wpE W (.fld e f) σ M Q E=wpE W e σ M (fun x M1=>dU W.toWB f x M1 Q) E:=rfl
@[simp ↓] theorem DS{i es}:wpE W (.make true i es) σ M Q E=wpA W es σ M (fun xs M1=>i < W.nk/\fR (W.ini i) fun f=>∀p,M1 p=none->W.call f (.ref p::xs) (put M1 p (.ins i (W.kls i) [] [])) (fun v M2=>v=.non/\aZ Q (.ref p) M2) (fun i M'=>E i (L2.del M' p))) E:=rfl
@[simp ↓] theorem EK{e m es}:wpE W (.meth e m es) σ M Q E=wpE W e σ M (fun x M1=>c5 W.toWB m x M1 fun f=>wpA W es σ M1 (fun xs M2=>W.call f (x::xs) M2 Q E) E) E:=rfl
@[simp ↓] theorem FU{i es}:wpE W (.ini i es) σ M Q E=wpA W es σ M (fun xs M1=>i < W.nk/\fR (W.ini i) fun f=>W.call f xs M1 Q E) E:=rfl
@[simp ↓] theorem GN{k}:wpE W (.glo k) σ M Q E=Q (W.glo k) M:=rfl
@[simp ↓] theorem G9{b o es}:wpE W (.bm b o es) σ M Q E=wpE W o σ M (fun x M1=>tyB b x M1=true/\wpA W es σ M1 (fun xs M2=>rBm b x xs M2 Q) E) E:=rfl
@[simp] theorem AB:ac M M=M:=by
 funext a;unfold ac;split<;>simp_all
@[simp] theorem iD(h:M p=none):ac M (put M' p o)=ac M M':=by
 funext a;unfold ac put;split
 ·rename_i x e;split
  ·rename_i z;subst z;rw[h]at e;cases e
  ·rfl
 ·rfl
@[simp] theorem lH(h:M p=some u):ac M (put M' p o)=put (ac M M') p o:=by
 funext a;unfold ac put;by_cases z:a=p
 ·subst z;simp[h]
 ·simp[z]
@[simp] theorem D8:ac (put M p o) (put M' p u)=put (ac M M') p u:=by
 funext a;unfold ac put;by_cases z:a=p
 ·subst z;simp
 ·simp[z]
@[simp ↓] theorem Cn:fR (some f) R=R f:=rfl
@[simp ↓] theorem Ed{B:WB}{f i C ns ds}:dU B f (.obj i C ns ds) M Q=((C=B.kls i/\i < B.nk/\B.fok i f=true)/\jF f ns ds M Q):=rfl
@[simp ↓] theorem A4{f n ns d ds}:jF f (n::ns) (d::ds) M Q=if n=f then Q d M else jF f ns ds M Q:=by
 unfold jF;rw[bL];by_cases h:n=f
 ·rw[if_pos h,if_pos h]
 ·rw[if_neg h,if_neg h]
@[simp ↓] theorem fU{B:WB}{m i C ns ds}:c5 B m (.obj i C ns ds) M R=((C=B.kls i/\i < B.nk/\bL m ns ds=none)/\fR (B.mth i m) R):=rfl
@[simp] theorem Az:bL f [] ds=none:=by unfold bL;rfl
@[simp] theorem yF:bL f (n::ns) (d::ds)=if n=f then some d else bL f ns ds:=by rw[bL]
@[simp] theorem Ay:bU f []=[f]:=rfl
@[simp] theorem yX:bU f (n::ns)=if n=f then n::ns else n::bU f ns:=rfl
@[simp] theorem AA:bT f y [] ds=[y]:=by unfold bT;rfl
@[simp] theorem wY:bT f y (n::ns) (d::ds)=if n=f then y::ds else d::bT f y ns ds:=by rw[bT]
@[simp ↓] theorem D4{ds}(h:M a=none):aZ Q (.ref a) (put M a (.lst ds))=Q (.rol ds) M:=by
 simp only[aZ,ah,fL h]
@[simp ↓] theorem D7{i C ns ds}(h:M a=none):aZ Q (.ref a) (put M a (.ins i C ns ds))=dH ds M (fun r M'=>Q (.obj i C ns r) M'):=by
 simp only[aZ,ah,fL h]
@[simp ↓] theorem BW:dH [] M R=R [] M:=rfl
@[simp ↓] theorem Ds{i ds}:dH (.int i::ds) M R=dH ds M (fun r M'=>R (.int i::r) M'):=rfl
@[simp ↓] theorem Dj{i ds}:dH (.tup i::ds) M R=dH ds M (fun r M'=>R (.tup i::r) M'):=rfl
@[simp ↓] theorem D6{fz ds lo hi}:lD fz (.tup ds) lo hi M Q=(whole ds.length lo hi=false/\Q (.tup (de ds lo hi)) M):=rfl
@[simp ↓] theorem DR{ds lo hi}:lD true (.rol ds) lo hi M Q=((de ds lo hi).length<=sizeLine/\Q (.rol (de ds lo hi)) M):=rfl
@[simp ↓] theorem DZ{a b}:jE .Add (.tup a) (.tup b) M Q=(a.length+b.length<=sizeLine/\Q (.tup (a++b)) M):=rfl
@[simp ↓] theorem FM{tk}:wpE W (.dnew tk) σ M Q E=∀p,M p=none->Q (.ref p) (put M p (if tk=true then .dt [] [] else .dk [] [])):=rfl
theorem vE{ks ds}(h:M a=some (.dk ks ds)):tyB .get (.ref a) M=true:=by simp[tyB,gm,h]
theorem tG{ks ds}(h:M a=some (.dk ks ds)):rBm .get (.ref a) [.int i,z] M Q=Q ((getD ks ds (.inl i)).getD z) M:=by simp[rBm,gU,gm,h,mw]
theorem fA{ds}(h:M a=some (.lst ds)):isLstM (.ref a) M=true:=by simp[isLstM,h]
@[simp] theorem zx{x}:tyB .extend x M=isLstM x M:=rfl
theorem q9{ds}(h:M a=some (.lst ds)):rBm .clear (.ref a) [] M Q=Q .non (put M a (.lst [])):=by simp[rBm,h]
theorem qK{ks ds}(h:M a=some (.dk ks ds)):bc (.ref a) (.int i) y M R=(ks.length < sizeLine/\R (put M a (.dk (am ks (.inl i)) (au ks ds (.inl i) y)))):=by simp[bc,h,mw]
theorem pK{ds}(h:M a=some (.lst ds))(hj:ixN ds.length i=some j):bc (.ref a) (.int i) y M R=R (put M a (.lst (ds.set j y))):=by simp[bc,h,hj]
theorem bM[DecidableEq κ]:∀{ks:List κ}{ds:List D}{k x:κ}{y:D},ks.length=ds.length->getD (am ks k) (au ks ds k y) x=if k=x then some y else getD ks ds x
 |[],ds,k,x,y,_=>by
  simp only[am,au];by_cases h:k=x
  ·simp[getD,h]
  ·cases ds<;>simp[getD,h]
 |k'::ks,[],k,x,y,h=>by simp at h
 |k'::ks,d::ds,k,x,y,h=>by
  simp only[am,au];have hl:ks.length=ds.length:=by simpa using h
  by_cases e:k'=k
  ·subst e;by_cases h2:k'=x<;>simp[getD,h2]
  ·simp only[if_neg e,getD];by_cases h2:k'=x
   ·subst h2;rw[if_pos rfl,if_neg (Ne.symm e),if_pos rfl]
   ·rw[if_neg h2,if_neg h2];exact bM hl
theorem d8[DecidableEq κ]:∀{ks:List κ}{ds:List D}{k:κ}{y:D},ks.length=ds.length->(am ks k).length=(au ks ds k y).length
 |[],ds,k,y,_=>by simp[am,au]
 |k'::ks,[],k,y,h=>by simp at h
 |k'::ks,d::ds,k,y,h=>by
  have hl:ks.length=ds.length:=by simpa using h
  simp only[am,au];by_cases e:k'=k
  ·simp[e,hl]
  ·simp only[if_neg e,List.length_cons];rw[d8 (k:=k) (y:=y) hl]
noncomputable def jO(W:WC)(tg:ITg)(cond:ITO)(elt:IE)(S:MH->Prop)(p:Addr)(Q:VK3):List D->List D->St3->MH->Prop:=di (wpG tg) (fun σ M Q=>lE W cond σ M Q (fun _ _=>False)) (fun σ M Q=>wpE W elt σ M Q (fun _ _=>False)) S p Q
noncomputable def gF(W:WC)(tg:ITg)(cond:ITO)(elt:IE)(S:MH->Prop)(Q:VK3)(ds:List D)(σ:St3)(M:MH):Prop:=∀p,M p=none->jO W tg cond elt S p (eQ Q) ds [] σ (put M p (.lst []))
@[simp ↓] theorem DW{N js tg it cond elt}:wpE W (.comp true N js tg it cond elt) σ M Q E=wpI W it σ M (fun ds S M1=>gF W tg cond elt S Q ds (aG js σ) M1) E:=rfl
@[simp ↓] theorem Fn{e}:wpT W (.val e) σ M QB E=wpE W e σ M (fun x M1=>match x with
  |.bl k=>QB k M1
  |_=>False) E:=rfl
@[simp ↓] theorem Er{op a b}:wpT W (.cmp op a b) σ M QB E=wpE W a σ M (fun x M1=>wpE W b σ M1 (fun y M2=>aN op x y M2 fun r M3=>match r with
  |.bl k=>QB k M3
  |_=>False) E) E:=rfl
@[simp ↓] theorem FA{a b}:wpT W (.and a b) σ M QB E=wpT W a σ M (fun c M1=>if c=true then wpT W b σ M1 QB E else QB false M1) E:=rfl
@[simp ↓] theorem Gy{a b}:wpT W (.or a b) σ M QB E=wpT W a σ M (fun c M1=>if c=true then QB true M1 else wpT W b σ M1 QB E) E:=rfl
@[simp ↓] theorem Fv{a}:wpT W (.not a) σ M QB E=wpT W a σ M (fun c M1=>QB (!c) M1) E:=rfl
@[simp ↓] theorem E1:wpA W .nil σ M QL E=QL [] M:=rfl
@[simp ↓] theorem Ei{e r}:wpA W (.cons e r) σ M QL E=wpE W e σ M (fun x M1=>wpA W r σ M1 (fun xs M2=>QL (x::xs) M2) E) E:=rfl
@[simp ↓] theorem FV:wpO W .no σ M QO E=QO none M:=rfl
@[simp ↓] theorem EJ{e}:wpO W (.yes e) σ M QO E=wpE W e σ M (fun x M1=>match x with
  |.int i=>QO (some i) M1
  |_=>False) E:=rfl
@[simp ↓] theorem FJ{e}:lE W (.yes e) σ M QB E=wpT W e σ M QB E:=rfl
noncomputable def j1(R:List D->(MH->Prop)->MH->Prop):VK3:=fun x M1=>match x with
  |.tup ds=>R ds (fun _=>True) M1
  |.rol ds=>R ds (fun _=>True) M1
  |.ref a=>match M1 a with
   |some (.lst ds)=>R ds (fun M=>M a=some (.lst ds)) M1
   |_=>False
  |.str z=>R (gI z) (fun _=>True) M1
  |_=>False
@[simp ↓] theorem CV{ds}:j1 R (.tup ds) M=R ds (fun _=>True) M:=rfl
@[simp ↓] theorem so{ds}:j1 R (.rol ds) M=R ds (fun _=>True) M:=rfl
theorem lJ{a ds}(h:M a=some (.lst ds)):j1 R (.ref a) M=R ds (fun M=>M a=some (.lst ds)) M:=by
 unfold j1;simp only[h]
@[simp ↓] theorem Fo{e}:wpI W (.seq e) σ M R E=wpE W e σ M (j1 R) E:=rfl
@[simp ↓] theorem Eh{a}:wpI W (.enum a) σ M R E=wpE W a σ M (fun x M1=>match x with
  |.rol ds=>R (be 0 ds) (fun _=>True) M1
  |.ref a=>match M1 a with
   |some (.lst ds)=>R (be 0 ds) (fun M=>M a=some (.lst ds)) M1
   |_=>False
  |_=>False) E:=rfl
@[simp ↓] theorem DH{a}:wpI W (.items a) σ M R E=wpE W a σ M (fun x M1=>match x with
  |.dit ks ds=>R (cy ks ds) (fun _=>True) M1
  |_=>False) E:=rfl
@[simp ↓] theorem FW{a}:wpI W (.dk a) σ M R E=wpE W a σ M (fun x M1=>match x with
  |.dit ks ds=>R (ks.map iX) (fun _=>True) M1
  |_=>False) E:=rfl
@[simp ↓] theorem FI{a b}:wpI W (.zip a b) σ M R E=wpE W a σ M (fun x M1=>wpE W b σ M1 (fun y M2=>match x,y with
  |.rol xs,.rol ys=>R (dI xs ys) (fun _=>True) M2
  |.rol xs,.ref b=>match M2 b with
   |some (.lst ys)=>R (dI xs ys) (fun M=>M b=some (.lst ys)) M2
   |_=>False
  |_,_=>False) E) E:=rfl
@[simp ↓] theorem Eo{a}:wpI W (.rng1 a) σ M R E=wpE W a σ M (fun x M1=>match x with
  |.int j=>-(2 ^ 62)<=j/\j < 2 ^ 62/\R (rng 0 j.toNat) (fun _=>True) M1
  |_=>False) E:=rfl
end
section
variable {W:WC}{σ:St3}{De:Ends3}{x:Option D}
@[simp ↓] theorem Fz:ao W .nil De ES σ M=De.nx σ M:=rfl
@[simp ↓] theorem DU{s r}:ao W (.cons s r) De ES (x::σ) M=wpS W s {De with nx:=fun σ' M'=>ao W r De ES σ' M'} ES (x::σ) M:=rfl
@[simp ↓] theorem EB{e}:wpS W (.set 1 e) De ES (y0::x::σ) M=wpE W e (y0::x::σ) M (fun v M1=>De.nx (y0::some v::σ) M1) (ES (y0::x::σ)):=rfl
@[simp ↓] theorem FO{e}:wpS W (.set 2 e) De ES (y0::y1::x::σ) M=wpE W e (y0::y1::x::σ) M (fun v M1=>De.nx (y0::y1::some v::σ) M1) (ES (y0::y1::x::σ)):=rfl
@[simp ↓] theorem FF{e}:wpS W (.set 3 e) De ES (y0::y1::y2::x::σ) M=wpE W e (y0::y1::y2::x::σ) M (fun v M1=>De.nx (y0::y1::y2::some v::σ) M1) (ES (y0::y1::y2::x::σ)):=rfl
@[simp ↓] theorem FE{e}:wpS W (.set 4 e) De ES (y0::y1::y2::y3::x::σ) M=wpE W e (y0::y1::y2::y3::x::σ) M (fun v M1=>De.nx (y0::y1::y2::y3::some v::σ) M1) (ES (y0::y1::y2::y3::x::σ)):=rfl
@[simp ↓] theorem EL{e}:wpS W (.set 5 e) De ES (y0::y1::y2::y3::y4::x::σ) M=wpE W e (y0::y1::y2::y3::y4::x::σ) M (fun v M1=>De.nx (y0::y1::y2::y3::y4::some v::σ) M1) (ES (y0::y1::y2::y3::y4::x::σ)):=rfl
@[simp ↓] theorem EX{e}:wpS W (.set 6 e) De ES (y0::y1::y2::y3::y4::y5::x::σ) M=wpE W e (y0::y1::y2::y3::y4::y5::x::σ) M (fun v M1=>De.nx (y0::y1::y2::y3::y4::y5::some v::σ) M1) (ES (y0::y1::y2::y3::y4::y5::x::σ)):=rfl
@[simp ↓] theorem Fy{e}:wpS W (.set 7 e) De ES (y0::y1::y2::y3::y4::y5::y6::x::σ) M=wpE W e (y0::y1::y2::y3::y4::y5::y6::x::σ) M (fun v M1=>De.nx (y0::y1::y2::y3::y4::y5::y6::some v::σ) M1) (ES (y0::y1::y2::y3::y4::y5::y6::x::σ)):=rfl
@[simp ↓] theorem EQ{e}:wpS W (.set 8 e) De ES (y0::y1::y2::y3::y4::y5::y6::y7::x::σ) M=wpE W e (y0::y1::y2::y3::y4::y5::y6::y7::x::σ) M (fun v M1=>De.nx (y0::y1::y2::y3::y4::y5::y6::y7::some v::σ) M1) (ES (y0::y1::y2::y3::y4::y5::y6::y7::x::σ)):=rfl
@[simp ↓] theorem Fd{e}:wpS W (.set 9 e) De ES (y0::y1::y2::y3::y4::y5::y6::y7::y8::x::σ) M=wpE W e (y0::y1::y2::y3::y4::y5::y6::y7::y8::x::σ) M (fun v M1=>De.nx (y0::y1::y2::y3::y4::y5::y6::y7::y8::some v::σ) M1) (ES (y0::y1::y2::y3::y4::y5::y6::y7::y8::x::σ)):=rfl
@[simp ↓] theorem D1{e}:wpS W (.set 10 e) De ES (y0::y1::y2::y3::y4::y5::y6::y7::y8::y9::x::σ) M=wpE W e (y0::y1::y2::y3::y4::y5::y6::y7::y8::y9::x::σ) M (fun v M1=>De.nx (y0::y1::y2::y3::y4::y5::y6::y7::y8::y9::some v::σ) M1) (ES (y0::y1::y2::y3::y4::y5::y6::y7::y8::y9::x::σ)):=rfl
@[simp ↓] theorem D5{e}:wpS W (.set 11 e) De ES (y0::y1::y2::y3::y4::y5::y6::y7::y8::y9::y10::x::σ) M=wpE W e (y0::y1::y2::y3::y4::y5::y6::y7::y8::y9::y10::x::σ) M (fun v M1=>De.nx (y0::y1::y2::y3::y4::y5::y6::y7::y8::y9::y10::some v::σ) M1) (ES (y0::y1::y2::y3::y4::y5::y6::y7::y8::y9::y10::x::σ)):=rfl
@[simp ↓] theorem D9{e}:wpS W (.set 12 e) De ES (y0::y1::y2::y3::y4::y5::y6::y7::y8::y9::y10::y11::x::σ) M=wpE W e (y0::y1::y2::y3::y4::y5::y6::y7::y8::y9::y10::y11::x::σ) M (fun v M1=>De.nx (y0::y1::y2::y3::y4::y5::y6::y7::y8::y9::y10::y11::some v::σ) M1) (ES (y0::y1::y2::y3::y4::y5::y6::y7::y8::y9::y10::y11::x::σ)):=rfl
@[simp ↓] theorem En{e}:wpS W (.set 13 e) De ES (y0::y1::y2::y3::y4::y5::y6::y7::y8::y9::y10::y11::y12::x::σ) M=wpE W e (y0::y1::y2::y3::y4::y5::y6::y7::y8::y9::y10::y11::y12::x::σ) M (fun v M1=>De.nx (y0::y1::y2::y3::y4::y5::y6::y7::y8::y9::y10::y11::y12::some v::σ) M1) (ES (y0::y1::y2::y3::y4::y5::y6::y7::y8::y9::y10::y11::y12::x::σ)):=rfl
@[simp ↓] theorem DP{e}:wpS W (.set 14 e) De ES (y0::y1::y2::y3::y4::y5::y6::y7::y8::y9::y10::y11::y12::y13::x::σ) M=wpE W e (y0::y1::y2::y3::y4::y5::y6::y7::y8::y9::y10::y11::y12::y13::x::σ) M (fun v M1=>De.nx (y0::y1::y2::y3::y4::y5::y6::y7::y8::y9::y10::y11::y12::y13::some v::σ) M1) (ES (y0::y1::y2::y3::y4::y5::y6::y7::y8::y9::y10::y11::y12::y13::x::σ)):=rfl
@[simp ↓] theorem DX{e}:wpS W (.set 15 e) De ES (y0::y1::y2::y3::y4::y5::y6::y7::y8::y9::y10::y11::y12::y13::y14::x::σ) M=wpE W e (y0::y1::y2::y3::y4::y5::y6::y7::y8::y9::y10::y11::y12::y13::y14::x::σ) M (fun v M1=>De.nx (y0::y1::y2::y3::y4::y5::y6::y7::y8::y9::y10::y11::y12::y13::y14::some v::σ) M1) (ES (y0::y1::y2::y3::y4::y5::y6::y7::y8::y9::y10::y11::y12::y13::y14::x::σ)):=rfl
@[simp ↓] theorem DQ{e}:wpS W (.set 16 e) De ES (y0::y1::y2::y3::y4::y5::y6::y7::y8::y9::y10::y11::y12::y13::y14::y15::x::σ) M=wpE W e (y0::y1::y2::y3::y4::y5::y6::y7::y8::y9::y10::y11::y12::y13::y14::y15::x::σ) M (fun v M1=>De.nx (y0::y1::y2::y3::y4::y5::y6::y7::y8::y9::y10::y11::y12::y13::y14::y15::some v::σ) M1) (ES (y0::y1::y2::y3::y4::y5::y6::y7::y8::y9::y10::y11::y12::y13::y14::y15::x::σ)):=rfl
@[simp ↓] theorem Ec{e}:wpS W (.set 17 e) De ES (y0::y1::y2::y3::y4::y5::y6::y7::y8::y9::y10::y11::y12::y13::y14::y15::y16::x::σ) M=wpE W e (y0::y1::y2::y3::y4::y5::y6::y7::y8::y9::y10::y11::y12::y13::y14::y15::y16::x::σ) M (fun v M1=>De.nx (y0::y1::y2::y3::y4::y5::y6::y7::y8::y9::y10::y11::y12::y13::y14::y15::y16::some v::σ) M1) (ES (y0::y1::y2::y3::y4::y5::y6::y7::y8::y9::y10::y11::y12::y13::y14::y15::y16::x::σ)):=rfl
noncomputable def i4(B:WB)(f:Nat)(y:D)(R:MH->Prop):VK3:=fun x M2=>match x with
  |.ref a=>match M2 a with
   |some (.ins i C ns ds)=>(C=B.kls i/\i < B.nk/\B.fok i f=true/\ns.length < 1000)/\R (put M2 a (.ins i C (bU f ns) (bT f y ns ds)))
   |_=>False
  |_=>False
@[simp ↓] theorem Dd{B:WB}{i C ns ds}:i4 B f y R (.ref a) (put M a (.ins i C ns ds))=((C=B.kls i/\i < B.nk/\B.fok i f=true/\ns.length < 1000)/\R (put M a (.ins i C (bU f ns) (bT f y ns ds)))):=by
 simp[i4,ah,cN]
noncomputable def lm(is:List Nat)(σ:St3)(k:St3->MH->Prop):VK3:=fun x M1=>match x with
  |.tup ds=>ds.length=is.length/\k ((is.zip ds).foldl (fun σ p=>σ.set p.1 (some p.2)) σ) M1
  |_=>False
@[simp ↓] theorem Eg{i j a b k}:lm [i,j] σ k (.tup [a,b]) M=k ((σ.set i (some a)).set j (some b)) M:=by
 simp[lm]
@[simp ↓] theorem Fh{is e}:wpS W (.unp is e) De ES σ M=wpE W e σ M (lm is σ De.nx) (ES σ):=rfl
@[simp ↓] theorem Ep{e}:wpS W (.expr e) De ES σ M=wpE W e σ M (fun _ M1=>De.nx σ M1) (ES σ):=rfl
@[simp ↓] theorem Et{e}:wpS W (.ret e) De ES σ M=wpE W e σ M De.rt (ES σ):=rfl
@[simp ↓] theorem Ek:wpS W .dead De ES σ M=False:=rfl
@[simp ↓] theorem Eb{o f e}:wpS W (.fset o f e) De ES σ M=wpE W e σ M (fun y M1=>wpE W o σ M1 (i4 W.toWB f y (De.nx σ)) (ES σ)) (ES σ):=rfl
@[simp ↓] theorem Cq{o i e}:wpS W (.ixset o i e) De ES σ M=wpE W e σ M (fun y M1=>wpE W o σ M1 (fun x M2=>wpE W i σ M2 (fun k M3=>bc x k y M3 fun M4=>De.nx σ M4) (ES σ)) (ES σ)) (ES σ):=rfl
@[simp ↓] theorem ET{c a b}:wpS W (.ifs c a b) De ES σ M=wpT W c σ M (fun k M1=>if k=true then ao W a De ES σ M1 else ao W b De ES σ M1) (ES σ):=rfl
noncomputable def bW(W:WC)(tg:ITg)(body:ISs)(ES:St3->XN)(S:MH->Prop)(De:Ends3):List D->St3->MH->Prop:=iK (wpG tg) (fun D σ M=>ao W body D ES σ M) S De
@[simp ↓] theorem Fa{tg it body}:wpS W (.for_ tg it body) De ES σ M=wpI W it σ M (fun ds S M1=>bW W tg body ES S De ds σ M1) (ES σ):=rfl
theorem bj{tg body S}:bW W tg body ES S De [] σ M=(S M/\De.nx σ M):=rfl
theorem aV{tg body S d r}:bW W tg body ES S De (d::r) σ M=(S M/\wpG tg d σ M fun σ2 M2=>ao W body {De with nx:=bW W tg body ES S De r,ct:=bW W tg body ES S De r,bk:=De.nx} ES σ2 M2):=rfl
noncomputable def mJ(W:WC)(e:IE)(De:Ends3)(E:XN)(σ:St3):VK3:=fun x M1=>match x with
  |.ref a=>match M1 a with
   |some (.lst _)=>wpE W e σ M1 (fun y M2=>match M2 a with
    |some (.lst ds)=>ds.length < sizeLine/\De.nx σ (put M2 a (.lst (ds++[y])))
    |_=>False) E
   |_=>False
  |_=>False
@[simp ↓] theorem Ff{o e}:wpS W (.app o e) De ES σ M=wpE W o σ M (mJ W e De (ES σ) σ) (ES σ):=rfl
noncomputable def cj(p:Addr)(De:Ends3)(σ:St3):VK3:=fun y M2=>match M2 p with
    |some (.lst ds)=>ds.length < sizeLine/\De.nx σ (put M2 p (.lst (ds++[y])))
    |_=>False
@[simp ↓] theorem D0{e E p ds}:mJ W e De E σ (.ref p) (put M p (.lst ds))=wpE W e σ (put M p (.lst ds)) (cj p De σ) E:=by
 unfold mJ;simp only[ah];rfl
@[simp ↓] theorem Cp{p ds y}:cj p De σ y (put M p (.lst ds))=(ds.length < sizeLine/\De.nx σ (put M p (.lst (ds++[y])))):=by
 unfold cj;simp only[ah,cN]
@[simp ↓] theorem oI{i d k}:wpG (.name i) d σ M k=k (σ.set i (some d)) M:=rfl
@[simp ↓] theorem FD{is d k}:wpG (.tup is) d σ M k=lm is σ k d M:=rfl
end
section
variable {i j:Int}{x:D}
@[simp ↓] theorem Gw:jE .Add (.int i) (.int j) M Q=Q (.int (i+j)) M:=rfl
@[simp ↓] theorem GF:jE .Sub (.int i) (.int j) M Q=Q (.int (i - j)) M:=rfl
@[simp ↓] theorem Gv:jE .Mult (.int i) (.int j) M Q=(bV i j/\Q (.int (i * j)) M):=rfl
@[simp ↓] theorem GQ:jE .FloorDiv (.int i) (.int j) M Q=(jS i j/\Q (.int (i / j)) M):=rfl
@[simp ↓] theorem Gh:jE .Mod (.int i) (.int j) M Q=(0 < j/\Q (.int (i % j)) M):=rfl
@[simp ↓] theorem Gr:jE .Pow (.int i) (.int j) M Q=(rL i j/\Q (.int (i ^ j.toNat)) M):=rfl
@[simp ↓] theorem F9:rNeg (.int i) M Q=Q (.int (-i)) M:=rfl
@[simp ↓] theorem G4:aN .Lt (.int i) (.int j) M Q=Q (.bl (decide (i < j))) M:=rfl
@[simp ↓] theorem GZ:aN .LtE (.int i) (.int j) M Q=Q (.bl (decide (i<=j))) M:=rfl
@[simp ↓] theorem GU:aN .Gt (.int i) (.int j) M Q=Q (.bl (decide (j < i))) M:=rfl
@[simp ↓] theorem GL:aN .Eq (.int i) (.int j) M Q=Q (.bl (decide (i=j))) M:=by simp[aN,gP,rs,ak,plN,eqD]
@[simp ↓] theorem GM:aN .NotEq (.int i) (.int j) M Q=Q (.bl (!decide (i=j))) M:=by simp[aN,gP,rs,ak,plN,eqD]
@[simp ↓] theorem GS:aN .Eq (.str s) (.str t) M Q=Q (.bl (decide (s=t))) M:=by simp[aN,gP,rs,ak,plN,eqD]
@[simp ↓] theorem Gs:aN .Is x .non M Q=Q (.bl x.isN) M:=by simp[aN,p4]
@[simp ↓] theorem EV:aN .IsNot x .non M Q=Q (.bl (!x.isN)) M:=by simp[aN,p4]
@[simp] theorem Em:(D.int i).isN=false:=rfl
@[simp] theorem Ea:D.non.isN=true:=rfl
@[simp ↓] theorem FX{d l}:ar (.tup (d::l)) (.int 0) M Q=Q d M:=by simp[ar,aB,pX]
@[simp ↓] theorem Gp{d e l}:ar (.tup (d::e::l)) (.int 1) M Q=Q e M:=by simp[ar,aB,pi]
@[simp ↓] theorem Gc{d e f l}:ar (.tup (d::e::f::l)) (.int 2) M Q=Q f M:=by simp[ar,aB,pc]
@[simp ↓] theorem GE{d e f g l}:ar (.tup (d::e::f::g::l)) (.int 3) M Q=Q g M:=by simp[ar,aB,rj]
@[simp ↓] theorem FT{d e f g h l}:ar (.tup (d::e::f::g::h::l)) (.int 4) M Q=Q h M:=by
 have:atI (d::e::f::g::h::l) 4=some h:=cK (j:=4) rfl;simp[ar,aB,this]
theorem m8{ds y}(h:M a=some (.lst ds)):ar (.ref a) y M Q=ar (.rol ds) y M Q:=by
 cases y<;>simp[ar,aB,ak,h]
@[simp ↓] theorem Ch{ds}:rBi (.list true) [.rol ds] M Q=(ds.length<=sizeLine/\Q (.rol ds) M):=rfl
@[simp ↓] theorem F4{d l}:ar (.rol (d::l)) (.int 0) M Q=Q d M:=by simp[ar,aB,ak,pX]
@[simp ↓] theorem GG{d e l}:ar (.rol (d::e::l)) (.int 1) M Q=Q e M:=by simp[ar,aB,ak,pi]
@[simp ↓] theorem F8{d e f l}:ar (.rol (d::e::f::l)) (.int 2) M Q=Q f M:=by simp[ar,aB,ak,pc]
@[simp ↓] theorem GH{d e f g l}:ar (.rol (d::e::f::g::l)) (.int 3) M Q=Q g M:=by simp[ar,aB,ak,rj]
@[simp ↓] theorem DT{ds}:rBi .len [.tup ds] M Q=Q (.int ds.length) M:=rfl
@[simp ↓] theorem El{ds}:rBi .len [.rol ds] M Q=Q (.int ds.length) M:=rfl
@[simp ↓] theorem Ez:rBi .max [.int i,.int j] M Q=Q (.int (if j > i then j else i)) M:=rfl
@[simp ↓] theorem Fr:rBi .min [.int i,.int j] M Q=Q (.int (if j < i then j else i)) M:=rfl
@[simp ↓] theorem F5{ds}:eV true ds M Q=(ds.length<=sizeLine/\Q (.rol ds) M):=by simp[eV]
@[simp ↓] theorem GK{ds}:eV false ds M Q=(ds.length<=sizeLine/\∀p,M p=none->Q (.ref p) (put M p (.lst ds))):=by simp[eV]
theorem av(h:n<=1000):(n<=sizeLine)=True:=eq_true (Nat.le_trans h (by decide))
theorem AH(h:n < 1000):(n < sizeLine)=True:=eq_true (Nat.lt_of_lt_of_le h (by decide))
@[simp ↓] theorem Ef{t}:jr t (.int i) M Q=Q (.bl (match t with|.int=>true|_=>false)) M:=rfl
@[simp ↓] theorem Ej{t ds}:jr t (.tup ds) M Q=Q (.bl (match t with|.tuple=>true|_=>false)) M:=rfl
end
section
variable {W:WC}{tg:ITg}{cond:ITO}{elt:IE}{p:Addr}{Q:VK3}{σ:St3}{M:MH}{ys:List D}
@[simp ↓] theorem Ee{ds}:eQ Q (.ref p) (put M p (.lst ds))=Q (.rol ds) (L2.del (put M p (.lst ds)) p):=by
 simp only[eQ,ah]
noncomputable def Fm(M:MH):Prop:=∃n,∀p,n<=p->M p=none
theorem Fm.nil:Fm (fun _=>none):=⟨0,fun _ _=>rfl⟩
theorem qc{M:MH}(h:Fm M){p:Prop}:(∀a:Addr,M a=none->p)=p:=propext ⟨fun f=>let ⟨n,k⟩:=h;f n (k n (Nat.le_refl _)),fun f _ _=>f⟩
theorem Fm.put{M:MH}(h:Fm M)(p:Addr)(o:DO):Fm (put M p o):=by
 obtain⟨n,h⟩:=h;refine⟨max n (p+1),fun q hq=>?_⟩
 rw[aj (Nat.ne_of_gt (Nat.lt_of_succ_le (Nat.le_trans (Nat.le_max_right n (p+1)) hq)))];exact h q (Nat.le_trans (Nat.le_max_left _ _) hq)
theorem aL{M:MH}(hM:Fm M){P:Addr->Prop}{q:Prop}(h:∀p,M p=none->P p=q):(∀p,M p=none->P p)=q:=by
 rw[<-qc hM (p:=q)];exact forall_congr fun p=>implies_congr_ctx rfl fun hp=>h p hp
theorem Dk{cs:List Int}(h1 : -(cs.length:Int)<=i)(h2:i < cs.length):∃x,atI (cs.map D.int) i=some (.int x):=by
 unfold atI ixN;rw[List.length_map];by_cases h:0<=i
 ·have hk:i.toNat < cs.length:=by omega
  rw[if_pos h,if_pos h2];exact⟨cs[i.toNat],by simp[List.getElem?_eq_getElem hk]⟩
 ·have hk:(i+cs.length).toNat < cs.length:=by omega
  rw[if_neg h,if_pos h1];exact⟨cs[(i+cs.length).toNat],by simp[List.getElem?_eq_getElem hk]⟩
theorem jQ(h:atI ds i=some x):ar (.rol ds) (.int i) M Q=Q x M:=by simp[ar,aB,ak,h]
theorem cO(h:put M p o q=none):q≠p/\M q=none:=by
 unfold put at h;split at h
 ·cases h
 ·exact⟨by assumption,h⟩
theorem sH(hp:M p=none)(hq:q≠p):L2.del (put (put M p o) q u) p=put M q u:=by
 funext a;unfold L2.del put;by_cases e:a=p
 ·subst e;simp[Ne.symm hq,hp]
 ·simp[e]
noncomputable def Ext(M M':MH):Prop:=Fm M'/\∀a o,M a=some o->M' a=some o
theorem Ext.put{M:MH}(hM:Fm M){p:Addr}(h:M p=none)(o:DO):Ext M (put M p o):=⟨hM.put _ _,fun a u e=>by rw[aj (fun z=>by rw[z,h]at e;cases e)];exact e⟩
section
variable {W:WC}{σ:St3}{M:MH}{Q:VK3}{tg:ITg}{cond:ITO}{elt:IE}{p:Addr}{S:MH->Prop}
theorem pD{ys:List D}(hp:M p=none)(hS:S (put M p (.lst ys))):jO W tg cond elt S p (eQ Q) [] ys σ (put M p (.lst ys))=Q (.rol ys) M:=by
 show (S (put M p (.lst ys))/\eQ Q (.ref p) (put M p (.lst ys)))=_;simp[eQ,ah,hS,fL hp]
theorem nr{d:D}{r ys:List D}:jO W tg cond elt S p Q (d::r) ys σ M=(S M/\ys.length < sizeLine/\wpG tg d σ M fun σ2 M2=>lE W cond σ2 M2 (fun b M3=>if b=true then wpE W elt σ2 M3 (fun y M4=>M4 p=some (.lst ys)/\jO W tg cond elt S p Q r (ys++[y]) σ2 (put M4 p (.lst (ys++[y])))) (fun _ _=>False) else jO W tg cond elt S p Q r ys σ2 M3) (fun _ _=>False)):=rfl
theorem iU(P:St3->Prop)(st:D->St3)(c:D->Bool)(f:D->D):∀(ds ys:List D)(σ:St3) {M:MH},P σ->Fm M->M p=none->ys.length+ds.length < sizeLine->(∀M',Ext M M'->S M')->
  (∀d∈ds,P (st d)/\∀σ,P σ->∀(M:MH)(k:St3->MH->Prop),wpG tg d σ M k=k (st d) M)->
  (∀d∈ds,∀M',Ext M M'->∀Q:Bool->MH->Prop,lE W cond (st d) M' Q (fun _ _=>False)=Q (c d) M')->
  (∀d∈ds,c d=true->∀M',Ext M M'->∀Q,wpE W elt (st d) M' Q (fun _ _=>False)=Q (f d) M')->
  jO W tg cond elt S p (eQ Q) ds ys σ (put M p (.lst ys))=Q (.rol (ys++(ds.filter c).map f)) M
 |[],ys,σ,M,h0,hM,hp,hl,hS,hg,hc,he=>by rw[pD hp (hS _ (.put hM hp _))];simp
 |d::ds,ys,σ,M,h0,hM,hp,hl,hS,hg,hc,he=>by
  have hl':ys.length+(ds.length+1) < sizeLine:=hl;obtain⟨g1,g2⟩:=hg d List.mem_cons_self;rw[nr,g2 σ h0,hc d List.mem_cons_self _ (.put hM hp _),eq_true (hS _ (.put hM hp _)),true_and];cases q:c d with
  |true=>
   rw[if_pos rfl,he d List.mem_cons_self q _ (.put hM hp _),ah,cN];rw[iU P st c f ds (ys++[f d]) (st d) g1 hM hp (by rw[List.length_append,List.length_singleton];omega) hS (fun e h=>hg e (List.mem_cons_of_mem _ h)) (fun e h=>hc e (List.mem_cons_of_mem _ h)) (fun e h=>he e (List.mem_cons_of_mem _ h))]
   simp only[List.filter_cons,q,if_true,List.map_cons,List.append_assoc,List.singleton_append,true_and];rw[eq_true (show ys.length < sizeLine by omega),true_and]
  |false=>
   rw[if_neg Bool.false_ne_true];rw[iU P st c f ds ys (st d) g1 hM hp (by omega) hS (fun e h=>hg e (List.mem_cons_of_mem _ h)) (fun e h=>hc e (List.mem_cons_of_mem _ h)) (fun e h=>he e (List.mem_cons_of_mem _ h))]
   simp only[List.filter_cons,q,Bool.false_eq_true,if_false];rw[eq_true (show ys.length < sizeLine by omega),true_and]
theorem et{ds:List D}(P:St3->Prop)(st:D->St3)(c:D->Bool)(f:D->D)(h0:P σ)(hM:Fm M)(hl:ds.length < 10000)
  (hg:∀d∈ds,P (st d)/\∀σ,P σ->∀(M:MH)(k:St3->MH->Prop),wpG tg d σ M k=k (st d) M)
  (hc:∀d∈ds,∀M',Ext M M'->∀Q:Bool->MH->Prop,lE W cond (st d) M' Q (fun _ _=>False)=Q (c d) M')
  (he:∀d∈ds,c d=true->∀M',Ext M M'->∀Q,wpE W elt (st d) M' Q (fun _ _=>False)=Q (f d) M') (hS:∀M',Ext M M'->S M':=by exact fun _ _=>trivial) :
  gF W tg cond elt S Q ds σ M=Q (.rol ((ds.filter c).map f)) M:=by
 have hl':([]:List D).length+ds.length < sizeLine:=by rw[List.length_nil,Nat.zero_add];exact Nat.lt_trans hl (by decide)
 exact aL hM fun p hp=>by
  rw[iU P st c f ds [] σ h0 hM hp hl' hS hg hc he];simp
theorem fk{ax:St3}{x:Option D}{ds:List D}(c:D->Bool)(f:D->D)(hM:Fm M)(hl:ds.length < 10000)
  (hc:∀d∈ds,∀M',Ext M M'->∀Q:Bool->MH->Prop,lE W cond (some d::ax) M' Q (fun _ _=>False)=Q (c d) M')
  (he:∀d∈ds,c d=true->∀M',Ext M M'->∀Q,wpE W elt (some d::ax) M' Q (fun _ _=>False)=Q (f d) M') (hS:∀M',Ext M M'->S M':=by exact fun _ _=>trivial) :
  gF W (.name 0) cond elt S Q ds (x::ax) M=Q (.rol ((ds.filter c).map f)) M:=
 et (fun σ=>∃y,σ=y::ax) (fun d=>some d::ax) c f ⟨x,rfl⟩ hM hl (fun d _=>⟨⟨_,rfl⟩,fun σ ⟨y,e⟩ M k=>by subst e;rfl⟩) hc he hS
theorem pW{ax:St3}{x:Option D}{ds:List D}(f:D->D)(hM:Fm M)(hl:ds.length < 10000)
  (he:∀d∈ds,∀M',Ext M M'->∀Q,wpE W elt (some d::ax) M' Q (fun _ _=>False)=Q (f d) M') (hS:∀M',Ext M M'->S M':=by exact fun _ _=>trivial) :
  gF W (.name 0) .no elt S Q ds (x::ax) M=Q (.rol (ds.map f)) M:=by
 rw[fk (fun _=>true) f hM hl (fun _ _ _ _ _=>rfl) (fun d hd _=>he d hd) hS]
 rw[List.filter_eq_self.mpr (fun _ _=>rfl)]
end
theorem pP(g:α->D)(f:α->Bool)(xs:List α)(h:∀x∈xs,g x=.bl (f x)):dQ (xs.map g)=some (xs.map f):=by
 induction xs with
 |nil=>rfl
 |cons a r ih=>
  rw[List.map_cons,h a List.mem_cons_self];simp only[dQ];rw[ih fun x hx=>h x (List.mem_cons_of_mem _ hx)]
  rfl
theorem ug(f:α->Bool){xs:List α}(h:∀x∈xs,g x=.bl (f x)):rBi .all [.rol (xs.map g)] M Q=Q (.bl (xs.all f)) M:=by
 simp only[rBi,ak,pP g f xs h];simp[List.all_map,Function.comp_def]
end
end L2
namespace L2
open PySem PySem.NumText PyProof.Rows StrLaws
end L2
namespace HD
open PySem PySem.W PyProof.Rows L2
noncomputable def pw:Program:=PySem.Challenge.pw_driftmeet_k31_bounds_told
noncomputable def top(i:Nat):Stmt:=PySem.Challenge.pw_driftmeet_k31_bounds_told.main.body.getD i (.Pass ⟨0,0,0,0⟩)
noncomputable abbrev R(a:Nat):Value:=.ref a
noncomputable abbrev I(i:Nat):Value:=.int i 0
noncomputable abbrev e(P:Params)(s:String)(t:Nat)(v:Value):DictEntry:=⟨PyData.keyHash P s,.str s t,v⟩
noncomputable abbrev co(n:String)(a:Nat)(m:String)(b c d e g h i j:Nat)(k:Bool)(l o q r s:Nat):Data:=.fields #[.str n a,.str m b,.str "/claim/cut.py" c,I d,I e,I g,I h,I i,R j,.bool k,I l,R o,.none,.none,.none,.none,I q,I r,.str "/claim/cut.py" s]
noncomputable abbrev cp(n:String)(a:Nat)(m:String)(b c d e g h i j:Nat)(k:Bool)(l o x y z q r s:Nat):Data:=.fields #[.str n a,.str m b,.str "/claim/cut.py" c,I d,I e,I g,I h,I i,R j,.bool k,I l,R o,.none,R x,R y,R z,I q,I r,.str "/claim/cut.py" s]
noncomputable abbrev F:=Params->Obj
noncomputable abbrev fo(n q:String)(s:Stmt)(m:String)(t c:Nat):F:=fun _=>⟨.type "function",none,.func (fnOf n q (fj s) (d7 s) (bK s) .none .none .none (.str m t) none (.ref c) .none),#[]⟩
noncomputable abbrev fp(n q:String)(s:Stmt):F:=fun _=>⟨.none,none,.func {fnOf n q (fj s) (d7 s) (bK s) .none .none .none .none none .none .none with globals:=0,builtins:=0},#[]⟩
noncomputable abbrev vf(l:Array Value):F:=fun _=>⟨.none,none,.fields l,#[]⟩
noncomputable abbrev tu(l:Array Value):F:=fun _=>⟨.type "tuple",none,.seq l 0,#[]⟩
noncomputable abbrev cd(d:Data):F:=fun _=>⟨.type "code",none,d,#[]⟩
noncomputable abbrev bf(a:String)(b:Nat):F:=fun _=>⟨.type "builtin_function_or_method",none,.fields #[.builtin a,.ref b],#[]⟩
noncomputable abbrev n(o:F)(x y:Params->W.BT):Params->W.BT:=fun P=>.node (o P) (x P) (y P)
noncomputable abbrev z:Params->W.BT:=fun _=>.nil
noncomputable abbrev l(o:F):Params->W.BT:=fun P=>.node (o P) .nil .nil
noncomputable def o0:F:=tu #[]
noncomputable def o1:F:=vf #[]
noncomputable def o2:F:=cd (co "<module>" 182 "<module>" 183 184 1 0 0 0 0 11 false 181 12 185 1 186)
noncomputable def o3:F:=fun _=>⟨(.type "frame"),none,.plain,#[some (R 13),some (R 3),some (R 3),none,some (.str "__main__" 164),none,some (R 0)]⟩
noncomputable def o4:F:=fun P=>⟨(.type "dict"),none,(.dict #[e P "__name__" 165 (.str "law_driftmeet_k31_bounds_told" 685),e P "__doc__" 166 .none,e P "__package__" 167 .none,e P "__loader__" 168 (.builtin "__main__.__loader__#opaque"),e P "__spec__" 169 .none,e P "__annotations__" 170 (R 6),e P "__builtins__" 171 (R 4),e P "__file__" 173 (.str "/claim/cut.py" 172),e P "__cached__" 174 .none,e P "DriftError" 206 (R 24),e P "NoHand" 222 (R 37),e P "NoClock" 238 (R 49),e P "NoWay" 254 (R 61),e P "NoHappening" 270 (R 73),e P "is_whole" 279 (R 82),e P "NOUGHT" 285 (R 83),e P "Happening" 316 (R 100),e P "Look" 357 (R 135),e P "Sight" 402 (R 168),e P "Send" 445 (R 201),e P "Take" 490 (R 234),e P "are_wholes" 496 (R 241),e P "is_letter" 503 (R 248),e P "happening" 511 (R 255),e P "count_on" 522 (R 262),e P "names" 532 (R 269),e P "clock_bounds" 544 (R 276),e P "bounds" 558 (R 283),e P "MOST_HANDS" 562 (.int 6 561),e P "refuse_clock" 570 (R 290),e P "refuse_lengths" 578 (R 297),e P "World" 684 (R 370),e P "_law_cell_at" 694 (R 381),e P "_law_stream" 705 (R 388),e P "_law_way" 714 (R 395),e P "_law_world" 730 (R 402),e P "_law_made" 736 (R 407),e P "_law_lag" 750 (R 414),e P "_law_row" 756 (R 419),e P "_law_sent" 766 (R 426),e P "_law_tale" 772 (R 431),e P "_law_own" 783 (R 438),e P "_law_due" 799 (R 445),e P "_law_names" 809 (R 452),e P "_law_whole" 816 (R 459),e P "_law_name" 823 (R 466),e P "_law_right" 832 (R 473),e P "law" 838 (R 478)] 48),#[]⟩
noncomputable def o5:F:=vf #[(I 2),(I 0),(R 20),(I 4),(I 0),(R 33),(I 6),(I 0),(R 45),(I 8),(I 0),(R 57),(I 10),(I 0),(R 69),(I 13),(I 0),(R 81),(I 17),(I 0),(R 89),(I 22),(I 0),(R 110),(I 32),(I 0),(R 143),(I 44),(I 0),(R 176),(I 55),(I 0),(R 209),(I 70),(I 0),(R 240),(I 72),(I 0),(R 247),(I 74),(I 0),(R 254),(I 88),(I 0),(R 261),(I 92),(I 0),(R 268),(I 99),(I 0),(R 275),(I 101),(I 0),(R 282),(I 114),(I 0),(R 289),(I 119),(I 0),(R 296),(I 124),(I 0),(R 303),(I 172),(I 0),(R 380),(I 176),(I 0),(R 387),(I 183),(I 0),(R 394),(I 188),(I 0),(R 401),(I 202),(I 0),(R 406),(I 204),(I 0),(R 413),(I 215),(I 0),(R 418),(I 224),(I 0),(R 425),(I 228),(I 0),(R 430),(I 261),(I 0),(R 437),(I 270),(I 0),(R 444),(I 284),(I 0),(R 451),(I 291),(I 0),(R 458),(I 293),(I 0),(R 465),(I 297),(I 0),(R 472),(I 306),(I 0),(R 477)]
noncomputable def o6:F:=tu #[(.type "ValueError")]
noncomputable def o7:F:=fun _=>⟨(.type "builtin_function_or_method"),none,(.fields #[(.builtin "type.__prepare__"),(.type "type")]),#[]⟩
noncomputable def o8:F:=fun P=>⟨(.type "dict"),none,(.dict #[e P "__module__" 196 (.str "driftmeet.errors" 187),e P "__qualname__" 198 (.str "DriftError" 197),e P "__firstlineno__" 200 (.int 2 199),e P "__static_attributes__" 201 (R 22)] 4),#[]⟩
noncomputable def o9:F:=cd (co "DriftError" 191 "DriftError" 192 193 2 0 0 0 0 18 false 181 19 194 2 195)
noncomputable def o10:F:=fun _=>⟨(.type "frame"),none,.plain,#[some (R 20),some (R 3),some (R 17),none,some (.str "driftmeet.errors" 187),none,some (R 0)]⟩
noncomputable def o11:F:=fun P=>⟨(.type "dict"),none,(.dict #[e P "__module__" 196 (.str "driftmeet.errors" 187),e P "__firstlineno__" 200 (.int 2 199),e P "__static_attributes__" 201 (R 22),e P "__weakref__" 203 (R 25),e P "__doc__" 204 .none] 3),#[]⟩
noncomputable def o12:F:=fun _=>⟨(.type "type"),none,(.cls ⟨"DriftError",[(.type "ValueError")],[(R 24),(.type "ValueError"),(.type "Exception"),(.type "BaseException"),(.type "object")],23,"DriftError",true,[],[(R 37),(R 49),(R 61),(R 73)],false,none,false⟩),#[some (R 15),none,some (.str "DriftError" 189),some (.str "DriftError" 197),some (.builtin "ValueError.__new__"),some (.bool true)]⟩
noncomputable def o13:F:=fun _=>⟨(.type "getset_descriptor"),none,(.fields #[(.str "__weakref__" 202),(R 24),(.builtin "ExceptionGroup.__weakref__"),.none]),#[]⟩
noncomputable def o14:F:=fun _=>⟨(.type "super"),none,(.fields #[(R 24),(R 24),(R 24)]),#[]⟩
noncomputable def o15:F:=bf "object.__init_subclass__" 24
noncomputable def o16:F:=tu #[(R 24)]
noncomputable def o17:F:=fun P=>⟨(.type "dict"),none,(.dict #[e P "__module__" 214 (.str "driftmeet.errors" 187),e P "__qualname__" 216 (.str "NoHand" 215),e P "__firstlineno__" 218 (.int 4 217),e P "__static_attributes__" 219 (R 35)] 4),#[]⟩
noncomputable def o18:F:=cd (co "NoHand" 209 "NoHand" 210 211 4 0 0 0 0 31 false 181 32 212 4 213)
noncomputable def o19:F:=fun _=>⟨(.type "frame"),none,.plain,#[some (R 33),some (R 3),some (R 30),none,some (.str "driftmeet.errors" 187),none,some (R 0)]⟩
noncomputable def o20:F:=fun P=>⟨(.type "dict"),none,(.dict #[e P "__module__" 214 (.str "driftmeet.errors" 187),e P "__firstlineno__" 218 (.int 4 217),e P "__static_attributes__" 219 (R 35),e P "__doc__" 220 .none] 2),#[]⟩
noncomputable def o21:F:=fun _=>⟨(.type "type"),none,(.cls ⟨"NoHand",[(R 24)],[(R 37),(R 24),(.type "ValueError"),(.type "Exception"),(.type "BaseException"),(.type "object")],36,"NoHand",true,[],[],false,none,false⟩),#[some (R 28),none,some (.str "NoHand" 207),some (.str "NoHand" 215),some (.builtin "ValueError.__new__"),some (.bool true)]⟩
noncomputable def o22:F:=fun _=>⟨(.type "super"),none,(.fields #[(R 37),(R 37),(R 37)]),#[]⟩
noncomputable def o23:F:=bf "object.__init_subclass__" 37
noncomputable def o24:F:=fun P=>⟨(.type "dict"),none,(.dict #[e P "__module__" 230 (.str "driftmeet.errors" 187),e P "__qualname__" 232 (.str "NoClock" 231),e P "__firstlineno__" 234 (.int 6 233),e P "__static_attributes__" 235 (R 47)] 4),#[]⟩
noncomputable def o25:F:=cd (co "NoClock" 225 "NoClock" 226 227 6 0 0 0 0 43 false 181 44 228 6 229)
noncomputable def o26:F:=fun _=>⟨(.type "frame"),none,.plain,#[some (R 45),some (R 3),some (R 42),none,some (.str "driftmeet.errors" 187),none,some (R 0)]⟩
noncomputable def o27:F:=fun P=>⟨(.type "dict"),none,(.dict #[e P "__module__" 230 (.str "driftmeet.errors" 187),e P "__firstlineno__" 234 (.int 6 233),e P "__static_attributes__" 235 (R 47),e P "__doc__" 236 .none] 2),#[]⟩
noncomputable def o28:F:=fun _=>⟨(.type "type"),none,(.cls ⟨"NoClock",[(R 24)],[(R 49),(R 24),(.type "ValueError"),(.type "Exception"),(.type "BaseException"),(.type "object")],48,"NoClock",true,[],[],false,none,false⟩),#[some (R 40),none,some (.str "NoClock" 223),some (.str "NoClock" 231),some (.builtin "ValueError.__new__"),some (.bool true)]⟩
noncomputable def o29:F:=fun _=>⟨(.type "super"),none,(.fields #[(R 49),(R 49),(R 49)]),#[]⟩
noncomputable def o30:F:=bf "object.__init_subclass__" 49
noncomputable def o31:F:=fun P=>⟨(.type "dict"),none,(.dict #[e P "__module__" 246 (.str "driftmeet.errors" 187),e P "__qualname__" 248 (.str "NoWay" 247),e P "__firstlineno__" 250 (.int 8 249),e P "__static_attributes__" 251 (R 59)] 4),#[]⟩
noncomputable def o32:F:=cd (co "NoWay" 241 "NoWay" 242 243 8 0 0 0 0 55 false 181 56 244 8 245)
noncomputable def o33:F:=fun _=>⟨(.type "frame"),none,.plain,#[some (R 57),some (R 3),some (R 54),none,some (.str "driftmeet.errors" 187),none,some (R 0)]⟩
noncomputable def o34:F:=fun P=>⟨(.type "dict"),none,(.dict #[e P "__module__" 246 (.str "driftmeet.errors" 187),e P "__firstlineno__" 250 (.int 8 249),e P "__static_attributes__" 251 (R 59),e P "__doc__" 252 .none] 2),#[]⟩
noncomputable def o35:F:=fun _=>⟨(.type "type"),none,(.cls ⟨"NoWay",[(R 24)],[(R 61),(R 24),(.type "ValueError"),(.type "Exception"),(.type "BaseException"),(.type "object")],60,"NoWay",true,[],[],false,none,false⟩),#[some (R 52),none,some (.str "NoWay" 239),some (.str "NoWay" 247),some (.builtin "ValueError.__new__"),some (.bool true)]⟩
noncomputable def o36:F:=fun _=>⟨(.type "super"),none,(.fields #[(R 61),(R 61),(R 61)]),#[]⟩
noncomputable def o37:F:=bf "object.__init_subclass__" 61
noncomputable def o38:F:=fun P=>⟨(.type "dict"),none,(.dict #[e P "__module__" 262 (.str "driftmeet.errors" 187),e P "__qualname__" 264 (.str "NoHappening" 263),e P "__firstlineno__" 266 (.int 10 265),e P "__static_attributes__" 267 (R 71)] 4),#[]⟩
noncomputable def o39:F:=cd (co "NoHappening" 257 "NoHappening" 258 259 10 0 0 0 0 67 false 181 68 260 10 261)
noncomputable def o40:F:=fun _=>⟨(.type "frame"),none,.plain,#[some (R 69),some (R 3),some (R 66),none,some (.str "driftmeet.errors" 187),none,some (R 0)]⟩
noncomputable def o41:F:=fun P=>⟨(.type "dict"),none,(.dict #[e P "__module__" 262 (.str "driftmeet.errors" 187),e P "__firstlineno__" 266 (.int 10 265),e P "__static_attributes__" 267 (R 71),e P "__doc__" 268 .none] 2),#[]⟩
noncomputable def o42:F:=fun _=>⟨(.type "type"),none,(.cls ⟨"NoHappening",[(R 24)],[(R 73),(R 24),(.type "ValueError"),(.type "Exception"),(.type "BaseException"),(.type "object")],72,"NoHappening",true,[],[],false,none,false⟩),#[some (R 64),none,some (.str "NoHappening" 255),some (.str "NoHappening" 263),some (.builtin "ValueError.__new__"),some (.bool true)]⟩
noncomputable def o43:F:=fun _=>⟨(.type "super"),none,(.fields #[(R 73),(R 73),(R 73)]),#[]⟩
noncomputable def o44:F:=bf "object.__init_subclass__" 73
noncomputable def o45:F:=tu #[(.str "thing" 276)]
noncomputable def o46:F:=fp "is_whole" "is_whole" (top 7)
noncomputable def o47:F:=cd (cp "is_whole" 273 "is_whole" 274 275 13 1 0 0 3 76 true 181 77 78 79 80 277 13 278)
noncomputable def o48:F:=fo "is_whole" "is_whole" (top 7) "driftmeet.wholes" 271 81
noncomputable def o49:F:=tu #[(.int (-1) 283),(.int 0 284)]
noncomputable def o50:F:=fun P=>⟨(.type "dict"),none,(.dict #[e P "__module__" 293 (.str "driftmeet.happenings" 280),e P "__qualname__" 295 (.str "Happening" 294),e P "__firstlineno__" 297 (.int 17 296),e P "__init__" 306 (R 97),e P "__static_attributes__" 309 (R 98)] 5),#[]⟩
noncomputable def o51:F:=vf #[(I 19),(I 4),(R 96)]
noncomputable def o52:F:=cd (co "Happening" 288 "Happening" 289 290 17 0 0 0 0 87 false 181 88 291 17 292)
noncomputable def o53:F:=fun _=>⟨(.type "frame"),none,.plain,#[some (R 89),some (R 3),some (R 86),none,some (.str "driftmeet.happenings" 280),none,some (R 0)]⟩
noncomputable def o54:F:=tu #[(.str "self" 301),(.str "hand" 302),(.str "reading" 303)]
noncomputable def o55:F:=fp "__init__" "Happening.__init__" (ae (top 10) 0)
noncomputable def o56:F:=cd (cp "__init__" 298 "Happening.__init__" 299 300 19 3 0 0 3 91 true 181 92 93 94 95 304 19 305)
noncomputable def o57:F:=fo "__init__" "Happening.__init__" (ae (top 10) 0) "driftmeet.happenings" 280 96
noncomputable def o58:F:=tu #[(.str "hand" 307),(.str "reading" 308)]
noncomputable def o59:F:=fun P=>⟨(.type "dict"),none,(.dict #[e P "__module__" 293 (.str "driftmeet.happenings" 280),e P "__firstlineno__" 297 (.int 17 296),e P "__init__" 306 (R 97),e P "__static_attributes__" 309 (R 98),e P "__dict__" 311 (R 101),e P "__weakref__" 313 (R 102),e P "__doc__" 314 .none] 4),#[]⟩
noncomputable def o60:F:=fun _=>⟨(.type "type"),none,(.cls ⟨"Happening",[(.type "object")],[(R 100),(.type "object")],99,"Happening",true,[],[(R 135),(R 168),(R 201),(R 234)],false,none,false⟩),#[none,none,some (.str "Happening" 286),some (.str "Happening" 294),some (.builtin "object.__new__"),some (.bool true)]⟩
noncomputable def o61:F:=fun _=>⟨(.type "getset_descriptor"),none,(.fields #[(.str "__dict__" 310),(R 100),(.builtin "function.__dict__"),(.builtin "function.__dict__#set")]),#[]⟩
noncomputable def o62:F:=fun _=>⟨(.type "getset_descriptor"),none,(.fields #[(.str "__weakref__" 312),(R 100),(.builtin "ExceptionGroup.__weakref__"),.none]),#[]⟩
noncomputable def o63:F:=fun _=>⟨(.type "super"),none,(.fields #[(R 100),(R 100),(R 100)]),#[]⟩
noncomputable def o64:F:=bf "object.__init_subclass__" 100
noncomputable def o65:F:=tu #[(R 100)]
noncomputable def o66:F:=fun P=>⟨(.type "dict"),none,(.dict #[e P "__module__" 324 (.str "driftmeet.happenings" 280),e P "__qualname__" 326 (.str "Look" 325),e P "__firstlineno__" 328 (.int 22 327),e P "__init__" 337 (R 118),e P "row" 344 (R 125),e P "own_bounds" 353 (R 132),e P "__static_attributes__" 354 (R 133)] 7),#[]⟩
noncomputable def o67:F:=vf #[(I 24),(I 4),(R 117),(I 27),(I 4),(R 124),(I 30),(I 4),(R 131)]
noncomputable def o68:F:=cd (co "Look" 319 "Look" 320 321 22 0 0 0 0 108 false 181 109 322 22 323)
noncomputable def o69:F:=fun _=>⟨(.type "frame"),none,.plain,#[some (R 110),some (R 3),some (R 107),none,some (.str "driftmeet.happenings" 280),none,some (R 0)]⟩
noncomputable def o70:F:=tu #[(.str "self" 332),(.str "hand" 333),(.str "reading" 334)]
noncomputable def o71:F:=fp "__init__" "Look.__init__" (ae (top 11) 0)
noncomputable def o72:F:=cd (cp "__init__" 329 "Look.__init__" 330 331 24 3 0 0 3 112 true 181 113 114 115 116 335 24 336)
noncomputable def o73:F:=fo "__init__" "Look.__init__" (ae (top 11) 0) "driftmeet.happenings" 280 117
noncomputable def o74:F:=tu #[(.str "self" 341)]
noncomputable def o75:F:=fp "row" "Look.row" (ae (top 11) 1)
noncomputable def o76:F:=cd (cp "row" 338 "Look.row" 339 340 27 1 0 0 3 119 true 181 120 121 122 123 342 27 343)
noncomputable def o77:F:=fo "row" "Look.row" (ae (top 11) 1) "driftmeet.happenings" 280 124
noncomputable def o78:F:=tu #[(.str "self" 348),(.str "world" 349),(.str "name" 350)]
noncomputable def o79:F:=fp "own_bounds" "Look.own_bounds" (ae (top 11) 2)
noncomputable def o80:F:=cd (cp "own_bounds" 345 "Look.own_bounds" 346 347 30 3 0 0 3 126 true 181 127 128 129 130 351 30 352)
noncomputable def o81:F:=fo "own_bounds" "Look.own_bounds" (ae (top 11) 2) "driftmeet.happenings" 280 131
noncomputable def o82:F:=fun P=>⟨(.type "dict"),none,(.dict #[e P "__module__" 324 (.str "driftmeet.happenings" 280),e P "__firstlineno__" 328 (.int 22 327),e P "__init__" 337 (R 118),e P "row" 344 (R 125),e P "own_bounds" 353 (R 132),e P "__static_attributes__" 354 (R 133),e P "__doc__" 355 .none] 2),#[]⟩
noncomputable def o83:F:=fun _=>⟨(.type "type"),none,(.cls ⟨"Look",[(R 100)],[(R 135),(R 100),(.type "object")],134,"Look",true,[],[],false,none,false⟩),#[some (R 105),none,some (.str "Look" 317),some (.str "Look" 325),some (.builtin "object.__new__"),some (.bool true)]⟩
noncomputable def o84:F:=fun _=>⟨(.type "super"),none,(.fields #[(R 135),(R 135),(R 135)]),#[]⟩
noncomputable def o85:F:=bf "object.__init_subclass__" 135
noncomputable def o86:F:=fun P=>⟨(.type "dict"),none,(.dict #[e P "__module__" 365 (.str "driftmeet.happenings" 280),e P "__qualname__" 367 (.str "Sight" 366),e P "__firstlineno__" 369 (.int 32 368),e P "__init__" 380 (R 151),e P "row" 387 (R 158),e P "own_bounds" 396 (R 165),e P "__static_attributes__" 399 (R 166)] 7),#[]⟩
noncomputable def o87:F:=vf #[(I 34),(I 4),(R 150),(I 39),(I 4),(R 157),(I 42),(I 4),(R 164)]
noncomputable def o88:F:=cd (co "Sight" 360 "Sight" 361 362 32 0 0 0 0 141 false 181 142 363 32 364)
noncomputable def o89:F:=fun _=>⟨(.type "frame"),none,.plain,#[some (R 143),some (R 3),some (R 140),none,some (.str "driftmeet.happenings" 280),none,some (R 0)]⟩
noncomputable def o90:F:=tu #[(.str "self" 373),(.str "hand" 374),(.str "reading" 375),(.str "early" 376),(.str "late" 377)]
noncomputable def o91:F:=fp "__init__" "Sight.__init__" (ae (top 12) 0)
noncomputable def o92:F:=cd (cp "__init__" 370 "Sight.__init__" 371 372 34 5 0 0 3 145 true 181 146 147 148 149 378 34 379)
noncomputable def o93:F:=fo "__init__" "Sight.__init__" (ae (top 12) 0) "driftmeet.happenings" 280 150
noncomputable def o94:F:=tu #[(.str "self" 384)]
noncomputable def o95:F:=fp "row" "Sight.row" (ae (top 12) 1)
noncomputable def o96:F:=cd (cp "row" 381 "Sight.row" 382 383 39 1 0 0 3 152 true 181 153 154 155 156 385 39 386)
noncomputable def o97:F:=fo "row" "Sight.row" (ae (top 12) 1) "driftmeet.happenings" 280 157
noncomputable def o98:F:=tu #[(.str "self" 391),(.str "world" 392),(.str "name" 393)]
noncomputable def o99:F:=fp "own_bounds" "Sight.own_bounds" (ae (top 12) 2)
noncomputable def xM:F:=cd (cp "own_bounds" 388 "Sight.own_bounds" 389 390 42 3 0 0 3 159 true 181 160 161 162 163 394 42 395)
noncomputable def wc:F:=fo "own_bounds" "Sight.own_bounds" (ae (top 12) 2) "driftmeet.happenings" 280 164
noncomputable def yZ:F:=tu #[(.str "early" 397),(.str "late" 398)]
noncomputable def wF:F:=fun P=>⟨(.type "dict"),none,(.dict #[e P "__module__" 365 (.str "driftmeet.happenings" 280),e P "__firstlineno__" 369 (.int 32 368),e P "__init__" 380 (R 151),e P "row" 387 (R 158),e P "own_bounds" 396 (R 165),e P "__static_attributes__" 399 (R 166),e P "__doc__" 400 .none] 2),#[]⟩
noncomputable def zP:F:=fun _=>⟨(.type "type"),none,(.cls ⟨"Sight",[(R 100)],[(R 168),(R 100),(.type "object")],167,"Sight",true,[],[],false,none,false⟩),#[some (R 138),none,some (.str "Sight" 358),some (.str "Sight" 366),some (.builtin "object.__new__"),some (.bool true)]⟩
noncomputable def AI:F:=fun _=>⟨(.type "super"),none,(.fields #[(R 168),(R 168),(R 168)]),#[]⟩
noncomputable def AY:F:=bf "object.__init_subclass__" 168
noncomputable def Ce:F:=fun P=>⟨(.type "dict"),none,(.dict #[e P "__module__" 410 (.str "driftmeet.happenings" 280),e P "__qualname__" 412 (.str "Send" 411),e P "__firstlineno__" 414 (.int 44 413),e P "__init__" 424 (R 184),e P "row" 431 (R 191),e P "own_bounds" 440 (R 198),e P "__static_attributes__" 442 (R 199)] 7),#[]⟩
noncomputable def CN:F:=vf #[(I 46),(I 4),(R 183),(I 50),(I 4),(R 190),(I 53),(I 4),(R 197)]
noncomputable def AN:F:=cd (co "Send" 405 "Send" 406 407 44 0 0 0 0 174 false 181 175 408 44 409)
noncomputable def BP:F:=fun _=>⟨(.type "frame"),none,.plain,#[some (R 176),some (R 3),some (R 173),none,some (.str "driftmeet.happenings" 280),none,some (R 0)]⟩
noncomputable def xD:F:=tu #[(.str "self" 418),(.str "hand" 419),(.str "reading" 420),(.str "to" 421)]
noncomputable def Dn:F:=fp "__init__" "Send.__init__" (ae (top 13) 0)
noncomputable def vG:F:=cd (cp "__init__" 415 "Send.__init__" 416 417 46 4 0 0 3 178 true 181 179 180 181 182 422 46 423)
noncomputable def wZ:F:=fo "__init__" "Send.__init__" (ae (top 13) 0) "driftmeet.happenings" 280 183
noncomputable def yu:F:=tu #[(.str "self" 428)]
noncomputable def Bm:F:=fp "row" "Send.row" (ae (top 13) 1)
noncomputable def zO:F:=cd (cp "row" 425 "Send.row" 426 427 50 1 0 0 3 185 true 181 186 187 188 189 429 50 430)
noncomputable def zD:F:=fo "row" "Send.row" (ae (top 13) 1) "driftmeet.happenings" 280 190
noncomputable def vA:F:=tu #[(.str "self" 435),(.str "world" 436),(.str "name" 437)]
noncomputable def Dr:F:=fp "own_bounds" "Send.own_bounds" (ae (top 13) 2)
noncomputable def xj:F:=cd (cp "own_bounds" 432 "Send.own_bounds" 433 434 53 3 0 0 3 192 true 181 193 194 195 196 438 53 439)
noncomputable def zf:F:=fo "own_bounds" "Send.own_bounds" (ae (top 13) 2) "driftmeet.happenings" 280 197
noncomputable def wb:F:=tu #[(.str "to" 441)]
noncomputable def ye:F:=fun P=>⟨(.type "dict"),none,(.dict #[e P "__module__" 410 (.str "driftmeet.happenings" 280),e P "__firstlineno__" 414 (.int 44 413),e P "__init__" 424 (R 184),e P "row" 431 (R 191),e P "own_bounds" 440 (R 198),e P "__static_attributes__" 442 (R 199),e P "__doc__" 443 .none] 2),#[]⟩
noncomputable def wd:F:=fun _=>⟨(.type "type"),none,(.cls ⟨"Send",[(R 100)],[(R 201),(R 100),(.type "object")],200,"Send",true,[],[],false,none,false⟩),#[some (R 171),none,some (.str "Send" 403),some (.str "Send" 411),some (.builtin "object.__new__"),some (.bool true)]⟩
noncomputable def Cd:F:=fun _=>⟨(.type "super"),none,(.fields #[(R 201),(R 201),(R 201)]),#[]⟩
noncomputable def C8:F:=bf "object.__init_subclass__" 201
noncomputable def CG:F:=fun P=>⟨(.type "dict"),none,(.dict #[e P "__module__" 453 (.str "driftmeet.happenings" 280),e P "__qualname__" 455 (.str "Take" 454),e P "__firstlineno__" 457 (.int 55 456),e P "__init__" 467 (R 217),e P "row" 474 (R 224),e P "own_bounds" 485 (R 231),e P "__static_attributes__" 487 (R 232)] 7),#[]⟩
noncomputable def BQ:F:=vf #[(I 57),(I 4),(R 216),(I 61),(I 4),(R 223),(I 64),(I 4),(R 230)]
noncomputable def AJ:F:=cd (co "Take" 448 "Take" 449 450 55 0 0 0 0 207 false 181 208 451 55 452)
noncomputable def Db:F:=fun _=>⟨(.type "frame"),none,.plain,#[some (R 209),some (R 3),some (R 206),none,some (.str "driftmeet.happenings" 280),none,some (R 0)]⟩
noncomputable def zM:F:=tu #[(.str "self" 461),(.str "hand" 462),(.str "reading" 463),(.str "letter" 464)]
noncomputable def Ba:F:=fp "__init__" "Take.__init__" (ae (top 14) 0)
noncomputable def Ah:F:=cd (cp "__init__" 458 "Take.__init__" 459 460 57 4 0 0 3 211 true 181 212 213 214 215 465 57 466)
noncomputable def yV:F:=fo "__init__" "Take.__init__" (ae (top 14) 0) "driftmeet.happenings" 280 216
noncomputable def vz:F:=tu #[(.str "self" 471)]
noncomputable def BJ:F:=fp "row" "Take.row" (ae (top 14) 1)
noncomputable def xl:F:=cd (cp "row" 468 "Take.row" 469 470 61 1 0 0 3 218 true 181 219 220 221 222 472 61 473)
noncomputable def wP:F:=fo "row" "Take.row" (ae (top 14) 1) "driftmeet.happenings" 280 223
noncomputable def xq:F:=tu #[(.str "self" 478),(.str "world" 479),(.str "name" 480),(.str "way" 481),(.str "told" 482)]
noncomputable def BD:F:=fp "own_bounds" "Take.own_bounds" (ae (top 14) 2)
noncomputable def zk:F:=cd (cp "own_bounds" 475 "Take.own_bounds" 476 477 64 3 0 0 3 225 true 181 226 227 228 229 483 64 484)
noncomputable def wG:F:=fo "own_bounds" "Take.own_bounds" (ae (top 14) 2) "driftmeet.happenings" 280 230
noncomputable def zn:F:=tu #[(.str "letter" 486)]
noncomputable def zW:F:=fun P=>⟨(.type "dict"),none,(.dict #[e P "__module__" 453 (.str "driftmeet.happenings" 280),e P "__firstlineno__" 457 (.int 55 456),e P "__init__" 467 (R 217),e P "row" 474 (R 224),e P "own_bounds" 485 (R 231),e P "__static_attributes__" 487 (R 232),e P "__doc__" 488 .none] 2),#[]⟩
noncomputable def Ai:F:=fun _=>⟨(.type "type"),none,(.cls ⟨"Take",[(R 100)],[(R 234),(R 100),(.type "object")],233,"Take",true,[],[],false,none,false⟩),#[some (R 204),none,some (.str "Take" 446),some (.str "Take" 454),some (.builtin "object.__new__"),some (.bool true)]⟩
noncomputable def Dq:F:=fun _=>⟨(.type "super"),none,(.fields #[(R 234),(R 234),(R 234)]),#[]⟩
noncomputable def CH:F:=bf "object.__init_subclass__" 234
noncomputable def DE:F:=fp "are_wholes" "are_wholes" (top 15)
noncomputable def xg:F:=cd (.fields #[(.str "are_wholes" 491),(.str "are_wholes" 492),(.str "/claim/cut.py" 493),(I 70),(I 2),(I 0),(I 0),(I 3),(R 237),(.bool true),(I 181),(R 238),.none,.none,.none,(R 239),(I 494),(I 70),(.str "/claim/cut.py" 495)])
noncomputable def xu:F:=fo "are_wholes" "are_wholes" (top 15) "driftmeet.happenings" 280 240
noncomputable def vp:F:=tu #[(.str "thing" 500)]
noncomputable def A5:F:=fp "is_letter" "is_letter" (top 16)
noncomputable def xY:F:=cd (cp "is_letter" 497 "is_letter" 498 499 72 1 0 0 3 242 true 181 243 244 245 246 501 72 502)
noncomputable def Aa:F:=fo "is_letter" "is_letter" (top 16) "driftmeet.happenings" 280 247
noncomputable def yM:F:=tu #[(.str "row" 507),(.str "word" 508)]
noncomputable def Cr:F:=fp "happening" "happening" (top 17)
noncomputable def vJ:F:=cd (cp "happening" 504 "happening" 505 506 74 1 0 0 3 249 true 181 250 251 252 253 509 74 510)
noncomputable def yn:F:=fo "happening" "happening" (top 17) "driftmeet.happenings" 280 254
noncomputable def zN:F:=tu #[(.str "counts" 517),(.str "hand" 518),(.str "ahead" 519)]
noncomputable def A7:F:=fp "count_on" "count_on" (top 19)
noncomputable def wu:F:=cd (cp "count_on" 514 "count_on" 515 516 88 2 0 0 3 256 true 181 257 258 259 260 520 88 521)
noncomputable def zz:F:=fo "count_on" "count_on" (top 19) "driftmeet.logs" 512 261
noncomputable def wt:F:=tu #[(.str "log" 526),(.str "counts" 527),(.str "told" 528),(.str "row" 529)]
noncomputable def Dh:F:=fp "names" "names" (top 20)
noncomputable def zT:F:=cd (cp "names" 523 "names" 524 525 92 1 0 0 3 263 true 181 264 265 266 267 530 92 531)
noncomputable def xC:F:=fo "names" "names" (top 20) "driftmeet.logs" 512 268
noncomputable def yQ:F:=tu #[(.str "clock" 538),(.str "last" 539),(.str "here" 540),(.str "ticks" 541)]
noncomputable def Cb:F:=fp "clock_bounds" "clock_bounds" (top 22)
noncomputable def xR:F:=cd (cp "clock_bounds" 535 "clock_bounds" 536 537 99 4 0 0 3 270 true 181 271 272 273 274 542 99 543)
noncomputable def wp:F:=fo "clock_bounds" "clock_bounds" (top 22) "driftmeet.bounds" 533 275
noncomputable def xx:F:=tu #[(.str "world" 548),(.str "log" 549),(.str "told" 550),(.str "readings" 551),(.str "here" 552),(.str "row" 553),(.str "one" 554),(.str "last" 555)]
noncomputable def DM:F:=fp "bounds" "bounds" (top 23)
noncomputable def ze:F:=cd (cp "bounds" 545 "bounds" 546 547 101 2 0 0 3 277 true 181 278 279 280 281 556 101 557)
noncomputable def zd:F:=fo "bounds" "bounds" (top 23) "driftmeet.bounds" 533 282
noncomputable def yN:F:=tu #[(.str "short" 566),(.str "long" 567)]
noncomputable def By:F:=fp "refuse_clock" "refuse_clock" (top 26)
noncomputable def wL:F:=cd (cp "refuse_clock" 563 "refuse_clock" 564 565 114 2 0 0 3 284 true 181 285 286 287 288 568 114 569)
noncomputable def xV:F:=fo "refuse_clock" "refuse_clock" (top 26) "driftmeet.worlds" 559 289
noncomputable def yO:F:=tu #[(.str "least" 574),(.str "most" 575)]
noncomputable def Co:F:=fp "refuse_lengths" "refuse_lengths" (top 27)
noncomputable def wT:F:=cd (cp "refuse_lengths" 571 "refuse_lengths" 572 573 119 2 0 0 3 291 true 181 292 293 294 295 576 119 577)
noncomputable def xh:F:=fo "refuse_lengths" "refuse_lengths" (top 27) "driftmeet.worlds" 559 296
noncomputable def AT:F:=fun P=>⟨(.type "dict"),none,(.dict #[e P "__module__" 586 (.str "driftmeet.worlds" 559),e P "__qualname__" 588 (.str "World" 587),e P "__firstlineno__" 590 (.int 124 589),e P "__init__" 605 (R 311),e P "enter_way" 616 (R 318),e P "refuse_hand" 624 (R 325),e P "refuse_pair" 633 (R 332),e P "hands" 640 (R 339),e P "has_hand" 648 (R 346),e P "has_way" 657 (R 353),e P "clock" 665 (R 360),e P "way" 674 (R 367),e P "__static_attributes__" 677 (R 368)] 13),#[]⟩
noncomputable def Bh:F:=vf #[(I 126),(I 4),(R 310),(I 136),(I 4),(R 317),(I 143),(I 4),(R 324),(I 147),(I 4),(R 331),(I 153),(I 4),(R 338),(I 156),(I 4),(R 345),(I 159),(I 4),(R 352),(I 162),(I 4),(R 359),(I 166),(I 4),(R 366)]
noncomputable def A1:F:=cd (co "World" 581 "World" 582 583 124 0 0 0 0 301 false 181 302 584 124 585)
noncomputable def BK:F:=fun _=>⟨(.type "frame"),none,.plain,#[some (R 303),some (R 3),some (R 300),none,some (.str "driftmeet.worlds" 559),none,some (R 0)]⟩
noncomputable def wa:F:=tu #[(.str "self" 594),(.str "clocks" 595),(.str "ways" 596),(.str "short" 597),(.str "long" 598),(.str "one" 599),(.str "other" 600),(.str "least" 601),(.str "most" 602)]
noncomputable def A9:F:=fp "__init__" "World.__init__" (ae (top 28) 0)
noncomputable def zi:F:=cd (cp "__init__" 591 "World.__init__" 592 593 126 3 0 0 3 305 true 181 306 307 308 309 603 126 604)
noncomputable def vV:F:=fo "__init__" "World.__init__" (ae (top 28) 0) "driftmeet.worlds" 559 310
noncomputable def zh:F:=tu #[(.str "self" 609),(.str "one" 610),(.str "other" 611),(.str "least" 612),(.str "most" 613)]
noncomputable def Ci:F:=fp "enter_way" "World.enter_way" (ae (top 28) 1)
noncomputable def v5:F:=cd (cp "enter_way" 606 "World.enter_way" 607 608 136 5 0 0 3 312 true 181 313 314 315 316 614 136 615)
noncomputable def yD:F:=fo "enter_way" "World.enter_way" (ae (top 28) 1) "driftmeet.worlds" 559 317
noncomputable def vh:F:=tu #[(.str "self" 620),(.str "hand" 621)]
noncomputable def Bu:F:=fp "refuse_hand" "World.refuse_hand" (ae (top 28) 2)
noncomputable def wg:F:=cd (cp "refuse_hand" 617 "World.refuse_hand" 618 619 143 2 0 0 3 319 true 181 320 321 322 323 622 143 623)
noncomputable def wo:F:=fo "refuse_hand" "World.refuse_hand" (ae (top 28) 2) "driftmeet.worlds" 559 324
noncomputable def wC:F:=tu #[(.str "self" 628),(.str "one" 629),(.str "other" 630)]
noncomputable def AW:F:=fp "refuse_pair" "World.refuse_pair" (ae (top 28) 3)
noncomputable def xU:F:=cd (cp "refuse_pair" 625 "World.refuse_pair" 626 627 147 3 0 0 3 326 true 181 327 328 329 330 631 147 632)
noncomputable def yH:F:=fo "refuse_pair" "World.refuse_pair" (ae (top 28) 3) "driftmeet.worlds" 559 331
noncomputable def yx:F:=tu #[(.str "self" 637)]
noncomputable def Cg:F:=fp "hands" "World.hands" (ae (top 28) 4)
noncomputable def Al:F:=cd (cp "hands" 634 "World.hands" 635 636 153 1 0 0 3 333 true 181 334 335 336 337 638 153 639)
noncomputable def vF:F:=fo "hands" "World.hands" (ae (top 28) 4) "driftmeet.worlds" 559 338
noncomputable def xZ:F:=tu #[(.str "self" 644),(.str "hand" 645)]
noncomputable def Dw:F:=fp "has_hand" "World.has_hand" (ae (top 28) 5)
noncomputable def ww:F:=cd (cp "has_hand" 641 "World.has_hand" 642 643 156 2 0 0 3 340 true 181 341 342 343 344 646 156 647)
noncomputable def vB:F:=fo "has_hand" "World.has_hand" (ae (top 28) 5) "driftmeet.worlds" 559 345
noncomputable def vq:F:=tu #[(.str "self" 652),(.str "one" 653),(.str "other" 654)]
noncomputable def BA:F:=fp "has_way" "World.has_way" (ae (top 28) 6)
noncomputable def xw:F:=cd (cp "has_way" 649 "World.has_way" 650 651 159 3 0 0 3 347 true 181 348 349 350 351 655 159 656)
noncomputable def yC:F:=fo "has_way" "World.has_way" (ae (top 28) 6) "driftmeet.worlds" 559 352
noncomputable def zJ:F:=tu #[(.str "self" 661),(.str "hand" 662)]
noncomputable def CA:F:=fp "clock" "World.clock" (ae (top 28) 7)
noncomputable def xB:F:=cd (cp "clock" 658 "World.clock" 659 660 162 2 0 0 3 354 true 181 355 356 357 358 663 162 664)
noncomputable def Af:F:=fo "clock" "World.clock" (ae (top 28) 7) "driftmeet.worlds" 559 359
noncomputable def z8:F:=tu #[(.str "self" 669),(.str "one" 670),(.str "other" 671)]
noncomputable def Ct:F:=fp "way" "World.way" (ae (top 28) 8)
noncomputable def xW:F:=cd (cp "way" 666 "World.way" 667 668 166 3 0 0 3 361 true 181 362 363 364 365 672 166 673)
noncomputable def zU:F:=fo "way" "World.way" (ae (top 28) 8) "driftmeet.worlds" 559 366
noncomputable def yA:F:=tu #[(.str "kept_clocks" 675),(.str "kept_ways" 676)]
noncomputable def zZ:F:=fun P=>⟨(.type "dict"),none,(.dict #[e P "__module__" 586 (.str "driftmeet.worlds" 559),e P "__firstlineno__" 590 (.int 124 589),e P "__init__" 605 (R 311),e P "enter_way" 616 (R 318),e P "refuse_hand" 624 (R 325),e P "refuse_pair" 633 (R 332),e P "hands" 640 (R 339),e P "has_hand" 648 (R 346),e P "has_way" 657 (R 353),e P "clock" 665 (R 360),e P "way" 674 (R 367),e P "__static_attributes__" 677 (R 368),e P "__dict__" 679 (R 371),e P "__weakref__" 681 (R 372),e P "__doc__" 682 .none] 4),#[]⟩
noncomputable def zB:F:=fun _=>⟨(.type "type"),none,(.cls ⟨"World",[(.type "object")],[(R 370),(.type "object")],369,"World",true,[],[],false,none,false⟩),#[none,none,some (.str "World" 579),some (.str "World" 587),some (.builtin "object.__new__"),some (.bool true)]⟩
noncomputable def xP:F:=fun _=>⟨(.type "getset_descriptor"),none,(.fields #[(.str "__dict__" 678),(R 370),(.builtin "function.__dict__"),(.builtin "function.__dict__#set")]),#[]⟩
noncomputable def vD:F:=fun _=>⟨(.type "getset_descriptor"),none,(.fields #[(.str "__weakref__" 680),(R 370),(.builtin "ExceptionGroup.__weakref__"),.none]),#[]⟩
noncomputable def CF:F:=fun _=>⟨(.type "super"),none,(.fields #[(R 370),(R 370),(R 370)]),#[]⟩
noncomputable def CS:F:=bf "object.__init_subclass__" 370
noncomputable def xt:F:=tu #[(.str "_law_script" 690),(.str "_law_k" 691)]
noncomputable def Cz:F:=fp "_law_cell_at" "_law_cell_at" (top 30)
noncomputable def yB:F:=cd (cp "_law_cell_at" 687 "_law_cell_at" 688 689 172 2 0 0 3 375 true 181 376 377 378 379 692 172 693)
noncomputable def Ae:F:=fo "_law_cell_at" "_law_cell_at" (top 30) "law_driftmeet_k31_bounds_told" 685 380
noncomputable def v8:F:=tu #[(.str "_law_cell" 698),(.str "_law_many" 699),(.str "_law_found" 700),(.str "_law_number" 701),(.str "_law_k" 702)]
noncomputable def C4:F:=fp "_law_stream" "_law_stream" (top 31)
noncomputable def vY:F:=cd (cp "_law_stream" 695 "_law_stream" 696 697 176 2 0 0 3 382 true 181 383 384 385 386 703 176 704)
noncomputable def wE:F:=fo "_law_stream" "_law_stream" (top 31) "law_driftmeet_k31_bounds_told" 685 387
noncomputable def wJ:F:=tu #[(.str "_law_xs" 709),(.str "_law_size" 710),(.str "_law_least" 711)]
noncomputable def Cl:F:=fp "_law_way" "_law_way" (top 32)
noncomputable def vg:F:=cd (cp "_law_way" 706 "_law_way" 707 708 183 2 0 0 3 389 true 181 390 391 392 393 712 183 713)
noncomputable def zK:F:=fo "_law_way" "_law_way" (top 32) "law_driftmeet_k31_bounds_told" 685 394
noncomputable def Aj:F:=tu #[(.str "_law_cell" 718),(.str "_law_xs" 719),(.str "_law_hands" 720),(.str "_law_size" 721),(.str "_law_clocks" 722),(.str "_law_ways" 723),(.str "_law_one" 724),(.str "_law_short" 725),(.str "_law_other" 726),(.str "_law_ys" 727)]
noncomputable def A2:F:=fp "_law_world" "_law_world" (top 33)
noncomputable def Aq:F:=cd (cp "_law_world" 715 "_law_world" 716 717 188 1 0 0 3 396 true 181 397 398 399 400 728 188 729)
noncomputable def vK:F:=fo "_law_world" "_law_world" (top 33) "law_driftmeet_k31_bounds_told" 685 401
noncomputable def CT:F:=fp "_law_made" "_law_made" (top 34)
noncomputable def Ar:F:=cd (.fields #[(.str "_law_made" 731),(.str "_law_made" 732),(.str "/claim/cut.py" 733),(I 202),(I 1),(I 0),(I 0),(I 3),(R 403),(.bool true),(I 181),(R 404),.none,.none,.none,(R 405),(I 734),(I 202),(.str "/claim/cut.py" 735)])
noncomputable def vm:F:=fo "_law_made" "_law_made" (top 34) "law_driftmeet_k31_bounds_told" 685 406
noncomputable def yf:F:=tu #[(.str "_law_clock" 740),(.str "_law_here" 741),(.str "_law_xs" 742),(.str "_law_low" 743),(.str "_law_high" 744),(.str "_law_ticks" 745),(.str "_law_first" 746),(.str "_law_last" 747)]
noncomputable def AS:F:=fp "_law_lag" "_law_lag" (top 35)
noncomputable def vn:F:=cd (cp "_law_lag" 737 "_law_lag" 738 739 204 5 0 0 3 408 true 181 409 410 411 412 748 204 749)
noncomputable def zS:F:=fo "_law_lag" "_law_lag" (top 35) "law_driftmeet_k31_bounds_told" 685 413
noncomputable def Bw:F:=fp "_law_row" "_law_row" (top 36)
noncomputable def yk:F:=cd (.fields #[(.str "_law_row" 751),(.str "_law_row" 752),(.str "/claim/cut.py" 753),(I 215),(I 5),(I 0),(I 0),(I 3),(R 415),(.bool true),(I 181),(R 416),.none,.none,.none,(R 417),(I 754),(I 215),(.str "/claim/cut.py" 755)])
noncomputable def vk:F:=fo "_law_row" "_law_row" (top 36) "law_driftmeet_k31_bounds_told" 685 418
noncomputable def xG:F:=tu #[(.str "_law_here" 760),(.str "_law_row_here" 761),(.str "_law_moment" 762),(.str "_law_way_here" 763)]
noncomputable def BC:F:=fp "_law_sent" "_law_sent" (top 37)
noncomputable def yY:F:=cd (cp "_law_sent" 757 "_law_sent" 758 759 224 4 0 0 3 420 true 181 421 422 423 424 764 224 765)
noncomputable def xa:F:=fo "_law_sent" "_law_sent" (top 37) "law_driftmeet_k31_bounds_told" 685 425
noncomputable def CO:F:=fp "_law_tale" "_law_tale" (top 38)
noncomputable def wB:F:=cd (.fields #[(.str "_law_tale" 767),(.str "_law_tale" 768),(.str "/claim/cut.py" 769),(I 228),(I 3),(I 0),(I 0),(I 3),(R 427),(.bool true),(I 181),(R 428),.none,.none,.none,(R 429),(I 770),(I 228),(.str "/claim/cut.py" 771)])
noncomputable def yP:F:=fo "_law_tale" "_law_tale" (top 38) "law_driftmeet_k31_bounds_told" 685 430
noncomputable def vt:F:=tu #[(.str "_law_world_here" 776),(.str "_law_row_here" 777),(.str "_law_here" 778),(.str "_law_least" 779),(.str "_law_most" 780)]
noncomputable def A6:F:=fp "_law_own" "_law_own" (top 39)
noncomputable def yd:F:=cd (cp "_law_own" 773 "_law_own" 774 775 261 3 0 0 3 432 true 181 433 434 435 436 781 261 782)
noncomputable def yb:F:=fo "_law_own" "_law_own" (top 39) "law_driftmeet_k31_bounds_told" 685 437
noncomputable def xO:F:=tu #[(.str "_law_world_here" 787),(.str "_law_log" 788),(.str "_law_found" 789),(.str "_law_seen" 790),(.str "_law_row_here" 791),(.str "_law_known" 792),(.str "_law_here" 793),(.str "_law_last" 794),(.str "_law_short" 795),(.str "_law_long" 796)]
noncomputable def B9:F:=fp "_law_due" "_law_due" (top 40)
noncomputable def xy:F:=cd (cp "_law_due" 784 "_law_due" 785 786 270 2 0 0 3 439 true 181 440 441 442 443 797 270 798)
noncomputable def xc:F:=fo "_law_due" "_law_due" (top 40) "law_driftmeet_k31_bounds_told" 685 444
noncomputable def Ck:F:=tu #[(.str "_law_log" 803),(.str "_law_many" 804),(.str "_law_found" 805),(.str "_law_row_here" 806)]
noncomputable def AU:F:=fp "_law_names" "_law_names" (top 41)
noncomputable def BR:F:=cd (cp "_law_names" 800 "_law_names" 801 802 284 1 0 0 3 446 true 181 447 448 449 450 807 284 808)
noncomputable def C7:F:=fo "_law_names" "_law_names" (top 41) "law_driftmeet_k31_bounds_told" 685 451
noncomputable def xN:F:=tu #[(.str "_law_found" 813)]
noncomputable def CP:F:=fp "_law_whole" "_law_whole" (top 42)
noncomputable def yK:F:=cd (cp "_law_whole" 810 "_law_whole" 811 812 291 1 0 0 3 453 true 181 454 455 456 457 814 291 815)
noncomputable def yl:F:=fo "_law_whole" "_law_whole" (top 42) "law_driftmeet_k31_bounds_told" 685 458
noncomputable def wV:F:=tu #[(.str "_law_found" 820)]
noncomputable def Bg:F:=fp "_law_name" "_law_name" (top 43)
noncomputable def vZ:F:=cd (cp "_law_name" 817 "_law_name" 818 819 293 1 0 0 3 460 true 181 461 462 463 464 821 293 822)
noncomputable def xI:F:=fo "_law_name" "_law_name" (top 43) "law_driftmeet_k31_bounds_told" 685 465
noncomputable def yc:F:=tu #[(.str "_law_found" 827),(.str "_law_due_here" 828),(.str "_law_one" 829)]
noncomputable def B3:F:=fp "_law_right" "_law_right" (top 44)
noncomputable def zu:F:=cd (cp "_law_right" 824 "_law_right" 825 826 297 2 0 0 3 467 true 181 468 469 470 471 830 297 831)
noncomputable def vL:F:=fo "_law_right" "_law_right" (top 44) "law_driftmeet_k31_bounds_told" 685 472
noncomputable def AC:F:=fp "law" "law" (top 45)
noncomputable def yg:F:=cd (.fields #[(.str "law" 833),(.str "law" 834),(.str "/claim/cut.py" 835),(I 306),(I 1),(I 0),(I 0),(I 3),(R 474),(.bool true),(I 181),(R 475),.none,.none,.none,(R 476),(I 836),(I 306),(.str "/claim/cut.py" 837)])
noncomputable def Aw:F:=fo "law" "law" (top 45) "law_driftmeet_k31_bounds_told" 685 477
noncomputable def env:Env:={scope:=pw.main.scope,locals:=mainNs,globals:=mainNs,cells:=[],code:=(R 13),frame:=some 14}
noncomputable def bE:List Stmt:=behindTheImports pw
noncomputable def b(i:Nat):Stmt:=bE.getD i (.Pass ⟨0,0,0,0⟩)
noncomputable def cE:Code:=.body bE env
noncomputable def qF:List Frame:=[topFrame ⟨0,0,0,0⟩]
noncomputable def an:Option Value:=(some (R 6))
noncomputable def hA(P:Params):Heap:=⟨⟨[boot_o_0 P,boot_o_1 P,boot_o_2 P,boot_o_3 P,boot_o_4 P,boot_o_5 P,boot_o_6 P,boot_o_7 P,boot_o_8 P,boot_o_9 P,boot_o_10 P,o0 P,o1 P,o2 P,o3 P]⟩,{}⟩
noncomputable def sA(w:World)(os:OsState):Shared:=⟨hA w.params,⟨[]⟩,{},187,os⟩
noncomputable def t0:Params->W.BT:=(n boot_o_0 (n boot_o_1 (n boot_o_3 (l boot_o_7) (l o0)) (n boot_o_5 (l boot_o_9) (l o2))) (n boot_o_2 (n boot_o_4 (l boot_o_8) (l o1)) (n boot_o_6 (l boot_o_10) (l o3))))
noncomputable def s0(w:World)(os:OsState):SharedT:=⟨t0 w.params,15,{},⟨[]⟩,{},187,os⟩
noncomputable def t1:Params->W.BT:=(n boot_o_0 (n boot_o_1 (n o4 (n boot_o_7 (n o6 (n o0 (n o37 (n o1 (l yn) (l o1)) (n zD (l o0) (l o1))) (n o55 (n o0 (l o0) (l o0)) (n xl (l BA) z))) (n o0 (n o0 (n o88 (l o1) (l o0)) (n o0 (l yx) (l o0))) (n o69 (n CN (l A1) (l yP)) (n DE (l zU) z)))) (n o11 (n o23 (n o0 (n o83 (l o0) (l wJ)) (n wb (l o1) (l xN))) (n o63 (n wF (l Co) (l o0)) (n wG (l xB) z))) (n o0 (n o0 (n o93 (l xx) (l vm)) (n Ba (l o0) (l B3))) (n o0 (n vG (l vV) (l o0)) (n xY (l o0) z))))) (n o0 (n o1 (n o0 (n o0 (n o80 (l o0) (l vY)) (n o0 (l Bu) (l BR))) (n o59 (n o99 (l o0) (l vk)) (n xq (l o1) z))) (n o30 (n o49 (n o90 (l xR) (l o0)) (n o0 (l vF) (l o0))) (n o0 (n o1 (l wa) (l o0)) (n o1 (l xP) z)))) (n o15 (n o0 (n o44 (n o7 (l Dh) (l zK)) (n C8 (l xU) (l yl))) (n o66 (n o65 (l o7) (l o0)) (n Dq (l z8) z))) (n o0 (n o0 (n o0 (l zd) (l o0)) (n o1 (l o0) (l o1))) (n o75 (n yu (l o0) (l B9)) (n yM (l Cz) z)))))) (n boot_o_5 (n boot_o_9 (n o8 (n o18 (n o7 (n o0 (l o1) (l o0)) (n o1 (l vh) (l o0))) (n o57 (n o98 (l wL) (l Bw)) (n o0 (l yC) z))) (n o28 (n o47 (n o0 (l o0) (l Aq)) (n AJ (l Cg) (l vZ))) (n o1 (n BP (l o0) (l o1)) (n xu (l zZ) z)))) (n o13 (n o7 (n o42 (n o85 (l wt) (l Cl)) (n wd (l o0) (l CP))) (n o65 (n AI (l xh) (l yY)) (n zW (l o0) z))) (n o32 (n o52 (n o1 (l DM) (l o1)) (n yV (l ww) (l vL))) (n o74 (n o0 (l o1) (l xO)) (n o0 (l xt) z))))) (n o2 (n o10 (n o21 (n o39 (n o0 (l wu) (l o0)) (n xj (l wo) (l o0))) (n o61 (n wc (l yO) (l o1)) (n BD (l o0) z))) (n o7 (n o7 (n o91 (l o0) (l CT)) (n zM (l o1) (l yc))) (n o72 (n o0 (l A9) (l yd)) (n o0 (l CF) z)))) (n o7 (n o25 (n o1 (n o0 (l xC) (l o1)) (n o7 (l o0) (l o1))) (n o67 (n Ce (l o0) (l CO)) (n o0 (l Ct) z))) (n o35 (n o54 (n o96 (l o1) (l vn)) (n o0 (l vq) (l yg))) (n o77 (n Bm (l v5) (l xc)) (n Cr (l Ae) z))))))) (n boot_o_2 (n boot_o_4 (n boot_o_8 (n o7 (n o1 (n o16 (n o78 (l o0) (l v8)) (n o0 (l o1) (l Ck))) (n o56 (n o1 (l By) (l o1)) (n wP (l xw) z))) (n o27 (n o46 (n o89 (l yQ) (l A2)) (n BQ (l o0) (l Bg))) (n o0 (n AN (l BK) (l o0)) (n xg (l yA) z)))) (n o12 (n o16 (n o41 (n o84 (l o1) (l o0)) (n ye (l wC) (l o0))) (n o64 (n zP (l wT) (l BC)) (n zn (l Af) z))) (n o1 (n o51 (n o0 (l o0) (l o0)) (n Ah (l Dw) (l zu))) (n o1 (n wZ (l o0) (l o1)) (n Aa (l o1) z))))) (n o5 (n o9 (n o20 (n o1 (n o81 (l A7) (l wE)) (n Dr (l wg) (l C7))) (n o60 (n xM (l o1) (l o0)) (n o0 (l zJ) z))) (n o16 (n o0 (n o0 (l wp) (l o1)) (n o1 (l o0) (l o1))) (n o71 (n xD (l o0) (l A6)) (n vp (l vD) z)))) (n o16 (n o1 (n o0 (n o86 (l zT) (l o0)) (n o65 (l yH) (l o0))) (n o0 (n o7 (l AT) (l o1)) (n CH (l o0) z))) (n o34 (n o1 (n o95 (l o0) (l AS)) (n vz (l o1) (l AC))) (n o76 (n o0 (l Ci) (l xy)) (n o0 (l yB) z)))))) (n boot_o_6 (n boot_o_10 (n o0 (n o19 (n o38 (n o79 (l zN) (l C4)) (n vA (l o0) (l AU))) (n o58 (n o0 (l xV) (l yk)) (n o1 (l o0) z))) (n o29 (n o48 (n o1 (l Cb) (l vK)) (n Db (l Al) (l xI))) (n o70 (n o0 (l o1) (l vt)) (n o0 (l zB) z)))) (n o14 (n o24 (n o43 (n o65 (l o0) (l vg)) (n Cd (l AW) (l yK))) (n o7 (n AY (l o0) (l xa)) (n Ai (l o1) z))) (n o33 (n o53 (n o94 (l ze) (l yf)) (n o0 (l vB) (l o0))) (n o0 (n o1 (l zh) (l o0)) (n o1 (l o0) z))))) (n o3 (n o0 (n o22 (n o40 (n o82 (l zz) (l o1)) (n zf (l o0) (l o1))) (n o62 (n yZ (l o0) (l xG)) (n zk (l CA) z))) (n o31 (n o50 (n o92 (l o1) (l Ar)) (n o0 (l xZ) (l o0))) (n o73 (n Dn (l zi) (l yb)) (n A5 (l CS) z)))) (n o17 (n o26 (n o45 (n o87 (l o0) (l Aj)) (n CG (l o1) (l wV))) (n o68 (n o0 (l Bh) (l wB)) (n o1 (l xW) z))) (n o36 (n o0 (n o97 (l yN) (l zS)) (n BJ (l o0) (l Aw))) (n o0 (n zO (l yD) (l o0)) (n vJ (l o0) z))))))))
noncomputable def s1(w:World)(os:OsState):SharedT:=⟨t1 w.params,479,{},⟨[]⟩,{},839,os⟩
noncomputable def t2:Params->W.BT:=(n boot_o_0 (n boot_o_1 (n o4 (n boot_o_7 (n o6 (n o0 (n o37 (n o1 (l yn) (l o1)) (n zD (l o0) (l o1))) (n o55 (n o0 (l o0) (l o0)) (n xl (l BA) z))) (n o0 (n o0 (n o88 (l o1) (l o0)) (n o0 (l yx) (l o0))) (n o69 (n CN (l A1) (l yP)) (n DE (l zU) z)))) (n o11 (n o23 (n o0 (n o83 (l o0) (l wJ)) (n wb (l o1) (l xN))) (n o63 (n wF (l Co) (l o0)) (n wG (l xB) z))) (n o0 (n o0 (n o93 (l xx) (l vm)) (n Ba (l o0) (l B3))) (n o0 (n vG (l vV) (l o0)) (n xY (l o0) z))))) (n o0 (n o1 (n o0 (n o0 (n o80 (l o0) (l vY)) (n o0 (l Bu) (l BR))) (n o59 (n o99 (l o0) (l vk)) (n xq (l o1) z))) (n o30 (n o49 (n o90 (l xR) (l o0)) (n o0 (l vF) (l o0))) (n o0 (n o1 (l wa) (l o0)) (n o1 (l xP) z)))) (n o15 (n o0 (n o44 (n o7 (l Dh) (l zK)) (n C8 (l xU) (l yl))) (n o66 (n o65 (l o7) (l o0)) (n Dq (l z8) z))) (n o0 (n o0 (n o0 (l zd) (l o0)) (n o1 (l o0) (l o1))) (n o75 (n yu (l o0) (l B9)) (n yM (l Cz) z)))))) (n boot_o_5 (n boot_o_9 (n o8 (n o18 (n o7 (n o0 (l o1) (l o0)) (n o1 (l vh) (l o0))) (n o57 (n o98 (l wL) (l Bw)) (n o0 (l yC) z))) (n o28 (n o47 (n o0 (l o0) (l Aq)) (n AJ (l Cg) (l vZ))) (n o1 (n BP (l o0) (l o1)) (n xu (l zZ) z)))) (n o13 (n o7 (n o42 (n o85 (l wt) (l Cl)) (n wd (l o0) (l CP))) (n o65 (n AI (l xh) (l yY)) (n zW (l o0) z))) (n o32 (n o52 (n o1 (l DM) (l o1)) (n yV (l ww) (l vL))) (n o74 (n o0 (l o1) (l xO)) (n o0 (l xt) z))))) (n o2 (n o10 (n o21 (n o39 (n o0 (l wu) (l o0)) (n xj (l wo) (l o0))) (n o61 (n wc (l yO) (l o1)) (n BD (l o0) z))) (n o7 (n o7 (n o91 (l o0) (l CT)) (n zM (l o1) (l yc))) (n o72 (n o0 (l A9) (l yd)) (n o0 (l CF) z)))) (n o7 (n o25 (n o1 (n o0 (l xC) (l o1)) (n o7 (l o0) (l o1))) (n o67 (n Ce (l o0) (l CO)) (n o0 (l Ct) z))) (n o35 (n o54 (n o96 (l o1) (l vn)) (n o0 (l vq) (l yg))) (n o77 (n Bm (l v5) (l xc)) (n Cr (l Ae) z))))))) (n boot_o_2 (n boot_o_4 (n boot_o_8 (n o7 (n o1 (n o16 (n o78 (l o0) (l v8)) (n o0 (l o1) (l Ck))) (n o56 (n o1 (l By) (l o1)) (n wP (l xw) z))) (n o27 (n o46 (n o89 (l yQ) (l A2)) (n BQ (l o0) (l Bg))) (n o0 (n AN (l BK) (l o0)) (n xg (l yA) z)))) (n o12 (n o16 (n o41 (n o84 (l o1) (l o0)) (n ye (l wC) (l o0))) (n o64 (n zP (l wT) (l BC)) (n zn (l Af) z))) (n o1 (n o51 (n o0 (l o0) (l o0)) (n Ah (l Dw) (l zu))) (n o1 (n wZ (l o0) (l o1)) (n Aa (l o1) z))))) (n o5 (n o9 (n o20 (n o1 (n o81 (l A7) (l wE)) (n Dr (l wg) (l C7))) (n o60 (n xM (l o1) (l o0)) (n o0 (l zJ) z))) (n o16 (n o0 (n o0 (l wp) (l o1)) (n o1 (l o0) (l o1))) (n o71 (n xD (l o0) (l A6)) (n vp (l vD) z)))) (n o16 (n o1 (n o0 (n o86 (l zT) (l o0)) (n o65 (l yH) (l o0))) (n o0 (n o7 (l AT) (l o1)) (n CH (l o0) z))) (n o34 (n o1 (n o95 (l o0) (l AS)) (n vz (l o1) (l AC))) (n o76 (n o0 (l Ci) (l xy)) (n o0 (l yB) z)))))) (n boot_o_6 (n boot_o_10 (n o0 (n o19 (n o38 (n o79 (l zN) (l C4)) (n vA (l o0) (l AU))) (n o58 (n o0 (l xV) (l yk)) (n o1 (l o0) z))) (n o29 (n o48 (n o1 (l Cb) (l vK)) (n Db (l Al) (l xI))) (n o70 (n o0 (l o1) (l vt)) (n o0 (l zB) z)))) (n o14 (n o24 (n o43 (n o65 (l o0) (l vg)) (n Cd (l AW) (l yK))) (n o7 (n AY (l o0) (l xa)) (n Ai (l o1) z))) (n o33 (n o53 (n o94 (l ze) (l yf)) (n o0 (l vB) (l o0))) (n o0 (n o1 (l zh) (l o0)) (n o1 (l o0) z))))) (n o3 (n o0 (n o22 (n o40 (n o82 (l zz) (l o1)) (n zf (l o0) (l o1))) (n o62 (n yZ (l o0) (l xG)) (n zk (l CA) z))) (n o31 (n o50 (n o92 (l o1) (l Ar)) (n o0 (l xZ) (l o0))) (n o73 (n Dn (l zi) (l yb)) (n A5 (l CS) z)))) (n o17 (n o26 (n o45 (n o87 (l o0) (l Aj)) (n CG (l o1) (l wV))) (n o68 (n o0 (l Bh) (l wB)) (n o1 (l xW) z))) (n o36 (n o0 (n o97 (l yN) (l zS)) (n BJ (l o0) (l Aw))) (n o0 (n zO (l yD) (l o0)) (n vJ (l o0) z))))))))
noncomputable def s2(w:World)(os:OsState):SharedT:=⟨t2 w.params,479,{},⟨[]⟩,{},839,os⟩
theorem pre:∀w:World,(fun os=>topGo treeTable pw w 11 an 12 ⟨boot_heap w.params,⟨[]⟩,boot_drawn,boot_toks,os⟩ (topStub pw))=fun os=>some (sA w os,⟨denote treeTable cE,cE,⟨0,0,0,0⟩,qF⟩):=fun w=>by kernel_rfl
theorem blk:∀w:World,(fun os=>segRun treeTable pw w 11 an 1 1 (sA w os) (blockOf bE env cE ⟨0,0,0,0⟩ qF))=fun os=>some (.next,(s0 w os).abs,cE,⟨0,0,0,0⟩):=fun w=>by kernel_rfl
noncomputable def g0:List Stmt:=[b 0,b 1,b 2,b 3,b 4,b 5,b 6,b 7,b 8,b 9,b 10,b 11,b 12,b 13,b 14,b 15,b 16,b 17,b 18,b 19,b 20,b 21,b 22,b 23,b 24,b 25,b 26,b 27,b 28,b 29,b 30,b 31,b 32,b 33,b 34,b 35,b 36,b 37,b 38,b 39,b 40,b 41,b 42,b 43,b 44,b 45]
theorem p0:∀w:World,(fun os=>segRunT treeTable pw w 11 an 1 3890 (s0 w os) (piecesOf g0 env cE ⟨0,0,0,0⟩ qF))=fun os=>some (.next,s1 w os,cE,⟨306,0,319,92⟩):=fun w=>by kernel_rfl
theorem fin:∀w:World,(fun os=>topRun treeTable pw w 11 an 2 (s1 w os).abs (restOf [] env cE ⟨306,0,319,92⟩ qF))=fun os=>some (s2 w os).abs:=fun w=>by kernel_rfl
theorem CI:bE=g0++([]):=by kernel_rfl
theorem EM(w:World)(os:OsState):topRun treeTable pw w 11 an (3890+(2)) (s0 w os).abs (restOf (g0++([])) env cE ⟨0,0,0,0⟩ qF)=some (s2 w os).abs:=piece_app (segRun_of (congrFun (p0 w) os)) (congrFun (fin w) os)
theorem run(w:World)(os:OsState):topRun treeTable pw w 11 an (12+(1+(3890+(2)))) ⟨boot_heap w.params,⟨[]⟩,boot_drawn,boot_toks,os⟩ (topStub pw)=some (s2 w os).abs:=go_top (congrFun (pre w) os) (piece_block (congrFun (blk w) os) (by rw[CI];exact EM w os))
noncomputable def view:Program:={pw with main:={pw.main with body:=[top 45]}}
noncomputable def loose:List Str:=(["DriftError","NoHand","NoClock","NoWay","NoHappening","is_whole","NOUGHT","Happening","Look","Sight","Send","Take","are_wholes","is_letter","happening","count_on","names","clock_bounds","bounds","MOST_HANDS","refuse_clock","refuse_lengths","World","_law_cell_at","_law_stream","_law_way","_law_world","_law_made","_law_lag","_law_row","_law_sent","_law_tale","_law_own","_law_due","_law_names","_law_whole","_law_name","_law_right"]:List String).map Str.ofString
noncomputable def K(P:Params):Frag:=(nat_lit 2,boot_o_2 P)::(nat_lit 3,o4 P)::(nat_lit 15,o6 P)::(nat_lit 22,o0 P)::(nat_lit 23,o11 P)::(nat_lit 24,o12 P)::(nat_lit 25,o13 P)::(nat_lit 28,o16 P)::(nat_lit 35,o0 P)::(nat_lit 36,o20 P)::(nat_lit 37,o21 P)::(nat_lit 40,o16 P)::(nat_lit 47,o0 P)::(nat_lit 48,o27 P)::(nat_lit 49,o28 P)::(nat_lit 52,o16 P)::(nat_lit 59,o0 P)::(nat_lit 60,o34 P)::(nat_lit 61,o35 P)::(nat_lit 64,o16 P)::(nat_lit 71,o0 P)::(nat_lit 72,o41 P)::(nat_lit 73,o42 P)::(nat_lit 76,o0 P)::(nat_lit 78,o45 P)::(nat_lit 79,o0 P)::(nat_lit 81,o47 P)::(nat_lit 82,o48 P)::(nat_lit 83,o49 P)::(nat_lit 91,o0 P)::(nat_lit 93,o54 P)::(nat_lit 94,o0 P)::(nat_lit 96,o56 P)::(nat_lit 97,o57 P)::(nat_lit 98,o58 P)::(nat_lit 99,o59 P)::(nat_lit 100,o60 P)::(nat_lit 101,o61 P)::(nat_lit 102,o62 P)::(nat_lit 105,o65 P)::(nat_lit 112,o0 P)::(nat_lit 114,o70 P)::(nat_lit 115,o0 P)::(nat_lit 117,o72 P)::(nat_lit 118,o73 P)::(nat_lit 119,o0 P)::(nat_lit 121,o74 P)::(nat_lit 122,o0 P)::(nat_lit 124,o76 P)::(nat_lit 125,o77 P)::(nat_lit 126,o0 P)::(nat_lit 128,o78 P)::(nat_lit 129,o0 P)::(nat_lit 131,o80 P)::(nat_lit 132,o81 P)::(nat_lit 133,o0 P)::(nat_lit 134,o82 P)::(nat_lit 135,o83 P)::(nat_lit 138,o65 P)::(nat_lit 145,o0 P)::(nat_lit 147,o90 P)::(nat_lit 148,o0 P)::(nat_lit 150,o92 P)::(nat_lit 151,o93 P)::(nat_lit 152,o0 P)::(nat_lit 154,o94 P)::(nat_lit 155,o0 P)::(nat_lit 157,o96 P)::(nat_lit 158,o97 P)::(nat_lit 159,o0 P)::(nat_lit 161,o98 P)::(nat_lit 162,o0 P)::(nat_lit 164,xM P)::(nat_lit 165,wc P)::(nat_lit 166,yZ P)::(nat_lit 167,wF P)::(nat_lit 168,zP P)::(nat_lit 171,o65 P)::(nat_lit 178,o0 P)::(nat_lit 180,xD P)::(nat_lit 181,o0 P)::(nat_lit 183,vG P)::(nat_lit 184,wZ P)::(nat_lit 185,o0 P)::(nat_lit 187,yu P)::(nat_lit 188,o0 P)::(nat_lit 190,zO P)::(nat_lit 191,zD P)::(nat_lit 192,o0 P)::(nat_lit 194,vA P)::(nat_lit 195,o0 P)::(nat_lit 197,xj P)::(nat_lit 198,zf P)::(nat_lit 199,wb P)::(nat_lit 200,ye P)::(nat_lit 201,wd P)::(nat_lit 204,o65 P)::(nat_lit 211,o0 P)::(nat_lit 213,zM P)::(nat_lit 214,o0 P)::(nat_lit 216,Ah P)::(nat_lit 217,yV P)::(nat_lit 218,o0 P)::(nat_lit 220,vz P)::(nat_lit 221,o0 P)::(nat_lit 223,xl P)::(nat_lit 224,wP P)::(nat_lit 225,o0 P)::(nat_lit 227,xq P)::(nat_lit 228,o0 P)::(nat_lit 230,zk P)::(nat_lit 231,wG P)::(nat_lit 232,zn P)::(nat_lit 233,zW P)::(nat_lit 234,Ai P)::(nat_lit 237,o0 P)::(nat_lit 240,xg P)::(nat_lit 241,xu P)::(nat_lit 242,o0 P)::(nat_lit 244,vp P)::(nat_lit 245,o0 P)::(nat_lit 247,xY P)::(nat_lit 248,Aa P)::(nat_lit 249,o0 P)::(nat_lit 251,yM P)::(nat_lit 252,o0 P)::(nat_lit 254,vJ P)::(nat_lit 255,yn P)::(nat_lit 256,o0 P)::(nat_lit 258,zN P)::(nat_lit 259,o0 P)::(nat_lit 261,wu P)::(nat_lit 262,zz P)::(nat_lit 263,o0 P)::(nat_lit 265,wt P)::(nat_lit 266,o0 P)::(nat_lit 268,zT P)::(nat_lit 269,xC P)::(nat_lit 270,o0 P)::(nat_lit 272,yQ P)::(nat_lit 273,o0 P)::(nat_lit 275,xR P)::(nat_lit 276,wp P)::(nat_lit 277,o0 P)::(nat_lit 279,xx P)::(nat_lit 280,o0 P)::(nat_lit 282,ze P)::(nat_lit 283,zd P)::(nat_lit 284,o0 P)::(nat_lit 286,yN P)::(nat_lit 287,o0 P)::(nat_lit 289,wL P)::(nat_lit 290,xV P)::(nat_lit 291,o0 P)::(nat_lit 293,yO P)::(nat_lit 294,o0 P)::(nat_lit 296,wT P)::(nat_lit 297,xh P)::(nat_lit 305,o0 P)::(nat_lit 307,wa P)::(nat_lit 308,o0 P)::(nat_lit 310,zi P)::(nat_lit 311,vV P)::(nat_lit 312,o0 P)::(nat_lit 314,zh P)::(nat_lit 315,o0 P)::(nat_lit 317,v5 P)::(nat_lit 318,yD P)::(nat_lit 319,o0 P)::(nat_lit 321,vh P)::(nat_lit 322,o0 P)::(nat_lit 324,wg P)::(nat_lit 325,wo P)::(nat_lit 326,o0 P)::(nat_lit 328,wC P)::(nat_lit 329,o0 P)::(nat_lit 331,xU P)::(nat_lit 332,yH P)::(nat_lit 333,o0 P)::(nat_lit 335,yx P)::(nat_lit 336,o0 P)::(nat_lit 338,Al P)::(nat_lit 339,vF P)::(nat_lit 340,o0 P)::(nat_lit 342,xZ P)::(nat_lit 343,o0 P)::(nat_lit 345,ww P)::(nat_lit 346,vB P)::(nat_lit 347,o0 P)::(nat_lit 349,vq P)::(nat_lit 350,o0 P)::(nat_lit 352,xw P)::(nat_lit 353,yC P)::(nat_lit 354,o0 P)::(nat_lit 356,zJ P)::(nat_lit 357,o0 P)::(nat_lit 359,xB P)::(nat_lit 360,Af P)::(nat_lit 361,o0 P)::(nat_lit 363,z8 P)::(nat_lit 364,o0 P)::(nat_lit 366,xW P)::(nat_lit 367,zU P)::(nat_lit 368,yA P)::(nat_lit 369,zZ P)::(nat_lit 370,zB P)::(nat_lit 371,xP P)::(nat_lit 372,vD P)::(nat_lit 375,o0 P)::(nat_lit 377,xt P)::(nat_lit 378,o0 P)::(nat_lit 380,yB P)::(nat_lit 381,Ae P)::(nat_lit 382,o0 P)::(nat_lit 384,v8 P)::(nat_lit 385,o0 P)::(nat_lit 387,vY P)::(nat_lit 388,wE P)::(nat_lit 389,o0 P)::(nat_lit 391,wJ P)::(nat_lit 392,o0 P)::(nat_lit 394,vg P)::(nat_lit 395,zK P)::(nat_lit 396,o0 P)::(nat_lit 398,Aj P)::(nat_lit 399,o0 P)::(nat_lit 401,Aq P)::(nat_lit 402,vK P)::(nat_lit 403,o0 P)::(nat_lit 406,Ar P)::(nat_lit 407,vm P)::(nat_lit 408,o0 P)::(nat_lit 410,yf P)::(nat_lit 411,o0 P)::(nat_lit 413,vn P)::(nat_lit 414,zS P)::(nat_lit 415,o0 P)::(nat_lit 418,yk P)::(nat_lit 419,vk P)::(nat_lit 420,o0 P)::(nat_lit 422,xG P)::(nat_lit 423,o0 P)::(nat_lit 425,yY P)::(nat_lit 426,xa P)::(nat_lit 427,o0 P)::(nat_lit 430,wB P)::(nat_lit 431,yP P)::(nat_lit 432,o0 P)::(nat_lit 434,vt P)::(nat_lit 435,o0 P)::(nat_lit 437,yd P)::(nat_lit 438,yb P)::(nat_lit 439,o0 P)::(nat_lit 441,xO P)::(nat_lit 442,o0 P)::(nat_lit 444,xy P)::(nat_lit 445,xc P)::(nat_lit 453,o0 P)::(nat_lit 455,xN P)::(nat_lit 456,o0 P)::(nat_lit 458,yK P)::(nat_lit 459,yl P)::(nat_lit 460,o0 P)::(nat_lit 462,wV P)::(nat_lit 463,o0 P)::(nat_lit 465,vZ P)::(nat_lit 466,xI P)::(nat_lit 467,o0 P)::(nat_lit 469,yc P)::(nat_lit 470,o0 P)::(nat_lit 472,zu P)::(nat_lit 473,vL P)::(nat_lit 474,o0 P)::(nat_lit 477,yg P)::(nat_lit 478,Aw P)::[]
noncomputable def as:List Addr:=[2,3,15,22,23,24,25,28,35,36,37,40,47,48,49,52,59,60,61,64,71,72,73,76,78,79,81,82,83,91,93,94,96,97,98,99,100,101,102,105,112,114,115,117,118,119,121,122,124,125,126,128,129,131,132,133,134,135,138,145,147,148,150,151,152,154,155,157,158,159,161,162,164,165,166,167,168,171,178,180,181,183,184,185,187,188,190,191,192,194,195,197,198,199,200,201,204,211,213,214,216,217,218,220,221,223,224,225,227,228,230,231,232,233,234,237,240,241,242,244,245,247,248,249,251,252,254,255,256,258,259,261,262,263,265,266,268,269,270,272,273,275,276,277,279,280,282,283,284,286,287,289,290,291,293,294,296,297,305,307,308,310,311,312,314,315,317,318,319,321,322,324,325,326,328,329,331,332,333,335,336,338,339,340,342,343,345,346,347,349,350,352,353,354,356,357,359,360,361,363,364,366,367,368,369,370,371,372,375,377,378,380,381,382,384,385,387,388,389,391,392,394,395,396,398,399,401,402,403,406,407,408,410,411,413,414,415,418,419,420,422,423,425,426,427,430,431,432,434,435,437,438,439,441,442,444,445,453,455,456,458,459,460,462,463,465,466,467,469,470,472,473,474,477,478]
theorem as_eq:∀P,as=(K P).map (·.1):=fun P=>by kernel_rfl
noncomputable def h1(P:Params):Heap:=absHeap (t2 P) 479 {}
noncomputable def f1(w:World)(os:OsState):Shared:=⟨h1 w.params,⟨[]⟩,{},839,os⟩
noncomputable def Xt(s:Shared):Bool:=xlAt view [] s&&recOk (RowW.records PySem.Challenge.rw_driftmeet_k31_bounds_told.row.toRowW) s
theorem lk1:∀w:World,(fun os=>(staticsOk (importedModules pw.main.body) (boot_heap w.params) (h1 w.params)&&namesBound pw (h1 w.params)&&gensDone (f1 w os)&&laidKept (boot_heap w.params) (h1 w.params)))=fun _=>true:=fun w=>by kernel_rfl
theorem lk2:∀w:World,(fun os=>openSeen view loose (importedModules pw.main.body) Xt true (f1 w os))=fun _=>openGood view loose:=fun w=>by kernel_rfl
theorem lk3:∀w:World,(fun os=>(Hook.obs (kHook K as as_eq)) (f1 w os))=fun _=>(Hook.val (kHook K as as_eq)) w:=fun w=>by kernel_rfl
theorem left:LeftO pw view loose Xt (Hook.obs (kHook K as as_eq)) (Hook.val (kHook K as as_eq)) 7904:=LeftO.of_pieces (boot_open (by kernel_rfl) (by decide) (fun s=>by kernel_rfl)) (H₀:=boot_heap) (H₁:=h1) (gs₀:=⟨[]⟩) (m₀:=11) (ann:=an) (M:=12+(1+(3890+(2)))) (fun w=>by kernel_rfl) (fun w os=>run w os) (by decide) fun w=>funext fun os=>looks_pair (congrFun (lk1 w) os) (looks_pair (congrFun (lk2 w) os) (congrFun (lk3 w) os))
end HD
namespace G
open PySem L2
noncomputable def top(i:Nat):Stmt:=PySem.Challenge.pw_driftmeet_k31_bounds_told.main.body.getD i (.Pass ⟨0,0,0,0⟩)
noncomputable def dC:ISs:=.cons (.ret (.and (.isB (.var 0) .int) (.not (.isB (.var 0) .bool)))) (.nil)
noncomputable def aw:ISs:=.cons (.fset (.var 0) 211529960 (.var 1)) (.cons (.fset (.var 0) 456806758904562 (.var 2)) (.nil))
noncomputable def bH:ISs:=.cons (.expr (.ini 0 (.cons (.var 0) (.cons (.var 1) (.cons (.var 2) (.nil)))))) (.nil)
noncomputable def ji:ISs:=.cons (.dead) (.nil)
noncomputable def aR:ISs:=.cons (.ret (.lst true (.nil))) (.nil)
noncomputable def bv:ISs:=.cons (.expr (.ini 0 (.cons (.var 0) (.cons (.var 1) (.cons (.var 2) (.nil)))))) (.cons (.fset (.var 0) 32709062885 (.var 3)) (.cons (.fset (.var 0) 213725420 (.var 4)) (.nil)))
noncomputable def gA:ISs:=.cons (.dead) (.nil)
noncomputable def aP:ISs:=.cons (.ret (.lst true (.cons (.tup (.cons (.glo 0) (.cons (.var 2) (.cons (.fld (.var 0) 213725420) (.nil))))) (.cons (.tup (.cons (.var 2) (.cons (.glo 0) (.cons (.neg (.fld (.var 0) 32709062885)) (.nil))))) (.nil))))) (.nil)
noncomputable def bJ:ISs:=.cons (.expr (.ini 0 (.cons (.var 0) (.cons (.var 1) (.cons (.var 2) (.nil)))))) (.cons (.fset (.var 0) 14324 (.var 3)) (.nil))
noncomputable def iE:ISs:=.cons (.dead) (.nil)
noncomputable def aS:ISs:=.cons (.ret (.lst true (.nil))) (.nil)
noncomputable def bI:ISs:=.cons (.expr (.ini 0 (.cons (.var 0) (.cons (.var 1) (.cons (.var 2) (.nil)))))) (.cons (.fset (.var 0) 3944367338220 (.var 3)) (.nil))
noncomputable def i9:ISs:=.cons (.dead) (.nil)
noncomputable def aH:ISs:=.cons (.set 3 (.meth (.var 1) 1994999 (.cons (.ix (.fld (.var 0) 3944367338220) (.con (.int 0))) (.cons (.fld (.var 0) 211529960) (.nil))))) (.cons (.set 4 (.lst false (.cons (.tup (.cons (.var 2) (.cons (.fld (.var 0) 3944367338220) (.cons (.neg (.ix (.var 3) (.con (.int 0)))) (.nil))))) (.nil)))) (.cons (.ifs (.cmp .IsNot (.ix (.var 3) (.con (.int 1))) (.con .non)) (.cons (.app (.var 4) (.tup (.cons (.fld (.var 0) 3944367338220) (.cons (.var 2) (.cons (.ix (.var 3) (.con (.int 1))) (.nil)))))) (.nil)) (.nil)) (.cons (.ret (.frz (.var 4))) (.nil))))
noncomputable def bX:ISs:=.cons (.ret (.and (.cmp .Eq (.bi .len (.cons (.var 0) (.nil))) (.var 1)) (.bi .all (.cons (.comp true ["thing"] [none] (.name 0) (.seq (.var 0)) (.no) (.call 0 (.cons (.var 0) (.nil)))) (.nil))))) (.nil)
noncomputable def cB:ISs:=.cons (.ret (.and (.isB (.var 0) .tuple) (.call 14 (.cons (.var 0) (.cons (.con (.int 2)) (.nil)))))) (.nil)
noncomputable def aU:ISs:=.cons (.ifs (.or (.not (.val (.isB (.var 0) .tuple))) (.cmp .Eq (.bi .len (.cons (.var 0) (.nil))) (.con (.int 0)))) (.cons (.dead) (.nil)) (.nil)) (.cons (.set 1 (.ix (.var 0) (.con (.int 0)))) (.cons (.ifs (.and (.cmp .Eq (.var 1) (.con (.str "look"))) (.val (.call 14 (.cons (.sl true (.var 0) (.yes (.con (.int 1))) (.no)) (.cons (.con (.int 2)) (.nil)))))) (.cons (.ret (.make true 1 (.cons (.ix (.var 0) (.con (.int 1))) (.cons (.ix (.var 0) (.con (.int 2))) (.nil))))) (.nil)) (.nil)) (.cons (.ifs (.and (.cmp .Eq (.var 1) (.con (.str "sight"))) (.val (.call 14 (.cons (.sl true (.var 0) (.yes (.con (.int 1))) (.no)) (.cons (.con (.int 4)) (.nil)))))) (.cons (.ret (.make true 2 (.cons (.ix (.var 0) (.con (.int 1))) (.cons (.ix (.var 0) (.con (.int 2))) (.cons (.ix (.var 0) (.con (.int 3))) (.cons (.ix (.var 0) (.con (.int 4))) (.nil))))))) (.nil)) (.nil)) (.cons (.ifs (.and (.cmp .Eq (.var 1) (.con (.str "send"))) (.val (.call 14 (.cons (.sl true (.var 0) (.yes (.con (.int 1))) (.no)) (.cons (.con (.int 3)) (.nil)))))) (.cons (.ret (.make true 3 (.cons (.ix (.var 0) (.con (.int 1))) (.cons (.ix (.var 0) (.con (.int 2))) (.cons (.ix (.var 0) (.con (.int 3))) (.nil)))))) (.nil)) (.nil)) (.cons (.ifs (.and (.cmp .Eq (.var 1) (.con (.str "take"))) (.and (.val (.call 14 (.cons (.sl true (.var 0) (.yes (.con (.int 1))) (.yes (.con (.int 3)))) (.cons (.con (.int 2)) (.nil))))) (.and (.cmp .Eq (.bi .len (.cons (.var 0) (.nil))) (.con (.int 4))) (.val (.call 15 (.cons (.ix (.var 0) (.con (.int 3))) (.nil))))))) (.cons (.ret (.make true 4 (.cons (.ix (.var 0) (.con (.int 1))) (.cons (.ix (.var 0) (.con (.int 2))) (.cons (.ix (.var 0) (.con (.int 3))) (.nil)))))) (.nil)) (.nil)) (.cons (.dead) (.nil)))))))
noncomputable def dh:ISs:=.cons (.set 2 (.bm .get (.var 0) (.cons (.var 1) (.cons (.con (.int 0)) (.nil))))) (.cons (.ixset (.var 0) (.var 1) (.bin .Add (.var 2) (.con (.int 1)))) (.cons (.ret (.tup (.cons (.var 1) (.cons (.var 2) (.nil))))) (.nil)))
noncomputable def dF:ISs:=.cons (.app (.var 2) (.call 17 (.cons (.var 1) (.cons (.ix (.var 3) (.con (.int 1))) (.nil))))) (.nil)
noncomputable def gV:ISs:=.cons (.set 1 (.dnew false)) (.cons (.set 2 (.lst false (.nil))) (.cons (.for_ (.name 3) (.seq (.var 0)) dF) (.cons (.ret (.frz (.var 2))) (.nil))))
noncomputable def bh:ISs:=.cons (.ret (.lst true (.cons (.tup (.cons (.var 1) (.cons (.var 2) (.cons (.bin .Mult (.ix (.var 0) (.con (.int 1))) (.var 3)) (.nil))))) (.cons (.tup (.cons (.var 2) (.cons (.var 1) (.cons (.bin .Mult (.neg (.ix (.var 0) (.con (.int 0)))) (.var 3)) (.nil))))) (.nil))))) (.nil)
noncomputable def cG:ISs:=.cons (.set 6 (.call 16 (.cons (.var 5) (.nil)))) (.cons (.expr (.bm .extend (.var 2) (.cons (.meth (.var 6) 1067955986548848835567 (.cons (.var 0) (.cons (.var 4) (.nil)))) (.nil)))) (.cons (.set 7 (.tup (.cons (.ix (.var 4) (.con (.int 0))) (.cons (.bin .Sub (.ix (.var 4) (.con (.int 1))) (.con (.int 1))) (.nil))))) (.cons (.ifs (.cmp .In (.var 7) (.var 3)) (.cons (.expr (.bm .extend (.var 2) (.cons (.call 19 (.cons (.meth (.var 0) 28932044387 (.cons (.fld (.var 6) 211529960) (.nil))) (.cons (.var 7) (.cons (.var 4) (.cons (.bin .Sub (.fld (.var 6) 456806758904562) (.ix (.var 3) (.var 7))) (.nil)))))) (.nil)))) (.nil)) (.nil)) (.cons (.ixset (.var 3) (.var 4) (.fld (.var 6) 456806758904562)) (.nil)))))
noncomputable def fD:ISs:=.cons (.set 2 (.lst false (.nil))) (.cons (.set 3 (.dnew true)) (.cons (.for_ (.tup [4,5]) (.zip (.call 18 (.cons (.var 1) (.nil))) (.var 1)) cG) (.cons (.ret (.var 2)) (.nil))))
noncomputable def bo:ISs:=.cons (.ifs (.cmp .Lt (.var 0) (.con (.int 1))) (.cons (.dead) (.nil)) (.nil)) (.cons (.ifs (.cmp .Lt (.var 1) (.var 0)) (.cons (.dead) (.nil)) (.nil)) (.nil))
noncomputable def aW:ISs:=.cons (.ifs (.cmp .Lt (.var 0) (.con (.int 0))) (.cons (.dead) (.nil)) (.nil)) (.cons (.ifs (.and (.cmp .IsNot (.var 1) (.con .non)) (.cmp .Lt (.var 1) (.var 0))) (.cons (.dead) (.nil)) (.nil)) (.nil))
noncomputable def bw:ISs:=.cons (.expr (.call 21 (.cons (.var 3) (.cons (.var 4) (.nil))))) (.nil)
noncomputable def bn:ISs:=.cons (.expr (.meth (.var 0) 8774101686596482917 (.cons (.var 5) (.cons (.var 6) (.cons (.var 7) (.cons (.var 8) (.nil))))))) (.nil)
noncomputable def bA:ISs:=.cons (.ifs (.or (.cmp .Lt (.bi .len (.cons (.var 1) (.nil))) (.con (.int 1))) (.cmp .Gt (.bi .len (.cons (.var 1) (.nil))) (.glo 1))) (.cons (.dead) (.nil)) (.nil)) (.cons (.for_ (.tup [3,4]) (.seq (.var 1)) bw) (.cons (.fset (.var 0) 136762133858116729320171 (.bi (.list false) (.cons (.var 1) (.nil)))) (.cons (.fset (.var 0) 8355170983792620267 (.dnew true)) (.cons (.for_ (.tup [5,6,7,8]) (.seq (.var 2)) bn) (.nil)))))
noncomputable def aT:ISs:=.cons (.expr (.meth (.var 0) 135562951883986971505394 (.cons (.var 1) (.cons (.var 2) (.nil))))) (.cons (.ifs (.cmp .In (.tup (.cons (.var 1) (.cons (.var 2) (.nil)))) (.fld (.var 0) 8355170983792620267)) (.cons (.dead) (.nil)) (.nil)) (.cons (.expr (.call 22 (.cons (.var 3) (.cons (.var 4) (.nil))))) (.cons (.ixset (.fld (.var 0) 8355170983792620267) (.tup (.cons (.var 1) (.cons (.var 2) (.nil)))) (.tup (.cons (.var 3) (.cons (.var 4) (.nil))))) (.nil))))
noncomputable def az:ISs:=.cons (.ifs (.not (.val (.meth (.var 0) 56782141471387880 (.cons (.var 1) (.nil))))) (.cons (.dead) (.nil)) (.nil)) (.nil)
noncomputable def aA:ISs:=.cons (.expr (.meth (.var 0) 119080781550527859766002 (.cons (.var 1) (.nil)))) (.cons (.expr (.meth (.var 0) 119080781550527859766002 (.cons (.var 2) (.nil)))) (.cons (.ifs (.cmp .Eq (.var 1) (.var 2)) (.cons (.dead) (.nil)) (.nil)) (.nil)))
noncomputable def aY:ISs:=.cons (.ret (.bi .len (.cons (.fld (.var 0) 136762133858116729320171) (.nil)))) (.nil)
noncomputable def aK:ISs:=.cons (.ret (.chain .LtE .Lt (.con (.int 0)) (.var 1) (.meth (.var 0) 31081607400 (.nil)))) (.nil)
noncomputable def bb:ISs:=.cons (.ret (.cmp .In (.tup (.cons (.var 1) (.cons (.var 2) (.nil)))) (.fld (.var 0) 8355170983792620267))) (.nil)
noncomputable def bF:ISs:=.cons (.expr (.meth (.var 0) 119080781550527859766002 (.cons (.var 1) (.nil)))) (.cons (.ret (.ix (.fld (.var 0) 136762133858116729320171) (.var 1))) (.nil))
noncomputable def cF:ISs:=.cons (.expr (.meth (.var 0) 135562951883986971505394 (.cons (.var 1) (.cons (.var 2) (.nil))))) (.cons (.ifs (.not (.val (.meth (.var 0) 535528667410664 (.cons (.var 1) (.cons (.var 2) (.nil)))))) (.cons (.dead) (.nil)) (.nil)) (.cons (.ret (.ix (.fld (.var 0) 8355170983792620267) (.tup (.cons (.var 1) (.cons (.var 2) (.nil)))))) (.nil)))
noncomputable def ba:ISs:=.cons (.ifs (.cmp .Lt (.var 1) (.bi .len (.cons (.var 0) (.nil)))) (.cons (.ret (.ix (.var 0) (.var 1))) (.nil)) (.nil)) (.cons (.ret (.con (.int 0))) (.nil))
noncomputable def bP:ISs:=.cons (.set 3 (.bin .Mod (.bin .Add (.bin .Add (.bin .Mult (.var 3) (.var 3)) (.bin .Mult (.con (.int 48271)) (.var 3))) (.var 4)) (.bin .Add (.bin .Pow (.con (.int 10)) (.con (.int 40))) (.con (.int 121))))) (.cons (.app (.var 2) (.var 3)) (.nil))
noncomputable def b8:ISs:=.cons (.set 2 (.lst false (.nil))) (.cons (.set 3 (.bin .Add (.bin .Mod (.var 0) (.bin .Add (.bin .Pow (.con (.int 10)) (.con (.int 40))) (.con (.int 121)))) (.con (.int 48271)))) (.cons (.for_ (.name 4) (.rng1 (.bin .Add (.var 1) (.con (.int 4)))) bP) (.cons (.ret (.sl true (.var 2) (.yes (.con (.int 4))) (.no))) (.nil))))
noncomputable def cX:ISs:=.cons (.set 2 (.ix (.lst true (.cons (.con (.int 0)) (.cons (.con (.int 1)) (.cons (.bin .Mod (.ix (.var 0) (.con (.int 0))) (.var 1)) (.nil))))) (.bin .Mod (.ix (.var 0) (.con (.int 1))) (.con (.int 3))))) (.cons (.ifs (.cmp .Eq (.bin .Mod (.bin .FloorDiv (.ix (.var 0) (.con (.int 1))) (.con (.int 3))) (.con (.int 4))) (.con (.int 0))) (.cons (.ret (.tup (.cons (.var 2) (.cons (.con .non) (.nil))))) (.nil)) (.nil)) (.cons (.ret (.tup (.cons (.var 2) (.cons (.bin .Add (.var 2) (.ix (.lst true (.cons (.con (.int 0)) (.cons (.con (.int 1)) (.cons (.bin .Mod (.ix (.var 0) (.con (.int 2))) (.var 1)) (.nil))))) (.bin .Mod (.bin .FloorDiv (.ix (.var 0) (.con (.int 1))) (.con (.int 12))) (.con (.int 3))))) (.nil))))) (.nil)))
noncomputable def bu:ISs:=.cons (.set 9 (.call 33 (.cons (.bin .Add (.bin .Add (.bin .Add (.var 0) (.bin .Mult (.con (.int 7)) (.var 6))) (.bin .Mult (.con (.int 43)) (.var 8))) (.con (.int 1))) (.cons (.con (.int 4)) (.nil))))) (.cons (.ifs (.and (.cmp .NotEq (.var 6) (.var 8)) (.cmp .Gt (.bin .Mod (.ix (.var 9) (.con (.int 3))) (.con (.int 6))) (.con (.int 0)))) (.cons (.ixset (.var 5) (.tup (.cons (.var 6) (.cons (.var 8) (.nil)))) (.call 34 (.cons (.var 9) (.cons (.var 3) (.nil))))) (.nil)) (.nil)) (.nil))
noncomputable def bz:ISs:=.cons (.set 7 (.bin .Add (.con (.int 1)) (.bin .Mod (.bin .FloorDiv (.ix (.var 1) (.bin .Add (.con (.int 2)) (.var 6))) (.con (.int 3))) (.var 3)))) (.cons (.app (.var 4) (.tup (.cons (.var 7) (.cons (.bin .Add (.var 7) (.ix (.lst true (.cons (.con (.int 0)) (.cons (.con (.int 1)) (.cons (.bin .Mod (.ix (.var 1) (.bin .Sub (.con (.int 7)) (.var 6))) (.var 3)) (.nil))))) (.bin .Mod (.ix (.var 1) (.bin .Add (.con (.int 2)) (.var 6))) (.con (.int 3))))) (.nil))))) (.cons (.for_ (.name 8) (.rng1 (.var 2)) bu) (.nil)))
noncomputable def cM:ISs:=.cons (.set 1 (.call 33 (.cons (.var 0) (.cons (.con (.int 8)) (.nil))))) (.cons (.set 2 (.ix (.lst true (.cons (.con (.int 1)) (.cons (.con (.int 2)) (.cons (.con (.int 2)) (.cons (.con (.int 3)) (.cons (.con (.int 3)) (.cons (.con (.int 4)) (.cons (.con (.int 5)) (.cons (.con (.int 6)) (.nil)))))))))) (.bin .Mod (.ix (.var 1) (.con (.int 0))) (.con (.int 8))))) (.cons (.set 3 (.ix (.lst true (.cons (.con (.int 3)) (.cons (.con (.int 100)) (.cons (.bin .Pow (.con (.int 10)) (.con (.int 9))) (.cons (.bin .Pow (.con (.int 10)) (.con (.int 30))) (.nil)))))) (.bin .Mod (.ix (.var 1) (.con (.int 1))) (.con (.int 4))))) (.cons (.set 4 (.lst false (.nil))) (.cons (.set 5 (.dnew true)) (.cons (.for_ (.name 6) (.rng1 (.var 2)) bz) (.cons (.ret (.tup (.cons (.frz (.var 4)) (.cons (.frz (.var 5)) (.nil))))) (.nil)))))))
noncomputable def dm:ISs:=.cons (.ret (.make true 5 (.cons (.bi (.list true) (.cons (.ix (.var 0) (.con (.int 0))) (.nil))) (.cons (.comp true ["_law_pair","_law_way_here"] [none,none] (.tup [0,1]) (.items (.ix (.var 0) (.con (.int 1)))) (.no) (.bin .Add (.var 0) (.var 1))) (.nil))))) (.nil)
noncomputable def ei:ISs:=.cons (.set 5 (.ix (.lst true (.cons (.con (.int 0)) (.cons (.con (.int 1)) (.cons (.bin .Mod (.ix (.var 2) (.con (.int 1))) (.con (.int 5))) (.cons (.bin .Mod (.ix (.var 2) (.con (.int 1))) (.bin .Pow (.con (.int 10)) (.con (.int 12)))) (.nil)))))) (.bin .Mod (.ix (.var 2) (.con (.int 2))) (.con (.int 4))))) (.cons (.ifs (.and (.cmp .IsNot (.var 3) (.con .non)) (.cmp .Lt (.bin .Add (.ix (.var 1) (.con (.int 2))) (.bin .Mult (.ix (.var 0) (.con (.int 1))) (.var 5))) (.var 3))) (.cons (.set 5 (.bin .FloorDiv (.bin .Sub (.bin .Add (.bin .Sub (.var 3) (.ix (.var 1) (.con (.int 2)))) (.ix (.var 0) (.con (.int 1)))) (.con (.int 1))) (.ix (.var 0) (.con (.int 1))))) (.nil)) (.nil)) (.cons (.set 6 (.bin .Add (.ix (.var 1) (.con (.int 2))) (.bin .Mult (.ix (.var 0) (.con (.int 0))) (.var 5)))) (.cons (.set 7 (.bin .Add (.ix (.var 1) (.con (.int 2))) (.bin .Mult (.ix (.var 0) (.con (.int 1))) (.var 5)))) (.cons (.ifs (.cmp .IsNot (.var 3) (.con .non)) (.cons (.set 6 (.bi .max (.cons (.var 6) (.cons (.var 3) (.nil))))) (.nil)) (.nil)) (.cons (.ifs (.cmp .IsNot (.var 4) (.con .non)) (.cons (.set 7 (.bi .min (.cons (.var 7) (.cons (.var 4) (.nil))))) (.nil)) (.nil)) (.cons (.ret (.tup (.cons (.var 5) (.cons (.var 6) (.cons (.var 7) (.nil)))))) (.nil)))))))
noncomputable def cg:ISs:=.cons (.set 5 (.comp true ["_law_pair","_law_hand"] [none,some 0] (.name 0) (.dk (.var 3)) (.yes (.cmp .Eq (.ix (.var 0) (.con (.int 0))) (.var 1))) (.ix (.var 0) (.con (.int 1))))) (.cons (.set 6 (.bin .Mod (.bin .FloorDiv (.ix (.var 4) (.con (.int 3))) (.con (.int 2))) (.con (.int 8)))) (.cons (.ifs (.or (.cmp .Eq (.var 6) (.con (.int 1))) (.cmp .Eq (.var 6) (.con (.int 2)))) (.cons (.set 7 (.lst true (.cons (.con (.int 0)) (.cons (.con (.int 1)) (.cons (.bin .Mod (.ix (.var 4) (.con (.int 0))) (.con (.int 100))) (.cons (.bin .Mod (.ix (.var 4) (.con (.int 0))) (.bin .Pow (.con (.int 10)) (.con (.int 12)))) (.nil))))))) (.cons (.ret (.tup (.cons (.con (.str "sight")) (.cons (.var 0) (.cons (.var 1) (.cons (.bin .Sub (.var 2) (.ix (.var 7) (.bin .Mod (.ix (.var 4) (.con (.int 1))) (.con (.int 4))))) (.cons (.bin .Add (.var 2) (.ix (.var 7) (.bin .Mod (.bin .FloorDiv (.ix (.var 4) (.con (.int 1))) (.con (.int 4))) (.con (.int 4))))) (.nil)))))))) (.nil))) (.nil)) (.cons (.ifs (.and (.cmp .Gt (.var 6) (.con (.int 2))) (.cmp .NotEq (.var 5) (.lst true (.nil)))) (.cons (.ret (.tup (.cons (.con (.str "send")) (.cons (.var 0) (.cons (.var 1) (.cons (.ix (.var 5) (.bin .Mod (.bin .FloorDiv (.ix (.var 4) (.con (.int 2))) (.con (.int 5))) (.bi .len (.cons (.var 5) (.nil))))) (.nil))))))) (.nil)) (.nil)) (.cons (.ret (.tup (.cons (.con (.str "look")) (.cons (.var 0) (.cons (.var 1) (.nil)))))) (.nil)))))
noncomputable def dn:ISs:=.cons (.ifs (.cmp .Is (.ix (.var 3) (.con (.int 1))) (.con .non)) (.cons (.ret (.tup (.cons (.var 0) (.cons (.ix (.var 1) (.con (.int 3))) (.cons (.bin .Add (.var 2) (.ix (.var 3) (.con (.int 0)))) (.cons (.con .non) (.nil))))))) (.nil)) (.nil)) (.cons (.ret (.tup (.cons (.var 0) (.cons (.ix (.var 1) (.con (.int 3))) (.cons (.bin .Add (.var 2) (.ix (.var 3) (.con (.int 0)))) (.cons (.bin .Add (.var 2) (.ix (.var 3) (.con (.int 1)))) (.nil))))))) (.nil))
noncomputable def cP:ISs:=.cons (.app (.var 5) (.tup (.cons (.con (.int 0)) (.cons (.bin .Sub (.bin .Mod (.var 6) (.bin .Pow (.con (.int 10)) (.con (.int 12)))) (.bin .Pow (.con (.int 10)) (.con (.int 11)))) (.cons (.bin .Sub (.bin .Mod (.var 1) (.bin .Pow (.con (.int 10)) (.con (.int 12)))) (.bin .Pow (.con (.int 10)) (.con (.int 11)))) (.nil)))))) (.nil)
noncomputable def aC:ISs:=.cons (.set 10 (.call 33 (.cons (.var 9) (.cons (.con (.int 4)) (.nil))))) (.cons (.set 11 (.bin .Mod (.ix (.var 10) (.con (.int 0))) (.bi .len (.cons (.var 3) (.nil))))) (.cons (.ifs (.cmp .Eq (.bin .Mod (.ix (.var 10) (.con (.int 3))) (.con (.int 2))) (.con (.int 0))) (.cons (.set 11 (.ix (.mmp (.comp true ["_law_k","_law_one"] [none,none] (.tup [0,1]) (.enum (.var 5)) (.no) (.tup (.cons (.ix (.var 1) (.con (.int 2))) (.cons (.var 0) (.nil)))))) (.con (.int 1)))) (.nil)) (.nil)) (.cons (.set 12 (.con .non)) (.cons (.set 13 (.call 37 (.cons (.ix (.var 3) (.var 11)) (.cons (.ix (.var 5) (.var 11)) (.cons (.var 10) (.cons (.con .non) (.cons (.con .non) (.nil)))))))) (.cons (.ifs (.and (.cmp .Gt (.bin .Mod (.bin .FloorDiv (.ix (.var 10) (.con (.int 3))) (.con (.int 2))) (.con (.int 8))) (.con (.int 4))) (.cmp .NotEq (.var 7) (.lst true (.nil)))) (.cons (.set 12 (.ix (.var 7) (.bin .Mod (.bin .FloorDiv (.ix (.var 10) (.con (.int 0))) (.con (.int 7))) (.bi .len (.cons (.var 7) (.nil)))))) (.cons (.set 14 (.call 37 (.cons (.ix (.var 3) (.ix (.var 12) (.con (.int 1)))) (.cons (.ix (.var 5) (.ix (.var 12) (.con (.int 1)))) (.cons (.var 10) (.cons (.ix (.var 12) (.con (.int 2))) (.cons (.ix (.var 12) (.con (.int 3))) (.nil)))))))) (.cons (.ifs (.cmp .Gt (.ix (.var 14) (.con (.int 1))) (.ix (.var 14) (.con (.int 2)))) (.cons (.set 12 (.con .non)) (.nil)) (.cons (.set 11 (.ix (.var 12) (.con (.int 1)))) (.cons (.set 13 (.var 14)) (.nil)))) (.nil)))) (.nil)) (.cons (.set 15 (.ix (.lst true (.cons (.ix (.var 13) (.con (.int 1))) (.cons (.ix (.var 13) (.con (.int 2))) (.cons (.bin .Add (.ix (.var 13) (.con (.int 1))) (.bin .Mod (.bin .FloorDiv (.ix (.var 10) (.con (.int 2))) (.con (.int 4))) (.bin .Add (.bin .Sub (.ix (.var 13) (.con (.int 2))) (.ix (.var 13) (.con (.int 1)))) (.con (.int 1))))) (.nil))))) (.bin .Mod (.bin .FloorDiv (.ix (.var 10) (.con (.int 3))) (.con (.int 16))) (.con (.int 3))))) (.cons (.set 16 (.tup (.cons (.var 11) (.cons (.ix (.ix (.var 5) (.var 11)) (.con (.int 0))) (.nil))))) (.cons (.ixset (.var 5) (.var 11) (.tup (.cons (.bin .Add (.ix (.var 16) (.con (.int 1))) (.con (.int 1))) (.cons (.bin .Add (.ix (.ix (.var 5) (.var 11)) (.con (.int 1))) (.ix (.var 13) (.con (.int 0)))) (.cons (.var 15) (.nil)))))) (.cons (.set 17 (.call 38 (.cons (.var 11) (.cons (.ix (.ix (.var 5) (.var 11)) (.con (.int 1))) (.cons (.var 15) (.cons (.var 4) (.cons (.var 10) (.nil)))))))) (.cons (.ifs (.cmp .IsNot (.var 12) (.con .non)) (.cons (.expr (.bm .remove (.var 7) (.cons (.var 12) (.nil)))) (.cons (.set 17 (.tup (.cons (.con (.str "take")) (.cons (.var 11) (.cons (.ix (.ix (.var 5) (.var 11)) (.con (.int 1))) (.cons (.ix (.var 12) (.con (.int 0))) (.nil))))))) (.nil))) (.cons (.ifs (.cmp .Eq (.ix (.var 17) (.con (.int 0))) (.con (.str "send"))) (.cons (.app (.var 7) (.call 39 (.cons (.var 16) (.cons (.var 17) (.cons (.var 15) (.cons (.ix (.var 4) (.tup (.cons (.var 11) (.cons (.ix (.var 17) (.con (.int 3))) (.nil))))) (.nil))))))) (.nil)) (.nil)) (.nil))) (.cons (.app (.var 8) (.tup (.cons (.var 17) (.cons (.var 15) (.nil))))) (.nil))))))))))))
noncomputable def dg:ISs:=.cons (.unp [3,4] (.var 0)) (.cons (.set 5 (.lst false (.nil))) (.cons (.for_ (.name 6) (.seq (.call 33 (.cons (.var 1) (.cons (.bi .len (.cons (.var 3) (.nil))) (.nil))))) cP) (.cons (.set 7 (.lst false (.nil))) (.cons (.set 8 (.lst false (.nil))) (.cons (.for_ (.name 9) (.seq (.var 2)) aC) (.cons (.ret (.frz (.var 8))) (.nil)))))))
noncomputable def eu:ISs:=.cons (.ifs (.cmp .Eq (.ix (.var 1) (.con (.int 0))) (.con (.str "sight"))) (.cons (.ret (.lst true (.cons (.tup (.cons (.tup (.cons (.neg (.con (.int 1))) (.cons (.con (.int 0)) (.nil)))) (.cons (.var 2) (.cons (.ix (.var 1) (.con (.int 4))) (.nil))))) (.cons (.tup (.cons (.var 2) (.cons (.tup (.cons (.neg (.con (.int 1))) (.cons (.con (.int 0)) (.nil)))) (.cons (.bin .Sub (.con (.int 0)) (.ix (.var 1) (.con (.int 3)))) (.nil))))) (.nil))))) (.nil)) (.nil)) (.cons (.ifs (.cmp .Eq (.ix (.var 1) (.con (.int 0))) (.con (.str "take"))) (.cons (.unp [3,4] (.ix (.ix (.var 0) (.con (.int 1))) (.tup (.cons (.ix (.ix (.var 1) (.con (.int 3))) (.con (.int 0))) (.cons (.ix (.var 1) (.con (.int 1))) (.nil)))))) (.cons (.ifs (.cmp .Is (.var 4) (.con .non)) (.cons (.ret (.lst true (.cons (.tup (.cons (.var 2) (.cons (.ix (.var 1) (.con (.int 3))) (.cons (.bin .Sub (.con (.int 0)) (.var 3)) (.nil))))) (.nil)))) (.nil)) (.nil)) (.cons (.ret (.lst true (.cons (.tup (.cons (.var 2) (.cons (.ix (.var 1) (.con (.int 3))) (.cons (.bin .Sub (.con (.int 0)) (.var 3)) (.nil))))) (.cons (.tup (.cons (.ix (.var 1) (.con (.int 3))) (.cons (.var 2) (.cons (.var 4) (.nil))))) (.nil))))) (.nil)))) (.nil)) (.cons (.ret (.lst true (.nil))) (.nil)))
noncomputable def bY:ISs:=.cons (.set 5 (.bm .setdef (.var 3) (.cons (.ix (.var 4) (.con (.int 1))) (.cons (.lst false (.nil)) (.nil))))) (.cons (.set 6 (.tup (.cons (.ix (.var 4) (.con (.int 1))) (.cons (.bi .len (.cons (.var 5) (.nil))) (.nil))))) (.cons (.expr (.bm .extend (.var 2) (.cons (.call 41 (.cons (.var 0) (.cons (.var 4) (.cons (.var 6) (.nil))))) (.nil)))) (.cons (.ifs (.cmp .NotEq (.var 5) (.lst true (.nil))) (.cons (.set 7 (.tup (.cons (.ix (.var 4) (.con (.int 1))) (.cons (.bin .Sub (.bi .len (.cons (.var 5) (.nil))) (.con (.int 1))) (.nil))))) (.cons (.unp [8,9] (.ix (.ix (.var 0) (.con (.int 0))) (.ix (.var 4) (.con (.int 1))))) (.cons (.app (.var 2) (.tup (.cons (.var 7) (.cons (.var 6) (.cons (.bin .Mult (.var 9) (.bin .Sub (.ix (.var 4) (.con (.int 2))) (.ix (.var 5) (.neg (.con (.int 1)))))) (.nil)))))) (.cons (.app (.var 2) (.tup (.cons (.var 6) (.cons (.var 7) (.cons (.bin .Mult (.var 8) (.bin .Sub (.ix (.var 5) (.neg (.con (.int 1)))) (.ix (.var 4) (.con (.int 2))))) (.nil)))))) (.nil))))) (.nil)) (.cons (.app (.var 5) (.ix (.var 4) (.con (.int 2)))) (.nil)))))
noncomputable def d5:ISs:=.cons (.set 2 (.lst false (.nil))) (.cons (.set 3 (.dnew false)) (.cons (.for_ (.name 4) (.seq (.var 1)) bY) (.cons (.ret (.frz (.var 2))) (.nil))))
noncomputable def cH:ISs:=.cons (.ret (.and (.isB (.var 0) .int) (.not (.isB (.var 0) .bool)))) (.nil)
noncomputable def dA:ISs:=.cons (.ifs (.or (.not (.val (.isB (.var 0) .tuple))) (.cmp .NotEq (.bi .len (.cons (.var 0) (.nil))) (.con (.int 2)))) (.cons (.ret (.con (.bl false))) (.nil)) (.nil)) (.cons (.ret (.and (.call 43 (.cons (.ix (.var 0) (.con (.int 0))) (.nil))) (.call 43 (.cons (.ix (.var 0) (.con (.int 1))) (.nil))))) (.nil))
noncomputable def br:ISs:=.cons (.ifs (.or (.not (.val (.isB (.var 2) .tuple))) (.cmp .NotEq (.bi .len (.cons (.var 2) (.nil))) (.con (.int 3)))) (.cons (.ret (.con (.bl false))) (.nil)) (.nil)) (.cons (.ifs (.or (.not (.val (.call 44 (.cons (.ix (.var 2) (.con (.int 0))) (.nil))))) (.or (.not (.val (.call 44 (.cons (.ix (.var 2) (.con (.int 1))) (.nil))))) (.not (.val (.call 43 (.cons (.ix (.var 2) (.con (.int 2))) (.nil))))))) (.cons (.ret (.con (.bl false))) (.nil)) (.nil)) (.nil))
noncomputable def cI:ISs:=.cons (.ifs (.or (.not (.val (.isB (.var 0) .list))) (.cmp .NotEq (.bi .len (.cons (.var 0) (.nil))) (.bi .len (.cons (.var 1) (.nil))))) (.cons (.ret (.con (.bl false))) (.nil)) (.nil)) (.cons (.for_ (.name 2) (.seq (.var 0)) br) (.cons (.ret (.cmp .Eq (.var 0) (.var 1))) (.nil)))
noncomputable def jW:ISs:=.cons (.set 1 (.call 35 (.cons (.call 32 (.cons (.var 0) (.cons (.con (.int 0)) (.nil)))) (.nil)))) (.cons (.set 2 (.comp true ["_law_row_here","_law_moment"] [none,none] (.tup [0,1]) (.seq (.call 40 (.cons (.var 1) (.cons (.call 32 (.cons (.var 0) (.cons (.con (.int 1)) (.nil)))) (.cons (.sl true (.var 0) (.yes (.con (.int 2))) (.yes (.con (.int 16)))) (.nil)))))) (.no) (.var 0))) (.cons (.set 3 (.call 36 (.cons (.var 1) (.nil)))) (.cons (.set 4 (.sl true (.var 2) (.no) (.yes (.bin .Mod (.bin .FloorDiv (.call 32 (.cons (.var 0) (.cons (.con (.int 0)) (.nil)))) (.con (.int 5))) (.bin .Add (.bi .len (.cons (.var 2) (.nil))) (.con (.int 1))))))) (.cons (.set 5 (.bi (.list false) (.cons (.var 2) (.nil)))) (.cons (.ifs (.not (.val (.call 45 (.cons (.call 20 (.cons (.var 3) (.cons (.var 4) (.nil)))) (.cons (.call 42 (.cons (.var 1) (.cons (.var 4) (.nil)))) (.nil)))))) (.cons (.ret (.con (.bl false))) (.nil)) (.nil)) (.cons (.set 6 (.call 20 (.cons (.var 3) (.cons (.var 5) (.nil))))) (.cons (.ifs (.or (.not (.val (.call 45 (.cons (.var 6) (.cons (.call 42 (.cons (.var 1) (.cons (.var 2) (.nil)))) (.nil)))))) (.cmp .NotEq (.var 5) (.var 2))) (.cons (.ret (.con (.bl false))) (.nil)) (.nil)) (.cons (.expr (.bm .clear (.var 6) (.nil))) (.cons (.app (.var 5) (.tup (.cons (.con (.str "look")) (.cons (.con (.int 0)) (.cons (.bin .Pow (.con (.int 10)) (.con (.int 60))) (.nil)))))) (.cons (.ret (.call 45 (.cons (.call 20 (.cons (.var 3) (.cons (.var 2) (.nil)))) (.cons (.call 42 (.cons (.var 1) (.cons (.var 2) (.nil)))) (.nil))))) (.nil)))))))))))
noncomputable def ny:FL:={name:="is_whole",qual:="is_whole",glob:=true,cl:=true,st:=top 7,N:=["thing"],ps:=["thing"],body:=dC}
noncomputable def eP:FL:={name:="__init__",qual:="Happening.__init__",glob:=false,cl:=true,st:=ae (top 10) 0,N:=["self","hand","reading"],ps:=["self","hand","reading"],body:=aw}
noncomputable def jx:FL:={name:="__init__",qual:="Look.__init__",glob:=false,cl:=true,st:=ae (top 11) 0,N:=["self","hand","reading"],ps:=["self","hand","reading"],body:=bH}
noncomputable def m9:FL:={name:="row",qual:="Look.row",glob:=false,cl:=true,st:=ae (top 11) 1,N:=["self"],ps:=["self"],body:=ji}
noncomputable def fv:FL:={name:="own_bounds",qual:="Look.own_bounds",glob:=false,cl:=true,st:=ae (top 11) 2,N:=["self","world","name"],ps:=["self","world","name"],body:=aR}
noncomputable def i5:FL:={name:="__init__",qual:="Sight.__init__",glob:=false,cl:=true,st:=ae (top 12) 0,N:=["self","hand","reading","early","late"],ps:=["self","hand","reading","early","late"],body:=bv}
noncomputable def lS:FL:={name:="row",qual:="Sight.row",glob:=false,cl:=true,st:=ae (top 12) 1,N:=["self"],ps:=["self"],body:=gA}
noncomputable def eW:FL:={name:="own_bounds",qual:="Sight.own_bounds",glob:=false,cl:=true,st:=ae (top 12) 2,N:=["self","world","name"],ps:=["self","world","name"],body:=aP}
noncomputable def jw:FL:={name:="__init__",qual:="Send.__init__",glob:=false,cl:=true,st:=ae (top 13) 0,N:=["self","hand","reading","to"],ps:=["self","hand","reading","to"],body:=bJ}
noncomputable def nM:FL:={name:="row",qual:="Send.row",glob:=false,cl:=true,st:=ae (top 13) 1,N:=["self"],ps:=["self"],body:=iE}
noncomputable def fG:FL:={name:="own_bounds",qual:="Send.own_bounds",glob:=false,cl:=true,st:=ae (top 13) 2,N:=["self","world","name"],ps:=["self","world","name"],body:=aS}
noncomputable def jq:FL:={name:="__init__",qual:="Take.__init__",glob:=false,cl:=true,st:=ae (top 14) 0,N:=["self","hand","reading","letter"],ps:=["self","hand","reading","letter"],body:=bI}
noncomputable def nQ:FL:={name:="row",qual:="Take.row",glob:=false,cl:=true,st:=ae (top 14) 1,N:=["self"],ps:=["self"],body:=i9}
noncomputable def fu:FL:={name:="own_bounds",qual:="Take.own_bounds",glob:=false,cl:=true,st:=ae (top 14) 2,N:=["self","world","name","way","told"],ps:=["self","world","name"],body:=aH}
noncomputable def kU:FL:={name:="are_wholes",qual:="are_wholes",glob:=true,cl:=true,st:=top 15,N:=["things","number"],ps:=["things","number"],body:=bX}
noncomputable def mC:FL:={name:="is_letter",qual:="is_letter",glob:=true,cl:=true,st:=top 16,N:=["thing"],ps:=["thing"],body:=cB}
noncomputable def my:FL:={name:="happening",qual:="happening",glob:=true,cl:=true,st:=top 17,N:=["row","word"],ps:=["row"],body:=aU}
noncomputable def mF:FL:={name:="count_on",qual:="count_on",glob:=true,cl:=true,st:=top 19,N:=["counts","hand","ahead"],ps:=["counts","hand"],body:=dh}
noncomputable def tD:FL:={name:="names",qual:="names",glob:=true,cl:=true,st:=top 20,N:=["log","counts","told","row"],ps:=["log"],body:=gV}
noncomputable def ik:FL:={name:="clock_bounds",qual:="clock_bounds",glob:=true,cl:=true,st:=top 22,N:=["clock","last","here","ticks"],ps:=["clock","last","here","ticks"],body:=bh}
noncomputable def qy:FL:={name:="bounds",qual:="bounds",glob:=true,cl:=false,st:=top 23,N:=["world","log","told","readings","here","row","one","last"],ps:=["world","log"],body:=fD}
noncomputable def jj:FL:={name:="refuse_clock",qual:="refuse_clock",glob:=true,cl:=true,st:=top 26,N:=["short","long"],ps:=["short","long"],body:=bo}
noncomputable def gh:FL:={name:="refuse_lengths",qual:="refuse_lengths",glob:=true,cl:=true,st:=top 27,N:=["least","most"],ps:=["least","most"],body:=aW}
noncomputable def iw:FL:={name:="__init__",qual:="World.__init__",glob:=false,cl:=false,st:=ae (top 28) 0,N:=["self","clocks","ways","short","long","one","other","least","most"],ps:=["self","clocks","ways"],body:=bA}
noncomputable def fM:FL:={name:="enter_way",qual:="World.enter_way",glob:=false,cl:=true,st:=ae (top 28) 1,N:=["self","one","other","least","most"],ps:=["self","one","other","least","most"],body:=aT}
noncomputable def eD:FL:={name:="refuse_hand",qual:="World.refuse_hand",glob:=false,cl:=true,st:=ae (top 28) 2,N:=["self","hand"],ps:=["self","hand"],body:=az}
noncomputable def eE:FL:={name:="refuse_pair",qual:="World.refuse_pair",glob:=false,cl:=true,st:=ae (top 28) 3,N:=["self","one","other"],ps:=["self","one","other"],body:=aA}
noncomputable def jG:FL:={name:="hands",qual:="World.hands",glob:=false,cl:=true,st:=ae (top 28) 4,N:=["self"],ps:=["self"],body:=aY}
noncomputable def fV:FL:={name:="has_hand",qual:="World.has_hand",glob:=false,cl:=true,st:=ae (top 28) 5,N:=["self","hand"],ps:=["self","hand"],body:=aK}
noncomputable def gS:FL:={name:="has_way",qual:="World.has_way",glob:=false,cl:=true,st:=ae (top 28) 6,N:=["self","one","other"],ps:=["self","one","other"],body:=bb}
noncomputable def jp:FL:={name:="clock",qual:="World.clock",glob:=false,cl:=true,st:=ae (top 28) 7,N:=["self","hand"],ps:=["self","hand"],body:=bF}
noncomputable def lx:FL:={name:="way",qual:="World.way",glob:=false,cl:=true,st:=ae (top 28) 8,N:=["self","one","other"],ps:=["self","one","other"],body:=cF}
noncomputable def jt:FL:={name:="_law_cell_at",qual:="_law_cell_at",glob:=true,cl:=true,st:=top 30,N:=["_law_script","_law_k"],ps:=["_law_script","_law_k"],body:=ba}
noncomputable def kG:FL:={name:="_law_stream",qual:="_law_stream",glob:=true,cl:=true,st:=top 31,N:=["_law_cell","_law_many","_law_found","_law_number","_law_k"],ps:=["_law_cell","_law_many"],body:=b8}
noncomputable def p7:FL:={name:="_law_way",qual:="_law_way",glob:=true,cl:=true,st:=top 32,N:=["_law_xs","_law_size","_law_least"],ps:=["_law_xs","_law_size"],body:=cX}
noncomputable def lI:FL:={name:="_law_world",qual:="_law_world",glob:=true,cl:=true,st:=top 33,N:=["_law_cell","_law_xs","_law_hands","_law_size","_law_clocks","_law_ways","_law_one","_law_short","_law_other","_law_ys"],ps:=["_law_cell"],body:=cM}
noncomputable def mM:FL:={name:="_law_made",qual:="_law_made",glob:=true,cl:=true,st:=top 34,N:=["_law_world_here"],ps:=["_law_world_here"],body:=dm}
noncomputable def pN:FL:={name:="_law_lag",qual:="_law_lag",glob:=true,cl:=true,st:=top 35,N:=["_law_clock","_law_here","_law_xs","_law_low","_law_high","_law_ticks","_law_first","_law_last"],ps:=["_law_clock","_law_here","_law_xs","_law_low","_law_high"],body:=ei}
noncomputable def qd:FL:={name:="_law_row",qual:="_law_row",glob:=true,cl:=true,st:=top 36,N:=["_law_hand","_law_reading","_law_moment","_law_ways","_law_xs","_law_tos","_law_kind","_law_gaps"],ps:=["_law_hand","_law_reading","_law_moment","_law_ways","_law_xs"],body:=cg}
noncomputable def nA:FL:={name:="_law_sent",qual:="_law_sent",glob:=true,cl:=true,st:=top 37,N:=["_law_here","_law_row_here","_law_moment","_law_way_here"],ps:=["_law_here","_law_row_here","_law_moment","_law_way_here"],body:=dn}
noncomputable def ni:FL:={name:="_law_tale",qual:="_law_tale",glob:=true,cl:=true,st:=top 38,N:=["_law_world_here","_law_start","_law_cells","_law_clocks","_law_ways","_law_at","_law_x","_law_sent_here","_law_told","_law_cell","_law_xs","_law_hand","_law_letter","_law_lag_here","_law_near","_law_moment","_law_here","_law_row_here"],ps:=["_law_world_here","_law_start","_law_cells"],body:=dg}
noncomputable def pj:FL:={name:="_law_own",qual:="_law_own",glob:=true,cl:=true,st:=top 39,N:=["_law_world_here","_law_row_here","_law_here","_law_least","_law_most"],ps:=["_law_world_here","_law_row_here","_law_here"],body:=eu}
noncomputable def p8:FL:={name:="_law_due",qual:="_law_due",glob:=true,cl:=true,st:=top 40,N:=["_law_world_here","_law_log","_law_found","_law_seen","_law_row_here","_law_known","_law_here","_law_last","_law_short","_law_long"],ps:=["_law_world_here","_law_log"],body:=d5}
noncomputable def lZ:FL:={name:="_law_whole",qual:="_law_whole",glob:=true,cl:=true,st:=top 42,N:=["_law_found"],ps:=["_law_found"],body:=cH}
noncomputable def mU:FL:={name:="_law_name",qual:="_law_name",glob:=true,cl:=true,st:=top 43,N:=["_law_found"],ps:=["_law_found"],body:=dA}
noncomputable def l8:FL:={name:="_law_right",qual:="_law_right",glob:=true,cl:=true,st:=top 44,N:=["_law_found","_law_due_here","_law_one"],ps:=["_law_found","_law_due_here"],body:=cI}
noncomputable def l_law:FL:={name:="law",qual:="law",glob:=true,cl:=true,st:=top 45,N:=["_law_script","_law_world_here","_law_log","_law_made_here","_law_part","_law_handed","_law_found"],ps:=["_law_script"],body:=jW}
noncomputable def L:List FL:=[ny,eP,jx,m9,fv,i5,lS,eW,jw,nM,fG,jq,nQ,fu,kU,mC,my,mF,tD,ik,qy,jj,gh,iw,fM,eD,eE,jG,fV,gS,jp,lx,jt,kG,p7,lI,mM,pN,qd,nA,ni,pj,p8,lZ,mU,l8,l_law]
noncomputable def xinT:List (Nat×Nat):=[]
noncomputable def nm:NM:=⟨["DriftError","NoHand","NoClock","NoWay","NoHappening"],["Happening","Look","Sight","Send","Take","World"],["NOUGHT","MOST_HANDS"],xinT⟩
noncomputable def xin(i:Nat):Option Nat:=xinT.lookup i
noncomputable def subT:List (List Bool):=[[true,false,false,false,false],[true,true,false,false,false],[true,false,true,false,false],[true,false,false,true,false],[true,false,false,false,true]]
noncomputable def sub(i j:Nat):Bool:=(subT.getD i []).getD j false
noncomputable def ksubT:List (List Bool):=[[true,false,false,false,false,false],[true,true,false,false,false,false],[true,false,true,false,false,false],[true,false,false,true,false,false],[true,false,false,false,true,false],[false,false,false,false,false,true]]
noncomputable def ksub(i j:Nat):Bool:=(ksubT.getD i []).getD j false
noncomputable def fokT:List (List Nat):=[[211529960,456806758904562],[211529960,456806758904562],[32709062885,213725420,211529960,456806758904562],[14324,211529960,456806758904562],[3944367338220,211529960,456806758904562],[136762133858116729320171,8355170983792620267]]
noncomputable def fok(i f:Nat):Bool:=(fokT.getD i []).contains f
noncomputable def mthT:List (List (Nat×Nat)):=[[],[(1067955986548848835567,4),(1964018,3)],[(1067955986548848835567,7),(1964018,6)],[(1067955986548848835567,10),(1964018,9)],[(1067955986548848835567,13),(1964018,12)],[(28932044387,30),(8774101686596482917,24),(31081607400,27),(56782141471387880,28),(535528667410664,29),(119080781550527859766002,25),(135562951883986971505394,26),(1994999,31)]]
noncomputable def mth(i m:Nat):Option Nat:=(mthT.getD i []).lookup m
noncomputable def Cf:List Nat:=[1,2,5,8,11,23]
noncomputable def ini(i:Nat):Option Nat:=Cf[i]?
noncomputable def gloT:List D:=[.tup [.int (-1),.int 0],.int 6]
noncomputable def glo(k:Nat):D:=gloT.getD k .non
noncomputable def B(cls kls fad:Nat->Addr):WB:={ne:=5,cls:=cls,sub:=sub,nk:=6,kls:=kls,ksub:=ksub,fok:=fok,mth:=mth,ini:=ini,xin:=xin,glo:=glo,fad:=fad}
section
variable {cls kls fad:Nat->Addr}
@[simp] theorem Ha:(B cls kls fad).nk=6:=rfl
@[simp] theorem FZ:(B cls kls fad).kls=kls:=rfl
@[simp] theorem Gf:(B cls kls fad).fok=fok:=rfl
@[simp] theorem Ga:(B cls kls fad).mth=mth:=rfl
@[simp] theorem Gi:(B cls kls fad).ini=ini:=rfl
@[simp] theorem Gk:(B cls kls fad).glo=glo:=rfl
end
@[simp] theorem Gx:ini 0=some 1:=rfl
@[simp] theorem vP:fok 1 211529960=true:=by decide
@[simp] theorem sM:fok 1 456806758904562=true:=by decide
@[simp] theorem oV:mth 1 1067955986548848835567=some 4:=by decide
@[simp] theorem FY:ini 1=some 2:=rfl
@[simp] theorem uY:fok 2 32709062885=true:=by decide
@[simp] theorem zE:fok 2 213725420=true:=by decide
@[simp] theorem vv:fok 2 211529960=true:=by decide
@[simp] theorem sL:fok 2 456806758904562=true:=by decide
@[simp] theorem pk:mth 2 1067955986548848835567=some 7:=by decide
@[simp] theorem Go:ini 2=some 5:=rfl
@[simp] theorem BL:fok 3 14324=true:=by decide
@[simp] theorem An:fok 3 211529960=true:=by decide
@[simp] theorem sJ:fok 3 456806758904562=true:=by decide
@[simp] theorem pL:mth 3 1067955986548848835567=some 10:=by decide
@[simp] theorem Gz:ini 3=some 8:=rfl
@[simp] theorem tN:fok 4 3944367338220=true:=by decide
@[simp] theorem xQ:fok 4 211529960=true:=by decide
@[simp] theorem sK:fok 4 456806758904562=true:=by decide
@[simp] theorem pQ:mth 4 1067955986548848835567=some 13:=by decide
@[simp] theorem FP:ini 4=some 11:=rfl
@[simp] theorem ox:fok 5 136762133858116729320171=true:=by decide
@[simp] theorem qj:fok 5 8355170983792620267=true:=by decide
@[simp] theorem F1:ini 5=some 23:=rfl
@[simp] theorem GD:glo 0=.tup [.int (-1),.int 0]:=rfl
@[simp] theorem Gg:glo 1=.int 6:=rfl
noncomputable def T:List FB:=[⟨1,1,true,dC,[]⟩,⟨3,3,true,aw,[]⟩,⟨3,3,true,bH,[]⟩,⟨1,1,true,ji,[]⟩,⟨3,3,true,aR,[]⟩,⟨5,5,true,bv,[]⟩,⟨1,1,true,gA,[]⟩,⟨3,3,true,aP,[]⟩,⟨4,4,true,bJ,[]⟩,⟨1,1,true,iE,[]⟩,⟨3,3,true,aS,[]⟩,⟨4,4,true,bI,[]⟩,⟨1,1,true,i9,[]⟩,⟨3,5,true,aH,[]⟩,⟨2,2,true,bX,[]⟩,⟨1,1,true,cB,[]⟩,⟨1,2,true,aU,[]⟩,⟨2,3,true,dh,[]⟩,⟨1,4,true,gV,[]⟩,⟨4,4,true,bh,[]⟩,⟨2,8,false,fD,[]⟩,⟨2,2,true,bo,[]⟩,⟨2,2,true,aW,[]⟩,⟨3,9,false,bA,[]⟩,⟨5,5,true,aT,[]⟩,⟨2,2,true,az,[]⟩,⟨3,3,true,aA,[]⟩,⟨1,1,true,aY,[]⟩,⟨2,2,true,aK,[]⟩,⟨3,3,true,bb,[]⟩,⟨2,2,true,bF,[]⟩,⟨3,3,true,cF,[]⟩,⟨2,2,true,ba,[]⟩,⟨2,5,true,b8,[]⟩,⟨2,3,true,cX,[]⟩,⟨1,10,true,cM,[]⟩,⟨1,1,true,dm,[]⟩,⟨5,8,true,ei,[]⟩,⟨5,8,true,cg,[]⟩,⟨4,4,true,dn,[]⟩,⟨3,18,true,dg,[]⟩,⟨3,5,true,eu,[]⟩,⟨2,10,true,d5,[]⟩,⟨1,1,true,cH,[]⟩,⟨1,1,true,dA,[]⟩,⟨2,3,true,cI,[]⟩,⟨1,7,true,jW,[]⟩]
theorem E4:L.map FL.fb=T:=rfl
section
variable {B:WB}{M:MH}{Q:VK3}{E:XN}{n:Nat}
theorem ng{x0:D}:aa T B (n+1) 0 [x0] M Q E=ao {toWB:=B,call:=aa T B n} dC {nx:=fun _ M'=>Q .non (ac M M'),rt:=fun v M'=>Q v (ac M M')} (fun _ i M'=>E i (ac M M')) [some x0] M:=propext ⟨fun h=>h.2,fun h=>⟨rfl,h⟩⟩
theorem aO{x0 x1 x2:D}:aa T B (n+1) 1 [x0,x1,x2] M Q E=ao {toWB:=B,call:=aa T B n} aw {nx:=fun _ M'=>Q .non (ac M M'),rt:=fun v M'=>Q v (ac M M')} (fun _ i M'=>E i (ac M M')) [some x0,some x1,some x2] M:=propext ⟨fun h=>h.2,fun h=>⟨rfl,h⟩⟩
theorem jo{x0 x1 x2:D}:aa T B (n+1) 2 [x0,x1,x2] M Q E=ao {toWB:=B,call:=aa T B n} bH {nx:=fun _ M'=>Q .non (ac M M'),rt:=fun v M'=>Q v (ac M M')} (fun _ i M'=>E i (ac M M')) [some x0,some x1,some x2] M:=propext ⟨fun h=>h.2,fun h=>⟨rfl,h⟩⟩
theorem fy{x0 x1 x2:D}:aa T B (n+1) 4 [x0,x1,x2] M Q E=ao {toWB:=B,call:=aa T B n} aR {nx:=fun _ M'=>Q .non (ac M M'),rt:=fun v M'=>Q v (ac M M')} (fun _ i M'=>E i (ac M M')) [some x0,some x1,some x2] M:=propext ⟨fun h=>h.2,fun h=>⟨rfl,h⟩⟩
theorem iz{x0 x1 x2 x3 x4:D}:aa T B (n+1) 5 [x0,x1,x2,x3,x4] M Q E=ao {toWB:=B,call:=aa T B n} bv {nx:=fun _ M'=>Q .non (ac M M'),rt:=fun v M'=>Q v (ac M M')} (fun _ i M'=>E i (ac M M')) [some x0,some x1,some x2,some x3,some x4] M:=propext ⟨fun h=>h.2,fun h=>⟨rfl,h⟩⟩
theorem e8{x0 x1 x2:D}:aa T B (n+1) 7 [x0,x1,x2] M Q E=ao {toWB:=B,call:=aa T B n} aP {nx:=fun _ M'=>Q .non (ac M M'),rt:=fun v M'=>Q v (ac M M')} (fun _ i M'=>E i (ac M M')) [some x0,some x1,some x2] M:=propext ⟨fun h=>h.2,fun h=>⟨rfl,h⟩⟩
theorem jz{x0 x1 x2 x3:D}:aa T B (n+1) 8 [x0,x1,x2,x3] M Q E=ao {toWB:=B,call:=aa T B n} bJ {nx:=fun _ M'=>Q .non (ac M M'),rt:=fun v M'=>Q v (ac M M')} (fun _ i M'=>E i (ac M M')) [some x0,some x1,some x2,some x3] M:=propext ⟨fun h=>h.2,fun h=>⟨rfl,h⟩⟩
theorem fO{x0 x1 x2:D}:aa T B (n+1) 10 [x0,x1,x2] M Q E=ao {toWB:=B,call:=aa T B n} aS {nx:=fun _ M'=>Q .non (ac M M'),rt:=fun v M'=>Q v (ac M M')} (fun _ i M'=>E i (ac M M')) [some x0,some x1,some x2] M:=propext ⟨fun h=>h.2,fun h=>⟨rfl,h⟩⟩
theorem jH{x0 x1 x2 x3:D}:aa T B (n+1) 11 [x0,x1,x2,x3] M Q E=ao {toWB:=B,call:=aa T B n} bI {nx:=fun _ M'=>Q .non (ac M M'),rt:=fun v M'=>Q v (ac M M')} (fun _ i M'=>E i (ac M M')) [some x0,some x1,some x2,some x3] M:=propext ⟨fun h=>h.2,fun h=>⟨rfl,h⟩⟩
theorem cJ{x0 x1 x2:D}:aa T B (n+1) 13 [x0,x1,x2] M Q E=ao {toWB:=B,call:=aa T B n} aH {nx:=fun _ M'=>Q .non (ac M M'),rt:=fun v M'=>Q v (ac M M')} (fun _ i M'=>E i (ac M M')) [some x0,some x1,some x2,none,none] M:=propext ⟨fun h=>h.2,fun h=>⟨rfl,h⟩⟩
theorem kD{x0 x1:D}:aa T B (n+1) 14 [x0,x1] M Q E=ao {toWB:=B,call:=aa T B n} bX {nx:=fun _ M'=>Q .non (ac M M'),rt:=fun v M'=>Q v (ac M M')} (fun _ i M'=>E i (ac M M')) [some x0,some x1] M:=propext ⟨fun h=>h.2,fun h=>⟨rfl,h⟩⟩
theorem l5{x0:D}:aa T B (n+1) 15 [x0] M Q E=ao {toWB:=B,call:=aa T B n} cB {nx:=fun _ M'=>Q .non (ac M M'),rt:=fun v M'=>Q v (ac M M')} (fun _ i M'=>E i (ac M M')) [some x0] M:=propext ⟨fun h=>h.2,fun h=>⟨rfl,h⟩⟩
theorem cL{x0:D}:aa T B (n+1) 16 [x0] M Q E=ao {toWB:=B,call:=aa T B n} aU {nx:=fun _ M'=>Q .non (ac M M'),rt:=fun v M'=>Q v (ac M M')} (fun _ i M'=>E i (ac M M')) [some x0,none] M:=propext ⟨fun h=>h.2,fun h=>⟨rfl,h⟩⟩
theorem m6{x0 x1:D}:aa T B (n+1) 17 [x0,x1] M Q E=ao {toWB:=B,call:=aa T B n} dh {nx:=fun _ M'=>Q .non (ac M M'),rt:=fun v M'=>Q v (ac M M')} (fun _ i M'=>E i (ac M M')) [some x0,some x1,none] M:=propext ⟨fun h=>h.2,fun h=>⟨rfl,h⟩⟩
theorem uB{x0:D}:aa T B (n+1) 18 [x0] M Q E=ao {toWB:=B,call:=aa T B n} gV {nx:=fun _ M'=>Q .non (ac M M'),rt:=fun v M'=>Q v (ac M M')} (fun _ i M'=>E i (ac M M')) [some x0,none,none,none] M:=propext ⟨fun h=>h.2,fun h=>⟨rfl,h⟩⟩
theorem iB{x0 x1 x2 x3:D}:aa T B (n+1) 19 [x0,x1,x2,x3] M Q E=ao {toWB:=B,call:=aa T B n} bh {nx:=fun _ M'=>Q .non (ac M M'),rt:=fun v M'=>Q v (ac M M')} (fun _ i M'=>E i (ac M M')) [some x0,some x1,some x2,some x3] M:=propext ⟨fun h=>h.2,fun h=>⟨rfl,h⟩⟩
theorem ra{x0 x1:D}:aa T B (n+1) 20 [x0,x1] M Q E=ao {toWB:=B,call:=aa T B n} fD {nx:=fun _ M'=>Q .non M',rt:=fun v M'=>Q v M'} (fun _ i M'=>E i (ac M M')) [some x0,some x1,none,none,none,none,none,none] M:=propext ⟨fun h=>h.2,fun h=>⟨rfl,h⟩⟩
theorem ja{x0 x1:D}:aa T B (n+1) 21 [x0,x1] M Q E=ao {toWB:=B,call:=aa T B n} bo {nx:=fun _ M'=>Q .non (ac M M'),rt:=fun v M'=>Q v (ac M M')} (fun _ i M'=>E i (ac M M')) [some x0,some x1] M:=propext ⟨fun h=>h.2,fun h=>⟨rfl,h⟩⟩
theorem gg{x0 x1:D}:aa T B (n+1) 22 [x0,x1] M Q E=ao {toWB:=B,call:=aa T B n} aW {nx:=fun _ M'=>Q .non (ac M M'),rt:=fun v M'=>Q v (ac M M')} (fun _ i M'=>E i (ac M M')) [some x0,some x1] M:=propext ⟨fun h=>h.2,fun h=>⟨rfl,h⟩⟩
theorem iQ{x0 x1 x2:D}:aa T B (n+1) 23 [x0,x1,x2] M Q E=ao {toWB:=B,call:=aa T B n} bA {nx:=fun _ M'=>Q .non M',rt:=fun v M'=>Q v M'} (fun _ i M'=>E i (ac M M')) [some x0,some x1,some x2,none,none,none,none,none,none] M:=propext ⟨fun h=>h.2,fun h=>⟨rfl,h⟩⟩
theorem fS{x0 x1 x2 x3 x4:D}:aa T B (n+1) 24 [x0,x1,x2,x3,x4] M Q E=ao {toWB:=B,call:=aa T B n} aT {nx:=fun _ M'=>Q .non (ac M M'),rt:=fun v M'=>Q v (ac M M')} (fun _ i M'=>E i (ac M M')) [some x0,some x1,some x2,some x3,some x4] M:=propext ⟨fun h=>h.2,fun h=>⟨rfl,h⟩⟩
theorem bQ{x0 x1:D}:aa T B (n+1) 25 [x0,x1] M Q E=ao {toWB:=B,call:=aa T B n} az {nx:=fun _ M'=>Q .non (ac M M'),rt:=fun v M'=>Q v (ac M M')} (fun _ i M'=>E i (ac M M')) [some x0,some x1] M:=propext ⟨fun h=>h.2,fun h=>⟨rfl,h⟩⟩
theorem bS{x0 x1 x2:D}:aa T B (n+1) 26 [x0,x1,x2] M Q E=ao {toWB:=B,call:=aa T B n} aA {nx:=fun _ M'=>Q .non (ac M M'),rt:=fun v M'=>Q v (ac M M')} (fun _ i M'=>E i (ac M M')) [some x0,some x1,some x2] M:=propext ⟨fun h=>h.2,fun h=>⟨rfl,h⟩⟩
theorem eO{x0:D}:aa T B (n+1) 27 [x0] M Q E=ao {toWB:=B,call:=aa T B n} aY {nx:=fun _ M'=>Q .non (ac M M'),rt:=fun v M'=>Q v (ac M M')} (fun _ i M'=>E i (ac M M')) [some x0] M:=propext ⟨fun h=>h.2,fun h=>⟨rfl,h⟩⟩
theorem cZ{x0 x1:D}:aa T B (n+1) 28 [x0,x1] M Q E=ao {toWB:=B,call:=aa T B n} aK {nx:=fun _ M'=>Q .non (ac M M'),rt:=fun v M'=>Q v (ac M M')} (fun _ i M'=>E i (ac M M')) [some x0,some x1] M:=propext ⟨fun h=>h.2,fun h=>⟨rfl,h⟩⟩
theorem gR{x0 x1 x2:D}:aa T B (n+1) 29 [x0,x1,x2] M Q E=ao {toWB:=B,call:=aa T B n} bb {nx:=fun _ M'=>Q .non (ac M M'),rt:=fun v M'=>Q v (ac M M')} (fun _ i M'=>E i (ac M M')) [some x0,some x1,some x2] M:=propext ⟨fun h=>h.2,fun h=>⟨rfl,h⟩⟩
theorem jn{x0 x1:D}:aa T B (n+1) 30 [x0,x1] M Q E=ao {toWB:=B,call:=aa T B n} bF {nx:=fun _ M'=>Q .non (ac M M'),rt:=fun v M'=>Q v (ac M M')} (fun _ i M'=>E i (ac M M')) [some x0,some x1] M:=propext ⟨fun h=>h.2,fun h=>⟨rfl,h⟩⟩
theorem lW{x0 x1 x2:D}:aa T B (n+1) 31 [x0,x1,x2] M Q E=ao {toWB:=B,call:=aa T B n} cF {nx:=fun _ M'=>Q .non (ac M M'),rt:=fun v M'=>Q v (ac M M')} (fun _ i M'=>E i (ac M M')) [some x0,some x1,some x2] M:=propext ⟨fun h=>h.2,fun h=>⟨rfl,h⟩⟩
theorem eF{x0 x1:D}:aa T B (n+1) 32 [x0,x1] M Q E=ao {toWB:=B,call:=aa T B n} ba {nx:=fun _ M'=>Q .non (ac M M'),rt:=fun v M'=>Q v (ac M M')} (fun _ i M'=>E i (ac M M')) [some x0,some x1] M:=propext ⟨fun h=>h.2,fun h=>⟨rfl,h⟩⟩
theorem ko{x0 x1:D}:aa T B (n+1) 33 [x0,x1] M Q E=ao {toWB:=B,call:=aa T B n} b8 {nx:=fun _ M'=>Q .non (ac M M'),rt:=fun v M'=>Q v (ac M M')} (fun _ i M'=>E i (ac M M')) [some x0,some x1,none,none,none] M:=propext ⟨fun h=>h.2,fun h=>⟨rfl,h⟩⟩
theorem jI{x0 x1:D}:aa T B (n+1) 34 [x0,x1] M Q E=ao {toWB:=B,call:=aa T B n} cX {nx:=fun _ M'=>Q .non (ac M M'),rt:=fun v M'=>Q v (ac M M')} (fun _ i M'=>E i (ac M M')) [some x0,some x1,none] M:=propext ⟨fun h=>h.2,fun h=>⟨rfl,h⟩⟩
theorem lQ{x0:D}:aa T B (n+1) 35 [x0] M Q E=ao {toWB:=B,call:=aa T B n} cM {nx:=fun _ M'=>Q .non (ac M M'),rt:=fun v M'=>Q v (ac M M')} (fun _ i M'=>E i (ac M M')) [some x0,none,none,none,none,none,none,none,none,none] M:=propext ⟨fun h=>h.2,fun h=>⟨rfl,h⟩⟩
theorem nJ{x0:D}:aa T B (n+1) 36 [x0] M Q E=ao {toWB:=B,call:=aa T B n} dm {nx:=fun _ M'=>Q .non (ac M M'),rt:=fun v M'=>Q v (ac M M')} (fun _ i M'=>E i (ac M M')) [some x0] M:=propext ⟨fun h=>h.2,fun h=>⟨rfl,h⟩⟩
theorem pI{x0 x1 x2 x3 x4:D}:aa T B (n+1) 37 [x0,x1,x2,x3,x4] M Q E=ao {toWB:=B,call:=aa T B n} ei {nx:=fun _ M'=>Q .non (ac M M'),rt:=fun v M'=>Q v (ac M M')} (fun _ i M'=>E i (ac M M')) [some x0,some x1,some x2,some x3,some x4,none,none,none] M:=propext ⟨fun h=>h.2,fun h=>⟨rfl,h⟩⟩
theorem ge{x0 x1 x2 x3 x4:D}:aa T B (n+1) 38 [x0,x1,x2,x3,x4] M Q E=ao {toWB:=B,call:=aa T B n} cg {nx:=fun _ M'=>Q .non (ac M M'),rt:=fun v M'=>Q v (ac M M')} (fun _ i M'=>E i (ac M M')) [some x0,some x1,some x2,some x3,some x4,none,none,none] M:=propext ⟨fun h=>h.2,fun h=>⟨rfl,h⟩⟩
theorem mI{x0 x1 x2 x3:D}:aa T B (n+1) 39 [x0,x1,x2,x3] M Q E=ao {toWB:=B,call:=aa T B n} dn {nx:=fun _ M'=>Q .non (ac M M'),rt:=fun v M'=>Q v (ac M M')} (fun _ i M'=>E i (ac M M')) [some x0,some x1,some x2,some x3] M:=propext ⟨fun h=>h.2,fun h=>⟨rfl,h⟩⟩
theorem nz{x0 x1 x2:D}:aa T B (n+1) 40 [x0,x1,x2] M Q E=ao {toWB:=B,call:=aa T B n} dg {nx:=fun _ M'=>Q .non (ac M M'),rt:=fun v M'=>Q v (ac M M')} (fun _ i M'=>E i (ac M M')) [some x0,some x1,some x2,none,none,none,none,none,none,none,none,none,none,none,none,none,none,none] M:=propext ⟨fun h=>h.2,fun h=>⟨rfl,h⟩⟩
theorem pH{x0 x1 x2:D}:aa T B (n+1) 41 [x0,x1,x2] M Q E=ao {toWB:=B,call:=aa T B n} eu {nx:=fun _ M'=>Q .non (ac M M'),rt:=fun v M'=>Q v (ac M M')} (fun _ i M'=>E i (ac M M')) [some x0,some x1,some x2,none,none] M:=propext ⟨fun h=>h.2,fun h=>⟨rfl,h⟩⟩
theorem qa{x0 x1:D}:aa T B (n+1) 42 [x0,x1] M Q E=ao {toWB:=B,call:=aa T B n} d5 {nx:=fun _ M'=>Q .non (ac M M'),rt:=fun v M'=>Q v (ac M M')} (fun _ i M'=>E i (ac M M')) [some x0,some x1,none,none,none,none,none,none,none,none] M:=propext ⟨fun h=>h.2,fun h=>⟨rfl,h⟩⟩
theorem ma{x0:D}:aa T B (n+1) 43 [x0] M Q E=ao {toWB:=B,call:=aa T B n} cH {nx:=fun _ M'=>Q .non (ac M M'),rt:=fun v M'=>Q v (ac M M')} (fun _ i M'=>E i (ac M M')) [some x0] M:=propext ⟨fun h=>h.2,fun h=>⟨rfl,h⟩⟩
theorem nv{x0:D}:aa T B (n+1) 44 [x0] M Q E=ao {toWB:=B,call:=aa T B n} dA {nx:=fun _ M'=>Q .non (ac M M'),rt:=fun v M'=>Q v (ac M M')} (fun _ i M'=>E i (ac M M')) [some x0] M:=propext ⟨fun h=>h.2,fun h=>⟨rfl,h⟩⟩
theorem lU{x0 x1:D}:aa T B (n+1) 45 [x0,x1] M Q E=ao {toWB:=B,call:=aa T B n} cI {nx:=fun _ M'=>Q .non (ac M M'),rt:=fun v M'=>Q v (ac M M')} (fun _ i M'=>E i (ac M M')) [some x0,some x1,none] M:=propext ⟨fun h=>h.2,fun h=>⟨rfl,h⟩⟩
theorem Bz{x0:D}:aa T B (n+1) 46 [x0] M Q E=ao {toWB:=B,call:=aa T B n} jW {nx:=fun _ M'=>Q .non (ac M M'),rt:=fun v M'=>Q v (ac M M')} (fun _ i M'=>E i (ac M M')) [some x0,none,none,none,none,none,none] M:=propext ⟨fun h=>h.2,fun h=>⟨rfl,h⟩⟩
end
theorem top_mk{P:Params}{h:Heap}{mg:Str->Option Value}(X:(HD.K P).In h)(Gn:h.Ns mainGlobals mg)
  {q0:Addr}{qn0:Nat}{qt0_0:Tok}{qt0_1:Tok}
  (gl0:PySem.W.nsIn (HD.K P) mainGlobals "NOUGHT"=some (some (.ref q0)))
  (gt0:(HD.K P).lookup q0=some {cls:=.type "tuple",data:=.seq #[.int (-1) qt0_0,.int (0) qt0_1] qn0})
  {qt1:Tok}
  (gl1:PySem.W.nsIn (HD.K P) mainGlobals "MOST_HANDS"=some (some (.int (6) qt1)))
  : ∃cls kls fad,Top (HD.K P) mg L nm (B cls kls fad):=by
 refine⟨fun i=>([24,37,49,61,73]:List Nat).getD i 0,fun i=>([100,135,168,201,234,370]:List Nat).getD i 0,fun i=>([82,97,118,125,132,151,158,165,184,191,198,217,224,231,241,248,255,262,269,276,283,290,297,311,318,325,332,339,346,353,360,367,381,388,395,402,407,414,419,426,431,438,445,459,466,473,478]:List Nat).getD i 0,Top.of (fT:=fokT) (mT:=mthT) (iT:=Cf) X Gn (by kernel_rfl) (by kernel_rfl) (by kernel_rfl) (ixc (n1 (by intros;rfl)) (ixc (n3 (by intros;rfl)) (ixc (n3 (by intros;rfl)) (ixc (n1 (by intros;rfl)) (ixc (n3 (by intros;rfl)) (ixc (n5 (by intros;rfl)) (ixc (n1 (by intros;rfl)) (ixc (n3 (by intros;rfl)) (ixc (n4 (by intros;rfl)) (ixc (n1 (by intros;rfl)) (ixc (n3 (by intros;rfl)) (ixc (n4 (by intros;rfl)) (ixc (n1 (by intros;rfl)) (ixc (n3 (by intros;rfl)) (ixc (n2 (by intros;rfl)) (ixc (n1 (by intros;rfl)) (ixc (n1 (by intros;rfl)) (ixc (n2 (by intros;rfl)) (ixc (n1 (by intros;rfl)) (ixc (n4 (by intros;rfl)) (ixc (n2 (by intros;rfl)) (ixc (n2 (by intros;rfl)) (ixc (n2 (by intros;rfl)) (ixc (n3 (by intros;rfl)) (ixc (n5 (by intros;rfl)) (ixc (n2 (by intros;rfl)) (ixc (n3 (by intros;rfl)) (ixc (n1 (by intros;rfl)) (ixc (n2 (by intros;rfl)) (ixc (n3 (by intros;rfl)) (ixc (n2 (by intros;rfl)) (ixc (n3 (by intros;rfl)) (ixc (n2 (by intros;rfl)) (ixc (n2 (by intros;rfl)) (ixc (n2 (by intros;rfl)) (ixc (n1 (by intros;rfl)) (ixc (n1 (by intros;rfl)) (ixc (n5 (by intros;rfl)) (ixc (n5 (by intros;rfl)) (ixc (n4 (by intros;rfl)) (ixc (n3 (by intros;rfl)) (ixc (n3 (by intros;rfl)) (ixc (n2 (by intros;rfl)) (ixc (n1 (by intros;rfl)) (ixc (n1 (by intros;rfl)) (ixc (n2 (by intros;rfl)) (ixc (n1 (by intros;rfl)) (ixn)))))))))))))))))))))))))))))))))))))))))))))))) (by kernel_rfl) (by kernel_rfl) (by kernel_rfl) (by kernel_rfl) (fun _ _=>rfl) (fun _ _=>rfl) (fun _=>rfl) (by kernel_rfl) ?_ ?_ ?_ (BU (by kernel_rfl))⟩
 ·intro k x hi
  match k,hi with
  |0,hi=>cases hi;exact⟨_,.ref q0,PySem.W.mg_of X Gn gl0,rfl,fun H=>⟨q0,[.int (-1),.int (0)],rfl,.inr ⟨_,_,qn0,gt0,rfl,rfl,(by show 2<=sizeLine;decide),.cons ⟨_,rfl⟩ (.cons ⟨_,rfl⟩ (.nil))⟩,⟨_,_,rfl,rfl,⟨_,_,rfl,rfl,rfl⟩⟩⟩⟩
  |1,hi=>cases hi;exact⟨_,.int (6),PySem.W.mg_of X Gn gl1,⟨_,rfl⟩,fun H=>rfl⟩
  |n+2,hi=>simp[nm]at hi
 ·intro i f hx;cases (show ([]:List (Nat×Nat)).lookup i=some f from hx)
 ·intro i f hi hx;cases (show ([]:List (Nat×Nat)).lookup i=some f from hx)
end G
namespace G
open L2
section
variable {cls kls fad:Nat->PySem.Addr}{M:MH}{Q:VK3}{E:XN}{n:Nat}{p q d:PySem.Addr}{cl ds:List D}{ks:List (List Int)}
noncomputable abbrev fC:Nat:=136762133858116729320171
noncomputable abbrev fW:Nat:=8355170983792620267
structure Wd (kls:Nat->PySem.Addr)(M:MH)(p q d:PySem.Addr)(cl:List D) (ks:List (List Int)) (ds:List D):Prop where
 ip:M p=some (.ins 5 (kls 5) [fC,fW] [.ref q,.ref d])
 iq:M q=some (.lst cl)
 id:M d=some (.dt ks ds)
theorem DL(h:Wd kls M p q d cl ks ds):dU (B cls kls fad) fC (.ref p) M Q=Q (.ref q) M:=by
 simp[dU,h.ip,jF,fC,fW]
theorem u7(h:Wd kls M p q d cl ks ds):dU (B cls kls fad) fW (.ref p) M Q=Q (.ref d) M:=by
 simp[dU,h.ip,jF,fC,fW]
theorem fZ{m f:Nat}{R:Nat->Prop}(h:Wd kls M p q d cl ks ds)(hm:mth 5 m=some f)(h1:fC≠m)(h2:fW≠m):c5 (B cls kls fad) m (.ref p) M R=R f:=by
 simp[c5,h.ip,hm,h1,h2,fR]
theorem tZ(h:Wd kls M p q d cl ks ds):aa T (B cls kls fad) (n+1) 27 [.ref p] M Q E=Q (.int cl.length) M:=by
 simp[eO,aY,DL h];simp[rBi,ak,aB,h.iq]
theorem mY{i:Int}(h:Wd kls M p q d cl ks ds):aa T (B cls kls fad) (n+2) 28 [.ref p,.int i] M Q E=Q (.bl (decide (0<=i)&&decide (i < cl.length))) M:=by
 simp[cZ,aK];by_cases h0:0<=i
 ·simp[h0];rw[fZ h (f:=27) (by decide) (by decide) (by decide),tZ h]
  simp
 ·simp[h0]
noncomputable def okH(n:Nat)(i:Int):Bool:=decide (0<=i)&&decide (i < n)
theorem eN{i:Int}(h:Wd kls M p q d cl ks ds)(ho:okH cl.length i=true):aa T (B cls kls fad) (n+3) 25 [.ref p,.int i] M Q E=Q .non M:=by
 simp[bQ,az];rw[fZ h (f:=28) (by decide) (by decide) (by decide),mY h]
 unfold okH at ho;rw[ho];simp
theorem jD{i j:Int}(h:Wd kls M p q d cl ks ds)(h1:okH cl.length i=true)(h2:okH cl.length j=true)(h3:i≠j):aa T (B cls kls fad) (n+4) 26 [.ref p,.int i,.int j] M Q E=Q .non M:=by
 simp[bS,aA];rw[fZ h (f:=25) (by decide) (by decide) (by decide),eN h h1]
 rw[fZ h (f:=25) (by decide) (by decide) (by decide),eN h h2]
 simp[h3]
noncomputable def kI(l:Int)(m:Option Int):Bool:=decide (l < 0)||(match m with|some m=>decide (m < l)|none=>false)
theorem pq{l:Int}{m:Option Int}(hb:kI l m=false):aa T (B cls kls fad) (n+1) 22 [.int l,oi m] M Q E=Q .non M:=by
 simp only[kI,Bool.or_eq_false_iff,decide_eq_false_iff_not]at hb;simp only[gg,aW];cases m with
 |none=>simp[hb.1,oi]
 |some m=>
  have h2:¬ m < l:=of_decide_eq_false hb.2;simp[hb.1,h2,oi]
noncomputable def ku(p:Int×Int):Bool:=decide (p.1 < 1)||decide (p.2 < p.1)
theorem tU{a b:Int}(hb:ku (a,b)=false):aa T (B cls kls fad) (n+1) 21 [.int a,.int b] M Q E=Q .non M:=by
 simp only[ku,Bool.or_eq_false_iff,decide_eq_false_iff_not]at hb;simp[ja,bo,hb.1,hb.2]
theorem Bj{i j:Int}(h:Wd kls M p q d cl ks ds)(hl:ks.length=ds.length):aN .In (.tup [.int i,.int j]) (.ref d) M Q=Q (.bl (decide ([i,j]∈ks))) M:=by
 have e:(getD ks ds [i,j]).isSome=decide ([i,j]∈ks):=by
  clear h
  induction ks generalizing ds with
  |nil=>cases ds<;>simp[getD]
  |cons k ks ih=>
   cases ds with
   |nil=>simp at hl
   |cons x ds=>
    simp only[getD];by_cases e:k=[i,j]
    ·simp[e]
    ·rw[if_neg e,ih (by simpa using hl)]
     simp[Ne.symm e]
 simp[aN,mK,aB,ak,h.id,gU,gm,gN,jy,dY,e]
theorem i8{k:List Int}:∀{ks:List (List Int)},k∉ks->am ks k=ks++[k]
 |[],_=>rfl
 |a::ks,h=>by
  have h1:a≠k:=fun e=>h (by simp[e])
  have h2:k∉ks:=fun e=>h (by simp[e])
  simp[am,h1,i8 h2]
noncomputable def way(l:Int)(m:Option Int):D:=.tup [.int l,oi m]
theorem sZ{i j l:Int}{m:Option Int}(h:Wd kls M p q d cl ks ds)(hl:ks.length=ds.length)(hz:ks.length < 1000)(h1:okH cl.length i=true)(h2:okH cl.length j=true)(h3:i≠j)(h4:[i,j]∉ks)(h5:kI l m=false):aa T (B cls kls fad) (n+5) 24 [.ref p,.int i,.int j,.int l,oi m] M Q E=Q .non (put M d (.dt (am ks [i,j]) (au ks ds [i,j] (way l m)))):=by
 have hs:ks.length < PySem.sizeLine:=Nat.lt_of_lt_of_le hz (by decide)
 simp[fS,aT];rw[fZ h (f:=26) (by decide) (by decide) (by decide),jD h h1 h2 h3]
 simp[av];rw[show dU (B cls kls fad) 8355170983792620267 (.ref p) M _=_ from u7 h];rw[Bj h hl];simp[h4];rw[pq h5];rw[show dU (B cls kls fad) 8355170983792620267 (.ref p) M _=_ from u7 h];simp[bc,h.id,jy,dY,hs,lH h.id,way]
noncomputable def cD(p:Int×Int):D:=.tup [.int p.1,.int p.2]
structure Wy where
 i:Int
 j:Int
 l:Int
 m:Option Int
noncomputable def wD(w:Wy):D:=.tup [.int w.i,.int w.j,.int w.l,oi w.m]
theorem dX{M:MH}{a b:PySem.Addr}{x y z:DO}(h:a≠b):put (put (put M a x) b y) a z=put (put M a z) b y:=by
 funext c;unfold put;by_cases h1:c=a
 ·subst h1;simp[h]
 ·simp[h1]
theorem jT{M:MH}{a b c:PySem.Addr}{x y w z:DO}(h:a≠b)(h':a≠c):put (put (put (put M a x) b y) c w) a z=put (put (put M a z) b y) c w:=by
 funext e;unfold put;by_cases h1:e=a
 ·subst h1;simp[h,h']
 ·simp[h1]
theorem nX{R:MH->Prop}{f:Nat}{y:D}{i:Nat}{C:PySem.Addr}{ns:List Nat}{es:List D}(h:M p=some (.ins i C ns es)):i4 (B cls kls fad) f y R (.ref p) M=((C=(B cls kls fad).kls i/\i < (B cls kls fad).nk/\(B cls kls fad).fok i f=true/\ns.length < 1000)/\R (put M p (.ins i C (bU f ns) (bT f y ns es)))):=by
 simp[i4,h]
noncomputable def pr(w:Wy):List Int:=[w.i,w.j]
noncomputable def wv(w:Wy):D:=way w.l w.m
structure Wy.good (n:Nat)(w:Wy):Prop where
 i:okH n w.i=true
 j:okH n w.j=true
 ne:w.i≠w.j
 l:kI w.l w.m=false
theorem jb{k:List Int}{v:D}:∀{ks:List (List Int)}{ds:List D},ks.length=ds.length->k∉ks->au ks ds k v=ds++[v]
 |[],[],_,_=>rfl
 |a::ks,e::ds,hl,h=>by
  have h1:a≠k:=fun z=>h (by simp[z])
  have h2:k∉ks:=fun z=>h (by simp[z])
  simp[au,h1,jb (by simpa using hl) h2]
theorem jU{S:MH->Prop}(hS:S M){De:Ends3}{ES:St3->XN}{R:Prop}{x0 x1 x2 x5 x6 x7 x8:Option D}:∀(cks:List (Int×Int)) (x3 x4:Option D),(∀c∈cks,ku c=false)->(∀x y,De.nx [x0,x1,x2,x,y,x5,x6,x7,x8] M=R)->
  bW ⟨(B cls kls fad),aa T (B cls kls fad) (n+1)⟩ (.tup [3,4]) bw ES S De (cks.map cD) [x0,x1,x2,x3,x4,x5,x6,x7,x8] M=R
 |[],x3,x4,_,hR=>by simp[bj,hR,hS]
 |(c1,c2)::r,x3,x4,hc,hR=>by
  have ih:=jU hS (De:=De) (ES:=ES) (R:=R) (x0:=x0) (x1:=x1) (x2:=x2) (x5:=x5) (x6:=x6) (x7:=x7) (x8:=x8) r (some (.int c1)) (some (.int c2)) (fun c h=>hc c (List.mem_cons_of_mem _ h)) hR
  have h':=hc (c1,c2) List.mem_cons_self;rw[List.map_cons,aV];simp only[bw,cD]at ih ⊢;rw[<-ih];simp[tU,h',hS]
theorem iR{S:MH->Prop}{Mb:MH}(hS:∀ks ds,S (put Mb d (.dt ks ds)))(hw:∀ks ds,Wd kls (put Mb d (.dt ks ds)) p q d cl ks ds){De:Ends3}{ES:St3->XN}{R:Prop}{x1 x2 x3 x4:Option D}:∀(wy:List Wy) (ks:List (List Int)) (ds:List D)(x5 x6 x7 x8:Option D),ks.length=ds.length->ks.length+wy.length < 500->
  (∀w∈wy,w.good cl.length)->(wy.map pr).Nodup->(∀w∈wy,pr w∉ks)->(∀x5 x6 x7 x8,De.nx [some (.ref p),x1,x2,x3,x4,x5,x6,x7,x8] (put Mb d (.dt (ks++wy.map pr) (ds++wy.map wv)))=R)->
  bW ⟨(B cls kls fad),aa T (B cls kls fad) (n+5)⟩ (.tup [5,6,7,8]) bn ES S De (wy.map wD) [some (.ref p),x1,x2,x3,x4,x5,x6,x7,x8] (put Mb d (.dt ks ds))=R
 |[],ks,ds,x5,x6,x7,x8,hl,hz,hg,hn,hk,hR=>by
  have:=hR x5 x6 x7 x8;simp at this;simp[bj,this,hS]
 |w::r,ks,ds,x5,x6,x7,x8,hl,hz,hg,hn,hk,hR=>by
  simp only[List.length_cons]at hz;have g:=hg w List.mem_cons_self;have hin:[w.i,w.j]∉ks:=hk w List.mem_cons_self;rw[List.map_cons,List.nodup_cons]at hn;have ih:=iR hS hw (De:=De) (ES:=ES) (R:=R) (x1:=x1) (x2:=x2) (x3:=x3) (x4:=x4) r (ks++[[w.i,w.j]]) (ds++[way w.l w.m]) (some (.int w.i)) (some (.int w.j)) (some (.int w.l)) (some (oi w.m)) (by simp[hl]) (by simp;omega) (fun v hv=>hg v (List.mem_cons_of_mem _ hv)) hn.2 (fun v hv=>by
   intro z;rcases List.mem_append.mp z with z|z
   ·exact hk v (List.mem_cons_of_mem _ hv) z
   ·exact hn.1 (by rw[show pr w=pr v from (List.mem_singleton.mp z).symm];exact List.mem_map_of_mem hv)) (fun a b c e=>by
    have:=hR a b c e;simpa [pr,wv] using this)
  rw[List.map_cons,aV];simp only[bn,wD]at ih ⊢;have h1:okH cl.length w.i=true/\okH cl.length w.j=true/\w.i≠w.j:=⟨g.i,g.j,g.ne⟩;simp[lm,hS];rw[fZ (hw ks ds) (f:=24) (by decide) (by decide) (by decide),sZ (hw ks ds) hl (by omega) g.i g.j g.ne hin g.l,cN,i8 hin,jb hl hin]
  simpa using ih
noncomputable def wO(kls:Nat->PySem.Addr)(cks:List (Int×Int))(wy:List Wy):D:=.obj 5 (kls 5) [fC,fW] [.rol (cks.map cD),.dit (wy.map pr) (wy.map wv)]
theorem ut{cks:List (Int×Int)}{wy:List Wy}(hM:Fm M)(h1:1<=cks.length)(h6:cks.length<=6)(hc:∀c∈cks,ku c=false)(h2:wy.length < 400)(hw1:∀w∈wy,w.good cks.length)(hn:(wy.map pr).Nodup) :
  (∀p,M p=none->aa T (B cls kls fad) (n+6) 23 [.ref p,.rol (cks.map cD),.rol (wy.map wD)] (put M p (.ins 5 (kls 5) [] [])) (fun v M2=>v=.non/\aZ Q (.ref p) M2) (fun i M'=>E i (del M' p)))=Q (wO kls cks wy) M:=by
 refine aL hM fun p hp=>?_
 have hz:cks.length<=PySem.sizeLine:=Nat.le_trans (show cks.length<=1000 by omega) (by decide)
 have hB:¬ (cks.length:Int) < 1:=by omega
 have hC:¬ (6:Int) < cks.length:=by omega
 have hB':¬ cks.length < 1:=by omega
 have hC':¬ 6 < cks.length:=by omega
 have hne:¬ cks=[]:=fun z=>by simp[z]at h1
 simp[iQ,bA,hB,hC,hB',hC',hne];refine iff_of_eq (jU (S:=fun _=>True) trivial cks none none hc fun x y=>?_)
 simp[rBi,aB,ak,hz];refine iff_of_eq (aL (hM.put _ _) fun q hq=>?_)
 obtain⟨hqp,hq⟩:=cO hq;rw[show i4 (B cls kls fad) 136762133858116729320171 (.ref q) _ (.ref p) (put (put M p (.ins 5 (kls 5) [] [])) q (.lst (cks.map cD)))=_ from nX (by rw[aj (Ne.symm hqp),ah])]
 simp;rw[dX (Ne.symm hqp)];refine iff_of_eq (aL ((hM.put _ _).put _ _) fun d hd=>?_)
 obtain⟨hdq,hd⟩:=cO hd;obtain⟨hdp,hd⟩:=cO hd;rw[show i4 (B cls kls fad) 8355170983792620267 (.ref d) _ (.ref p) (put (put (put M p (.ins 5 (kls 5) [136762133858116729320171] [.ref q])) q (.lst (cks.map cD))) d (.dt [] []))=_ from nX (by rw[aj (Ne.symm hdp),aj (Ne.symm hqp),ah])]
 simp;rw[jT (Ne.symm hqp) (Ne.symm hdp)];have hw:∀ks ds,Wd kls (put (put (put M p (.ins 5 (kls 5) [fC,fW] [.ref q,.ref d])) q (.lst (cks.map cD))) d (.dt ks ds)) p q d (cks.map cD) ks ds:=fun ks ds=>
  ⟨by rw[aj (Ne.symm hdp),aj (Ne.symm hqp),ah],by rw[aj (Ne.symm hdq),ah],ah⟩
 refine iff_of_eq (iR (S:=fun _=>True) (fun ks ds=>trivial) hw wy [] [] none none none none rfl (by simp;omega) (by simpa using hw1) hn (fun w _ z=>by cases z) fun x5 x6 x7 x8=>?_)
 rw[List.nil_append,List.nil_append];simp only[aZ];rw[(hw _ _).ip];simp only[dH];have e1:∀ks' ds',del (put (put (put M p (.ins 5 (kls 5) [fC,fW] [.ref q,.ref d])) q (.lst (cks.map cD))) d (.dt ks' ds')) p q=some (.lst (cks.map cD)):=fun ks' ds'=>by
  unfold del;rw[if_neg hqp];exact (hw ks' ds').iq
 rw[e1];have e2:∀ks' ds',del (del (put (put (put M p (.ins 5 (kls 5) [fC,fW] [.ref q,.ref d])) q (.lst (cks.map cD))) d (.dt ks' ds')) p) q d=some (.dt ks' ds'):=fun ks' ds'=>by
  unfold del;rw[if_neg hdq,if_neg hdp];exact (hw ks' ds').id
 simp only[e2];have e3:∀ks' ds',del (del (del (put (put (put M p (.ins 5 (kls 5) [fC,fW] [.ref q,.ref d])) q (.lst (cks.map cD))) d (.dt ks' ds')) p) q) d=M:=fun ks' ds'=>by
  funext a;unfold del put;by_cases a1:a=d
  ·subst a1;simp[hd]
  ·by_cases a2:a=q
   ·subst a2;simp[hq,a1]
   ·by_cases a3:a=p
    ·subst a3;simp[hp,a1,a2]
    ·simp[a1,a2,a3]
 rw[e3];rfl
theorem qH(ns:List Int)(k:Nat):∃x:Int,∀{n:Nat}{M:MH}{Q:VK3}{E:XN},aa T (B cls kls fad) (n+1) 32 [scr ns,.int k] M Q E=Q (.int x) M:=by
 by_cases h:k < ns.length
 ·obtain⟨x,hx⟩:=Dk (cs:=ns) (i:=k) (by omega) (by omega)
  refine⟨x,?_⟩;intro n M Q E;have h':(k:Int) < ns.length:=by omega
  simp[eF,ba,scr,jQ hx,h]
 ·refine⟨0,?_⟩;intro n M Q E;simp[eF,ba,scr,h]
theorem jk(lo:Int)(k:Nat):rng lo (k+1)=.int lo::rng (lo+1) k:=by
 simp only[rng,List.range_succ_eq_map,List.map_cons,List.map_map];congr 1
 ·simp
 ·apply List.map_congr_left;intro i _;simp;omega
variable {cks:List (Int×Int)}{wy:List Wy}
theorem o_c:dU (B cls kls fad) 136762133858116729320171 (wO kls cks wy) M Q=Q (.rol (cks.map cD)) M:=by simp[wO,fC,fW]
theorem o_w:dU (B cls kls fad) 8355170983792620267 (wO kls cks wy) M Q=Q (.dit (wy.map pr) (wy.map wv)) M:=by simp[wO,fC,fW]
theorem o_m{m f:Nat}{R:Nat->Prop}(hm:mth 5 m=some f)(h1:fC≠m)(h2:fW≠m):c5 (B cls kls fad) m (wO kls cks wy) M R=R f:=by
 simp[wO,hm,h1,h2]
theorem o1{R:Nat->Prop}:c5 (B cls kls fad) 31081607400 (wO kls cks wy) M R=R 27:=o_m (by decide) (by decide) (by decide)
theorem qQ:aa T (B cls kls fad) (n+1) 27 [wO kls cks wy] M Q E=Q (.int cks.length) M:=by
 simp[eO,aY,o_c]
theorem ly{i:Int}:aa T (B cls kls fad) (n+2) 28 [wO kls cks wy,.int i] M Q E=Q (.bl (okH cks.length i)) M:=by
 simp[cZ,aK,okH];by_cases h0:0<=i
 ·simp[h0,o1,qQ]
 ·simp[h0]
theorem iH{i:Int}:aa T (B cls kls fad) (n+3) 25 [wO kls cks wy,.int i] M Q E=if okH cks.length i=true then Q .non M else False:=by
 simp[bQ,az];rw[o_m (f:=28) (by decide) (by decide) (by decide),ly]
 cases okH cks.length i<;>simp[av]
theorem sD{k:List Int}:∀{wy:List Wy},(getD (wy.map pr) (wy.map wv) k).isSome=decide (k∈wy.map pr)
 |[]=>by simp[getD]
 |w::r=>by
  have ih:=sD (k:=k) (wy:=r);simp only[List.map_cons,getD];by_cases e:pr w=k
  ·simp[e]
  ·rw[if_neg e,ih];simp[Ne.symm e]
theorem Ao{i j:Int}:aN .In (.tup [.int i,.int j]) (.dit (wy.map pr) (wy.map wv)) M Q=Q (.bl (decide ([i,j]∈wy.map pr))) M:=by
 have e:=sD (k:=[i,j]) (wy:=wy);simp[aN,mK,aB,ak,gU,gm,gN,jy,dY,e]
theorem nO{i j:Int}:aa T (B cls kls fad) (n+1) 29 [wO kls cks wy,.int i,.int j] M Q E=Q (.bl (decide ([i,j]∈wy.map pr))) M:=by
 simp only[gR,bb];simp[av,↓o_w,↓Ao]
end
end G
namespace G
open L2
section
variable {cls kls fad:Nat->PySem.Addr}{M:MH}{Q:VK3}{E:XN}{n:Nat}{p q:PySem.Addr}{cks:List (Int×Int)}{wy:List Wy}
theorem iF{i:Int}:aa T (B cls kls fad) (n+1) 0 [.int i] M Q E=Q (.bl true) M:=by
 simp[ng,dC]
theorem zg{a b:Int}{E:PySem.Addr->XN}(hM:Fm M):(∀p,M p=none->aa T (B cls kls fad) (n+2) 2 [.ref p,.int a,.int b] (put M p (.ins 1 (kls 1) [] [])) (fun v M2=>v=.non/\aZ Q (.ref p) M2) (E p))=Q (.obj 1 (kls 1) [211529960,456806758904562] [.int a,.int b]) M:=
 aL hM fun p hp=>by simp[jo,bH,aO,aw,hp]
theorem tS{a b c d:Int}{E:PySem.Addr->XN}(hM:Fm M):(∀p,M p=none->aa T (B cls kls fad) (n+2) 5 [.ref p,.int a,.int b,.int c,.int d] (put M p (.ins 2 (kls 2) [] [])) (fun v M2=>v=.non/\aZ Q (.ref p) M2) (E p))=Q (.obj 2 (kls 2) [211529960,456806758904562,32709062885,213725420] [.int a,.int b,.int c,.int d]) M:=
 aL hM fun p hp=>by simp[iz,bv,aO,aw,hp]
theorem vI{a b c:Int}{E:PySem.Addr->XN}(hM:Fm M):(∀p,M p=none->aa T (B cls kls fad) (n+2) 8 [.ref p,.int a,.int b,.int c] (put M p (.ins 3 (kls 3) [] [])) (fun v M2=>v=.non/\aZ Q (.ref p) M2) (E p))=Q (.obj 3 (kls 3) [211529960,456806758904562,14324] [.int a,.int b,.int c]) M:=
 aL hM fun p hp=>by simp[jz,bJ,aO,aw,hp]
theorem Ad{a b:Int}{c:List D}{E:PySem.Addr->XN}(hM:Fm M):(∀p,M p=none->aa T (B cls kls fad) (n+2) 11 [.ref p,.int a,.int b,.tup c] (put M p (.ins 4 (kls 4) [] [])) (fun v M2=>v=.non/\aZ Q (.ref p) M2) (E p))=Q (.obj 4 (kls 4) [211529960,456806758904562,3944367338220] [.int a,.int b,.tup c]) M:=
 aL hM fun p hp=>by simp[jH,bI,aO,aw,hp]
inductive Rw where
 |look (h r:Int)|sight (h r e l:Int)|send (h r t:Int)|take (h r a b:Int)
noncomputable def Rw.d:Rw->D
 |.look h r=>.tup [.str "look",.int h,.int r]
 |.sight h r e l=>.tup [.str "sight",.int h,.int r,.int e,.int l]
 |.send h r t=>.tup [.str "send",.int h,.int r,.int t]
 |.take h r a b=>.tup [.str "take",.int h,.int r,.tup [.int a,.int b]]
noncomputable def Rw.o(kls:Nat->PySem.Addr):Rw->D
 |.look h r=>.obj 1 (kls 1) [211529960,456806758904562] [.int h,.int r]
 |.sight h r e l=>.obj 2 (kls 2) [211529960,456806758904562,32709062885,213725420] [.int h,.int r,.int e,.int l]
 |.send h r t=>.obj 3 (kls 3) [211529960,456806758904562,14324] [.int h,.int r,.int t]
 |.take h r a b=>.obj 4 (kls 4) [211529960,456806758904562,3944367338220] [.int h,.int r,.tup [.int a,.int b]]
theorem nF{ns:List Int}{k:Int}(hM:Fm M)(hl:ns.length < 1000):aa T (B cls kls fad) (n+2) 14 [.tup (ns.map D.int),.int k] M Q E=Q (.bl (decide ((ns.length:Int)=k))) M:=by
 simp[kD,bX];by_cases h:(ns.length:Int)=k
 ·simp[h,aG];rw[pW (fun _=>.bl true) hM (by rw[List.length_map];omega) (fun d hd M' hM' Q'=>by
   obtain⟨i,_,rfl⟩:=List.mem_map.mp hd;simp[iF])]
  rw[ug (fun _=>true) (fun _ _=>rfl)]
  have:∀l:List Int,(l.all fun _=>true)=true:=fun l=>List.all_eq_true.mpr fun _ _=>rfl
  simp[this]
 ·simp[h]
theorem vN{a b k:Int}(hM:Fm M):aa T (B cls kls fad) (n+2) 14 [.tup [.int a,.int b],.int k] M Q E=Q (.bl (decide (2=k))) M:=nF (ns:=[a,b]) hM (by simp)
theorem EO{a b c k:Int}(hM:Fm M):aa T (B cls kls fad) (n+2) 14 [.tup [.int a,.int b,.int c],.int k] M Q E=Q (.bl (decide (3=k))) M:=nF (ns:=[a,b,c]) hM (by simp)
theorem FN{a b c d k:Int}(hM:Fm M):aa T (B cls kls fad) (n+2) 14 [.tup [.int a,.int b,.int c,.int d],.int k] M Q E=Q (.bl (decide (4=k))) M:=nF (ns:=[a,b,c,d]) hM (by simp)
theorem rB{a b:Int}(hM:Fm M):aa T (B cls kls fad) (n+3) 15 [.tup [.int a,.int b]] M Q E=Q (.bl true) M:=by
 simp[l5,cB,vN hM]
theorem md(r:Rw)(hM:Fm M):aa T (B cls kls fad) (n+4) 16 [r.d] M Q E=Q (r.o kls) M:=by
 cases r with
 |look h r=>simp +decide [cL,aU,Rw.d,Rw.o,whole,HT.sIx,de,vN hM,zg hM,pX,pi,pc]
 |sight h r e l=>simp +decide [cL,aU,Rw.d,Rw.o,whole,HT.sIx,de,FN hM,tS hM,pX,pi,pc,rj]
 |send h r t=>simp +decide [cL,aU,Rw.d,Rw.o,whole,HT.sIx,de,EO hM,vI hM,pX,pi,pc,rj]
 |take h r a b=>simp +decide [cL,aU,Rw.d,Rw.o,whole,HT.sIx,de,vN hM,rB hM,Ad hM,pX,pi,pc,rj]
end
end G
namespace G
open L2
section
variable {cls kls fad:Nat->PySem.Addr}{M:MH}{Q:VK3}{E:XN}{n:Nat}{p q a b d:PySem.Addr}{cks:List (Int×Int)}{wy:List Wy}
noncomputable def Rw.h:Rw->Int
 |.look h _=>h
 |.sight h _ _ _=>h
 |.send h _ _=>h
 |.take h _ _ _=>h
noncomputable def Rw.r:Rw->Int
 |.look _ r=>r
 |.sight _ r _ _=>r
 |.send _ r _=>r
 |.take _ r _ _=>r
variable {r:Rw}
theorem Ac:dU (B cls kls fad) 211529960 (r.o kls) M Q=Q (.int r.h) M:=by
 cases r<;>simp[Rw.o,Rw.h]
theorem yU:dU (B cls kls fad) 456806758904562 (r.o kls) M Q=Q (.int r.r) M:=by
 cases r<;>simp[Rw.o,Rw.r]
theorem uS:ar r.d (.int 1) M Q=Q (.int r.h) M:=by cases r<;>simp[Rw.d,Rw.h]
theorem CY:ar r.d (.int 2) M Q=Q (.int r.r) M:=by cases r<;>simp[Rw.d,Rw.r]
theorem tJ{ks:List Key}{ds:List D}{h c:Int}(hM:M a=some (.dk ks ds))(hz:ks.length < 1000)(hc:(getD ks ds (.inl h)).getD (.int 0)=.int c) :
  aa T (B cls kls fad) (n+1) 17 [.ref a,.int h] M Q E=Q (.tup [.int h,.int c]) (put M a (.dk (am ks (.inl h)) (au ks ds (.inl h) (.int (c+1))))):=by
 have hs:ks.length < PySem.sizeLine:=Nat.lt_of_lt_of_le hz (by decide)
 simp[m6,dh,vE hM,tG hM,hc,qK hM,hs,lH hM,av]
noncomputable def dS(c:Int->Nat)(h:Int):Int->Nat:=fun x=>if x=h then c x+1 else c x
noncomputable def nmF:List Int->(Int->Nat)->List (Int×Nat)
 |[],_=>[]
 |h::hs,c=>(h,c h)::nmF hs (dS c h)
noncomputable def nD(p:Int×Nat):D:=.tup [.int p.1,.int p.2]
theorem qB{ks:List Key}{ds:List D}{c:Int->Nat}{h:Int}(hl:ks.length=ds.length)(hc:∀h,(getD ks ds (.inl h)).getD (.int 0)=.int (c h))(x:Int):(getD (am ks (.inl h)) (au ks ds (.inl h) (.int (c h+1))) (.inl x)).getD (.int 0)=.int (dS c h x):=by
 rw[bM hl];by_cases e:h=x
 ·subst e;simp[dS]
 ·have e2:¬ ((Sum.inl h:Key)=Sum.inl x):=fun z=>e (Sum.inl.inj z)
  rw[if_neg e2,hc x];simp[dS,Ne.symm e]
theorem fh{a b:PySem.Addr}(hab:a≠b){M0:MH}{De:Ends3}{ES:St3->XN}{R:Prop}{log:Option D}{S:MH->Prop}(hS:∀ks ds acc,S (put (put M0 a (.dk ks ds)) b (.lst acc))):∀(rs:List Rw)(ks:List Key)(ds acc:List D)(c:Int->Nat)(x3:Option D),ks.length=ds.length->ks.length+rs.length < 500->acc.length+rs.length < 500->(∀h,(getD ks ds (.inl h)).getD (.int 0)=.int (c h))->
  (∀ks' ds' x,De.nx [log,some (.ref a),some (.ref b),x] (put (put M0 a (.dk ks' ds')) b (.lst (acc++(nmF (rs.map Rw.h) c).map nD)))=R)->
  bW ⟨(B cls kls fad),aa T (B cls kls fad) (n+1)⟩ (.name 3) dF ES S De (rs.map Rw.d) [log,some (.ref a),some (.ref b),x3] (put (put M0 a (.dk ks ds)) b (.lst acc))=R
 |[],ks,ds,acc,c,x3,_,_,_,_,hR=>by
  have:=hR ks ds x3;simp[nmF]at this;simp[bj,this,hS]
 |r::rs,ks,ds,acc,c,x3,hl,h1,h2,hc,hR=>by
  have ha:(put (put M0 a (.dk ks ds)) b (.lst acc)) a=some (.dk ks ds):=by rw[aj hab,ah]
  simp only[List.length_cons]at h1 h2;have hs:acc.length < PySem.sizeLine:=Nat.lt_of_lt_of_le (show acc.length < 1000 by omega) (by decide)
  have ih:=fh hab (M0:=M0) (De:=De) (ES:=ES) (R:=R) (log:=log) hS rs (am ks (.inl r.h)) (au ks ds (.inl r.h) (.int (c r.h+1))) (acc++[nD (r.h,c r.h)]) (dS c r.h) (some r.d) (d8 hl) (by have:=cY (ks:=ks) (k:=(.inl r.h:Key));omega) (by simp;omega) (qB hl hc) (by
    intro ks' ds' x;have:=hR ks' ds' x;simpa [nmF] using this)
  have i1:=fun {M:MH}{Q:VK3}=>uS (M:=M) (Q:=Q) (r:=r)
  rw[List.map_cons,aV];simp[dF,↓i1,tJ (n:=n) ha (by omega) (hc r.h),dX hab,hs,hS]
  simpa [nD,dF] using ih
noncomputable def Lg(M:MH)(x:D)(ds:List D):Prop:=x=.rol ds\/∃p,x=.ref p/\M p=some (.lst ds)
theorem oj{x:D}(rs:List Rw)(hp:Lg M x (rs.map Rw.d))(hl:rs.length < 400)(hM:Fm M):aa T (B cls kls fad) (n+2) 18 [x] M Q E=Q (.rol ((nmF (rs.map Rw.h) fun _=>0).map nD)) M:=by
 simp only[uB,gV];simp;refine iff_of_eq (aL hM fun a ha=>?_)
 simp[av];refine iff_of_eq (aL (hM.put _ _) fun b hb=>?_)
 obtain⟨hab,hb⟩:=cO hb;rcases hp with rfl|⟨p,rfl,hp⟩
 ·rw[so];refine fh (Ne.symm hab) (fun _ _ _=>trivial) rs [] [] [] _ _ rfl (by simp;omega) (by simp;omega) (fun h=>rfl) fun ks' ds' x=>?_
  simp[ha,hb,aj hab]
 ·have pa:p≠a:=fun z=>by rw[z,ha]at hp;cases hp
  have pb:p≠b:=fun z=>by rw[z,hb]at hp;cases hp
  have hw:∀ks ds acc,(put (put M a (.dk ks ds)) b (.lst acc)) p=some (.lst (rs.map Rw.d)):=fun ks ds acc=>by rw[aj pb,aj pa,hp]
  rw[lJ (hw _ _ _)];refine fh (Ne.symm hab) hw rs [] [] [] _ _ rfl (by simp;omega) (by simp;omega) (fun h=>rfl) fun ks' ds' x=>?_
  simp[ha,hb,aj hab]
end
end G
namespace G
open L2
section
variable {r:Rw}{rs:List Rw}{H:Nat}{wy:List Wy}
noncomputable def Rw.s:Rw->PySem.Str
 |.look ..=>"look"
 |.sight ..=>"sight"
 |.send ..=>"send"
 |.take ..=>"take"
noncomputable def Rw.may(wy:List Wy):Rw->Prop
 |.send h _ t=>[h,t]∈wy.map pr
 |.take h _ a _=>[a,h]∈wy.map pr
 |_=>True
structure Rw.fine (H:Nat)(wy:List Wy)(r:Rw):Prop where
 h:okH H r.h=true
 w:r.may wy
 b : -(10 ^ 62)<=r.r/\r.r<=10 ^ 62
structure Ent where
 h:Int
 k:Int
 to:Int
 lo:Int
 hi:Option Int
noncomputable def Ent.d(e:Ent):D:=.tup [.tup [.int e.h,.int e.k],.int e.to,.int e.lo,oi e.hi]
noncomputable abbrev A3:=Int×Int×Int
noncomputable def a3D(a:A3):D:=.tup [.int a.1,.int a.2.1,.int a.2.2]
structure TA (H:Nat)(wy:List Wy)(rs:List Rw)(at_:List A3)(sn:List Ent):Prop where
 f:∀r∈rs,r.fine H wy
 la:at_.length=H
 un:∀e∈sn,[e.h,e.to]∈wy.map pr/\0<=e.to/\e.to < H
 lt:∀e∈sn,∃k:Nat,e.h=k/\e.k < (at_.getD k (0,0,0)).1
 nd:(sn.map fun e=>(e.h,e.k)).Nodup
theorem fH{α:Type}{l:List α}{k j:Nat}{x d:α}(hk:k < l.length):(l.set k x).getD j d=if j=k then x else l.getD j d:=by
 rw[List.getD_eq_getElem?_getD,List.getD_eq_getElem?_getD];by_cases e:j=k
 ·subst e;simp[hk]
 ·rw[List.getElem?_set_ne (Ne.symm e),if_neg e]
theorem TA.plain{at_:List A3}{sn:List Ent}{k:Nat}{v m:Int}(T:TA H wy rs at_ sn)(hk:k < H)(hr:r.fine H wy):TA H wy (rs++[r]) (at_.set k ((at_.getD k (0,0,0)).1+1,v,m)) sn:=by
 have hkl:k < at_.length:=by rw[T.la];exact hk
 refine⟨fun x hx=>?_,by simp[T.la],T.un,fun e he=>?_,T.nd⟩
 ·rcases List.mem_append.mp hx with z|z
  ·exact T.f x z
  ·rw[List.mem_singleton.mp z];exact hr
 ·obtain⟨j,e1,e2⟩:=T.lt e he;refine⟨j,e1,?_⟩;rw[fH hkl];split
  ·rename_i z;rw[z]at e2;simp only;omega
  ·exact e2
theorem TA.send{at_:List A3}{sn:List Ent}{k:Nat}{v m:Int}{e:Ent}(T:TA H wy rs at_ sn)(hk:k < H)(hr:(Rw.send k v e.to).fine H wy)(h0:0<=e.to)(h1:e.to < H)(eh:e.h=k)(ek:e.k=(at_.getD k (0,0,0)).1) :
  TA H wy (rs++[.send k v e.to]) (at_.set k ((at_.getD k (0,0,0)).1+1,v,m)) (sn++[e]):=by
 have hkl:k < at_.length:=by rw[T.la];exact hk
 have P:=T.plain (v:=v) (m:=m) hk hr;refine⟨P.f,P.la,fun x hx=>?_,fun x hx=>?_,?_⟩
 ·rcases List.mem_append.mp hx with z|z
  ·exact P.un x z
  ·rw[List.mem_singleton.mp z];have:[(k:Int),e.to]∈wy.map pr:=hr.w;exact⟨by rw[eh];exact this,h0,h1⟩
 ·rcases List.mem_append.mp hx with z|z
  ·exact P.lt x z
  ·rw[List.mem_singleton.mp z];refine⟨k,eh,?_⟩;rw[fH hkl,if_pos rfl,ek];simp only;omega
 ·rw[List.map_append,List.nodup_append];refine⟨T.nd,by simp,fun p hp q hq z=>?_⟩
  obtain⟨x,hx,rfl⟩:=List.mem_map.mp hp;have hq:q=(e.h,e.k):=by simpa using hq
  subst z;have q1:x.h=e.h:=congrArg Prod.fst hq;have q2:x.k=e.k:=congrArg Prod.snd hq;obtain⟨j,e1,e2⟩:=T.lt x hx;have:j=k:=by omega
  subst this;omega
theorem TA.take{at_:List A3}{sn1 sn2:List Ent}{v m:Int}{e:Ent}{k:Nat}(T:TA H wy rs at_ (sn1++e::sn2))(hk:k < H)(hr:(Rw.take k v e.h e.k).fine H wy) :
  TA H wy (rs++[.take k v e.h e.k]) (at_.set k ((at_.getD k (0,0,0)).1+1,v,m)) (sn1++sn2):=by
 have P:=T.plain (v:=v) (m:=m) hk hr;have sub:∀x∈sn1++sn2,x∈sn1++e::sn2:=fun x hx=>by
  rcases List.mem_append.mp hx with z|z
  ·exact List.mem_append_left _ z
  ·exact List.mem_append_right _ (List.mem_cons_of_mem _ z)
 refine⟨P.f,P.la,fun x hx=>P.un x (sub x hx),fun x hx=>P.lt x (sub x hx),?_⟩
 have nd:=T.nd;rw[List.map_append,List.map_cons,List.nodup_append,List.nodup_cons]at nd;rw[List.map_append,List.nodup_append];exact⟨nd.1,nd.2.1.2,fun p hp q hq=>nd.2.2 p hp q (List.mem_cons_of_mem _ hq)⟩
end
end G
namespace G
open L2
section
variable {cls kls fad:Nat->PySem.Addr}{M:MH}{Q:VK3}{E:XN}{n:Nat}{a:PySem.Addr}
noncomputable def jA:Nat->Int->Int->List Int
 |0,_,_=>[]
 |k+1,lo,x=>(x * x+48271 * x+lo) % 10000000000000000000000000000000000000121::jA k (lo+1) ((x * x+48271 * x+lo) % 10000000000000000000000000000000000000121)
theorem kO:∀(k:Nat)(lo x:Int),(jA k lo x).length=k
 |0,_,_=>rfl
 |k+1,lo,x=>by simp[jA,kO k]
theorem mq{W:WC}{De:Ends3}{ES:St3->XN}{R:Prop}{x0 x1:Option D}:∀(k:Nat)(lo x:Int)(acc:List Int)(x4:Option D),0<=x->x < 100000000000000000000000000000000000000000->acc.length+k < 500->
  (∀y x4,De.nx [x0,x1,some (.ref a),some (.int y),x4] (put M a (.lst ((acc++jA k lo x).map D.int)))=R)->
  bW W (.name 4) bP ES (fun _=>True) De (rng lo k) [x0,x1,some (.ref a),some (.int x),x4] (put M a (.lst (acc.map D.int)))=R
 |0,lo,x,acc,x4,_,_,_,hR=>by
  have:=hR x x4;simp[jA]at this;simp[rng,bj,this]
 |k+1,lo,x,acc,x4,h0,h1,hl,hR=>by
  have c1:bV x x=True:=dR (by omega) (by omega) (by omega) (by omega)
  have c2:bV 48271 x=True:=dR (by omega) (by omega) (by omega) (by omega)
  have hs:acc.length < PySem.sizeLine:=Nat.lt_of_lt_of_le (show acc.length < 1000 by omega) (by decide)
  have ih:=mq (W:=W) (De:=De) (ES:=ES) (R:=R) (x0:=x0) (x1:=x1) k (lo+1) ((x * x+48271 * x+lo) % 10000000000000000000000000000000000000121) (acc++[(x * x+48271 * x+lo) % 10000000000000000000000000000000000000121]) (some (.int lo)) (Int.emod_nonneg _ (by decide)) (Int.lt_trans (Int.emod_lt_of_pos _ (by decide)) (by decide)) (by simp;omega) (fun y x4=>by
   have:=hR y x4;simpa [jA] using this)
  rw[jk,aV];simp only[bP]at ih ⊢;simp[c1,c2,gO,hs];simpa using ih
noncomputable def aQ(c:Int)(m:Nat):List Int:=(jA (m+4) 0 (c % 10000000000000000000000000000000000000121+48271)).drop 4
theorem cq{c:Int}{m:Nat}:(aQ c m).length=m:=by simp[aQ,kO]
theorem fE{c:Int}{m:Nat}(hM:Fm M)(hm:m < 100):aa T (B cls kls fad) (n+1) 33 [.int c,.int (m:Nat)] M Q E=Q (.rol ((aQ c m).map D.int)) M:=by
 have h0:0<=c % 10000000000000000000000000000000000000121:=Int.emod_nonneg _ (by decide)
 have h1:c % 10000000000000000000000000000000000000121 < 10000000000000000000000000000000000000121:=Int.emod_lt_of_pos _ (by decide)
 have hb:(m:Int)+4 < 4611686018427387904:=by omega
 have hb2 : -4611686018427387904<=(m:Int)+4:=by omega
 simp only[ko,b8];simp;refine iff_of_eq (aL hM fun p hp=>?_)
 simp[gO,hb,hb2];rw[show ((m:Int)+4).toNat=m+4 by omega]
 refine iff_of_eq (mq (M:=M) (m+4) 0 _ [] none (by omega) (by omega) (by simp;omega) fun y x4=>?_)
 have ln:(jA (m+4) 0 (c % 10000000000000000000000000000000000000121+48271)).length=m+4:=kO _ _ _;have ec:de ((jA (m+4) 0 (c % 10000000000000000000000000000000000000121+48271)).map D.int) (some 4) none=(aQ c m).map D.int:=by
  unfold de aQ;have e4:HT.sIx ((jA (m+4) 0 (c % 10000000000000000000000000000000000000121+48271)).map D.int).length 0 (some 4)=4:=by
   rw[show (4:Int)=((4:Nat):Int) from rfl,HT.sIx_nat,List.length_map,ln];omega
  rw[e4,HT.sIx_none,List.length_map,ln,<-List.map_drop,<-List.map_take,List.take_of_length_le (by rw[List.length_drop,ln];omega)]
 have hz:(aQ c m).length<=PySem.sizeLine:=by rw[cq,PySem.sizeLine_eq];omega
 simp[lD,ak,ah,eV,ec,hz,iD hp]
end
end G
namespace G
open L2
section
variable {cls kls fad:Nat->PySem.Addr}{M:MH}{Q:VK3}{E:XN}{n:Nat}{a:PySem.Addr}
theorem nY(a b c:Int)(i:Int)(h0:0<=i)(h3:i < 3):∃x:Int,(x=a\/x=b\/x=c)/\∀{M:MH}{Q:VK3},ar (.rol [.int a,.int b,.int c]) (.int i) M Q=Q (.int x) M:=by
 have:i=0\/i=1\/i=2:=by omega
 rcases this with rfl|rfl|rfl
 ·exact⟨a,.inl rfl,by intro M Q;simp⟩
 ·exact⟨b,.inr (.inl rfl),by intro M Q;simp⟩
 ·exact⟨c,.inr (.inr rfl),by intro M Q;simp⟩
theorem aJ{l:List Int}{k:Nat}(h:k < l.length):ar (.rol (l.map D.int)) (.int (k:Nat)) M Q=Q (.int (l.getD k 0)) M:=by
 have e:(l.map D.int)[k]?=some (.int (l.getD k 0)):=by
  rw[List.getElem?_map,List.getElem?_eq_getElem h,List.getD_eq_getElem?_getD,List.getElem?_eq_getElem h];rfl
 exact jQ (cK e)
theorem Cw{xs:List Int}{size:Int}(hl:3<=xs.length)(h0:1<=size)(h1:size<=10 ^ 30):∃(l:Int)(m:Option Int),kI l m=false/\l<=10 ^ 30/\(∀y,m=some y->y<=2 * 10 ^ 30)/\∀{n:Nat}{M:MH}{Q:VK3}{E:XN},aa T (B cls kls fad) (n+1) 34 [.rol (xs.map D.int),.int size] M Q E=Q (way l m) M:=by
 have i0:∀{M:MH}{Q:VK3},ar (.rol (xs.map D.int)) (.int 0) M Q=Q (.int (xs.getD 0 0)) M:=fun {M Q}=>aJ (k:=0) (by omega)
 have i1:∀{M:MH}{Q:VK3},ar (.rol (xs.map D.int)) (.int 1) M Q=Q (.int (xs.getD 1 0)) M:=fun {M Q}=>aJ (k:=1) (by omega)
 have i2:∀{M:MH}{Q:VK3},ar (.rol (xs.map D.int)) (.int 2) M Q=Q (.int (xs.getD 2 0)) M:=fun {M Q}=>aJ (k:=2) (by omega)
 generalize xs.getD 0 0=x0 at i0;generalize xs.getD 1 0=x1 at i1;generalize xs.getD 2 0=x2 at i2;have z:¬ size=0:=by omega
 have zp:0 < size:=by omega
 have m0:=Int.emod_nonneg x0 z;have m1:=Int.emod_lt_of_pos x0 zp;have m2:=Int.emod_nonneg x2 z;have m3:=Int.emod_lt_of_pos x2 zp;obtain⟨l,hl1,hlx⟩:=nY 0 1 (x0 % size) (x1 % 3) (by omega) (by omega)
 obtain⟨g,hg1,hgx⟩:=nY 0 1 (x2 % size) (x1 / 12 % 3) (by omega) (by omega)
 have l0:0<=l/\l<=10 ^ 30:=by omega
 have g0:0<=g/\g<=10 ^ 30:=by omega
 by_cases h:x1 / 3 % 4=0
 ·refine⟨l,none,by simp[kI,l0.1],l0.2,(fun y e=>by cases e),?_⟩
  intro n M Q E;simp only[jI,cX];simp[↓i0,↓i1,↓i2,z,zp,↓hlx,cC,h,way,oi,av]
 ·refine⟨l,some (l+g),by simp[kI];omega,l0.2,(fun y e=>by cases e;omega),?_⟩
  intro n M Q E;simp only[jI,cX];simp[↓i0,↓i1,↓i2,z,zp,↓hlx,↓hgx,cC,h,way,oi,av]
end
end G
namespace G
open L2
section
variable {cls kls fad:Nat->PySem.Addr}{M:MH}{Q:VK3}{E:XN}{n:Nat}
theorem oA(a b c d:Int)(i:Int)(h0:0<=i)(h3:i < 4):∃x:Int,(x=a\/x=b\/x=c\/x=d)/\∀{M:MH}{Q:VK3},ar (.rol [.int a,.int b,.int c,.int d]) (.int i) M Q=Q (.int x) M:=by
 have:i=0\/i=1\/i=2\/i=3:=by omega
 rcases this with rfl|rfl|rfl|rfl
 ·exact⟨a,.inl rfl,by intro M Q;simp⟩
 ·exact⟨b,.inr (.inl rfl),by intro M Q;simp⟩
 ·exact⟨c,.inr (.inr (.inl rfl)),by intro M Q;simp⟩
 ·exact⟨d,.inr (.inr (.inr rfl)),by intro M Q;simp⟩
noncomputable def eB(c1 mo t0:Int)(lo:Option Int):Int:=match lo with
 |some l=>if mo+c1 * t0 < l then (l - mo+c1 - 1) / c1 else t0
 |none=>t0
noncomputable def gL(c0 mo t:Int)(lo:Option Int):Int:=match lo with
 |some l=>if mo+c0 * t < l then l else mo+c0 * t
 |none=>mo+c0 * t
noncomputable def gQ(c1 mo t:Int)(hi:Option Int):Int:=match hi with
 |some l=>if l < mo+c1 * t then l else mo+c1 * t
 |none=>mo+c1 * t
noncomputable def inB(B:Int)(o:Option Int):Prop:=∀y,o=some y->-B<=y/\y<=B
theorem AX{c1 mo t0 B:Int}{lo:Option Int}(h1:1<=c1)(h2:c1<=10 ^ 31)(t1:0<=t0)(t2:t0<=10 ^ 12)(b1:10 ^ 43<=B)(m1 : -B<=mo)(m2:mo<=B)(hl:inB B lo) :
  0<=eB c1 mo t0 lo/\c1 * eB c1 mo t0 lo<=3 * B/\eB c1 mo t0 lo<=3 * B:=by
 have p0:c1 * t0<=10 ^ 31 * 10 ^ 12:=Int.mul_le_mul h2 t2 t1 (by omega)
 have base:0<=t0/\c1 * t0<=3 * B/\t0<=3 * B:=⟨t1,by omega,by omega⟩
 cases lo with
 |none=>exact base
 |some l=>
  obtain⟨l1,l2⟩:=hl l rfl;unfold eB;simp only;split
  ·rename_i hlt;have hp:0<=c1 * t0:=Int.mul_nonneg (by omega) t1
   have q0:0<=(l - mo+c1 - 1) / c1:=Int.ediv_nonneg (by omega) (by omega)
   have q1:c1 * ((l - mo+c1 - 1) / c1)<=l - mo+c1 - 1:=Int.mul_ediv_self_le (by omega)
   have q2:(l - mo+c1 - 1) / c1<=c1 * ((l - mo+c1 - 1) / c1):=by
    have:=Int.mul_le_mul_of_nonneg_right h1 q0;omega
   exact⟨q0,by omega,by omega⟩
  ·exact base
theorem CJ{c0 c1 mo t B:Int}{lo hi:Option Int}(h0:1<=c0)(h1:c0<=c1)(t0:0<=t)(ht:c1 * t<=3 * B)(m1 : -B<=mo)(m2:mo<=B)(hl:inB B lo)(hh:inB B hi) :
  (-B<=gL c0 mo t lo/\gL c0 mo t lo<=4 * B)/\(-B<=gQ c1 mo t hi/\gQ c1 mo t hi<=4 * B)/\(lo=none->hi=none->gL c0 mo t lo<=gQ c1 mo t hi):=by
 have p0:0<=c0 * t:=Int.mul_nonneg (by omega) t0
 have p1:c0 * t<=c1 * t:=Int.mul_le_mul_of_nonneg_right h1 t0;refine⟨?_,?_,fun e1 e2=>?_⟩
 ·cases lo with
  |none=>unfold gL;simp only;omega
  |some l=>obtain⟨l1,l2⟩:=hl l rfl;unfold gL;simp only;split<;>omega
 ·cases hi with
  |none=>unfold gQ;simp only;omega
  |some l=>obtain⟨l1,l2⟩:=hh l rfl;unfold gQ;simp only;split<;>omega
 ·subst e1 e2;unfold gL gQ;simp only;omega
theorem DJ{c0 c1 cnt rd mo B:Int}{xs:List Int}{lo hi:Option Int}(hx:3<=xs.length)(h0:1<=c0)(h1:c0<=c1)(h2:c1<=10 ^ 31)(b1:10 ^ 43<=B)(b2:B<=10 ^ 60)(m1 : -B<=mo)(m2:mo<=B)(hl:inB B lo)(hh:inB B hi) :
  ∃t f l:Int,0<=t/\t<=3 * B/\(-B<=f/\f<=4 * B)/\(-B<=l/\l<=4 * B)/\(lo=none->hi=none->f<=l)/\∀{n:Nat}{M:MH}{Q:VK3}{E:XN},aa T (G.B cls kls fad) (n+1) 37 [.tup [.int c0,.int c1],.tup [.int cnt,.int rd,.int mo],.rol (xs.map D.int),oi lo,oi hi] M Q E=Q (.tup [.int t,.int f,.int l]) M:=by
 have i1:∀{M:MH}{Q:VK3},ar (.rol (xs.map D.int)) (.int 1) M Q=Q (.int (xs.getD 1 0)) M:=fun {M Q}=>aJ (k:=1) (by omega)
 have i2:∀{M:MH}{Q:VK3},ar (.rol (xs.map D.int)) (.int 2) M Q=Q (.int (xs.getD 2 0)) M:=fun {M Q}=>aJ (k:=2) (by omega)
 generalize xs.getD 1 0=x1 at i1;generalize xs.getD 2 0=x2 at i2;obtain⟨t0,ht0,htx⟩:=oA 0 1 (x1 % 5) (x1 % 1000000000000) (x2 % 4) (by omega) (by omega)
 have t1:0<=t0/\t0<=10 ^ 12:=by omega
 obtain⟨a1,a2,a3⟩:=AX (lo:=lo) (c1:=c1) (mo:=mo) (t0:=t0) (B:=B) (by omega) h2 t1.1 t1.2 b1 m1 m2 hl
 obtain⟨d1,d2,d3⟩:=CJ (c0:=c0) (hi:=hi) h0 h1 a1 a2 m1 m2 hl hh;refine⟨_,_,_,a1,a3,d1,d2,d3,?_⟩;intro n M Q E;have k0:bV c1 t0=True:=dR (by omega) (by omega) (by omega) (by omega)
 have k1:bV c0 (eB c1 mo t0 lo)=True:=dR (by omega) (by omega) (by omega) (by omega)
 have k2:bV c1 (eB c1 mo t0 lo)=True:=dR (by omega) (by omega) (by omega) (by omega)
 have z:¬ c1=0:=by omega
 have zp:0 < c1:=by omega
 simp only[pI,ei];cases lo with
 |none=>
  cases hi with
  |none=>
   simp only[eB]at k1 k2;simp[↓i1,↓i2,↓htx,gO,k1,k2,oi,D.isN,eB,gL,gQ,av]
  |some y=>
   simp only[eB]at k1 k2;by_cases hy:y < mo+c1 * t0<;>simp[↓i1,↓i2,↓htx,gO,k1,k2,hy,oi,D.isN,eB,gL,gQ,av]
 |some l=>
  by_cases hlt:mo+c1 * t0 < l
  ·simp only[eB,if_pos hlt]at k1 k2;obtain⟨l1,l2⟩:=hl l rfl;have kd:jS (l - mo+c1 - 1) c1=True:=cC zp (by omega)
   cases hi with
   |none=>simp[↓i1,↓i2,↓htx,gO,k0,k1,k2,kd,hlt,z,zp,oi,D.isN,eB,gL,gQ,av]
   |some y=>by_cases hy:y < mo+c1 * ((l - mo+c1 - 1) / c1)<;>simp[↓i1,↓i2,↓htx,gO,k0,k1,k2,kd,hy,hlt,z,zp,oi,D.isN,eB,gL,gQ,av]
  ·simp only[eB,if_neg hlt]at k1 k2;cases hi with
   |none=>simp[↓i1,↓i2,↓htx,gO,k0,k1,k2,hlt,oi,D.isN,eB,gL,gQ,av]
   |some y=>by_cases hy:y < mo+c1 * t0<;>simp[↓i1,↓i2,↓htx,gO,k0,k1,k2,hy,hlt,oi,D.isN,eB,gL,gQ,av]
end
end G
namespace G
open L2
section
variable {cls kls fad:Nat->PySem.Addr}{M:MH}{Q:VK3}{E:XN}{n:Nat}{wy:List Wy}{cks:List (Int×Int)}
theorem vd{l:List Int}{i:Int}(h0:0<=i)(h1:i < l.length):∃x∈l,∀{M:MH}{Q:VK3},ar (.rol (l.map D.int)) (.int i) M Q=Q (.int x) M:=by
 obtain⟨k,rfl⟩:=Int.eq_ofNat_of_zero_le h0;have hk:k < l.length:=by omega
 exact⟨l.getD k 0,by rw[List.getD_eq_getElem?_getD,List.getElem?_eq_getElem hk];exact List.getElem_mem hk,aJ hk⟩
structure WS (H:Nat)(i j:Nat)(wy:List Wy):Prop where
 nd:(wy.map pr).Nodup
 gd:∀w∈wy,w.good H
 sm:∀w∈wy,w.l<=10 ^ 30/\∀y,w.m=some y->y<=2 * 10 ^ 30
 lo:∀w∈wy,w.i < i\/(w.i=i/\w.j < j)
theorem WS.skip{H i j:Nat}(W:WS H i j wy):WS H i (j+1) wy:=⟨W.nd,W.gd,W.sm,fun w hw=>by rcases W.lo w hw with h|h;exact .inl h;exact .inr ⟨h.1,by omega⟩⟩
theorem WS.row{H i j:Nat}(W:WS H i j wy):WS H (i+1) 0 wy:=⟨W.nd,W.gd,W.sm,fun w hw=>.inl (by have:=W.lo w hw;omega)⟩
theorem WS.new{H i j:Nat}(W:WS H i j wy)(hi:i < H)(hj:j < H)(hij:i≠j){l:Int}{m:Option Int}(hl:kI l m=false)(hs:l<=10 ^ 30/\∀y,m=some y->y<=2 * 10 ^ 30):WS H i (j+1) (wy++[⟨i,j,l,m⟩])/\[(i:Int),(j:Int)]∉wy.map pr:=by
 have hn:[(i:Int),(j:Int)]∉wy.map pr:=fun z=>by
  obtain⟨w,hw,e⟩:=List.mem_map.mp z;simp only[pr,List.cons.injEq,and_true]at e;rcases W.lo w hw with h|h<;>omega
 have al:∀{P:Wy->Prop},(∀w∈wy,P w)->P ⟨i,j,l,m⟩->∀w∈wy++[⟨i,j,l,m⟩],P w:=fun h1 h2 w hw=>by
  rcases List.mem_append.mp hw with h|h
  ·exact h1 w h
  ·obtain rfl:=List.mem_singleton.mp h;exact h2
 refine⟨⟨?_,al W.gd ⟨by simp[okH,hi],by simp[okH,hj],fun z=>hij (by have:(i:Int)=j:=z;omega),hl⟩,al W.sm hs,al (fun w hw=>?_) (.inr ⟨rfl,by simp;omega⟩)⟩,hn⟩
 ·rw[List.map_append,List.nodup_append];refine⟨W.nd,by simp,fun a ha b hb=>?_⟩
  simp only[List.map_cons,List.map_nil,List.mem_singleton]at hb;subst hb;exact fun z=>hn (by have:a=[(i:Int),(j:Int)]:=z;rw[<-this];exact ha)
 ·have:=W.lo w hw;omega
theorem lM{b:PySem.Addr}{ks:List (List Int)}{ds:List D}{i j:Int}{y:D}{R:MH->Prop}(h:M b=some (.dt ks ds))(hz:ks.length < 1000):bc (.ref b) (.tup [.int i,.int j]) y M R=R (put M b (.dt (am ks [i,j]) (au ks ds [i,j] y))):=by
 have hs:ks.length < PySem.sizeLine:=Nat.lt_of_lt_of_le hz (by decide)
 simp[bc,h,jy,dY,hs]
theorem mD{H one:Nat}{size c:Int}{M0:MH}(hM0:Fm M0)(s0:1<=size)(s1:size<=10 ^ 30)(hH:H<=6)(ho:one < H){a b:PySem.Addr}{cl:List D}{De:Ends3}{ES:St3->XN}{y1 y2 y7:Option D}:∀(k j:Nat)(wy:List Wy)(x8 x9:Option D),j+k=H->wy.length+k < 400->WS H one j wy->
  (∀(wy':List Wy) x8 x9,wy'.length<=wy.length+k->WS H (one+1) 0 wy'->De.nx [some (.int c),y1,y2,some (.int size),some (.ref a),some (.ref b),some (.int one),y7,x8,x9] (put (put M0 a (.lst cl)) b (.dt (wy'.map pr) (wy'.map wv))))->
  bW ⟨(B cls kls fad),aa T (B cls kls fad) (n+1)⟩ (.name 8) bu ES (fun _=>True) De (rng j k) [some (.int c),y1,y2,some (.int size),some (.ref a),some (.ref b),some (.int one),y7,x8,x9] (put (put M0 a (.lst cl)) b (.dt (wy.map pr) (wy.map wv)))
 |0,j,wy,x8,x9,h1,h2,hW,hR=>by
  show bW _ _ _ _ _ _ [] _ _;rw[bj];exact⟨trivial,hR wy _ _ (by omega) hW.row⟩
 |k+1,j,wy,x8,x9,h1,h2,hW,hR=>by
  have fm:Fm (put (put M0 a (.lst cl)) b (.dt (wy.map pr) (wy.map wv))):=(hM0.put _ _).put _ _;have st:∀{Q:VK3}{E:XN},aa T (B cls kls fad) (n+1) 33 [.int (c+7 * (one:Int)+43 * (j:Int)+1),.int 4] (put (put M0 a (.lst cl)) b (.dt (wy.map pr) (wy.map wv))) Q E=Q (.rol ((aQ (c+7 * (one:Int)+43 * (j:Int)+1) 4).map D.int)) (put (put M0 a (.lst cl)) b (.dt (wy.map pr) (wy.map wv))):=fun {Q E}=>fE (m:=4) fm (by omega)
  have hl:(aQ (c+7 * (one:Int)+43 * (j:Int)+1) 4).length=4:=cq;generalize aQ (c+7 * (one:Int)+43 * (j:Int)+1) 4=ys at st hl;have i3:∀{M:MH}{Q:VK3},ar (.rol (ys.map D.int)) (.int 3) M Q=Q (.int (ys.getD 3 0)) M:=fun {M Q}=>aJ (k:=3) (by omega)
  generalize ys.getD 3 0=y at i3;obtain⟨l,m,hb,b1,b2,cw⟩:=Cw (cls:=cls) (kls:=kls) (fad:=fad) (xs:=ys) (by omega) s0 s1
  have cw':∀{M:MH}{Q:VK3}{E:XN},aa T (B cls kls fad) (n+1) 34 [.rol (ys.map D.int),.int size] M Q E=Q (way l m) M:=cw;have c7:bV 7 (one:Int)=True:=dR (by decide) (by decide) (by omega) (by omega)
  have c8:bV 43 (j:Int)=True:=dR (by decide) (by decide) (by omega) (by omega)
  rw[jk,aV];refine⟨trivial,?_⟩;have nx:=fun (wy':List Wy) (hw:wy'.length<=wy.length+1) (hW':WS H one (j+1) wy') (x8 x9:Option D)=>mD hM0 s0 s1 hH ho (c:=c) (a:=a) (b:=b) (cl:=cl) (De:=De) (ES:=ES) (y1:=y1) (y2:=y2) (y7:=y7) k (j+1) wy' x8 x9 (by omega) (by omega) hW' (fun w2 a b hw2 hW2=>hR w2 a b (by omega) hW2)
  push_cast at nx
  generalize bW ⟨(B cls kls fad),aa T (B cls kls fad) (n+1)⟩ (.name 8) bu ES (fun _=>True) De (rng ((j:Int)+1) k)=K at nx ⊢
  simp only[bu];by_cases c1:one=j
  ·subst c1;simp[c7,c8,↓st];exact nx wy (by omega) hW.skip _ _
  ·have c1':¬ (one:Int)=(j:Int):=fun z=>c1 (by omega)
   by_cases c2:0 < y % 6
   ·obtain⟨hW2,hin⟩:=hW.new ho (by omega) c1 hb ⟨b1,b2⟩
    have go:∀{R:MH->Prop},bc (.ref b) (.tup [.int one,.int j]) (way l m) (put (put M0 a (.lst cl)) b (.dt (wy.map pr) (wy.map wv))) R=R (put (put M0 a (.lst cl)) b (.dt ((wy++[(⟨one,j,l,m⟩:Wy)]).map pr) ((wy++[(⟨one,j,l,m⟩:Wy)]).map wv))):=fun {R}=>by
     rw[lM ah (by simp;omega),i8 hin,jb (by simp) hin,cN]
     simp[pr,wv]
    simp[c7,c8,↓st,c1',↓i3,c2,↓cw',av,↓go];have:=nx (wy++[⟨one,j,l,m⟩]) (by simp) hW2 (some (.int j)) (some (.rol (ys.map D.int)))
    rw[List.map_append,List.map_append]at this;exact this
   ·simp[c7,c8,↓st,c1',↓i3,c2];exact nx wy (by omega) hW.skip _ _
theorem j9{xs:List Int}{c size:Int}{M0:MH}(hM0:Fm M0)(hl:xs.length=8)(s0:1<=size)(s1:size<=10 ^ 30){H:Nat}(hH:H<=6){a b:PySem.Addr}(hab:a≠b){De:Ends3}{ES:St3->XN}:∀(k j:Nat) (cks:List (Int×Int)) (wy:List Wy)(x6 x7 x8 x9:Option D),j+k=H->cks.length=j->wy.length<=j * 6->(∀c∈cks,ku c=false/\c.2<=10 ^ 31)->WS H j 0 wy->
  (∀(cks':List (Int×Int)) (wy':List Wy) x6 x7 x8 x9,cks'.length=H->wy'.length<=36->(∀c∈cks',ku c=false/\c.2<=10 ^ 31)->WS H H 0 wy'->De.nx [some (.int c),some (.rol (xs.map D.int)),some (.int H),some (.int size),some (.ref a),some (.ref b),x6,x7,x8,x9] (put (put M0 a (.lst (cks'.map cD))) b (.dt (wy'.map pr) (wy'.map wv))))->
  bW ⟨(B cls kls fad),aa T (B cls kls fad) (n+1)⟩ (.name 6) bz ES (fun _=>True) De (rng j k) [some (.int c),some (.rol (xs.map D.int)),some (.int H),some (.int size),some (.ref a),some (.ref b),x6,x7,x8,x9] (put (put M0 a (.lst (cks.map cD))) b (.dt (wy.map pr) (wy.map wv)))
 |0,j,cks,wy,x6,x7,x8,x9,h1,h2,h3,hc,hW,hR=>by
  show bW _ _ _ _ _ _ [] _ _;rw[bj];have e:j=H:=by omega
  subst e;exact⟨trivial,hR cks wy _ _ _ _ h2 (by omega) hc hW⟩
 |k+1,j,cks,wy,x6,x7,x8,x9,h1,h2,h3,hc,hW,hR=>by
  have i2:∀{M:MH}{Q:VK3},ar (.rol (xs.map D.int)) (.int (2+(j:Int))) M Q=Q (.int (xs.getD (2+j) 0)) M:=fun {M Q}=>by
   have:=aJ (M:=M) (Q:=Q) (l:=xs) (k:=2+j) (by omega)
   push_cast at this
   exact this
  have i7:∀{M:MH}{Q:VK3},ar (.rol (xs.map D.int)) (.int (7 - (j:Int))) M Q=Q (.int (xs.getD (7 - j) 0)) M:=fun {M Q}=>by
   rw[show (7 - (j:Int))=((7 - j:Nat):Int) by omega]
   exact aJ (by omega)
  generalize xs.getD (2+j) 0=x at i2;generalize xs.getD (7 - j) 0=y at i7;have z:¬ size=0:=by omega
  have zp:0 < size:=by omega
  have q0:=Int.emod_nonneg (x / 3) z;have q1:=Int.emod_lt_of_pos (x / 3) zp;have q2:=Int.emod_nonneg y z;have q3:=Int.emod_lt_of_pos y zp;obtain⟨g,hg,gx⟩:=nY 0 1 (y % size) (x % 3) (by omega) (by omega)
  have hs:cks.length < PySem.sizeLine:=Nat.lt_of_lt_of_le (show cks.length < 1000 by omega) (by decide)
  have ha:(put (put M0 a (.lst (cks.map cD))) b (.dt (wy.map pr) (wy.map wv))) a=some (.lst (cks.map cD)):=by rw[aj hab,ah]
  have hb4:(H:Int) < 4611686018427387904:=by omega
  have happ:∀{e:IE}{De':Ends3}{E':XN}{σ:St3}{W:WC},mJ W e De' E' σ (.ref a) (put (put M0 a (.lst (cks.map cD))) b (.dt (wy.map pr) (wy.map wv)))=wpE W e σ (put (put M0 a (.lst (cks.map cD))) b (.dt (wy.map pr) (wy.map wv))) (cj a De' σ) E':=by
   intro e De' E' σ W;simp[mJ,ha];exact Iff.rfl
  have happ2:∀{y:D}{De':Ends3}{σ:St3},cj a De' σ y (put (put M0 a (.lst (cks.map cD))) b (.dt (wy.map pr) (wy.map wv)))=(cks.length < PySem.sizeLine/\De'.nx σ (put (put M0 a (.lst (cks.map cD++[y]))) b (.dt (wy.map pr) (wy.map wv)))):=by
   intro y De' σ;simp[cj,ha,dX hab]
  rw[jk,aV];refine⟨trivial,?_⟩;have nx:=fun (wy':List Wy) (hw:wy'.length<=(j+1) * 6) (hW':WS H (j+1) 0 wy') (x8 x9:Option D)=>j9 (c:=c) hM0 hl s0 s1 hH hab (De:=De) (ES:=ES) k (j+1) (cks++[(1+x / 3 % size,1+x / 3 % size+g)]) wy' (some (.int j)) (some (.int (1+x / 3 % size))) x8 x9 (by omega) (by simp;omega) hw (fun c hc'=>by
   rcases List.mem_append.mp hc' with h|h
   ·exact hc c h
   ·obtain rfl:=List.mem_singleton.mp h;exact⟨by simp[ku];omega,by simp only;omega⟩) hW' hR
  push_cast at nx
  generalize bW ⟨(B cls kls fad),aa T (B cls kls fad) (n+1)⟩ (.name 6) bz ES (fun _=>True) De (rng ((j:Int)+1) k)=K at nx ⊢
  simp only[bz];simp[↓i2,↓i7,↓gx,z,zp,cC,↓happ,↓happ2,av,hs,hb4];have key:=mD (cls:=cls) (kls:=kls) (fad:=fad) (n:=n) (c:=c) hM0 s0 s1 hH (one:=j) (by omega) (a:=a) (b:=b) (cl:=(cks++[(1+x / 3 % size,1+x / 3 % size+g)]).map cD) (De:={De with nx:=K,ct:=K,bk:=De.nx}) (ES:=ES) (y1:=some (.rol (xs.map D.int))) (y2:=some (.int H)) (y7:=some (.int (1+x / 3 % size))) H 0 wy x8 x9 (by omega) (by omega) hW (fun wy' x8 x9 hw hW2=>nx wy' (by omega) hW2 _ _)
  simpa [cD] using key
structure GW (cks:List (Int×Int)) (wy:List Wy):Prop where
 l1:1<=cks.length
 l6:cks.length<=6
 w36:wy.length<=36
 ck:∀c∈cks,ku c=false/\c.2<=10 ^ 31
 nd:(wy.map pr).Nodup
 gd:∀w∈wy,w.good cks.length
 sm:∀w∈wy,w.l<=10 ^ 30/\∀y,w.m=some y->y<=2 * 10 ^ 30
theorem sR{c:Int}(hM:Fm M)(h:∀(cks:List (Int×Int)) (wy:List Wy),GW cks wy->Q (.tup [.rol (cks.map cD),.dit (wy.map pr) (wy.map wv)]) M):aa T (B cls kls fad) (n+2) 35 [.int c] M Q E:=by
 have st:∀{M:MH}{Q:VK3}{E:XN},Fm M->aa T (B cls kls fad) (n+1) 33 [.int c,.int 8] M Q E=Q (.rol ((aQ c 8).map D.int)) M:=fun {M Q E} fm=>fE (m:=8) fm (by omega)
 have hl:(aQ c 8).length=8:=cq;generalize aQ c 8=xs at st hl;have i0:∀{M:MH}{Q:VK3},ar (.rol (xs.map D.int)) (.int 0) M Q=Q (.int (xs.getD 0 0)) M:=fun {M Q}=>aJ (k:=0) (by omega)
 have i1:∀{M:MH}{Q:VK3},ar (.rol (xs.map D.int)) (.int 1) M Q=Q (.int (xs.getD 1 0)) M:=fun {M Q}=>aJ (k:=1) (by omega)
 generalize xs.getD 0 0=x0 at i0;generalize xs.getD 1 0=x1 at i1;obtain⟨H0,hH0,hx⟩:=vd (l:=[1,2,2,3,3,4,5,6]) (i:=x0 % 8) (by omega) (by simp;omega)
 have hx':∀{M:MH}{Q:VK3},ar (.rol [.int 1,.int 2,.int 2,.int 3,.int 3,.int 4,.int 5,.int 6]) (.int (x0 % 8)) M Q=Q (.int H0) M:=hx;obtain⟨size,hz0,hz⟩:=oA 3 100 1000000000 1000000000000000000000000000000 (x1 % 4) (by omega) (by omega)
 have hH1:1<=H0/\H0<=6:=by simp at hH0;omega
 obtain⟨H,rfl⟩:∃H:Nat,H0=H:=⟨H0.toNat,by omega⟩
 have hH6:H<=6:=by omega
 have hb4:(H:Int) < 4611686018427387904:=by omega
 simp only[lQ,cM];simp[st hM,↓i0,↓i1,↓hx',↓hz,gO,av,hb4];intro a ha b hb;obtain⟨hba,hb⟩:=cO hb;refine j9 hM hl (by omega) (by omega) hH6 (Ne.symm hba) H 0 [] [] none none none none (by omega) rfl (by simp) (fun c hc=>by cases hc) ⟨by simp,fun w hw=>(by cases hw),fun w hw=>(by cases hw),fun w hw=>(by cases hw)⟩ (fun cks wy x6 x7 x8 x9 l1 l2 l3 l4=>?_)
 have e1:(put (put M a (.lst (cks.map cD))) b (.dt (wy.map pr) (wy.map wv))) a=some (.lst (cks.map cD)):=by rw[aj (Ne.symm hba),ah]
 simp[aZ,e1,sH ha hba,ah,fL hb,av];exact h cks wy ⟨by omega,by omega,l2,l3,l4.nd,by rw[l1];exact l4.gd,l4.sm⟩
noncomputable def As:D->D
 |.tup [.tup a,.tup b]=>.tup (a++b)
 |_=>.non
theorem xT(G:GW cks wy)(hM:Fm M):aa T (B cls kls fad) (n+7) 36 [.tup [.rol (cks.map cD),.dit (wy.map pr) (wy.map wv)]] M Q E=Q (wO kls cks wy) M:=by
 have hz:cks.length<=PySem.sizeLine:=Nat.le_trans (show cks.length<=1000 by have:=G.l6;omega) (by decide)
 have cm:∀{W:WC}{Q:VK3},gF W (.tup [0,1]) .no (.bin .Add (.var 0) (.var 1)) (fun _=>True) Q (cy (wy.map pr) (wy.map wv)) [none,none] M=Q (.rol (wy.map wD)) M:=fun {W Q}=>by
  rw[et (fun σ=>∃a b,σ=[a,b]) (fun d=>match d with
   |.tup [a,b]=>[some a,some b]
   |_=>[]) (fun _=>true) As ⟨_,_,rfl⟩ hM (by
    have:=G.w36;simp[cy];omega) (fun d hd=>by
    obtain⟨⟨a,b⟩,hp,rfl⟩:=List.mem_map.mp hd;refine⟨⟨_,_,rfl⟩,fun σ ⟨a,b,e⟩ M k=>?_⟩
    subst e;simp[wpG]) (fun d hd M' hE Q=>rfl) (fun d hd _ M' hE Q=>by
    obtain⟨⟨a,b⟩,hp,rfl⟩:=List.mem_map.mp hd;obtain⟨h1,h2⟩:=List.of_mem_zip hp;obtain⟨w,_,rfl⟩:=List.mem_map.mp h1;obtain⟨v,_,rfl⟩:=List.mem_map.mp h2;simp[As,pr,wv,way,av])]
  have ef:((cy (wy.map pr) (wy.map wv)).filter fun _=>true).map As=wy.map wD:=by
   rw[List.filter_eq_self.mpr (fun _ _=>rfl)]
   unfold cy;rw[List.zip_map',List.map_map,List.map_map];rfl
  rw[ef]
 simp only[nJ,dm];simp[aG,↓cm,hz];refine iff_of_eq ((ut (n:=n) (Q:=fun v M'=>Q v (ac M M')) (E:=fun i M'=>E i (ac M M')) hM G.l1 G.l6 (fun c hc=>(G.ck c hc).1) (by have:=G.w36;omega) G.gd G.nd).trans ?_)
 simp
end
end G
namespace G
open L2
section
variable {cls kls fad:Nat->PySem.Addr}{M:MH}{Q:VK3}{E:XN}{n:Nat}{wy:List Wy}{cks:List (Int×Int)}
theorem qA{w:Wy}:∀{wy:List Wy},(wy.map pr).Nodup->w∈wy->getD (wy.map pr) (wy.map wv) (pr w)=some (wv w)
 |v::r,hn,h=>by
  rw[List.map_cons,List.nodup_cons]at hn;simp only[List.map_cons,getD];rcases List.mem_cons.mp h with rfl|h
  ·rw[if_pos rfl]
  ·rw[if_neg (fun z=>hn.1 (by rw[z];exact List.mem_map_of_mem h)),qA hn.2 h]
theorem nN{w:Wy}(hn:(wy.map pr).Nodup)(h:w∈wy):ar (.dit (wy.map pr) (wy.map wv)) (.tup [.int w.i,.int w.j]) M Q=Q (wv w) M:=by
 have e:=qA hn h;simp only[pr]at e;simp[ar,aB,ak,gU,gm,gN,jy,dY,e,pr]
theorem lc{x:D}{ds:List D}(hx:ak M x=some ds)(h7:ds.all (plN 7)=true)(h8:ds.all (plN 8)=true):aN .NotEq x (.rol []) M Q=Q (.bl (!ds.isEmpty)) M:=by
 have e:rs M x=.rol ds:=by unfold rs;rw[hx];simp only[pls,h8,if_true]
 have p:pl (.rol ds)=true:=h7;have e2:rs M (.rol [])=.rol []:=rfl;show gP true x (.rol []) M Q=_;unfold gP;rw[e,e2,p];cases ds<;>simp[plN,eqD,dL]
noncomputable def gM(wy:List Wy)(h:Int):List Int:=(wy.filter fun w=>decide (w.i=h)).map Wy.j
theorem Bv{W:WC}{h:Int}(hM:Fm M)(hl:wy.length<=36):gF W (.name 0) (.yes (.cmp .Eq (.ix (.var 0) (.con (.int 0))) (.var 1))) (.ix (.var 0) (.con (.int 1))) (fun _=>True) Q ((wy.map pr).map iX) [none,some (.int h)] M=Q (.rol ((gM wy h).map D.int)) M:=by
 rw[fk (fun d=>match d with
   |.tup [.int i,_]=>decide (i=h)
   |_=>false) (fun d=>match d with
   |.tup [_,y]=>y
   |_=>.non) hM (by simp;omega) (fun d hd M' hE Q=>by
    obtain⟨_,hk,rfl⟩:=List.mem_map.mp hd;obtain⟨w,_,rfl⟩:=List.mem_map.mp hk;simp[iX,pr]) (fun d hd _ M' hE Q=>by
    obtain⟨_,hk,rfl⟩:=List.mem_map.mp hd;obtain⟨w,_,rfl⟩:=List.mem_map.mp hk;simp[iX,pr])]
 have e:((((wy.map pr).map iX).filter (fun d=>match d with
   |.tup [.int i,_]=>decide (i=h)
   |_=>false)).map (fun d=>match d with
   |.tup [_,y]=>y
   |_=>D.non))=(gM wy h).map D.int:=by
  rw[List.map_map,List.filter_map,List.map_map];unfold gM;rw[List.map_map];rfl
 rw[e]
theorem uD{h t:Int}(ht:t∈gM wy h):∃w∈wy,w.i=h/\w.j=t:=by
 obtain⟨w,hw,rfl⟩:=List.mem_map.mp ht;obtain⟨h1,h2⟩:=List.mem_filter.mp hw;exact⟨w,h1,of_decide_eq_true h2,rfl⟩
theorem Cc{h v m:Int}{xs:List Int}(hl:xs.length=4)(hw:wy.length<=36):∃r:Rw,r.h=h/\r.r=v/\r.s≠"take"/\r.may wy/\
  ∀{n:Nat}{M:MH}{Q:VK3}{E:XN},Fm M->aa T (B cls kls fad) (n+1) 38 [.int h,.int v,.int m,.dit (wy.map pr) (wy.map wv),.rol (xs.map D.int)] M Q E=Q r.d M:=by
 have i0:∀{M:MH}{Q:VK3},ar (.rol (xs.map D.int)) (.int 0) M Q=Q (.int (xs.getD 0 0)) M:=fun {M Q}=>aJ (k:=0) (by omega)
 have i1:∀{M:MH}{Q:VK3},ar (.rol (xs.map D.int)) (.int 1) M Q=Q (.int (xs.getD 1 0)) M:=fun {M Q}=>aJ (k:=1) (by omega)
 have i2:∀{M:MH}{Q:VK3},ar (.rol (xs.map D.int)) (.int 2) M Q=Q (.int (xs.getD 2 0)) M:=fun {M Q}=>aJ (k:=2) (by omega)
 have i3:∀{M:MH}{Q:VK3},ar (.rol (xs.map D.int)) (.int 3) M Q=Q (.int (xs.getD 3 0)) M:=fun {M Q}=>aJ (k:=3) (by omega)
 generalize xs.getD 0 0=x0 at i0;generalize xs.getD 1 0=x1 at i1;generalize xs.getD 2 0=x2 at i2;generalize xs.getD 3 0=x3 at i3;have ct:=fun {W:WC}{M:MH}{Q:VK3} (hM:Fm M)=>Bv (W:=W) (Q:=Q) (wy:=wy) (h:=h) hM hw
 by_cases k12:x3 / 2 % 8=1\/x3 / 2 % 8=2
 ·obtain⟨g,hg,gx⟩:=oA 0 1 (x0 % 100) (x0 % 1000000000000) (x1 % 4) (by omega) (by omega)
  obtain⟨k,hk,kx⟩:=oA 0 1 (x0 % 100) (x0 % 1000000000000) (x1 / 4 % 4) (by omega) (by omega)
  refine⟨.sight h v (m - g) (m+k),rfl,rfl,by simp +decide [Rw.s],trivial,?_⟩
  intro n M Q E hM;simp only[ge,cg];rcases k12 with k1|k1<;>simp[-List.map_map,aG,↓ct hM,↓i0,↓i1,↓i3,k1,cC,gO,↓gx,↓kx,Rw.d,av]
 ·obtain⟨k1,k2⟩:=not_or.mp k12;have nn:∀{M:MH}{Q:VK3},aN .NotEq (.rol ((gM wy h).map D.int)) (.rol []) M Q=Q (.bl (!((gM wy h).map D.int).isEmpty)) M:=fun {M Q}=>lc rfl (by simp[plN]) (by simp[plN])
  by_cases k3:2 < x3 / 2 % 8/\gM wy h≠[]
  ·have lp:0 < (gM wy h).length:=List.length_pos_iff.mpr k3.2;have lp':(0:Int) < (gM wy h).length:=by omega
   obtain⟨t,ht,tx⟩:=vd (l:=gM wy h) (i:=x2 / 5 % ((gM wy h).length:Int)) (Int.emod_nonneg _ (by omega)) (Int.emod_lt_of_pos _ lp')
   obtain⟨w,hw1,hw2,hw3⟩:=uD ht;refine⟨.send h v t,rfl,rfl,by simp +decide [Rw.s],(show [h,t]∈wy.map pr from List.mem_map.mpr ⟨w,hw1,by simp[pr,hw2,hw3]⟩),?_⟩
   intro n M Q E hM;simp only[ge,cg];simp[-List.map_map,aG,↓ct hM,↓i2,↓i3,k1,k2,k3.1,k3.2,↓nn,lp,lp',cC,↓tx,Rw.d,av]
  ·refine⟨.look h v,rfl,rfl,by simp +decide [Rw.s],trivial,?_⟩
   intro n M Q E hM;simp only[ge,cg];by_cases k4:2 < x3 / 2 % 8
   ·have k5:gM wy h=[]:=Classical.byContradiction fun z=>k3 ⟨k4,z⟩
    simp[-List.map_map,aG,↓ct hM,↓i3,k1,k2,k4,k5,↓nn,cC,Rw.d,av]
   ·simp[-List.map_map,aG,↓ct hM,↓i3,k1,k2,k4,cC,Rw.d,av]
theorem wN{h k v t mo l a:Int}{m:Option Int}:aa T (B cls kls fad) (n+1) 39 [.tup [.int h,.int k],.tup [.str "send",.int a,.int v,.int t],.int mo,.tup [.int l,oi m]] M Q E=Q (Ent.d ⟨h,k,t,mo+l,m.map (mo+·)⟩) M:=by
 simp only[mI,dn];cases m<;>simp[oi,D.isN,Ent.d,av]
noncomputable def mf:D->D
 |.tup [i,.tup [_,_,m]]=>.tup [m,i]
 |_=>.non
noncomputable def psF(k0:Nat):List A3->List (Int×Int)
 |[]=>[]
 |x::r=>(x.2.2,(k0:Int))::psF (k0+1) r
theorem mv:∀{at_:List A3}{k0:Nat},pT ((be k0 (at_.map a3D)).map mf)=some (psF k0 at_)
 |[],_=>rfl
 |x::r,k0=>by
  simp only[List.map_cons,be,a3D,mf,pT];rw[mv (at_:=r)];rfl
theorem qk:∀{at_:List A3}{k0:Nat}{p:Int×Int},p∈psF k0 at_->∃k:Nat,k < at_.length/\p.2=((k0+k:Nat):Int)
 |x::r,k0,p,h=>by
  rcases List.mem_cons.mp h with rfl|h
  ·exact⟨0,by simp,rfl⟩
  ·obtain⟨k,h1,h2⟩:=qk h;exact⟨k+1,by simp;omega,by rw[h2];congr 1;omega⟩
theorem ij:∀{at_:List A3}{k0:Nat}{d:D},d∈be k0 (at_.map a3D)->∃(i:Nat)(x:A3),d=.tup [.int i,a3D x]
 |x::r,k0,d,h=>by
  rcases List.mem_cons.mp h with rfl|h
  ·exact⟨k0,x,rfl⟩
  ·exact ij h
theorem l9:∀{k0:Nat}{ds:List D},(be k0 ds).length=ds.length
 |_,[]=>rfl
 |k0,d::r=>by simp[be,l9]
theorem yh{at_:List A3}{a:PySem.Addr}(hM:Fm M)(ha:M a=some (.lst (at_.map a3D)))(h0:0 < at_.length)(hl:at_.length<=6):∃(k:Nat)(m:Int),k < at_.length/\∀{W:WC}{Q:VK3},gF W (.tup [0,1]) .no (.tup (.cons (.ix (.var 1) (.con (.int 2))) (.cons (.var 0) .nil))) (fun M=>M a=some (.lst (at_.map a3D))) (fun x M1=>rMp x M1 Q) (be 0 (at_.map a3D)) [none,none] M=Q (.tup [.int m,.int k]) M:=by
 have ne:psF 0 at_≠[]:=by
  cases at_ with
  |nil=>simp at h0
  |cons x r=>simp[psF]
 obtain⟨k,hk,e⟩:=qk (p6 ne);rw[Nat.zero_add]at e;refine⟨k,(j7 (psF 0 at_)).1,hk,?_⟩;intro W Q;rw[et (fun σ=>∃a b,σ=[a,b]) (fun d=>match d with
   |.tup [a,b]=>[some a,some b]
   |_=>[]) (fun _=>true) mf ⟨_,_,rfl⟩ hM (by
    rw[l9,List.length_map];omega) (fun d hd=>by
    obtain⟨i,x,rfl⟩:=ij hd;refine⟨⟨_,_,rfl⟩,fun σ ⟨a,b,e⟩ M k=>?_⟩
    subst e;simp[wpG]) (fun d hd M' hE Q=>rfl) (fun d hd _ M' hE Q=>by
    obtain⟨i,x,rfl⟩:=ij hd;simp[mf,a3D,av]) (fun M' hE=>hE.2 _ _ ha)]
 rw[List.filter_eq_self.mpr (fun _ _=>rfl)]
 show rMp (.rol ((be 0 (at_.map a3D)).map mf)) M Q=_;unfold rMp;simp only[ak,mv];have eb:prD (j7 (psF 0 at_))=.tup [.int (j7 (psF 0 at_)).1,.int k]:=by unfold prD;rw[e]
 revert ne eb;cases psF 0 at_ with
 |nil=>intro ne;exact absurd rfl ne
 |cons p ps=>intro _ eb;simp only[eb]
end
end G
namespace G
open L2
section
variable {cls kls fad:Nat->PySem.Addr}{M0:MH}{n:Nat}{wy:List Wy}{cks:List (Int×Int)}{a b d:PySem.Addr}{td:List (Rw×Int)}{at_:List A3}{sn:List Ent}{Bd:Int}
noncomputable def tdD(p:Rw×Int):D:=.tup [p.1.d,.int p.2]
noncomputable def H3(M0:MH)(a b d:PySem.Addr)(at_:List A3)(sn:List Ent)(td:List (Rw×Int)):MH:=put (put (put M0 a (.lst (at_.map a3D))) b (.lst (sn.map Ent.d))) d (.lst (td.map tdD))
structure D3 (a b d:PySem.Addr):Prop where
 ab:a≠b
 ad:a≠d
 bd:b≠d
theorem D3.ga(h:D3 a b d):H3 M0 a b d at_ sn td a=some (.lst (at_.map a3D)):=by unfold H3;rw[aj h.ad,aj h.ab,ah]
theorem D3.gb(h:D3 a b d):H3 M0 a b d at_ sn td b=some (.lst (sn.map Ent.d)):=by unfold H3;rw[aj h.bd,ah]
theorem D3.gd(h:D3 a b d):H3 M0 a b d at_ sn td d=some (.lst (td.map tdD)):=ah
theorem D3.sa(h:D3 a b d){x:List A3}:put (H3 M0 a b d at_ sn td) a (.lst (x.map a3D))=H3 M0 a b d x sn td:=jT h.ab h.ad
theorem D3.sb(h:D3 a b d){x:List Ent}:put (H3 M0 a b d at_ sn td) b (.lst (x.map Ent.d))=H3 M0 a b d at_ x td:=dX h.bd
theorem D3.sd(h:D3 a b d){x:List (Rw×Int)}:put (H3 M0 a b d at_ sn td) d (.lst (x.map tdD))=H3 M0 a b d at_ sn x:=cN
theorem Fm.h3(h:Fm M0):Fm (H3 M0 a b d at_ sn td):=((h.put _ _).put _ _).put _ _
structure TB (H:Nat)(wy:List Wy)(Bd:Int) (td:List (Rw×Int)) (at_:List A3)(sn:List Ent):Prop where
 ta:TA H wy (td.map Prod.fst) at_ sn
 mo:∀x∈at_,(-Bd<=x.2.2/\x.2.2<=Bd)/\(-Bd<=x.2.1/\x.2.1<=Bd)
 sb:∀e∈sn,(-Bd<=e.lo/\e.lo<=Bd)/\inB Bd e.hi
noncomputable def tl:ISs->ISs
 |.cons _ r=>r
 |.nil=>.nil
noncomputable def iL:ISs:=tl (tl (tl (tl (tl (tl aC)))))
noncomputable def f9:ISs:=tl (tl (tl (tl iL)))
noncomputable abbrev a0(at_:List A3)(k:Nat):A3:=at_.getD k (0,0,0)
theorem jm{M:MH}{Q:VK3}{k:Nat}(ha:M a=some (.lst (at_.map a3D)))(h:k < at_.length):ar (.ref a) (.int (k:Nat)) M Q=Q (.tup [.int (a0 at_ k).1,.int (a0 at_ k).2.1,.int (a0 at_ k).2.2]) M:=by
 have e:(at_.map a3D)[k]?=some (a3D (a0 at_ k)):=by
  rw[List.getElem?_map,List.getElem?_eq_getElem h,a0,List.getD_eq_getElem?_getD,List.getElem?_eq_getElem h];rfl
 rw[m8 ha];exact jQ (cK e)
theorem kS{k:Nat}(h:k < at_.length):a0 at_ k∈at_:=by
 rw[a0,List.getD_eq_getElem?_getD,List.getElem?_eq_getElem h];exact List.getElem_mem h
theorem lP{xs:List Int}{De:Ends3}{ES:St3->XN}{y0 y1 y2 y6 y9 y14 y15 y16 y17:Option D}{lt:D}{hd:Nat}{t f l:Int}(hl:xs.length=4)(hw:wy.length<=36)(A:D3 a b d)(hM:Fm M0)(hh:hd < at_.length)(hf:f<=l)
  (k:∀(mo:Int)(r:Rw),f<=mo->mo<=l->r.h=hd->r.r=(a0 at_ hd).2.1+t->r.s≠"take"->r.may wy->
   ao ⟨(B cls kls fad),aa T (B cls kls fad) (n+1)⟩ f9 De ES [y0,y1,y2,some (.rol (cks.map cD)),some (.dit (wy.map pr) (wy.map wv)),some (.ref a),y6,some (.ref b),some (.ref d),y9,some (.rol (xs.map D.int)),some (.int hd),some lt,some (.tup [.int t,.int f,.int l]),y14,some (.int mo),some (.tup [.int hd,.int (a0 at_ hd).1]),some r.d] (H3 M0 a b d (at_.set hd ((a0 at_ hd).1+1,(a0 at_ hd).2.1+t,mo)) sn td)) :
  ao ⟨(B cls kls fad),aa T (B cls kls fad) (n+1)⟩ iL De ES [y0,y1,y2,some (.rol (cks.map cD)),some (.dit (wy.map pr) (wy.map wv)),some (.ref a),y6,some (.ref b),some (.ref d),y9,some (.rol (xs.map D.int)),some (.int hd),some lt,some (.tup [.int t,.int f,.int l]),y14,y15,y16,y17] (H3 M0 a b d at_ sn td):=by
 have i2:∀{M:MH}{Q:VK3},ar (.rol (xs.map D.int)) (.int 2) M Q=Q (.int (xs.getD 2 0)) M:=fun {M Q}=>aJ (k:=2) (by omega)
 have i3:∀{M:MH}{Q:VK3},ar (.rol (xs.map D.int)) (.int 3) M Q=Q (.int (xs.getD 3 0)) M:=fun {M Q}=>aJ (k:=3) (by omega)
 generalize xs.getD 2 0=x2 at i2;generalize xs.getD 3 0=x3 at i3;have p0:0 < l - f+1:=by omega
 have m0:=Int.emod_nonneg (x2 / 4) (Int.ne_of_gt p0);have m1:=Int.emod_lt_of_pos (x2 / 4) p0;obtain⟨mo,hmo,mx⟩:=nY f l (f+x2 / 4 % (l - f+1)) (x3 / 16 % 3) (by omega) (by omega)
 obtain⟨r,r1,r2,r3,r4,rx⟩:=Cc (cls:=cls) (kls:=kls) (fad:=fad) (wy:=wy) (h:=hd) (v:=(a0 at_ hd).2.1+t) (m:=mo) hl hw;have ia:=fun {Q:VK3}=>jm (Q:=Q) (A.ga (M0:=M0) (sn:=sn) (td:=td)) hh
 have hs:hd < (at_.set hd ((a0 at_ hd).1+1,(a0 at_ hd).2.1+t,mo)).length:=by simp;exact hh
 have es:a0 (at_.set hd ((a0 at_ hd).1+1,(a0 at_ hd).2.1+t,mo)) hd=((a0 at_ hd).1+1,(a0 at_ hd).2.1+t,mo):=by rw[a0,fH hh,if_pos rfl]
 have ib:=fun {Q:VK3}=>jm (Q:=Q) (A.ga (M0:=M0) (sn:=sn) (td:=td)) hs
 rw[es]at ib;have st:∀{R:MH->Prop},bc (.ref a) (.int (hd:Nat)) (.tup [.int ((a0 at_ hd).1+1),.int ((a0 at_ hd).2.1+t),.int mo]) (H3 M0 a b d at_ sn td) R=R (H3 M0 a b d (at_.set hd ((a0 at_ hd).1+1,(a0 at_ hd).2.1+t,mo)) sn td):=fun {R}=>by
  rw[pK (A.ga (M0:=M0) (sn:=sn) (td:=td)) (j:=hd) (by simp[ixN];omega),<-A.sa (at_:=at_) (x:=at_.set hd ((a0 at_ hd).1+1,(a0 at_ hd).2.1+t,mo)),List.map_set]
  rfl
 have k':=k mo r (by omega) (by omega) r1 r2 r3 r4
 have rx':=fun {Q:VK3}{E:XN}=>rx (n:=n) (Q:=Q) (E:=E) (Fm.h3 (a:=a) (b:=b) (d:=d) (at_:=at_.set hd ((a0 at_ hd).1+1,(a0 at_ hd).2.1+t,mo)) (sn:=sn) (td:=td) hM)
 rw[show iL=.cons _ (.cons _ (.cons _ (.cons _ f9))) from rfl];simp[-List.getD_eq_getElem?_getD,↓i2,↓i3,p0,cC,↓mx,↓ia,↓st,↓ib,↓rx',av];exact k'
theorem TB.up{k:Nat}{t mo:Int}{H:Nat}{r:Rw}{sn':List Ent}(tb:TB H wy Bd td at_ sn)(hk:k < H)(b0:0<=Bd)(t0:0<=t)(t3:t<=3 * Bd)(h1 : -Bd<=mo)(h2:mo<=4 * Bd)(ta:TA H wy (td.map Prod.fst++[r]) (at_.set k ((a0 at_ k).1+1,(a0 at_ k).2.1+t,mo)) sn')
  (hs:∀e∈sn',e∈sn\/((-Bd<=e.lo/\e.lo<=5 * Bd)/\∀y,e.hi=some y->-Bd<=y/\y<=5 * Bd)):TB H wy (5 * Bd) (td++[(r,mo)]) (at_.set k ((a0 at_ k).1+1,(a0 at_ k).2.1+t,mo)) sn':=by
 refine⟨by rw[List.map_append];exact ta,fun x hx=>?_,fun e he=>?_⟩
 ·rcases List.mem_or_eq_of_mem_set hx with h|h
  ·have:=tb.mo x h;omega
  ·have:=(tb.mo _ (kS (at_:=at_) (k:=k) (by rw[tb.ta.la];exact hk))).2
   rw[h];simp only;omega
 ·rcases hs e he with h|h
  ·obtain⟨c1,c2⟩:=tb.sb e h;exact⟨by omega,fun y hy=>by have:=c2 y hy;omega⟩
  ·exact⟨by omega,fun y hy=>by have:=h.2 y hy;omega⟩
theorem qM{De:Ends3}{σ:St3}{r:Rw}{mo:Int}(A:D3 a b d)(hz:td.length < 400):cj d De σ (.tup [r.d,.int mo]) (H3 M0 a b d at_ sn td)=De.nx σ (H3 M0 a b d at_ sn (td++[(r,mo)])):=by
 have hs:td.length < PySem.sizeLine:=Nat.lt_of_lt_of_le (show td.length < 1000 by omega) (by decide)
 rw[<-A.sd (td:=td) (x:=td++[(r,mo)])];simp[cj,A.gd,hs,tdD]
theorem eU{W:WC}{e:IE}{De:Ends3}{E:XN}{σ:St3}{M:MH}{ds:List D}{p:PySem.Addr}(h:M p=some (.lst ds)):mJ W e De E σ (.ref p) M=wpE W e σ M (cj p De σ) E:=by
 simp[mJ,h];exact Iff.rfl
theorem EE{M:MH}{Q:VK3}{r:Rw}:ar r.d (.int 0) M Q=Q (.str r.s) M:=by cases r<;>simp[Rw.d,Rw.s]
theorem wx{De:Ends3}{σ:St3}{e:Ent}(A:D3 a b d)(hz:sn.length < 400):cj b De σ e.d (H3 M0 a b d at_ sn td)=De.nx σ (H3 M0 a b d at_ (sn++[e]) td):=by
 have hs:sn.length < PySem.sizeLine:=Nat.lt_of_lt_of_le (show sn.length < 1000 by omega) (by decide)
 rw[<-A.sb (sn:=sn) (x:=sn++[e])];simp[cj,A.gb,hs]
theorem sv{De:Ends3}{ES:St3->XN}{y0 y1 y2 y6 y9 y10 y13 y14:Option D}{hd:Nat}{t mo:Int}{r:Rw}(G:GW cks wy)(A:D3 a b d)(tb:TB cks.length wy Bd td at_ sn)(hh:hd < cks.length)(b0:10 ^ 43<=Bd)(z1:td.length < 400)(z2:sn.length < 400)(ht:0<=t)(t3:t<=3 * Bd)(b1:Bd<=10 ^ 60)(m1 : -Bd<=mo)(m2:mo<=4 * Bd)(r1:r.h=hd)(r2:r.r=(a0 at_ hd).2.1+t)(r3:r.s≠"take")(r4:r.may wy)
  (k:∀td' at' sn',td'.length=td.length+1->sn'.length<=sn.length+1->TB cks.length wy (5 * Bd) td' at' sn'->∀y11 y12 y13 y14 y15 y16 y17,De.nx [y0,y1,y2,some (.rol (cks.map cD)),some (.dit (wy.map pr) (wy.map wv)),some (.ref a),y6,some (.ref b),some (.ref d),y9,y10,y11,y12,y13,y14,y15,y16,y17] (H3 M0 a b d at' sn' td')) :
  ao ⟨(B cls kls fad),aa T (B cls kls fad) (n+1)⟩ f9 De ES [y0,y1,y2,some (.rol (cks.map cD)),some (.dit (wy.map pr) (wy.map wv)),some (.ref a),y6,some (.ref b),some (.ref d),y9,y10,some (.int hd),some .non,y13,y14,some (.int mo),some (.tup [.int hd,.int (a0 at_ hd).1]),some r.d] (H3 M0 a b d (at_.set hd ((a0 at_ hd).1+1,(a0 at_ hd).2.1+t,mo)) sn td):=by
 have mr:=(tb.mo _ (kS (at_:=at_) (k:=hd) (by rw[tb.ta.la];exact hh))).2
 have hfin:r.fine cks.length wy:=⟨by rw[r1];simp[okH,hh],r4,by rw[r2];omega⟩
 have s0:=fun {M:MH}{Q:VK3}=>EE (M:=M) (Q:=Q) (r:=r)
 have ap:=fun {W:WC}{e:IE}{De:Ends3}{E:XN}{σ:St3}{at_:List A3}{sn:List Ent}=>eU (W:=W) (e:=e) (De:=De) (E:=E) (σ:=σ) (A.gd (M0:=M0) (at_:=at_) (sn:=sn) (td:=td))
 have tp:=fun {De:Ends3}{σ:St3}{at_:List A3}{sn:List Ent}=>qM (M0:=M0) (De:=De) (σ:=σ) (r:=r) (mo:=mo) (at_:=at_) (sn:=sn) A z1
 simp only[f9,iL,tl,aC];by_cases e:r.s = "send"
 ·cases r with
  |send h v to=>
   obtain rfl:h=(hd:Int):=r1;obtain rfl:v=(a0 at_ hd).2.1+t:=r2;have hm:[(hd:Int),to]∈wy.map pr:=r4;obtain⟨w,hw,ew⟩:=List.mem_map.mp hm;simp only[pr,List.cons.injEq,and_true]at ew;have g:=G.gd w hw;have ix:=fun {M:MH}{Q:VK3}=>nN (M:=M) (Q:=Q) G.nd hw
   rw[ew.1,ew.2]at ix;have gj:=g.j;rw[ew.2]at gj;simp only[okH,Bool.and_eq_true,decide_eq_true_eq]at gj;have gl:=g.l;simp only[kI,Bool.or_eq_false_iff,decide_eq_false_iff_not]at gl;obtain⟨l1,l2⟩:=G.sm w hw;have ta:=tb.ta.send (v:=(a0 at_ hd).2.1+t) (m:=mo) (e:=⟨hd,(a0 at_ hd).1,to,mo+w.l,w.m.map (mo+·)⟩) hh hfin gj.1 gj.2 rfl rfl;have:=k (td++[(.send hd ((a0 at_ hd).2.1+t) to,mo)]) _ _ (by simp) (by simp) (tb.up hh (by omega) ht t3 m1 m2 ta fun e he=>by
    rcases List.mem_append.mp he with z|z
    ·exact .inl z
    ·refine .inr ?_;rw[List.mem_singleton.mp z];refine⟨by simp only;omega,fun y hy=>?_⟩
     simp only at hy;cases em:w.m with
     |none=>rw[em]at hy;cases hy
     |some q=>
      rw[em]at hy gl;have q1:=l2 q em;have q2:¬ q < w.l:=of_decide_eq_false gl.2;simp only[Option.map,Option.some.injEq]at hy;omega)
   have sp:=fun {De:Ends3}{σ:St3}{at_:List A3}{e:Ent}=>wx (M0:=M0) (De:=De) (σ:=σ) (at_:=at_) (td:=td) (e:=e) A z2
   have ap7:=fun {W:WC}{e:IE}{De:Ends3}{E:XN}{σ:St3}{at_:List A3}=>eU (W:=W) (e:=e) (De:=De) (E:=E) (σ:=σ) (A.gb (M0:=M0) (at_:=at_) (sn:=sn) (td:=td))
   have cs:=fun {M:MH}{Q:VK3}{E:XN}=>wN (cls:=cls) (kls:=kls) (fad:=fad) (n:=n) (M:=M) (Q:=Q) (E:=E) (h:=hd) (k:=(a0 at_ hd).1) (v:=(a0 at_ hd).2.1+t) (t:=to) (mo:=mo) (l:=w.l) (a:=hd) (m:=w.m)
   simp only[Rw.d]at tp;simp only[wv,way]at ix;simp[-List.getD_eq_getElem?_getD,Rw.d,D.isN,↓ix,↓cs,↓ap7,↓sp,↓ap,↓tp,av];exact this _ _ _ _ _ _ _
  |_=>exact absurd e (by simp +decide [Rw.s])
 ·have ta:=tb.ta.plain (v:=(a0 at_ hd).2.1+t) (m:=mo) hh hfin;have:=k (td++[(r,mo)]) _ _ (by simp) (by omega) (tb.up hh (by omega) ht t3 m1 m2 ta fun e he=>.inl he)
  simp[-List.getD_eq_getElem?_getD,D.isN,↓s0,e,↓ap,↓tp,av];exact this _ _ _ _ _ _ _
theorem yj{x e:Ent}(h:¬ (x.h=e.h/\x.k=e.k)):eqD x.d e.d=false:=by
 simp only[Ent.d,eqD,dL];by_cases h1:x.h=e.h
 ·have:¬ x.k=e.k:=fun z=>h ⟨h1,z⟩
  simp[this]
 ·simp[h1]
theorem ig{e:Ent}{k:Nat}:plN (k+2) e.d=true:=by
 cases z:e.hi<;>simp[Ent.d,plN,oi,z]
theorem oH{e:Ent}{sn2:List Ent}:∀(sn1:List Ent)(k0:Nat),(∀x∈sn1,¬ (x.h=e.h/\x.k=e.k))->nI e.d ((sn1++e::sn2).map Ent.d) k0=some (k0+sn1.length)
 |[],k0,_=>by
  have:eqD e.d e.d=true:=fq 8 ig;simp[nI,this]
 |x::r,k0,h=>by
  simp only[List.cons_append,List.map_cons,nI];rw[yj (h x List.mem_cons_self),if_neg Bool.false_ne_true,oH r (k0+1) fun y hy=>h y (List.mem_cons_of_mem _ hy),List.length_cons]
  congr 1;omega
theorem vS{e:Ent}{sn1 sn2:List Ent}{Q:VK3}(A:D3 a b d)(h:∀x∈sn1,¬ (x.h=e.h/\x.k=e.k)):rBm .remove (.ref b) [e.d] (H3 M0 a b d at_ (sn1++e::sn2) td) Q=Q .non (H3 M0 a b d at_ (sn1++sn2) td):=by
 have e1:res (H3 M0 a b d at_ (sn1++e::sn2) td) e.d=e.d:=rfl;have e2:pls ((sn1++e::sn2).map Ent.d)=true:=List.all_eq_true.mpr fun x hx=>by
  obtain⟨y,_,rfl⟩:=List.mem_map.mp hx;exact ig
 have e3:=oH (sn2:=sn2) sn1 0 h;have e4:((sn1++e::sn2).map Ent.d).eraseIdx sn1.length=(sn1++sn2).map Ent.d:=by
  rw[List.map_append,List.map_cons,List.eraseIdx_append_of_length_le (by simp)];simp
 rw[Nat.zero_add]at e3;simp only[rBm,A.gb,e1,e2,e3,e4,A.sb];rw[show pl e.d=true from ig];simp
theorem en0{M:MH}{Q:VK3}{e:Ent}:ar e.d (.int 0) M Q=Q (.tup [.int e.h,.int e.k]) M:=by simp[Ent.d]
theorem en1{M:MH}{Q:VK3}{e:Ent}:ar e.d (.int 1) M Q=Q (.int e.to) M:=by simp[Ent.d]
theorem en2{M:MH}{Q:VK3}{e:Ent}:ar e.d (.int 2) M Q=Q (.int e.lo) M:=by simp[Ent.d]
theorem en3{M:MH}{Q:VK3}{e:Ent}:ar e.d (.int 3) M Q=Q (oi e.hi) M:=by simp[Ent.d]
theorem qN{De:Ends3}{ES:St3->XN}{y0 y1 y2 y3 y4 y6 y9 y10 y13 y14 y16 y17:Option D}{hd:Nat}{t mo:Int}{e:Ent}{sn1 sn2:List Ent}(A:D3 a b d)(tb:TB cks.length wy Bd td at_ (sn1++e::sn2))(hh:hd < cks.length)(he:e.to=hd)(b0:0<=Bd)(z1:td.length < 400)(ht:0<=t)(t3:t<=3 * Bd)(b1:Bd<=10 ^ 60)(m1 : -Bd<=mo)(m2:mo<=4 * Bd)
  (k:∀td' at' sn',td'.length=td.length+1->sn'.length<=(sn1++e::sn2).length+1->TB cks.length wy (5 * Bd) td' at' sn'->∀y11 y12 y13 y14 y15 y16 y17,De.nx [y0,y1,y2,y3,y4,some (.ref a),y6,some (.ref b),some (.ref d),y9,y10,y11,y12,y13,y14,y15,y16,y17] (H3 M0 a b d at' sn' td')) :
  ao ⟨(B cls kls fad),aa T (B cls kls fad) (n+1)⟩ f9 De ES [y0,y1,y2,y3,y4,some (.ref a),y6,some (.ref b),some (.ref d),y9,y10,some (.int hd),some e.d,y13,y14,some (.int mo),y16,y17] (H3 M0 a b d (at_.set hd ((a0 at_ hd).1+1,(a0 at_ hd).2.1+t,mo)) (sn1++e::sn2) td):=by
 have hl:hd < at_.length:=by rw[tb.ta.la];exact hh
 have mr:=(tb.mo _ (kS hl)).2;have un:=(tb.ta.un e (by simp)).1
 rw[he]at un;have hfin:(Rw.take hd ((a0 at_ hd).2.1+t) e.h e.k).fine cks.length wy:=⟨by simp[okH,Rw.h,hh],un,by simp only[Rw.r];omega⟩
 have nd:=tb.ta.nd;rw[List.map_append,List.map_cons,List.nodup_append]at nd;have hn:∀x∈sn1,¬ (x.h=e.h/\x.k=e.k):=fun x hx z=>nd.2.2 (x.h,x.k) (List.mem_map.mpr ⟨x,hx,rfl⟩) (e.h,e.k) (by simp) (by rw[z.1,z.2])
 have ta:=tb.ta.take (v:=(a0 at_ hd).2.1+t) (m:=mo) hh hfin;have fin:=k (td++[(.take hd ((a0 at_ hd).2.1+t) e.h e.k,mo)]) _ _ (by simp) (by simp;omega) (tb.up hh b0 ht t3 m1 m2 ta fun x hx=>.inl (by
  rcases List.mem_append.mp hx with z|z
  ·exact List.mem_append_left _ z
  ·exact List.mem_append_right _ (List.mem_cons_of_mem _ z)))
 have hs:hd < (at_.set hd ((a0 at_ hd).1+1,(a0 at_ hd).2.1+t,mo)).length:=by simp;exact hl
 have es:a0 (at_.set hd ((a0 at_ hd).1+1,(a0 at_ hd).2.1+t,mo)) hd=((a0 at_ hd).1+1,(a0 at_ hd).2.1+t,mo):=by rw[a0,fH hl,if_pos rfl]
 have ib:=fun {sn:List Ent}{Q:VK3}=>jm (Q:=Q) (A.ga (M0:=M0) (sn:=sn) (td:=td)) hs
 simp only[es]at ib;have ap:=fun {W:WC}{e:IE}{De:Ends3}{E:XN}{σ:St3}{at_:List A3}{sn:List Ent}=>eU (W:=W) (e:=e) (De:=De) (E:=E) (σ:=σ) (A.gd (M0:=M0) (at_:=at_) (sn:=sn) (td:=td))
 have tp:=fun {De:Ends3}{σ:St3}{al:List A3}{sn:List Ent}=>qM (M0:=M0) (De:=De) (σ:=σ) (r:=.take hd ((a0 at_ hd).2.1+t) e.h e.k) (mo:=mo) (at_:=al) (sn:=sn) A z1
 simp only[Rw.d]at tp;have ty:=fun {at_:List A3}{sn:List Ent}=>fA (A.gb (M0:=M0) (at_:=at_) (sn:=sn) (td:=td))
 have rm:=fun {at_:List A3}{Q:VK3}=>vS (M0:=M0) (at_:=at_) (td:=td) (sn2:=sn2) (Q:=Q) A hn
 have n0:e.d.isN=false:=rfl;have e0:=fun {M:MH}{Q:VK3}=>en0 (M:=M) (Q:=Q) (e:=e)
 simp only[f9,iL,tl,aC];simp[-List.getD_eq_getElem?_getD,n0,tyB,ty,↓rm,↓ib,↓e0,↓ap,↓tp,av];exact fin _ _ _ _ _ _ _
end
end G
namespace G
open L2
section
variable {cls kls fad:Nat->PySem.Addr}{M0:MH}{n:Nat}{wy:List Wy}{cks:List (Int×Int)}{a b d:PySem.Addr}{td:List (Rw×Int)}{at_:List A3}{sn:List Ent}{Bd:Int}
noncomputable def sB:ISs:=tl (tl (tl aC))
noncomputable abbrev k0(cks:List (Int×Int))(k:Nat):Int×Int:=cks.getD k (0,0)
theorem on{M:MH}{Q:VK3}{k:Nat}(h:k < cks.length):ar (.rol (cks.map cD)) (.int (k:Nat)) M Q=Q (.tup [.int (k0 cks k).1,.int (k0 cks k).2]) M:=by
 have e:(cks.map cD)[k]?=some (cD (k0 cks k)):=by
  rw[List.getElem?_map,List.getElem?_eq_getElem h,k0,List.getD_eq_getElem?_getD,List.getElem?_eq_getElem h];rfl
 exact jQ (cK e)
theorem qo{k:Nat}(G:GW cks wy)(h:k < cks.length):1<=(k0 cks k).1/\(k0 cks k).1<=(k0 cks k).2/\(k0 cks k).2<=10 ^ 31:=by
 have hm:k0 cks k∈cks:=by rw[k0,List.getD_eq_getElem?_getD,List.getElem?_eq_getElem h];exact List.getElem_mem h
 obtain⟨h1,h2⟩:=G.ck _ hm;simp only[ku,Bool.or_eq_false_iff,decide_eq_false_iff_not]at h1;exact⟨by omega,by omega,h2⟩
theorem re{xs:List Int}{k:Nat}{lo hi:Option Int}(hx:3<=xs.length)(G:GW cks wy)(tb:TB cks.length wy Bd td at_ sn)(h:k < cks.length)(b0:10 ^ 43<=Bd)(b1:Bd<=10 ^ 60)(hl:inB Bd lo)(hh:inB Bd hi) :
  ∃t f l:Int,0<=t/\t<=3 * Bd/\(-Bd<=f/\f<=4 * Bd)/\(-Bd<=l/\l<=4 * Bd)/\(lo=none->hi=none->f<=l)/\∀{n:Nat}{M:MH}{Q:VK3}{E:XN},aa T (B cls kls fad) (n+1) 37 [.tup [.int (k0 cks k).1,.int (k0 cks k).2],.tup [.int (a0 at_ k).1,.int (a0 at_ k).2.1,.int (a0 at_ k).2.2],.rol (xs.map D.int),oi lo,oi hi] M Q E=Q (.tup [.int t,.int f,.int l]) M:=by
 obtain⟨c1,c2,c3⟩:=qo G h;obtain⟨m1,m2⟩:=(tb.mo _ (kS (by rw[tb.ta.la];exact h))).1
 obtain⟨t,f,l,t1,t3,f1,l1,e,cl⟩:=DJ (cls:=cls) (kls:=kls) (fad:=fad) (cnt:=(a0 at_ k).1) (rd:=(a0 at_ k).2.1) hx c1 c2 c3 b0 b1 m1 m2 hl hh;exact⟨t,f,l,t1,t3,f1,l1,e,cl⟩
theorem DD{xs:List Int}{De:Ends3}{ES:St3->XN}{y0 y1 y2 y6 y9 y12 y13 y14 y15 y16 y17:Option D}{hd:Nat}(hl:xs.length=4)(G:GW cks wy)(A:D3 a b d)(hM:Fm M0)(tb:TB cks.length wy Bd td at_ sn)(hh:hd < cks.length)(b0:10 ^ 43<=Bd)(b1:Bd<=10 ^ 60)(z1:td.length < 400)(z2:sn.length < 400)
  (k:∀td' at' sn',td'.length=td.length+1->sn'.length<=sn.length+1->TB cks.length wy (5 * Bd) td' at' sn'->∀y10 y11 y12 y13 y14 y15 y16 y17,De.nx [y0,y1,y2,some (.rol (cks.map cD)),some (.dit (wy.map pr) (wy.map wv)),some (.ref a),y6,some (.ref b),some (.ref d),y9,y10,y11,y12,y13,y14,y15,y16,y17] (H3 M0 a b d at' sn' td')) :
  ao ⟨(B cls kls fad),aa T (B cls kls fad) (n+1)⟩ sB De ES [y0,y1,y2,some (.rol (cks.map cD)),some (.dit (wy.map pr) (wy.map wv)),some (.ref a),y6,some (.ref b),some (.ref d),y9,some (.rol (xs.map D.int)),some (.int hd),y12,y13,y14,y15,y16,y17] (H3 M0 a b d at_ sn td):=by
 have la:=tb.ta.la;have i0:∀{M:MH}{Q:VK3},ar (.rol (xs.map D.int)) (.int 0) M Q=Q (.int (xs.getD 0 0)) M:=fun {M Q}=>aJ (k:=0) (by omega)
 have i3:∀{M:MH}{Q:VK3},ar (.rol (xs.map D.int)) (.int 3) M Q=Q (.int (xs.getD 3 0)) M:=fun {M Q}=>aJ (k:=3) (by omega)
 generalize xs.getD 0 0=x0 at i0;generalize xs.getD 3 0=x3 at i3;obtain⟨t,f,l,t1,t3,f1,l1,fl,cl⟩:=re (cls:=cls) (kls:=kls) (fad:=fad) (xs:=xs) (k:=hd) (lo:=none) (hi:=none) (by omega) G tb hh b0 b1 (fun y e=>by cases e) (fun y e=>by cases e)
 have fl:=fl rfl rfl;have cl':∀{M:MH}{Q:VK3}{E:XN},aa T (B cls kls fad) (n+1) 37 [.tup [.int (k0 cks hd).1,.int (k0 cks hd).2],.tup [.int (a0 at_ hd).1,.int (a0 at_ hd).2.1,.int (a0 at_ hd).2.2],.rol (xs.map D.int),.non,.non] M Q E=Q (.tup [.int t,.int f,.int l]) M:=cl;have ic:=fun {M:MH}{Q:VK3}=>on (M:=M) (Q:=Q) hh
 have ia:=fun {Q:VK3}=>jm (Q:=Q) (k:=hd) (A.ga (M0:=M0) (at_:=at_) (sn:=sn) (td:=td)) (by omega)
 have plain:∀y14,ao ⟨(B cls kls fad),aa T (B cls kls fad) (n+1)⟩ iL De ES [y0,y1,y2,some (.rol (cks.map cD)),some (.dit (wy.map pr) (wy.map wv)),some (.ref a),y6,some (.ref b),some (.ref d),y9,some (.rol (xs.map D.int)),some (.int hd),some .non,some (.tup [.int t,.int f,.int l]),y14,y15,y16,y17] (H3 M0 a b d at_ sn td):=fun y14=>
  lP hl G.w36 A hM (by omega) fl fun mo r m1 m2 r1 r2 r3 r4=>sv G A tb hh b0 z1 z2 t1 t3 b1 (by omega) (by omega) r1 r2 r3 r4 fun td' at' sn' h1 h2 h3=>k td' at' sn' h1 h2 h3 _
 have nn:∀{Q:VK3},aN .NotEq (.ref b) (.rol []) (H3 M0 a b d at_ sn td) Q=Q (.bl (!(sn.map Ent.d).isEmpty)) (H3 M0 a b d at_ sn td):=fun {Q}=>lc (by simp[ak,A.gb]) (List.all_eq_true.mpr fun x hx=>by
  obtain⟨y,_,rfl⟩:=List.mem_map.mp hx;exact ig) (List.all_eq_true.mpr fun x hx=>by
  obtain⟨y,_,rfl⟩:=List.mem_map.mp hx;exact ig)
 rw[show sB=.cons _ (.cons _ (.cons _ iL)) from rfl];by_cases c1:4 < x3 / 2 % 8
 ·by_cases c2:sn=[]
  ·subst c2;simp[-List.getD_eq_getElem?_getD,↓ic,↓ia,↓cl',↓i3,cC,c1,↓nn];exact plain _
  ·have lp:0 < sn.length:=List.length_pos_iff.mpr c2;have lp':(0:Int) < sn.length:=by omega
   obtain⟨j,hj⟩:=Int.eq_ofNat_of_zero_le (Int.emod_nonneg (x0 / 7) (Int.ne_of_gt lp'));have jl:j < sn.length:=by have:=Int.emod_lt_of_pos (x0 / 7) lp';omega
   have lb:∀{Q:VK3},rBi .len [.ref b] (H3 M0 a b d at_ sn td) Q=Q (.int sn.length) (H3 M0 a b d at_ sn td):=fun {Q}=>by simp[rBi,aB,ak,A.gb]
   have xb:∀{Q:VK3},ar (.ref b) (.int (j:Nat)) (H3 M0 a b d at_ sn td) Q=Q (sn[j]).d (H3 M0 a b d at_ sn td):=fun {Q}=>by
    rw[m8 A.gb];exact jQ (cK (by simp[jl]))
   have hm:sn[j]∈sn:=List.getElem_mem jl;generalize sn[j]=e at xb hm;obtain⟨_,e0,eH⟩:=tb.ta.un e hm;obtain⟨⟨elo,ehi⟩,ein⟩:=tb.sb e hm;obtain⟨g,hg⟩:=Int.eq_ofNat_of_zero_le e0;have gH:g < cks.length:=by omega
   obtain⟨t',f',l',t1',t3',f1',l1',_,cn⟩:=re (cls:=cls) (kls:=kls) (fad:=fad) (xs:=xs) (k:=g) (lo:=some e.lo) (hi:=e.hi) (by omega) G tb gH b0 b1 (fun y z=>by cases z;omega) ein
   have cn':∀{M:MH}{Q:VK3}{E:XN},aa T (B cls kls fad) (n+1) 37 [.tup [.int (k0 cks g).1,.int (k0 cks g).2],.tup [.int (a0 at_ g).1,.int (a0 at_ g).2.1,.int (a0 at_ g).2.2],.rol (xs.map D.int),.int e.lo,oi e.hi] M Q E=Q (.tup [.int t',.int f',.int l']) M:=cn;have q1:∀{M:MH}{Q:VK3},ar e.d (.int 1) M Q=Q (.int (g:Nat)) M:=fun {M Q}=>by rw[en1,hg]
   have q2:=fun {M:MH}{Q:VK3}=>en2 (M:=M) (Q:=Q) (e:=e)
   have q3:=fun {M:MH}{Q:VK3}=>en3 (M:=M) (Q:=Q) (e:=e)
   have ic':=fun {M:MH}{Q:VK3}=>on (M:=M) (Q:=Q) gH
   have ia':=fun {Q:VK3}=>jm (Q:=Q) (k:=g) (A.ga (M0:=M0) (at_:=at_) (sn:=sn) (td:=td)) (by omega)
   by_cases c3:l' < f'
   ·simp[-List.getD_eq_getElem?_getD,↓ic,↓ia,↓cl',↓i3,↓i0,cC,c1,↓nn,c2,↓lb,lp,lp',hj,↓xb,↓q1,↓q2,↓q3,↓ic',↓ia',↓cn',c3];exact plain _
   ·simp[-List.getD_eq_getElem?_getD,↓ic,↓ia,↓cl',↓i3,↓i0,cC,c1,↓nn,c2,↓lb,lp,lp',hj,↓xb,↓q1,↓q2,↓q3,↓ic',↓ia',↓cn',c3];obtain⟨sn1,sn2,rfl⟩:=List.append_of_mem hm;exact lP hl G.w36 A hM (by omega) (by omega) fun mo r m1 m2 r1 r2 r3 r4=>qN A tb gH hg (by omega) z1 t1' t3' b1 (by omega) (by omega) fun td' at' sn' h1 h2 h3=>k td' at' sn' h1 h2 h3 _
 ·simp[-List.getD_eq_getElem?_getD,↓ic,↓ia,↓cl',↓i3,cC,c1];exact plain _
theorem mV{c:Int}{De:Ends3}{ES:St3->XN}{y0 y1 y2 y6 y10 y11 y12 y13 y14 y15 y16 y17:Option D}(G:GW cks wy)(A:D3 a b d)(hM:Fm M0)(tb:TB cks.length wy Bd td at_ sn)(b0:10 ^ 43<=Bd)(b1:Bd<=10 ^ 60)(z1:td.length < 400)(z2:sn.length < 400)
  (k:∀td' at' sn',td'.length=td.length+1->sn'.length<=sn.length+1->TB cks.length wy (5 * Bd) td' at' sn'->∀y10 y11 y12 y13 y14 y15 y16 y17,De.nx [y0,y1,y2,some (.rol (cks.map cD)),some (.dit (wy.map pr) (wy.map wv)),some (.ref a),y6,some (.ref b),some (.ref d),some (.int c),y10,y11,y12,y13,y14,y15,y16,y17] (H3 M0 a b d at' sn' td')) :
  ao ⟨(B cls kls fad),aa T (B cls kls fad) (n+1)⟩ aC De ES [y0,y1,y2,some (.rol (cks.map cD)),some (.dit (wy.map pr) (wy.map wv)),some (.ref a),y6,some (.ref b),some (.ref d),some (.int c),y10,y11,y12,y13,y14,y15,y16,y17] (H3 M0 a b d at_ sn td):=by
 have fm:Fm (H3 M0 a b d at_ sn td):=Fm.h3 hM;have st:∀{Q:VK3}{E:XN},aa T (B cls kls fad) (n+1) 33 [.int c,.int 4] (H3 M0 a b d at_ sn td) Q E=Q (.rol ((aQ c 4).map D.int)) (H3 M0 a b d at_ sn td):=fun {Q E}=>fE (m:=4) fm (by omega)
 have hl:(aQ c 4).length=4:=cq;generalize aQ c 4=xs at st hl;have i0:∀{M:MH}{Q:VK3},ar (.rol (xs.map D.int)) (.int 0) M Q=Q (.int (xs.getD 0 0)) M:=fun {M Q}=>aJ (k:=0) (by omega)
 have i3:∀{M:MH}{Q:VK3},ar (.rol (xs.map D.int)) (.int 3) M Q=Q (.int (xs.getD 3 0)) M:=fun {M Q}=>aJ (k:=3) (by omega)
 generalize xs.getD 0 0=x0 at i0;generalize xs.getD 3 0=x3 at i3;have la:=tb.ta.la;have l1:=G.l1;have l6:=G.l6;have lp:0 < cks.length:=by omega
 have lp':(0:Int) < cks.length:=by omega
 obtain⟨j,hj⟩:=Int.eq_ofNat_of_zero_le (Int.emod_nonneg x0 (Int.ne_of_gt lp'));have jl:j < cks.length:=by have:=Int.emod_lt_of_pos x0 lp';omega
 have go:∀{hd:Nat},hd < cks.length->_:=fun {hd} hh=>DD (cls:=cls) (kls:=kls) (fad:=fad) (n:=n) (De:=De) (ES:=ES) (y0:=y0) (y1:=y1) (y2:=y2) (y6:=y6) (y9:=some (.int c)) (y12:=y12) (y13:=y13) (y14:=y14) (y15:=y15) (y16:=y16) (y17:=y17) hl G A hM tb hh b0 b1 z1 z2 k
 rw[show aC=.cons _ (.cons _ (.cons _ sB)) from rfl];by_cases c1:x3 % 2=0
 ·obtain⟨g,m,hg,cb⟩:=yh (at_:=at_) fm A.ga (by omega) (by omega)
  have ga:=A.ga (M0:=M0) (at_:=at_) (sn:=sn) (td:=td);simp[↓st,↓i0,↓i3,lp,lp',hj,c1,ga,aG,↓cb];exact go (by omega)
 ·simp[↓st,↓i0,↓i3,lp,lp',hj,c1];exact go jl
theorem ka{De:Ends3}{ES:St3->XN}{y0 y1 y2 y6:Option D}(G:GW cks wy)(A:D3 a b d)(hM:Fm M0):∀(cs:List Int)(Bd:Int) (td:List (Rw×Int)) (at_:List A3)(sn:List Ent)(y9 y10 y11 y12 y13 y14 y15 y16 y17:Option D),10 ^ 43<=Bd->Bd * 5 ^ cs.length<=10 ^ 60->td.length+cs.length<=300->sn.length+cs.length<=300->TB cks.length wy Bd td at_ sn->
  (∀(td':List (Rw×Int)) at' sn',(∀r∈td'.map Prod.fst,r.fine cks.length wy)->td'.length=td.length+cs.length->∀y9 y10 y11 y12 y13 y14 y15 y16 y17,De.nx [y0,y1,y2,some (.rol (cks.map cD)),some (.dit (wy.map pr) (wy.map wv)),some (.ref a),y6,some (.ref b),some (.ref d),y9,y10,y11,y12,y13,y14,y15,y16,y17] (H3 M0 a b d at' sn' td'))->
  bW ⟨(B cls kls fad),aa T (B cls kls fad) (n+1)⟩ (.name 9) aC ES (fun _=>True) De (cs.map D.int) [y0,y1,y2,some (.rol (cks.map cD)),some (.dit (wy.map pr) (wy.map wv)),some (.ref a),y6,some (.ref b),some (.ref d),y9,y10,y11,y12,y13,y14,y15,y16,y17] (H3 M0 a b d at_ sn td)
 |[],Bd,td,at_,sn,y9,y10,y11,y12,y13,y14,y15,y16,y17,b0,b1,z1,z2,tb,k=>by
  rw[List.map_nil,bj];exact⟨trivial,k td at_ sn tb.ta.f (by simp) _ _ _ _ _ _ _ _ _⟩
 |c::cs,Bd,td,at_,sn,y9,y10,y11,y12,y13,y14,y15,y16,y17,b0,b1,z1,z2,tb,k=>by
  simp only[List.length_cons]at z1 z2 k b1;have p1:(1:Int)<=5 ^ cs.length:=by have:(0:Int) < 5 ^ cs.length:=Int.pow_pos (by decide);omega
  have e5:Bd * 5 ^ (cs.length+1)=5 * Bd * 5 ^ cs.length:=by rw[Int.pow_succ,Int.mul_comm (5 ^ cs.length) 5,<-Int.mul_assoc,Int.mul_comm Bd 5]
  rw[e5]at b1;have b2:5 * Bd<=5 * Bd * 5 ^ cs.length:=by
   have:=Int.mul_le_mul_of_nonneg_left (c:=5 * Bd) p1 (by omega)
   rwa [Int.mul_one]at this
  have b3:=Int.le_trans b2 b1;rw[List.map_cons,aV];refine⟨trivial,?_⟩;rw[oI];refine mV G A hM tb b0 (by omega) (by omega) (by omega) fun td' at' sn' h1 h2 h3 y10 y11 y12 y13 y14 y15 y16 y17=>?_
  exact ka G A hM cs (5 * Bd) td' at' sn' _ _ _ _ _ _ _ _ _ (by omega) b1 (by omega) (by omega) h3 fun td2 a2 s2 f2 l2=>k td2 a2 s2 f2 (by omega)
theorem oF{W:WC}{De:Ends3}{ES:St3->XN}{y0 y2 y3 y4:Option D}{ys:List (Option D)}{st:Int}:∀(xs:List Int)(at_:List A3)(y6:Option D),at_.length+xs.length < 400->
  (∀y6,De.nx (y0::some (.int st)::y2::y3::y4::some (.ref a)::y6::ys) (put M0 a (.lst ((at_++xs.map fun x=>(0,x % 1000000000000 - 100000000000,st % 1000000000000 - 100000000000)).map a3D))))->
  bW W (.name 6) cP ES (fun _=>True) De (xs.map D.int) (y0::some (.int st)::y2::y3::y4::some (.ref a)::y6::ys) (put M0 a (.lst (at_.map a3D)))
 |[],at_,y6,hl,hR=>by
  rw[List.map_nil,bj];have:=hR y6;rw[List.map_nil,List.append_nil]at this;exact⟨trivial,this⟩
 |x::xs,at_,y6,hl,hR=>by
  simp only[List.length_cons]at hl;have hs:at_.length < PySem.sizeLine:=Nat.lt_of_lt_of_le (show at_.length < 1000 by omega) (by decide)
  have ih:=oF (W:=W) (De:=De) (ES:=ES) (y0:=y0) (y2:=y2) (y3:=y3) (y4:=y4) (ys:=ys) xs (at_++[(0,x % 1000000000000 - 100000000000,st % 1000000000000 - 100000000000)]) (some (.int x)) (by simp;omega) (fun y6=>by
   have:=hR y6;simpa using this)
  rw[List.map_cons,aV];simp only[cP]at ih ⊢;simp[gO,hs,av];simpa [a3D] using ih
theorem CK{M:MH}(ha:M a=none)(hb:M b=none)(hd:M d=none):ac M (del (H3 M a b d at_ sn td) d)=M:=by
 funext k;unfold ac del H3 put;by_cases k1:k=d
 ·subst k1;simp[hd]
 ·by_cases k2:k=b
  ·subst k2;simp[hb]
  ·by_cases k3:k=a
   ·subst k3;simp[ha]
   ·simp[k1,k2,k3];cases M k<;>rfl
theorem yJ{M:MH}{Q:VK3}{E:XN}{st:Int}{cs:List Int}(G:GW cks wy)(hM:Fm M)(hl:cs.length<=16)(k:∀td:List (Rw×Int),(∀r∈td.map Prod.fst,r.fine cks.length wy)->td.length<=16->Q (.rol (td.map tdD)) M) :
  aa T (B cls kls fad) (n+2) 40 [.tup [.rol (cks.map cD),.dit (wy.map pr) (wy.map wv)],.int st,.rol (cs.map D.int)] M Q E:=by
 have l1:=G.l1;have l6:=G.l6;have sm:∀{M:MH}{Q:VK3}{E:XN},Fm M->aa T (B cls kls fad) (n+1) 33 [.int st,.int (cks.length:Nat)] M Q E=Q (.rol ((aQ st cks.length).map D.int)) M:=fun {M Q E} fm=>fE fm (by omega)
 have sl:(aQ st cks.length).length=cks.length:=cq;generalize aQ st cks.length=xs at sm sl;simp only[nz,dg];simp[lm];intro a ha;simp[sm (hM.put _ _)];refine oF (M0:=M) xs [] none (by simp;omega) fun y6=>?_
 simp[-List.map_map];intro b hb d hd;obtain⟨hba,hb⟩:=cO hb;obtain⟨hdb,hd⟩:=cO hd;obtain⟨hda,hd⟩:=cO hd;have A:D3 a b d:=⟨Ne.symm hba,Ne.symm hda,Ne.symm hdb⟩;generalize hat:(xs.map fun x=>((0:Int),x % 1000000000000 - 100000000000,st % 1000000000000 - 100000000000))=at_
 have tb:TB cks.length wy (10 ^ 43) [] at_ []:=by
  have hat0:∀x∈at_,(-(10 ^ 43)<=x.2.2/\x.2.2<=10 ^ 43)/\(-(10 ^ 43)<=x.2.1/\x.2.1<=10 ^ 43):=fun x hx=>by
   rw[<-hat]at hx;obtain⟨y,_,rfl⟩:=List.mem_map.mp hx;exact⟨by simp only;omega,by simp only;omega⟩
  have la:at_.length=cks.length:=by rw[<-hat];simp[sl]
  refine⟨⟨fun r hr=>(by cases hr),la,fun e he=>(by cases he),fun e he=>(by cases he),by simp⟩,hat0,fun e he=>by cases he⟩
 refine ka (M0:=M) G A hM cs (10 ^ 43) [] at_ [] none none none none none none none none none (by omega) ?_ (by simp;omega) (by simp;omega) tb fun td' at' sn' f l y9 y10 y11 y12 y13 y14 y15 y16 y17=>?_
 ·have:(5:Int) ^ cs.length<=5 ^ 16:=by
   have:=Int.ofNat_le.mpr (Nat.pow_le_pow_right (show 5 > 0 by decide) hl)
   rw[Int.natCast_pow,Int.natCast_pow]at this;exact this
  have:=Int.mul_le_mul_of_nonneg_left (c:=(10:Int) ^ 43) this (by decide)
  exact Int.le_trans this (by decide)
 ·have:=k td' f (by simpa [l] using hl)
  simp[aZ,A.gd,CK ha hb hd];exact this
end
end G
namespace G
open L2
section
variable {cls kls fad:Nat->PySem.Addr}{M:MH}{Q:VK3}{E:XN}{n:Nat}{p d:PySem.Addr}{cks:List (Int×Int)}{wy:List Wy}{r:Rw}
theorem cu{i:Int}(h:okH cks.length i=true):aa T (B cls kls fad) (n+3) 25 [wO kls cks wy,.int i] M Q E=Q .non M:=by rw[iH,if_pos h]
theorem sw{i:Int}(h:okH cks.length i=true):aa T (B cls kls fad) (n+4) 30 [wO kls cks wy,.int i] M Q E=Q (.tup [.int (k0 cks i.toNat).1,.int (k0 cks i.toNat).2]) M:=by
 have om:∀{M:MH}{R:Nat->Prop},c5 (B cls kls fad) 119080781550527859766002 (wO kls cks wy) M R=R 25:=fun {M R}=>o_m (by decide) (by decide) (by decide)
 have rh:=fun {M:MH}{Q:VK3}{E:XN}=>cu (cls:=cls) (kls:=kls) (fad:=fad) (n:=n) (M:=M) (Q:=Q) (E:=E) (cks:=cks) (wy:=wy) h
 simp only[okH,Bool.and_eq_true,decide_eq_true_eq]at h;obtain⟨k,rfl⟩:=Int.eq_ofNat_of_zero_le h.1;have ix:=fun {M:MH}{Q:VK3}=>on (M:=M) (Q:=Q) (cks:=cks) (k:=k) (by omega)
 simp only[jn,bF];simp[-List.getD_eq_getElem?_getD,↓om,↓rh,↓o_c,↓ix]
theorem vH{w:Wy}(hg:w.good cks.length)(hn:(wy.map pr).Nodup)(hk:w∈wy):aa T (B cls kls fad) (n+5) 31 [wO kls cks wy,.int w.i,.int w.j] M Q E=Q (way w.l w.m) M:=by
 have om:∀{M:MH}{R:Nat->Prop},c5 (B cls kls fad) 119080781550527859766002 (wO kls cks wy) M R=R 25:=fun {M R}=>o_m (by decide) (by decide) (by decide)
 have op:∀{M:MH}{R:Nat->Prop},c5 (B cls kls fad) 135562951883986971505394 (wO kls cks wy) M R=R 26:=fun {M R}=>o_m (by decide) (by decide) (by decide)
 have oh:∀{M:MH}{R:Nat->Prop},c5 (B cls kls fad) 535528667410664 (wO kls cks wy) M R=R 29:=fun {M R}=>o_m (by decide) (by decide) (by decide)
 have r1:=fun {M:MH}{Q:VK3}{E:XN}=>cu (cls:=cls) (kls:=kls) (fad:=fad) (n:=n) (M:=M) (Q:=Q) (E:=E) (cks:=cks) (wy:=wy) hg.i
 have r2:=fun {M:MH}{Q:VK3}{E:XN}=>cu (cls:=cls) (kls:=kls) (fad:=fad) (n:=n) (M:=M) (Q:=Q) (E:=E) (cks:=cks) (wy:=wy) hg.j
 have rp:∀{M:MH}{Q:VK3}{E:XN},aa T (B cls kls fad) (n+4) 26 [wO kls cks wy,.int w.i,.int w.j] M Q E=Q .non M:=fun {M Q E}=>by
  simp only[bS,aA];simp[↓om,↓r1,↓r2,hg.ne]
 have hw:=fun {M:MH}{Q:VK3}{E:XN}=>nO (cls:=cls) (kls:=kls) (fad:=fad) (n:=n+3) (M:=M) (Q:=Q) (E:=E) (cks:=cks) (wy:=wy) (i:=w.i) (j:=w.j)
 have hm:[w.i,w.j]∈wy.map pr:=List.mem_map.mpr ⟨w,hk,rfl⟩;have ix:=fun {M:MH}{Q:VK3}=>nN (M:=M) (Q:=Q) hn hk
 simp only[lW,cF];simp[↓op,↓rp,↓oh,↓hw,hm,↓o_w,↓ix,wv,av]
noncomputable def wOf(wy:List Wy)(i j:Int):Wy:=(wy.find? fun w=>decide (w.i=i)&&decide (w.j=j)).getD ⟨0,0,0,none⟩
theorem qt{i j:Int}(h:[i,j]∈wy.map pr):wOf wy i j∈wy/\(wOf wy i j).i=i/\(wOf wy i j).j=j:=by
 unfold wOf;cases e:wy.find? fun w=>decide (w.i=i)&&decide (w.j=j) with
 |none=>
  obtain⟨w,hw,q⟩:=List.mem_map.mp h;simp only[pr,List.cons.injEq,and_true]at q;have:=List.find?_eq_none.mp e w hw;simp[q.1,q.2]at this
 |some w=>
  have h1:=List.find?_some e;simp only[Bool.and_eq_true,decide_eq_true_eq]at h1;exact⟨List.mem_of_find?_eq_some e,h1.1,h1.2⟩
noncomputable def bg(wy:List Wy)(hd:D):Rw->List D
 |.sight _ _ e l=>[.tup [.tup [.int (-1),.int 0],hd,.int l],.tup [hd,.tup [.int (-1),.int 0],.int (-e)]]
 |.take h _ a b=>.tup [hd,.tup [.int a,.int b],.int (-(wOf wy a h).l)]::(match (wOf wy a h).m with
  |none=>[]
  |some m=>[.tup [.tup [.int a,.int b],hd,.int m]])
 |_=>[]
noncomputable abbrev mO:Nat:=1067955986548848835567
theorem Bt{hd:D}(G:GW cks wy)(hr:r.may wy)(hM:Fm M):c5 (B cls kls fad) mO (r.o kls) M (fun f=>aa T (B cls kls fad) (n+6) f [r.o kls,wO kls cks wy,hd] M Q E)=Q (.rol (bg wy hd r)) M:=by
 cases r with
 |look a b=>simp[Rw.o,mO,fU,fy,aR,bg]
 |sight a b c d=>simp[Rw.o,mO,fU,e8,aP,av,bg]
 |send a b c=>simp[Rw.o,mO,fU,fO,aS,bg]
 |take a b c d=>
  obtain⟨w1,w2,w3⟩:=qt (show [c,a]∈wy.map pr from hr);have om:∀{R:Nat->Prop},c5 (B cls kls fad) 1994999 (wO kls cks wy) M R=R 31:=fun {R}=>o_m (by decide) (by decide) (by decide)
  have ws:=fun {Q:VK3}{E:XN}=>vH (cls:=cls) (kls:=kls) (fad:=fad) (n:=n) (M:=M) (Q:=Q) (E:=E) (G.gd _ w1) G.nd w1
  rw[w2,w3]at ws;simp only[bg];cases e:(wOf wy c a).m with
  |none=>
   simp[Rw.o,mO,fU,cJ,aH,↓om,↓ws,way,oi,e,av];exact iff_of_eq (aL hM fun p hp=>by simp[iD hp,hp])
  |some m=>
   simp[Rw.o,mO,fU,cJ,aH,↓om,↓ws,way,oi,e,av];exact iff_of_eq (aL hM fun p hp=>by simp[iD hp,hp,AH])
theorem zb{hd:D}(hn:(wy.map pr).Nodup)(hr:r.may wy):aa T (B cls kls fad) (n+1) 41 [.tup [.rol (cks.map cD),.dit (wy.map pr) (wy.map wv)],r.d,hd] M Q E=Q (.rol (bg wy hd r)) M:=by
 simp only[pH,eu];cases r with
 |look a b=>simp +decide [Rw.d,bg]
 |sight a b c d=>simp +decide [Rw.d,av,bg]
 |send a b c=>simp +decide [Rw.d,bg]
 |take a b c d=>
  obtain⟨w1,w2,w3⟩:=qt (show [c,a]∈wy.map pr from hr);have ix:=fun {M:MH}{Q:VK3}=>nN (M:=M) (Q:=Q) hn w1
  rw[w2,w3]at ix;simp only[bg];simp only[wv,way]at ix;cases e:(wOf wy c a).m with
  |none=>rw[e]at ix;simp +decide [Rw.d,↓ix,lm,oi,D.isN,av]
  |some m=>rw[e]at ix;simp +decide [Rw.d,↓ix,lm,oi,D.isN,av]
noncomputable def k9(c:Int×Int)(h:Int)(k:Nat)(t:Int):List D:=[.tup [.tup [.int h,.int ((k:Int) - 1)],.tup [.int h,.int k],.int (c.2 * t)],.tup [.tup [.int h,.int k],.tup [.int h,.int ((k:Int) - 1)],.int (-c.1 * t)]]
noncomputable def nxt(lr:Int->Int)(h v:Int):Int->Int:=fun x=>if x=h then v else lr x
noncomputable def fx(cks:List (Int×Int))(wy:List Wy)(c:Int->Nat)(lr:Int->Int)(r:Rw):List D:=bg wy (.tup [.int r.h,.int (c r.h)]) r++if 0 < c r.h then k9 (k0 cks r.h.toNat) r.h (c r.h) (r.r - lr r.h) else []
noncomputable def bdF(cks:List (Int×Int))(wy:List Wy):(Int->Nat)->(Int->Int)->List Rw->List D
 |_,_,[]=>[]
 |c,lr,r::rs=>fx cks wy c lr r++bdF cks wy (dS c r.h) (nxt lr r.h r.r) rs
theorem kL{hd:D}:(bg wy hd r).length<=2:=by
 cases r with
 |take h v a b=>simp only[bg];split<;>simp
 |_=>simp[bg]
theorem og{c:Int->Nat}{lr:Int->Int}:(fx cks wy c lr r).length<=4:=by
 unfold fx;rw[List.length_append];have:=kL (wy:=wy) (r:=r) (hd:=.tup [.int r.h,.int (c r.h)]);split<;>simp[k9]<;>omega
theorem Bb{ks:List (List Int)}{ds:List D}{i j:Int}(h:M d=some (.dt ks ds)):aN .In (.tup [.int i,.int j]) (.ref d) M Q=Q (.bl (getD ks ds [i,j]).isSome) M:=by
 simp[aN,mK,aB,ak,h,gU,gm,gN,jy,dY]
theorem Cy{ks:List (List Int)}{ds:List D}{i j:Int}{v:D}(h:M d=some (.dt ks ds))(hv:getD ks ds [i,j]=some v):ar (.ref d) (.tup [.int i,.int j]) M Q=Q v M:=by
 simp[ar,aB,ak,h,gU,gm,gN,jy,dY,hv]
theorem qX{ds es:List D}{p d:PySem.Addr}{o:DO}(hpd:p≠d)(hz:ds.length+es.length < 1000):rBm .extend (.ref p) [.rol es] (put (put M p (.lst ds)) d o) Q=Q .non (put (put M p (.lst (ds++es))) d o):=by
 have h:(put (put M p (.lst ds)) d o) p=some (.lst ds):=by rw[aj hpd,ah]
 have hs:ds.length+es.length<=PySem.sizeLine:=Nat.le_trans (show ds.length+es.length<=1000 by omega) (by decide)
 simp[rBm,h,ak,hs,dX hpd]
structure BI (ks:List (List Int)) (ds:List D)(c:Int->Nat)(lr:Int->Int):Prop where
 hl:ks.length=ds.length
 i1:∀h,getD ks ds [h,-1]=none
 i2:∀h,0 < c h->getD ks ds [h,(c h:Int) - 1]=some (.int (lr h))
 lb:∀h,-(10 ^ 62)<=lr h/\lr h<=10 ^ 62
theorem BI.step{ks:List (List Int)}{ds:List D}{c:Int->Nat}{lr:Int->Int}{h v:Int}(I:BI ks ds c lr)(hv : -(10 ^ 62)<=v/\v<=10 ^ 62):BI (am ks [h,(c h:Int)]) (au ks ds [h,(c h:Int)] (.int v)) (dS c h) (nxt lr h v):=by
 refine⟨d8 I.hl,fun x=>?_,fun x hx=>?_,fun x=>?_⟩
 ·rw[bM I.hl,if_neg (fun z=>by simp only[List.cons.injEq,and_true]at z;omega)];exact I.i1 x
 ·rw[bM I.hl];unfold dS nxt at *
  by_cases e:x=h
  ·subst e;simp
  ·rw[if_neg e]at hx ⊢;rw[if_neg (fun z=>by simp only[List.cons.injEq,and_true]at z;exact e z.1.symm),if_neg e]
   exact I.i2 x hx
 ·unfold nxt;split
  ·exact hv
  ·exact I.lb x
theorem kr(G:GW cks wy)(hM:Fm M)(hpd:p≠d){S:MH->Prop}(hS:∀acc ks ds,S (put (put M p (.lst acc)) d (.dt ks ds))){De:Ends3}{ES:St3->XN}{x1:Option D}:∀(rows:List Rw)(c:Int->Nat)(lr:Int->Int)(acc:List D) (ks:List (List Int)) (ds:List D)(x4 x5 x6 x7:Option D),BI ks ds c lr->ks.length+rows.length < 400->acc.length+4 * rows.length < 900->(∀r∈rows,r.fine cks.length wy)->
  (∀ks' ds' x4 x5 x6 x7,De.nx [some (wO kls cks wy),x1,some (.ref p),some (.ref d),x4,x5,x6,x7] (put (put M p (.lst (acc++bdF cks wy c lr rows))) d (.dt ks' ds')))->
  bW ⟨(B cls kls fad),aa T (B cls kls fad) (n+6)⟩ (.tup [4,5]) cG ES S De (dI ((nmF (rows.map Rw.h) c).map nD) (rows.map Rw.d)) [some (wO kls cks wy),x1,some (.ref p),some (.ref d),x4,x5,x6,x7] (put (put M p (.lst acc)) d (.dt ks ds))
 |[],c,lr,acc,ks,ds,x4,x5,x6,x7,I,z1,z2,hf,hR=>by
  have:=hR ks ds x4 x5 x6 x7;rw[bdF,List.append_nil]at this;show bW _ _ _ _ _ _ [] _ _;rw[bj];exact⟨hS _ _ _,this⟩
 |r::rows,c,lr,acc,ks,ds,x4,x5,x6,x7,I,z1,z2,hf,hR=>by
  simp only[List.length_cons]at z1 z2;have f:=hf r List.mem_cons_self;have fm:∀{acc ks ds},Fm (put (put M p (.lst acc)) d (.dt ks ds)):=fun {_ _ _}=>(hM.put _ _).put _ _
  have gp:∀{acc ks ds},(put (put M p (.lst acc)) d (.dt ks ds)) p=some (.lst acc):=fun {_ _ _}=>by rw[aj hpd,ah]
  have l1:=kL (wy:=wy) (r:=r) (hd:=.tup [.int r.h,.int (c r.h)]);have k1:=cY (ks:=ks) (k:=[r.h,(c r.h:Int)]);have ol:=og (cks:=cks) (wy:=wy) (c:=c) (lr:=lr) (r:=r);have nx:=kr G hM hpd hS (De:=De) (ES:=ES) (x1:=x1) rows (dS c r.h) (nxt lr r.h r.r) (acc++fx cks wy c lr r) (am ks [r.h,(c r.h:Int)]) (au ks ds [r.h,(c r.h:Int)] (.int r.r)) (some (.tup [.int r.h,.int (c r.h)])) (some r.d) (some (r.o kls)) (some (.tup [.int r.h,.int ((c r.h:Int) - 1)])) (I.step f.b) (by omega) (by rw[List.length_append];omega) (fun x hx=>hf x (List.mem_cons_of_mem _ hx)) (fun ks' ds' x4 x5 x6 x7=>by
   rw[List.append_assoc];exact hR ks' ds' x4 x5 x6 x7)
  have ch:=fun {acc:List D}{Q:VK3}{E:XN}=>md (cls:=cls) (kls:=kls) (fad:=fad) (n:=n+2) (Q:=Q) (E:=E) r (fm (acc:=acc) (ks:=ks) (ds:=ds))
  have co:=fun {acc:List D}{Q:VK3}{E:XN}=>Bt (cls:=cls) (kls:=kls) (fad:=fad) (n:=n) (Q:=Q) (E:=E) (hd:=.tup [.int r.h,.int (c r.h)]) G f.w (fm (acc:=acc) (ks:=ks) (ds:=ds))
  have ty:=fun {acc:List D}=>fA (gp (acc:=acc) (ks:=ks) (ds:=ds))
  have oh:=fun {M:MH}{Q:VK3}=>Ac (cls:=cls) (fad:=fad) (kls:=kls) (M:=M) (Q:=Q) (r:=r)
  have or:=fun {M:MH}{Q:VK3}=>yU (cls:=cls) (fad:=fad) (kls:=kls) (M:=M) (Q:=Q) (r:=r)
  have e1:=fun {Q:VK3}=>qX (M:=M) (Q:=Q) (ds:=acc) (es:=bg wy (.tup [.int r.h,.int (c r.h)]) r) (o:=.dt ks ds) hpd (by omega)
  have ia:=fun {acc:List D}{Q:VK3}=>Bb (Q:=Q) (i:=r.h) (j:=(c r.h:Int) - 1) (ah (M:=put M p (.lst acc)) (a:=d) (o:=.dt ks ds))
  have st:∀{acc:List D}{R:MH->Prop},bc (.ref d) (.tup [.int r.h,.int (c r.h)]) (.int r.r) (put (put M p (.lst acc)) d (.dt ks ds)) R=R (put (put M p (.lst acc)) d (.dt (am ks [r.h,(c r.h:Int)]) (au ks ds [r.h,(c r.h:Int)] (.int r.r)))):=fun {acc R}=>by
   rw[lM ah (by omega),cN]
  show bW _ _ _ _ _ _ (.tup [nD (r.h,c r.h),r.d]::dI ((nmF (rows.map Rw.h) (dS c r.h)).map nD) (rows.map Rw.d)) _ _;rw[aV];refine⟨hS _ _ _,?_⟩;generalize bW ⟨(B cls kls fad),aa T (B cls kls fad) (n+6)⟩ (.tup [4,5]) cG ES S De (dI ((nmF (rows.map Rw.h) (dS c r.h)).map nD) (rows.map Rw.d))=K at nx ⊢;simp only[mO]at co;simp only[cG,nD];by_cases c0:0 < c r.h
  ·have g2:=I.i2 r.h c0;have ix:=fun {acc:List D}{Q:VK3}=>Cy (Q:=Q) (ah (M:=put M p (.lst acc)) (a:=d) (o:=.dt ks ds)) g2
   have oc:∀{M:MH}{R:Nat->Prop},c5 (B cls kls fad) 28932044387 (wO kls cks wy) M R=R 30:=fun {M R}=>o_m (by decide) (by decide) (by decide)
   have cc:=fun {M:MH}{Q:VK3}{E:XN}=>sw (cls:=cls) (kls:=kls) (fad:=fad) (n:=n+2) (M:=M) (Q:=Q) (E:=E) (cks:=cks) (wy:=wy) f.h
   have lb:=I.lb r.h;have fb:=f.b;have hk:=f.h;simp only[okH,Bool.and_eq_true,decide_eq_true_eq]at hk;obtain⟨q1,q2,q3⟩:=qo (k:=r.h.toNat) G (by omega)
   have m1:bV (k0 cks r.h.toNat).2 (r.r - lr r.h)=True:=dR (by omega) (by omega) (by omega) (by omega)
   have m2:bV (-(k0 cks r.h.toNat).1) (r.r - lr r.h)=True:=dR (by omega) (by omega) (by omega) (by omega)
   have cb:∀{M:MH}{Q:VK3}{E:XN},aa T (B cls kls fad) (n+6) 19 [.tup [.int (k0 cks r.h.toNat).1,.int (k0 cks r.h.toNat).2],.tup [.int r.h,.int ((c r.h:Int) - 1)],.tup [.int r.h,.int (c r.h)],.int (r.r - lr r.h)] M Q E=Q (.rol (k9 (k0 cks r.h.toNat) r.h (c r.h) (r.r - lr r.h))) M:=fun {M Q E}=>by
    simp only[iB,bh];simp[-List.getD_eq_getElem?_getD,m1,m2,k9,av]
   have e2:=fun {Q:VK3}=>qX (M:=M) (Q:=Q) (ds:=acc++bg wy (.tup [.int r.h,.int (c r.h)]) r) (es:=k9 (k0 cks r.h.toNat) r.h (c r.h) (r.r - lr r.h)) (o:=.dt ks ds) hpd (by rw[List.length_append];simp[k9];omega)
   rw[show fx cks wy c lr r=bg wy (.tup [.int r.h,.int (c r.h)]) r++k9 (k0 cks r.h.toNat) r.h (c r.h) (r.r - lr r.h) by unfold fx;rw[if_pos c0]]at nx
   simp[-List.getD_eq_getElem?_getD,↓ch,↓co,ty,↓e1,↓ia,g2,↓oh,↓or,↓oc,↓cc,↓ix,↓cb,↓e2,↓st,av];simpa [-List.getD_eq_getElem?_getD] using nx
  ·have z0:c r.h=0:=by omega
   have g1:getD ks ds [r.h,(c r.h:Int) - 1]=none:=by rw[z0];exact I.i1 r.h
   rw[show fx cks wy c lr r=bg wy (.tup [.int r.h,.int (c r.h)]) r by unfold fx;rw[if_neg c0,List.append_nil]]at nx
   simp[-List.getD_eq_getElem?_getD,↓ch,↓co,ty,↓e1,↓ia,g1,↓oh,↓or,↓st,av];simpa [-List.getD_eq_getElem?_getD] using nx
end
end G
namespace G
open L2
section
variable {cls kls fad:Nat->PySem.Addr}{M:MH}{Q:VK3}{E:XN}{n:Nat}{p d:PySem.Addr}{cks:List (Int×Int)}{wy:List Wy}{r:Rw}
noncomputable abbrev c00:Int->Nat:=fun _=>0
noncomputable abbrev l00:Int->Int:=fun _=>0
theorem iW{x:D}{rows:List Rw}(G:GW cks wy)(hM:Fm M)(hx:Lg M x (rows.map Rw.d))(hl:rows.length<=16)(hf:∀r∈rows,r.fine cks.length wy)
  (k:∀p d ks ds,M p=none->M d=none->p≠d->Q (.ref p) (put (put M p (.lst (bdF cks wy c00 l00 rows))) d (.dt ks ds))):aa T (B cls kls fad) (n+7) 20 [wO kls cks wy,x] M Q E:=by
 simp only[ra,fD];simp;intro p hp d hd;obtain⟨hdp,hd⟩:=cO hd;have fm:Fm (put (put M p (.lst [])) d (.dt [] [])):=(hM.put _ _).put _ _;have I0:BI [] [] c00 l00:=⟨rfl,fun h=>rfl,fun h z=>(by cases z),fun h=>⟨by show -(10 ^ 62)<=(0:Int);decide,by show (0:Int)<=10 ^ 62;decide⟩⟩
 rcases hx with rfl|⟨b,rfl,hb⟩
 ·have cn:=fun {Q:VK3}{E:XN}=>oj (cls:=cls) (kls:=kls) (fad:=fad) (n:=n+4) (Q:=Q) (E:=E) rows (.inl rfl) (by omega) fm
  simp[↓cn];exact kr G hM (Ne.symm hdp) (fun _ _ _=>trivial) rows c00 l00 [] [] [] _ _ _ _ I0 (by simp;omega) (by simp;omega) hf fun ks' ds' x4 x5 x6 x7=>by
   simpa using k p d ks' ds' hp hd (Ne.symm hdp)
 ·have bp:b≠p:=fun z=>by rw[z,hp]at hb;cases hb
  have bd:b≠d:=fun z=>by rw[z,hd]at hb;cases hb
  have hw:∀acc ks ds,(put (put M p (.lst acc)) d (.dt ks ds)) b=some (.lst (rows.map Rw.d)):=fun acc ks ds=>by rw[aj bd,aj bp,hb]
  have cn:=fun {Q:VK3}{E:XN}=>oj (cls:=cls) (kls:=kls) (fad:=fad) (n:=n+4) (Q:=Q) (E:=E) rows (.inr ⟨b,rfl,hw [] [] []⟩) (by omega) fm
  simp[↓cn,hw];exact kr G hM (Ne.symm hdp) hw rows c00 l00 [] [] [] _ _ _ _ I0 (by simp;omega) (by simp;omega) hf fun ks' ds' x4 x5 x6 x7=>by
   simpa using k p d ks' ds' hp hd (Ne.symm hdp)
structure DV (M0 M:MH)(f s:PySem.Addr)(acc:List D)(ks:List Key)(ds:List D)(c:Int->Nat)(lr:Int->Int):Prop where
 fm:Fm M
 old:∀a o,M0 a=some o->M a=some o
 f0:M0 f=none
 s0:M0 s=none
 fs:f≠s
 vf:M f=some (.lst acc)
 vs:M s=some (.dk ks ds)
 hl:ks.length=ds.length
 no:∀h,c h=0->getD ks ds (.inl h)=none
 yes:∀h,0 < c h->∃(q:PySem.Addr)(l:List Int),getD ks ds (.inl h)=some (.ref q)/\M q=some (.lst (l.map D.int))/\l.length=c h/\l.getLast?=some (lr h)/\q≠f/\q≠s/\M0 q=none
 one:∀h h' q,getD ks ds (.inl h)=some (.ref q)->getD ks ds (.inl h')=some (.ref q)->h=h'
theorem kA{De:Ends3}{σ:St3}{ds:List D}{y:D}(h:M p=some (.lst ds))(hz:ds.length < 1000):cj p De σ y M=De.nx σ (put M p (.lst (ds++[y]))):=by
 have hs:ds.length < PySem.sizeLine:=Nat.lt_of_lt_of_le hz (by decide)
 simp[cj,h,hs]
theorem rQ{ds es:List D}(h:M p=some (.lst ds))(hz:ds.length+es.length < 1000):rBm .extend (.ref p) [.rol es] M Q=Q .non (put M p (.lst (ds++es))):=by
 have hs:ds.length+es.length<=PySem.sizeLine:=Nat.le_trans (show ds.length+es.length<=1000 by omega) (by decide)
 simp[rBm,h,ak,hs]
theorem tP{l:List Int}{v:Int}(h:l.getLast?=some v):atI (l.map D.int) (-1)=some (.int v):=by
 have hne:l≠[]:=fun z=>by rw[z]at h;cases h
 have hl:0 < l.length:=List.length_pos_iff.mpr hne;have e:l[l.length - 1]?=some v:=by rw[<-List.getLast?_eq_getElem?];exact h
 have e2:ixN (l.map D.int).length (-1)=some (l.length - 1):=by
  rw[List.length_map];unfold ixN;rw[if_neg (by decide),if_pos (by omega)];congr 1;omega
 unfold atI;rw[e2];simp[e]
theorem qu{M0:MH}{f s:PySem.Addr}{acc:List D}{ks:List Key}{ds:List D}{c:Int->Nat}{lr:Int->Int}{De:Ends3}{ES:St3->XN}{x1 y5 y6 y7 y8 y9:Option D}(G:GW cks wy)(V:DV M0 M f s acc ks ds c lr)(hf:r.fine cks.length wy)(lb:∀h,-(10 ^ 62)<=lr h/\lr h<=10 ^ 62)(z1:ks.length < 300)(z2:acc.length < 900)(z3:c r.h < 900)
  (k:∀M' ks' ds' y5 y6 y7 y8 y9,ks'.length<=ks.length+1->DV M0 M' f s (acc++fx cks wy c lr r) ks' ds' (dS c r.h) (nxt lr r.h r.r)->De.nx [some (.tup [.rol (cks.map cD),.dit (wy.map pr) (wy.map wv)]),x1,some (.ref f),some (.ref s),some r.d,y5,y6,y7,y8,y9] M') :
  ao ⟨(B cls kls fad),aa T (B cls kls fad) (n+1)⟩ bY De ES [some (.tup [.rol (cks.map cD),.dit (wy.map pr) (wy.map wv)]),x1,some (.ref f),some (.ref s),some r.d,y5,y6,y7,y8,y9] M:=by
 have i1:=fun {M:MH}{Q:VK3}=>uS (M:=M) (Q:=Q) (r:=r)
 have i2:=fun {M:MH}{Q:VK3}=>CY (M:=M) (Q:=Q) (r:=r)
 have ol:=kL (wy:=wy) (r:=r) (hd:=.tup [.int r.h,.int (c r.h)]);have lo:=fun {M:MH}{Q:VK3}{E:XN}=>zb (cls:=cls) (kls:=kls) (fad:=fad) (n:=n) (M:=M) (Q:=Q) (E:=E) (cks:=cks) (hd:=.tup [.int r.h,.int (c r.h)]) G.nd hf.w
 have hz:ks.length < PySem.sizeLine:=Nat.lt_of_lt_of_le (show ks.length < 1000 by omega) (by decide)
 have kl:=cY (ks:=ks) (k:=(.inl r.h:Key));simp only[bY];simp[↓i1];refine⟨by simp[tyB,gm,V.vs],fun p hp=>?_⟩
 have ps:p≠s:=fun z=>by rw[z,V.vs]at hp;cases hp
 have pf:p≠f:=fun z=>by rw[z,V.vf]at hp;cases hp
 have gs:(put M p (.lst [])) s=some (.dk ks ds):=by rw[aj (Ne.symm ps)];exact V.vs
 have gf:(put M p (.lst [])) f=some (.lst acc):=by rw[aj (Ne.symm pf)];exact V.vf
 have fm1:Fm (put M p (.lst [])):=V.fm.put _ _;have m0p:M0 p=none:=by
  cases e:M0 p with
  |none=>rfl
  |some o=>rw[V.old p o e]at hp;cases hp
 by_cases c0:0 < c r.h
 ·obtain⟨q,l,g1,g2,g3,g4,g5,g6,g7⟩:=V.yes r.h c0;have qp:q≠p:=fun z=>by rw[z,hp]at g2;cases g2
  have sd:∀{Q:VK3},rBm .setdef (.ref s) [.int r.h,.ref p] (put M p (.lst [])) Q=Q (.ref q) (put M p (.lst [])):=fun {Q}=>by simp[rBm,gs,mw,g1,hz]
  have F:∀a,(put (put M p (.lst [])) f (.lst a)) q=some (.lst (l.map D.int)):=fun a=>by rw[aj g5,aj qp];exact g2
  have F0:(put M p (.lst [])) q=some (.lst (l.map D.int)):=by rw[aj qp];exact g2
  have le:∀{M:MH}{Q:VK3},M q=some (.lst (l.map D.int))->rBi .len [.ref q] M Q=Q (.int (c r.h:Nat)) M:=fun {M Q} h=>by rw[<-g3];simp[rBi,aB,ak,h]
  have le0:=fun {Q:VK3}=>le (Q:=Q) F0
  have le1:=fun {a:List D}{Q:VK3}=>le (Q:=Q) (F a)
  have ex:=fun {Q:VK3}=>rQ (Q:=Q) (es:=bg wy (.tup [.int r.h,.int (c r.h)]) r) gf (by omega)
  have ne:l.isEmpty=false:=by
   cases l with
   |nil=>rw[<-g3]at c0;simp at c0
   |cons _ _=>rfl
  have nn:∀{a:List D}{Q:VK3},aN .NotEq (.ref q) (.rol []) (put (put M p (.lst [])) f (.lst a)) Q=Q (.bl true) (put (put M p (.lst [])) f (.lst a)):=fun {a Q}=>by
   rw[lc (ds:=l.map D.int) (by simp[ak,F]) (by simp[plN]) (by simp[plN])];simp[ne]
  have hk:=hf.h;simp only[okH,Bool.and_eq_true,decide_eq_true_eq]at hk;have ic:∀{M:MH}{Q:VK3},ar (.rol (cks.map cD)) (.int r.h) M Q=Q (.tup [.int (k0 cks r.h.toNat).1,.int (k0 cks r.h.toNat).2]) M:=fun {M Q}=>by
   have:=on (M:=M) (Q:=Q) (cks:=cks) (k:=r.h.toNat) (by omega)
   rwa [Int.toNat_of_nonneg hk.1]at this
  have la:∀{a:List D}{Q:VK3},ar (.ref q) (.int (-1)) (put (put M p (.lst [])) f (.lst a)) Q=Q (.int (lr r.h)) (put (put M p (.lst [])) f (.lst a)):=fun {a Q}=>by
   rw[m8 (F a)];exact jQ (tP g4)
  have fb:=hf.b;have lbh:=lb r.h;obtain⟨q1,q2,q3⟩:=qo (k:=r.h.toNat) G (by omega)
  have m1:bV (k0 cks r.h.toNat).2 (r.r - lr r.h)=True:=dR (by omega) (by omega) (by omega) (by omega)
  have m2:bV (k0 cks r.h.toNat).1 (lr r.h - r.r)=True:=dR (by omega) (by omega) (by omega) (by omega)
  have af:=fun {W:WC}{e:IE}{De:Ends3}{E:XN}{σ:St3}{a:List D}=>eU (W:=W) (e:=e) (De:=De) (E:=E) (σ:=σ) (ah (M:=put M p (.lst [])) (a:=f) (o:=.lst a))
  have af2:∀{De:Ends3}{σ:St3}{y:D}{a:List D},cj f De σ y (put (put M p (.lst [])) f (.lst a))=(a.length < PySem.sizeLine/\De.nx σ (put (put M p (.lst [])) f (.lst (a++[y])))):=fun {De σ y a}=>by simp[cj,ah,cN]
  have aq:=fun {W:WC}{e:IE}{De:Ends3}{E:XN}{σ:St3}{a:List D}=>eU (W:=W) (e:=e) (De:=De) (E:=E) (σ:=σ) (F a)
  have aq2:=fun {De:Ends3}{σ:St3}{y:D}{a:List D}=>kA (De:=De) (σ:=σ) (y:=y) (F a) (by rw[List.length_map];omega)
  have eo:fx cks wy c lr r=bg wy (.tup [.int r.h,.int (c r.h)]) r++[.tup [.tup [.int r.h,.int ((c r.h:Int) - 1)],.tup [.int r.h,.int (c r.h)],.int ((k0 cks r.h.toNat).2 * (r.r - lr r.h))],.tup [.tup [.int r.h,.int (c r.h)],.tup [.int r.h,.int ((c r.h:Int) - 1)],.int ((k0 cks r.h.toNat).1 * (lr r.h - r.r))]]:=by
   unfold fx k9;rw[if_pos c0];congr 5;rw[Int.neg_mul,<-Int.mul_neg,Int.neg_sub]
  rw[eo]at k;simp[-List.getD_eq_getElem?_getD,↓sd,↓i1,↓i2,↓le0,↓lo,tyB,fA gf,↓ex,↓nn,↓le1,↓ic,lm,m1,m2,↓la,↓af,↓af2,↓aq,↓aq2,av];refine⟨Nat.lt_of_lt_of_le (show _ < 1000 by omega) (by decide),Nat.lt_of_lt_of_le (show _ < 1000 by omega) (by decide),k _ ks ds _ _ _ _ _ (by omega) ⟨(fm1.put _ _).put _ _,fun a o h=>(by
    have ap:a≠p:=fun z=>by rw[z,m0p]at h;cases h
    have af:a≠f:=fun z=>by rw[z,V.f0]at h;cases h
    have aq:a≠q:=fun z=>by rw[z,g7]at h;cases h
    rw[aj aq,aj af,aj ap];exact V.old a o h),V.f0,V.s0,V.fs,by rw[aj (Ne.symm g5),ah],by rw[aj (Ne.symm g6),aj (Ne.symm V.fs)];exact gs,V.hl,fun h e=>(by
    unfold dS at e;by_cases z:h=r.h
    ·rw[if_pos z]at e;cases e
    ·rw[if_neg z]at e;exact V.no h e),fun h e=>(by
    unfold dS at e ⊢;by_cases z:h=r.h
    ·subst z;refine⟨q,l++[r.r],g1,by rw[ah,List.map_append];rfl,by simp[g3],by simp[nxt],g5,g6,g7⟩
    ·rw[if_neg z]at e;obtain⟨q',l',g1',g2',g3',g4',g5',g6',g7'⟩:=V.yes h e;have qp':q'≠p:=fun y=>by rw[y,hp]at g2';cases g2'
     have qq:q'≠q:=fun y=>z (V.one h r.h q (by rw[<-y];exact g1') g1)
     refine⟨q',l',g1',by rw[aj qq,aj g5',aj qp'];exact g2',by rw[if_neg z];exact g3',by unfold nxt;rw[if_neg z];exact g4',g5',g6',g7'⟩),V.one⟩⟩
 ·have z0:c r.h=0:=by omega
  have g1:=V.no r.h z0;have sd:∀{Q:VK3},rBm .setdef (.ref s) [.int r.h,.ref p] (put M p (.lst [])) Q=Q (.ref p) (put (put M p (.lst [])) s (.dk (am ks (.inl r.h)) (au ks ds (.inl r.h) (.ref p)))):=fun {Q}=>by simp[rBm,gs,mw,g1,hz]
  have M2p:(put (put M p (.lst [])) s (.dk (am ks (.inl r.h)) (au ks ds (.inl r.h) (.ref p)))) p=some (.lst []):=by rw[aj ps,ah]
  have M2f:(put (put M p (.lst [])) s (.dk (am ks (.inl r.h)) (au ks ds (.inl r.h) (.ref p)))) f=some (.lst acc):=by rw[aj V.fs];exact gf
  have M2s:(put (put M p (.lst [])) s (.dk (am ks (.inl r.h)) (au ks ds (.inl r.h) (.ref p)))) s=some (.dk (am ks (.inl r.h)) (au ks ds (.inl r.h) (.ref p))):=ah;have M2o:∀a,a≠p->a≠s->(put (put M p (.lst [])) s (.dk (am ks (.inl r.h)) (au ks ds (.inl r.h) (.ref p)))) a=M a:=fun a h1 h2=>by rw[aj h2,aj h1]
  have fm2:Fm (put (put M p (.lst [])) s (.dk (am ks (.inl r.h)) (au ks ds (.inl r.h) (.ref p)))):=fm1.put _ _;generalize hM2:put (put M p (.lst [])) s (.dk (am ks (.inl r.h)) (au ks ds (.inl r.h) (.ref p)))=M2 at sd M2p M2f M2s M2o fm2;have le:∀{Q:VK3},rBi .len [.ref p] M2 Q=Q (.int (c r.h:Nat)) M2:=fun {Q}=>by rw[z0];simp[rBi,aB,ak,M2p]
  have ex:=fun {Q:VK3}=>rQ (Q:=Q) (es:=bg wy (.tup [.int r.h,.int (c r.h)]) r) M2f (by omega)
  have M3p:(put M2 f (.lst (acc++bg wy (.tup [.int r.h,.int (c r.h)]) r))) p=some (.lst []):=by rw[aj pf];exact M2p
  have nn:∀{Q:VK3},aN .NotEq (.ref p) (.rol []) (put M2 f (.lst (acc++bg wy (.tup [.int r.h,.int (c r.h)]) r))) Q=Q (.bl false) (put M2 f (.lst (acc++bg wy (.tup [.int r.h,.int (c r.h)]) r))):=fun {Q}=>by
   rw[lc (ds:=[]) (by simp[ak,M3p]) rfl rfl];rfl
  have ap:=fun {W:WC}{e:IE}{De:Ends3}{E:XN}{σ:St3}=>eU (W:=W) (e:=e) (De:=De) (E:=E) (σ:=σ) M3p
  have ap2:=fun {De:Ends3}{σ:St3}{y:D}=>kA (De:=De) (σ:=σ) (y:=y) M3p (by simp)
  have eo:fx cks wy c lr r=bg wy (.tup [.int r.h,.int (c r.h)]) r:=by unfold fx;rw[if_neg c0,List.append_nil]
  rw[eo]at k;have fin:=k (put (put M2 f (.lst (acc++bg wy (.tup [.int r.h,.int (c r.h)]) r))) p (.lst [.int r.r])) (am ks (.inl r.h)) (au ks ds (.inl r.h) (.ref p)) (some (.ref p)) (some (.tup [.int r.h,.int (c r.h)])) y7 y8 y9 kl ⟨(fm2.put _ _).put _ _,fun a o h=>(by
    have ap:a≠p:=fun z=>by rw[z,m0p]at h;cases h
    have af:a≠f:=fun z=>by rw[z,V.f0]at h;cases h
    have as:a≠s:=fun z=>by rw[z,V.s0]at h;cases h
    rw[aj ap,aj af,M2o a ap as];exact V.old a o h),V.f0,V.s0,V.fs,by rw[aj (Ne.symm pf),ah],by rw[aj (Ne.symm ps),aj (Ne.symm V.fs)];exact M2s,d8 V.hl,fun h e=>(by
    unfold dS at e;by_cases z:h=r.h
    ·rw[if_pos z]at e;cases e
    ·rw[if_neg z]at e;rw[bM V.hl,if_neg (fun y=>z (Sum.inl.inj y).symm)];exact V.no h e),fun h e=>(by
    unfold dS at e ⊢;by_cases z:h=r.h
    ·subst z;refine⟨p,[r.r],by rw[bM V.hl,if_pos rfl],ah,by simp[z0],by simp[nxt],pf,ps,m0p⟩
    ·rw[if_neg z]at e;obtain⟨q,l,g1,g2,g3,g4,g5,g6,g7⟩:=V.yes h e;have qp:q≠p:=fun y=>by rw[y,hp]at g2;cases g2
     refine⟨q,l,by rw[bM V.hl,if_neg (fun y=>z (Sum.inl.inj y).symm)];exact g1,by rw[aj qp,aj g5,M2o q qp g6];exact g2,by rw[if_neg z];exact g3,by unfold nxt;rw[if_neg z];exact g4,g5,g6,g7⟩),fun h h' q e1 e2=>(by
    have fresh:∀h,getD ks ds (.inl h)≠some (.ref p):=fun h e=>by
     by_cases z:0 < c h
     ·obtain⟨q,l,g1,g2,_⟩:=V.yes h z;rw[g1]at e;cases e;rw[hp]at g2;cases g2
     ·rw[V.no h (by omega)]at e;cases e
    rw[bM V.hl]at e1 e2;by_cases z1:(Sum.inl r.h:Key)=.inl h
    ·by_cases z2:(Sum.inl r.h:Key)=.inl h'
     ·exact (Sum.inl.inj z1).symm.trans (Sum.inl.inj z2)
     ·rw[if_pos z1]at e1;rw[if_neg z2]at e2;cases e1;exact absurd e2 (fresh h')
    ·by_cases z2:(Sum.inl r.h:Key)=.inl h'
     ·rw[if_neg z1]at e1;rw[if_pos z2]at e2;cases e2;exact absurd e1 (fresh h)
     ·rw[if_neg z1]at e1;rw[if_neg z2]at e2;exact V.one h h' q e1 e2)⟩
  simp[-List.getD_eq_getElem?_getD,↓sd,↓i1,↓i2,↓le,↓lo,fA M2f,↓ex,↓nn,↓ap,↓ap2,av];exact fin
theorem ls{M0:MH}{f s:PySem.Addr}{De:Ends3}{ES:St3->XN}{x1:Option D}(G:GW cks wy):∀(rows:List Rw)(M:MH)(c:Int->Nat)(lr:Int->Int)(acc:List D)(ks:List Key)(ds:List D)(y4 y5 y6 y7 y8 y9:Option D),DV M0 M f s acc ks ds c lr->(∀r∈rows,r.fine cks.length wy)->(∀h,-(10 ^ 62)<=lr h/\lr h<=10 ^ 62)->ks.length+rows.length < 300->acc.length+4 * rows.length < 900->(∀h,c h+rows.length < 900)->
  (∀M' y4 y5 y6 y7 y8 y9,(∀a o,M0 a=some o->M' a=some o)->M' f=some (.lst (acc++bdF cks wy c lr rows))->De.nx [some (.tup [.rol (cks.map cD),.dit (wy.map pr) (wy.map wv)]),x1,some (.ref f),some (.ref s),y4,y5,y6,y7,y8,y9] M')->
  bW ⟨(B cls kls fad),aa T (B cls kls fad) (n+1)⟩ (.name 4) bY ES (fun _=>True) De (rows.map Rw.d) [some (.tup [.rol (cks.map cD),.dit (wy.map pr) (wy.map wv)]),x1,some (.ref f),some (.ref s),y4,y5,y6,y7,y8,y9] M
 |[],M,c,lr,acc,ks,ds,y4,y5,y6,y7,y8,y9,V,hf,lb,z1,z2,z3,k=>by
  rw[List.map_nil,bj];exact⟨trivial,k M _ _ _ _ _ _ V.old (by rw[bdF,List.append_nil];exact V.vf)⟩
 |r::rows,M,c,lr,acc,ks,ds,y4,y5,y6,y7,y8,y9,V,hf,lb,z1,z2,z3,k=>by
  simp only[List.length_cons]at z1 z2 z3;have ol:=og (cks:=cks) (wy:=wy) (c:=c) (lr:=lr) (r:=r);have f:=hf r List.mem_cons_self;rw[List.map_cons,aV];refine⟨trivial,?_⟩;rw[oI];refine qu G V f lb (by omega) (by omega) (by have:=z3 r.h;omega) fun M' ks' ds' y5 y6 y7 y8 y9 hk V'=>?_
  exact ls G rows M' _ _ _ _ _ _ _ _ _ _ _ V' (fun x hx=>hf x (List.mem_cons_of_mem _ hx)) (fun h=>by
   unfold nxt;split
   ·exact f.b
   ·exact lb h) (by omega) (by rw[List.length_append];omega) (fun h=>by have:=z3 h;unfold dS;split<;>omega) fun M2 y4 y5 y6 y7 y8 y9 o v=>k M2 _ _ _ _ _ _ o (by rw[v,bdF,List.append_assoc])
theorem rf{rows:List Rw}(G:GW cks wy)(hM:Fm M)(hl:rows.length<=16)(hf:∀r∈rows,r.fine cks.length wy)(k:Q (.rol (bdF cks wy c00 l00 rows)) M):aa T (B cls kls fad) (n+2) 42 [.tup [.rol (cks.map cD),.dit (wy.map pr) (wy.map wv)],.rol (rows.map Rw.d)] M Q E:=by
 simp only[qa,d5];simp;intro f hf0 s hs0;obtain⟨hsf,hs0⟩:=cO hs0;refine ls (M0:=M) G rows _ c00 l00 [] [] [] none none none none none none ⟨(hM.put _ _).put _ _,fun a o h=>(by
   have af:a≠f:=fun z=>by rw[z,hf0]at h;cases h
   have as:a≠s:=fun z=>by rw[z,hs0]at h;cases h
   rw[aj as,aj af];exact h),hf0,hs0,Ne.symm hsf,by rw[aj (Ne.symm hsf),ah],ah,rfl,fun h _=>rfl,fun h z=>(by cases z),fun h h' q e _=>(by cases e)⟩ hf (fun h=>⟨by show -(10 ^ 62)<=(0:Int);decide,by show (0:Int)<=10 ^ 62;decide⟩) (by simp;omega) (by simp;omega) (fun h=>by show 0+_ < _;omega) fun M' y4 y5 y6 y7 y8 y9 o v=>?_
 rw[List.nil_append]at v;have ke:ac M (del M' f)=M:=by
  funext a;unfold ac del;cases e:M a with
  |none=>rfl
  |some u=>
   have af:a≠f:=fun z=>by rw[z,hf0]at e;cases e
   simp[af,o a u e]
 simp[aZ,v,ke];exact k
end
end G
namespace G
open L2
section
variable {cls kls fad:Nat->PySem.Addr}{M:MH}{Q:VK3}{E:XN}{n:Nat}{p d:PySem.Addr}{cks:List (Int×Int)}{wy:List Wy}{r:Rw}
noncomputable def b3(x:(Int×Int)×(Int×Int)×Int):D:=.tup [.tup [.int x.1.1,.int x.1.2],.tup [.int x.2.1.1,.int x.2.1.2],.int x.2.2]
theorem Dp{h k:Int}:∀d∈bg wy (.tup [.int h,.int k]) r,∃x,d=b3 x:=by
 cases r with
 |sight a b c e=>intro d hd;simp only[bg,List.mem_cons,List.not_mem_nil,or_false]at hd;rcases hd with rfl|rfl;exact⟨((-1,0),(h,k),e),rfl⟩;exact⟨((h,k),(-1,0),-c),rfl⟩
 |take a b c e=>
  intro d hd;simp only[bg]at hd;cases z:(wOf wy c a).m with
  |none=>rw[z]at hd;simp only[List.mem_cons,List.not_mem_nil,or_false]at hd;rw[hd];exact⟨((h,k),(c,e),_),rfl⟩
  |some m=>
   rw[z]at hd;simp only[List.mem_cons,List.not_mem_nil,or_false]at hd;rcases hd with rfl|rfl
   ·exact⟨((h,k),(c,e),_),rfl⟩
   ·exact⟨((c,e),(h,k),m),rfl⟩
 |_=>intro d hd;simp[bg]at hd
theorem tf:∀(rows:List Rw)(c:Int->Nat)(lr:Int->Int),∀d∈bdF cks wy c lr rows,∃x,d=b3 x
 |[],_,_,d,h=>by simp[bdF]at h
 |r::rows,c,lr,d,h=>by
  rw[bdF]at h;rcases List.mem_append.mp h with h|h
  ·unfold fx at h;rcases List.mem_append.mp h with h|h
   ·exact Dp d h
   ·split at h
    ·simp only[k9,List.mem_cons,List.not_mem_nil,or_false]at h;rcases h with rfl|rfl
     ·exact⟨((_,_),(_,_),_),rfl⟩
     ·exact⟨((_,_),(_,_),_),rfl⟩
    ·cases h
  ·exact tf rows _ _ d h
theorem n9{i:Int}:aa T (B cls kls fad) (n+1) 43 [.int i] M Q E=Q (.bl true) M:=by
 simp only[ma,cH];simp
theorem wH{i j:Int}:aa T (B cls kls fad) (n+2) 44 [.tup [.int i,.int j]] M Q E=Q (.bl true) M:=by
 have cw:=fun {i:Int}{M:MH}{Q:VK3}{E:XN}=>n9 (cls:=cls) (kls:=kls) (fad:=fad) (n:=n) (M:=M) (Q:=Q) (E:=E) (i:=i)
 simp only[nv,dA];simp[↓cw]
theorem kF{L:List D}(hp:M p=some (.lst L))(h3:∀d∈L,∃x,d=b3 x):aa T (B cls kls fad) (n+3) 45 [.ref p,.rol L] M Q E=Q (.bl true) M:=by
 have cw:=fun {i:Int}{M:MH}{Q:VK3}{E:XN}=>n9 (cls:=cls) (kls:=kls) (fad:=fad) (n:=n+1) (M:=M) (Q:=Q) (E:=E) (i:=i)
 have cn:=fun {i j:Int}{M:MH}{Q:VK3}{E:XN}=>wH (cls:=cls) (kls:=kls) (fad:=fad) (n:=n) (M:=M) (Q:=Q) (E:=E) (i:=i) (j:=j)
 have ib:∀{Q:VK3},jr .list (.ref p) M Q=Q (.bl true) M:=fun {Q}=>by simp[jr,hp]
 have le:∀{Q:VK3},rBi .len [.ref p] M Q=Q (.int L.length) M:=fun {Q}=>by simp[rBi,aB,ak,hp]
 have pl7:∀{k:Nat},L.all (plN (k+2))=true:=fun {k}=>List.all_eq_true.mpr fun x hx=>by
  obtain⟨y,rfl⟩:=h3 x hx;simp[b3,plN]
 have rsx:∀{x:D},ak M x=some L->rs M x=.rol L:=fun {x} h=>by
  unfold rs;rw[h];simp only[pls,pl7,if_true]
 have eq:∀{Q:VK3},aN .Eq (.ref p) (.rol L) M Q=Q (.bl true) M:=fun {Q}=>by
  show gP false (.ref p) (.rol L) M Q=_;unfold gP;rw[rsx (x:=.ref p) (by simp[ak,hp]),rsx (x:=.rol L) rfl,fq 8 (x:=.rol L) (show L.all (plN 7)=true from pl7),show pl (.rol L)=true from (show L.all (plN 7)=true from pl7)]
  simp
 have wk:∀{R:List D->(MH->Prop)->MH->Prop},j1 R (.ref p) M=R L (fun M=>M p=some (.lst L)) M:=fun {R}=>lJ hp
 have lp:∀(ds:List D) {De:Ends3}{ES:St3->XN}{R:Prop} (y2:Option D),(∀d∈ds,∃x,d=b3 x)->(∀y2,De.nx [some (.ref p),some (.rol L),y2] M=R)->bW ⟨(B cls kls fad),aa T (B cls kls fad) (n+2)⟩ (.name 2) br ES (fun M=>M p=some (.lst L)) De ds [some (.ref p),some (.rol L),y2] M=R:=by
  intro ds
  induction ds with
  |nil=>intro De ES R y2 _ hR;rw[bj,hR,hp];simp
  |cons d ds ih=>
   intro De ES R y2 h hR;obtain⟨x,rfl⟩:=h d List.mem_cons_self;have ih':=ih (De:=De) (ES:=ES) (R:=R) (some (b3 x)) (fun e he=>h e (List.mem_cons_of_mem _ he)) hR
   rw[aV,hp];generalize bW ⟨(B cls kls fad),aa T (B cls kls fad) (n+2)⟩ (.name 2) br ES (fun M=>M p=some (.lst L)) De ds=K at ih' ⊢
   simp only[br,b3]at ih' ⊢;simp[↓cn,↓cw,ih']
 simp only[lU,cI];simp[↓ib,↓le,↓wk];refine iff_of_eq (lp L none h3 fun y2=>?_)
 simp[↓eq]
theorem tQ{W:WC}{td:List (Rw×Int)}(hM:Fm M)(hl:td.length < 400):gF W (.tup [0,1]) .no (.var 0) (fun _=>True) Q (td.map tdD) [none,none] M=Q (.rol ((td.map Prod.fst).map Rw.d)) M:=by
 rw[et (fun σ=>∃a b,σ=[a,b]) (fun d=>match d with
   |.tup [a,b]=>[some a,some b]
   |_=>[]) (fun _=>true) (fun d=>match d with
   |.tup [a,b]=>a
   |_=>.non) ⟨_,_,rfl⟩ hM (by simp;omega) (fun d hd=>by
    obtain⟨x,_,rfl⟩:=List.mem_map.mp hd;refine⟨⟨_,_,rfl⟩,fun σ ⟨a,b,e⟩ M k=>?_⟩
    subst e;simp[wpG,tdD]) (fun d hd M' hE Q=>rfl) (fun d hd _ M' hE Q=>by
    obtain⟨x,_,rfl⟩:=List.mem_map.mp hd;simp[tdD])]
 rw[List.filter_eq_self.mpr (fun _ _=>rfl),List.map_map,List.map_map]
 rfl
theorem we(ns:List Int)(lo:Option Int)(k:Nat):∃cs:List Int,de (ns.map D.int) lo (some (k:Int))=cs.map D.int/\cs.length<=k:=by
 refine⟨(ns.drop (HT.sIx ns.length 0 lo)).take (HT.sIx ns.length ns.length (some (k:Int)) - HT.sIx ns.length 0 lo),?_,?_⟩
 ·simp[de,List.map_take,List.map_drop]
 ·have:HT.sIx ns.length ns.length (some (k:Int))<=k:=by rw[HT.sIx_nat];omega
  rw[List.length_take];omega
theorem ss(rows:List Rw)(k:Nat):de (rows.map Rw.d) none (some (k:Int))=(rows.take k).map Rw.d:=by
 unfold de;rw[HT.sIx_none,HT.sIx_nat,List.drop_zero,List.map_take];by_cases h:k<=(rows.map Rw.d).length
 ·rw[Nat.sub_zero,Nat.min_eq_left h]
 ·rw[Nat.sub_zero,List.take_of_length_le (Nat.le_of_eq (by omega)),List.take_of_length_le (by omega)]
theorem yW{k:Nat}:plN (k+2) r.d=true:=by cases r<;>simp[Rw.d,plN]
theorem gW{rows:List Rw}{k:Nat}:(rows.map Rw.d).all (plN (k+2))=true:=List.all_eq_true.mpr fun x hx=>by
 obtain⟨y,_,rfl⟩:=List.mem_map.mp hx;exact yW
noncomputable def tR:ISs:=tl (tl (tl (tl (tl jW))))
noncomputable def qI:ISs:=tl tR
noncomputable def xX:ISs:=tl (tl qI)
theorem B2{rows:List Rw}{De:Ends3}{ES:St3->XN}{y0 y4:Option D}{h q:PySem.Addr}{L:List D}(hrt:∀M,De.rt (.bl true) M)(G:GW cks wy)(hM:Fm M)(hl:rows.length<=16)(hf:∀r∈rows,r.fine cks.length wy)(hh:M h=some (.lst (rows.map Rw.d)))(hq:M q=some (.lst L))(hne:h≠q) :
  ao ⟨(B cls kls fad),aa T (B cls kls fad) 7⟩ xX De ES [y0,some (.tup [.rol (cks.map cD),.dit (wy.map pr) (wy.map wv)]),some (.rol (rows.map Rw.d)),some (wO kls cks wy),y4,some (.ref h),some (.ref q)] M:=by
 have h1:(put M q (.lst [])) h=some (.lst (rows.map Rw.d)):=by rw[aj hne];exact hh
 have ap:=fun {W:WC}{e:IE}{De:Ends3}{E:XN}{σ:St3}=>eU (W:=W) (e:=e) (De:=De) (E:=E) (σ:=σ) h1
 have ap2:=fun {De:Ends3}{σ:St3}{y:D}=>kA (De:=De) (σ:=σ) (y:=y) h1 (by simp;omega)
 have fm:Fm (put (put M q (.lst [])) h (.lst (rows.map Rw.d++[.tup [.str "look",.int 0,.int 1000000000000000000000000000000000000000000000000000000000000]]))):=(hM.put _ _).put _ _;simp only[xX,qI,tR,tl,jW];simp[tyB,fA hq,q9 hq,↓ap,↓ap2,gO,av];refine iW (n:=0) G fm (.inl rfl) hl hf fun p d ks ds hp hd hpd=>?_
 have fm2:=(fm.put p (.lst (bdF cks wy c00 l00 rows))).put d (.dt ks ds);have hp2:=aj (M:=put (put (put M q (.lst [])) h (.lst (rows.map Rw.d++[.tup [.str "look",.int 0,.int 1000000000000000000000000000000000000000000000000000000000000]]))) p (.lst (bdF cks wy c00 l00 rows))) (o:=.dt ks ds) hpd;rw[ah]at hp2;refine rf (n:=5) G fm2 hl hf ?_;rw[kF (n:=4) hp2 (tf rows _ _)];exact hrt _
theorem C9{rows:List Rw}{De:Ends3}{ES:St3->XN}{y0 y4 y6:Option D}{h:PySem.Addr}(hrt:∀M,De.rt (.bl true) M)(G:GW cks wy)(hM:Fm M)(hl:rows.length<=16)(hf:∀r∈rows,r.fine cks.length wy)(hh:M h=some (.lst (rows.map Rw.d))) :
  ao ⟨(B cls kls fad),aa T (B cls kls fad) 7⟩ qI De ES [y0,some (.tup [.rol (cks.map cD),.dit (wy.map pr) (wy.map wv)]),some (.rol (rows.map Rw.d)),some (wO kls cks wy),y4,some (.ref h),y6] M:=by
 rw[show qI=.cons _ (.cons _ xX) from rfl];simp;refine iW (n:=0) G hM (.inr ⟨h,rfl,hh⟩) hl hf fun p d ks ds hp hd hpd=>?_
 have hp':h≠p:=fun z=>by rw[z,hp]at hh;cases hh
 have hd':h≠d:=fun z=>by rw[z,hd]at hh;cases hh
 have fm2:=(hM.put p (.lst (bdF cks wy c00 l00 rows))).put d (.dt ks ds);have hp2:(put (put M p (.lst (bdF cks wy c00 l00 rows))) d (.dt ks ds)) p=some (.lst (bdF cks wy c00 l00 rows)):=by rw[aj hpd,ah]
 have hh2:(put (put M p (.lst (bdF cks wy c00 l00 rows))) d (.dt ks ds)) h=some (.lst (rows.map Rw.d)):=by rw[aj hd',aj hp'];exact hh
 generalize put (put M p (.lst (bdF cks wy c00 l00 rows))) d (.dt ks ds)=M2 at fm2 hp2 hh2 ⊢;have cr:=fun {Q:VK3}{E:XN}=>kF (cls:=cls) (kls:=kls) (fad:=fad) (n:=4) (Q:=Q) (E:=E) hp2 (tf rows _ _)
 have nq:∀{Q:VK3},aN .NotEq (.ref h) (.rol (rows.map Rw.d)) M2 Q=Q (.bl false) M2:=fun {Q}=>by
  show gP true (.ref h) (.rol (rows.map Rw.d)) M2 Q=_;have e1:rs M2 (.ref h)=.rol (rows.map Rw.d):=by unfold rs;rw[show ak M2 (.ref h)=some (rows.map Rw.d) by simp[ak,hh2]];simp only[pls,gW,if_true]
  have e2:rs M2 (.rol (rows.map Rw.d))=.rol (rows.map Rw.d):=by show D.rol (if pls (rows.map Rw.d)=true then _ else _)=_;rw[if_pos gW]
  unfold gP;rw[e1,e2,fq 8 (x:=.rol (rows.map Rw.d)) (show (rows.map Rw.d).all (plN 7)=true from gW),show pl (.rol (rows.map Rw.d))=true from (show (rows.map Rw.d).all (plN 7)=true from gW)];simp
 refine rf (n:=5) G fm2 hl hf ?_;simp[↓cr,↓nq];exact B2 hrt G fm2 hl hf hh2 hp2 hp'
end
theorem main(cls kls fad:Nat->PySem.Addr)(ns:List Int)(hl:ns.length<=63):aa (L.map FL.fb) (B cls kls fad) 8 46 [scr ns] (fun _=>none) (fun d _=>d=.bl true) (fun _ _=>False):=by
 rw[E4];obtain⟨c0,hc0⟩:=qH (cls:=cls) (kls:=kls) (fad:=fad) ns 0;obtain⟨c1,hc1⟩:=qH (cls:=cls) (kls:=kls) (fad:=fad) ns 1;have h0:∀{M:MH}{Q:VK3}{E:XN},aa T (B cls kls fad) 7 32 [scr ns,.int 0] M Q E=Q (.int c0) M:=hc0;have h1:∀{M:MH}{Q:VK3}{E:XN},aa T (B cls kls fad) 7 32 [scr ns,.int 1] M Q E=Q (.int c1) M:=hc1;obtain⟨cs,hcs,hcl⟩:=we ns (some 2) 16;have hz:cs.length<=PySem.sizeLine:=Nat.le_trans (show cs.length<=1000 by omega) (by decide)
 have sc:de (ns.map D.int) (some 2) (some 16)=cs.map D.int:=hcs;rw[Bz,show jW=.cons _ (.cons _ (.cons _ (.cons _ (.cons _ tR)))) from rfl];simp[↓h0];refine sR (n:=5) Fm.nil fun cks wy G=>?_
 simp[↓h1,sc,hz];refine yJ (n:=5) G Fm.nil hcl fun td f l=>?_
 have tc:=fun {W:WC}{Q:VK3}=>tQ (W:=W) (Q:=Q) (M:=fun _=>none) (td:=td) Fm.nil (by omega)
 have tl:(td.map Prod.fst).length<=16:=by rw[List.length_map];exact l
 generalize td.map Prod.fst=rows at f tc tl;have rz:rows.length<=PySem.sizeLine:=Nat.le_trans (show rows.length<=1000 by omega) (by decide)
 have mk:=fun {Q:VK3}{E:XN}=>xT (cls:=cls) (kls:=kls) (fad:=fad) (n:=0) (M:=fun _=>none) (Q:=Q) (E:=E) G Fm.nil
 have p0:(0:Int) < (rows.length:Int)+1:=by omega
 obtain⟨j,hj⟩:=Int.eq_ofNat_of_zero_le (Int.emod_nonneg (c0 / 5) (Int.ne_of_gt p0));have ce:=ss rows j;have pl:(rows.take j).length<=16:=by rw[List.length_take];omega
 have pf:∀r∈rows.take j,r.fine cks.length wy:=fun r hr=>f r (List.mem_of_mem_take hr)
 have pz:(rows.take j).length<=PySem.sizeLine:=Nat.le_trans (show (rows.take j).length<=1000 by omega) (by decide)
 generalize rows.take j=part at ce pl pf pz;have lf:∀{Q:VK3},rBi (.list false) [.rol (rows.map Rw.d)] (fun _=>none) Q=(∀p,(fun _=>none:MH) p=none->Q (.ref p) (put (fun _=>none) p (.lst (rows.map Rw.d)))):=fun {Q}=>by simp[rBi,aB,ak,eV,rz]
 simp[aG,↓tc,↓mk,↓h0,cC,p0,hj,ce,pz,rz,↓lf];intro h;have fm:Fm (put (fun _=>none) h (.lst (rows.map Rw.d))):=Fm.nil.put _ _
 have hh:(put (fun _=>none) h (.lst (rows.map Rw.d))) h=some (.lst (rows.map Rw.d)):=ah
 generalize put (fun _=>none) h (.lst (rows.map Rw.d))=M1 at fm hh ⊢
 rw[show tR=.cons _ qI from rfl];simp;refine iW (n:=0) G fm (.inl rfl) pl pf fun p d ks ds hp hd hpd=>?_
 have hp':h≠p:=fun z=>by rw[z,hp]at hh;cases hh
 have hd':h≠d:=fun z=>by rw[z,hd]at hh;cases hh
 have fm2:=(fm.put p (.lst (bdF cks wy c00 l00 part))).put d (.dt ks ds);have hp2:(put (put M1 p (.lst (bdF cks wy c00 l00 part))) d (.dt ks ds)) p=some (.lst (bdF cks wy c00 l00 part)):=by rw[aj hpd,ah]
 have hh2:(put (put M1 p (.lst (bdF cks wy c00 l00 part))) d (.dt ks ds)) h=some (.lst (rows.map Rw.d)):=by rw[aj hd',aj hp'];exact hh
 generalize put (put M1 p (.lst (bdF cks wy c00 l00 part))) d (.dt ks ds)=M2 at fm2 hp2 hh2 ⊢;have cr:=fun {Q:VK3}{E:XN}=>kF (cls:=cls) (kls:=kls) (fad:=fad) (n:=4) (Q:=Q) (E:=E) hp2 (tf part _ _)
 refine rf (n:=5) G fm2 pl pf ?_;simp[↓cr];exact C9 (fun _=>rfl) G fm2 tl f hh2
end G
open PySem PySem.W PyProof.Rows
set_option maxRecDepth 100000 in
set_option maxHeartbeats 0 in
theorem PySem.Challenge.cw_driftmeet_k31_bounds_told_holds : PySem.Challenge.rw_driftmeet_k31_bounds_told.Holds := by
 w_on;o_law
 refine holds_open (q:=HD.view) (loose:=HD.loose) (Xt:=HD.Xt) (XP:=XL HD.view []) (Yf:=Hook.obs (kHook HD.K HD.as HD.as_eq)) (Ya:=Hook.val (kHook HD.K HD.as HD.as_eq)) (YP:=Hook.says (kHook HD.K HD.as HD.as_eq)) (N:=7904) HD.left (Hook.of (kHook HD.K HD.as HD.as_eq)) (Hook.keeps (kHook HD.K HD.as HD.as_eq)) (fun s e=>xl_of s (Bool.and_eq_true_iff.mp e).1) XL.keeps (by rfl) (by rfl) (by rfl) (fun s e=>recFacts_of (Bool.and_eq_true_iff.mp e).2) (by kernel_rfl) (by first|assumption|decide +kernel) (by decide +kernel) ⟨rfl,rfl,rfl,rfl,rfl,by decide +kernel⟩ ?hw ?hc
 (case hw=>w_witness2)
 k_fill
 refine L2.walkD (l:=PySem.Challenge.rw_driftmeet_k31_bounds_told) (k:=8) (f:=46) (fl:=G.l_law) (x:="_law_script") (L:=G.L) (nm:=G.nm) (BB:=G.B) rfl rfl ⟨rfl,by decide,by decide⟩ (fun w h Y=>PySem.W.kIn_of Y) rfl rfl rfl rfl ?F (fun cls kls fad ns hl=>G.main cls kls fad ns hl)
 case F=>
  intro w mg h KX Gn
  refine' G.top_mk KX Gn ?gl0 ?gt0 ?gl1
  (case gl0=>k_is)
  (case gt0=>k_is)
  (case gl1=>k_is)
  all_goals exact⟨0,0,0,0⟩
