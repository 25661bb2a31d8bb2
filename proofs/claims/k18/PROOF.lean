import PyProof.Rows.All
import Wide.All
import OpenK.AllK
import Wide.FinOn
import Lean
import PyProof.EqAt
import PyProof.EqKinds
import PyProof.TupleCall
import PySem.Challenge.RW_driftmeet_k18_the_first_fault
set_option Elab.async false
set_option linter.all false
set_option maxRecDepth 100000
namespace L2
open PySem PySem.Spec PyProof.Rows
noncomputable abbrev Key:=Sum Int Str
noncomputable def fe:Key->Value->Bool
 |.inl k,v=>Value.isInt k v
 |.inr x,v=>Value.isStrOf x v
noncomputable def D4(w:World):Key->Int
 |.inl k=>hashInt k
 |.inr x=>hashStr w x
theorem az:∀{k:Key}{v:Value},fe k v=true->(∃i t,k=Sum.inl i/\v=Value.int i t)\/(∃x t,k=Sum.inr x/\v=Value.str x t)
 |.inl i,v,h=>by
  obtain⟨t,e⟩:=Value.isInt_shape (k:=i) (v:=v) h;exact .inl ⟨i,t,rfl,e⟩
 |.inr x,v,h=>by
  obtain⟨t,e⟩:=Value.isStrOf_shape (x:=x) (v:=v) h;exact .inr ⟨x,t,rfl,e⟩
theorem pf(i:Int)(t:Tok):fe (.inl i) (.int i t)=true:=by simp[fe,Value.isInt]
theorem pz(x:Str)(t:Tok):fe (.inr x) (.str x t)=true:=by simp[fe,Value.isStrOf]
theorem v3(a b:Int):decide ((Sum.inl a:Key)=Sum.inl b)=(a == b):=by
 by_cases e:a=b
 ·subst e;simp
 ·have h:¬ (Sum.inl a:Key)=Sum.inl b:=fun q=>e (Sum.inl.inj q)
  rw[decide_eq_false h];exact (beq_eq_false_iff_ne.mpr e).symm
theorem AC(a b:Str):decide ((Sum.inr a:Key)=Sum.inr b)=decide (a=b):=by
 by_cases e:a=b
 ·subst e;simp
 ·have h:¬ (Sum.inr a:Key)=Sum.inr b:=fun q=>e (Sum.inr.inj q)
  rw[decide_eq_false h,decide_eq_false e]
theorem xu(a:Int)(b:Str):decide ((Sum.inl a:Key)=Sum.inr b)=false:=decide_eq_false (fun q=>nomatch q)
theorem xR(a:Str)(b:Int):decide ((Sum.inr a:Key)=Sum.inl b)=false:=decide_eq_false (fun q=>nomatch q)
noncomputable def au(prog:Program)(w:World):PySem.KeyKind prog w Key where
 is:=fe
 hash:=D4 w
 inj:=fun v a b ha hb=>by
  rcases az ha with ⟨i,t,rfl,rfl⟩|⟨x,t,rfl,rfl⟩
  ·rcases az hb with ⟨j,u,rfl,e⟩|⟨y,u,rfl,e⟩
   ·injection e with e1 _;rw[e1]
   ·exact nomatch e
  ·rcases az hb with ⟨j,u,rfl,e⟩|⟨y,u,rfl,e⟩
   ·exact nomatch e
   ·injection e with e1 _;rw[e1]
 byValue:=fun k v h=>by
  rcases az h with ⟨i,t,rfl,rfl⟩|⟨x,t,rfl,rfl⟩<;>rfl
 pyHash:=fun hv h=>by
  rcases az hv with ⟨i,t,rfl,rfl⟩|⟨x,t,rfl,rfl⟩
  ·exact wpAny_pyHash_int h
  ·exact wpAny_pyHash_str h
 eqBool:=fun hu hv h=>by
  rcases az hu with ⟨i,t,rfl,rfl⟩|⟨x,t,rfl,rfl⟩
  ·rcases az hv with ⟨j,u,rfl,rfl⟩|⟨y,u,rfl,rfl⟩
   ·rw[v3]at h;exact wpAny_eqBool_int h
   ·rw[xu]at h;exact SeqAt.EqAt.int_str i t y u _ _ _ _ h
  ·rcases az hv with ⟨j,u,rfl,rfl⟩|⟨y,u,rfl,rfl⟩
   ·rw[xR]at h;exact SeqAt.EqAt.str_int x t j u _ _ _ _ h
   ·rw[AC]at h;exact wpAny_eqBool_str h
 «strs»:=fun k x t v h=>by
  rcases az h with ⟨i,u,rfl,e⟩|⟨y,u,rfl,e⟩
  ·exact nomatch e
  ·injection e with e1 _
   subst e1;cases v<;>rfl
theorem lX(prog:Program)(w:World)(i:Int)(t:Tok):(au prog w).is (.inl i) (.int i t)=true:=pf i t
theorem gA(prog:Program)(w:World)(x:Str)(t:Tok):(au prog w).is (.inr x) (.str x t)=true:=pz x t
end L2
namespace L2
open PySem PySem.Spec PyProof.Rows
inductive V where
 |non|bl (b:Bool)|int (i:Int)|str (x:Str)|byt (b:Array UInt8)|flt (b:UInt64)|ref (a:Addr)|ty (n:String)
 deriving DecidableEq
noncomputable def RelV:V->Value->Prop
 |.non,u=>u=Value.none
 |.bl b,u=>u=Value.bool b
 |.int i,u=>∃t,u=Value.int i t
 |.str x,u=>∃t,u=Value.str x t
 |.byt b,u=>∃t,u=Value.bytes b t
 |.flt b,u=>∃t,u=Value.float b t
 |.ref a,u=>u=Value.ref a
 |.ty n,u=>u=Value.type n
noncomputable abbrev Vals:List V->List Value->Prop:=Paired RelV
theorem Vals.length{xs:List V}{us:List Value}(r:Vals xs us):xs.length=us.length:=Paired.length r
theorem Vals.get:∀{xs:List V}{us:List Value}{i:Nat}{x:V},Vals xs us->xs[i]?=some x->∃u,us[i]?=some u/\RelV x u
 |_,_,_,_,.nil,e=>by simp at e
 |_,_,0,_,.cons r _,e=>by simp at e;subst e;exact⟨_,rfl,r⟩
 |_,_,i+1,x,.cons _ t,e=>by
  obtain⟨u,h1,h2⟩:=Vals.get (i:=i) (x:=x) t (by simpa using e)
  exact⟨u,by simpa using h1,h2⟩
theorem Vals.set(r:RelV x u):∀{xs:List V}{us:List Value} (i:Nat),Vals xs us->Vals (xs.set i x) (us.set i u)
 |_,_,_,.nil=>.nil
 |_,_,0,.cons _ t=>.cons r t
 |_,_,i+1,.cons q t=>.cons q (Vals.set r i t)
theorem Vals.append:∀{xs ys:List V}{us ws:List Value},Vals xs us->Vals ys ws->Vals (xs++ys) (us++ws)
 |_,_,_,_,.nil,s=>s
 |_,_,_,_,.cons r t,s=>.cons r (Vals.append t s)
theorem Vals.take:∀{xs:List V}{us:List Value} (n:Nat),Vals xs us->Vals (xs.take n) (us.take n)
 |_,_,0,_=>.nil
 |_,_,_+1,.nil=>.nil
 |_,_,n+1,.cons r t=>.cons r (Vals.take n t)
theorem Vals.drop:∀{xs:List V}{us:List Value} (n:Nat),Vals xs us->Vals (xs.drop n) (us.drop n)
 |_,_,0,r=>r
 |_,_,_+1,.nil=>.nil
 |_,_,n+1,.cons _ t=>Vals.drop n t
noncomputable def RelO:Option V->Option Value->Prop
 |some v,some u=>RelV v u
 |none,none=>True
 |_,_=>False
noncomputable def KV:List (κ×V)->List (κ×Value)->Prop:=Paired fun (p:κ×V) (q:κ×Value)=>p.1=q.1/\RelV p.2 q.2
noncomputable def kV:Key->V
 |.inl i=>.int i
 |.inr x=>.str x
inductive HO where
 |lst (xs:List V)
 |tup (xs:List V)
 |dK (kvs:List (Key×V))|dT (kvs:List (List Key×V))
 |set (S:Int->Bool) (n:Nat)
 |ins (C dx:Addr) (fs:List (Str×V))
 |own (x:Addr)
 |xd (fs:List (Str×V))
 |met (f x:Addr)
 |rng (lo hi:Int)
 |frz (o:Obj) (u:HO)
 |tbl (ps:Array Value)
 |ext (φ:Heap->Prop)
noncomputable abbrev Hp:=Addr->Option HO
noncomputable def upd(H:Hp)(a:Addr)(o:HO):Hp:=fun b=>if b=a then some o else H b
theorem ah:upd H a o a=some o:=by unfold upd;rw[if_pos rfl]
theorem ae(h:b≠a):upd H a o b=H b:=by unfold upd;rw[if_neg h]
theorem cY{H:Hp}{a b:Addr}{o u:HO}(h:H a=some o)(h':H b=some u)(d:o≠u):a≠b:=by
 intro e;subst e;rw[h]at h';exact d (Option.some.inj h')
theorem aC{H:Hp}{a b:Addr}{o:HO}(h:H a=some o)(h':H b=none):a≠b:=by
 intro e;subst e;rw[h]at h';cases h'
section
variable (P:Program) (w:World)
noncomputable def ObjOk(H:Hp)(h:Heap)(a:Addr):HO->Prop
 |.lst xs=>xs.length<=sizeLine/\∃(its:List Value) (n:Nat),Vals xs its/\h.get? a=some {cls:=.type "list",data:=.seq its.toArray n}
 |.tup xs=>xs.length<=sizeLine/\∃its:List Value,Vals xs its/\IsTup h a its.toArray
 |.dK kvs=>kvs.length<=sizeLine/\(a == sysModules)=false/\∃vs,KV kvs vs/\h.DictOf (au P w) a vs
 |.dT kvs=>kvs.length<=sizeLine/\(a == sysModules)=false/\∃xs:List (List Key×Addr×Value),
   Paired (fun (p:List Key×V) (q:List Key×Addr×Value)=>p.1=q.1/\H q.2.1=some (.tup (p.1.map kV))/\RelV p.2 q.2.2) kvs xs/\
   ∃o es ep,h.get? a=some o/\o.ExactDict/\o.data=.dict es ep/\es.toList=xs.map (entryOfKey (tupleKind (au P w)))/\(xs.map (·.1)).Nodup
 |.set S n=>h.SetOf (intKind P w) a S n
 |.ins C dx fs=>H dx=some (.own a)/\fs.length<=1000/\dx≠a/\h.get? a=some (PySem.W.instObj C dx)/\
   ∃mA,h.Ns1 dx mA/\(∀f,RelO (fs.lookup f) (mA f))/\PySem.Within mA (fs.map (·.1))
 |.own _=>∃o,h.get? a=some o
 |.xd fs=>∃mA,h.Ns1 a mA/\∀f,RelO (fs.lookup f) (mA f)
 |.rng lo hi=>∃t u v,h.get? a=some {cls:=.type "range",data:=.fields #[.int lo t,.int hi u,.int 1 v]}
 |.frz o u=>h.get? a=some o/\ObjOk H h a u
 |.tbl ps=>h.get? a=some {cls:=.none,data:=.fields ps}
 |.met f x=>h.get? a=some (PySem.W.methodObj (.ref f) (.ref x))
 |.ext φ=>φ h/\(∃o,h.get? a=some o)/\∀h1 h2:Heap,φ h1->(∀o,h1.get? a=some o->h2.get? a=some o)->φ h2
noncomputable def HOk(H:Hp)(h:Heap):Prop:=∀a o,H a=some o->ObjOk P w H h a o
end
section
variable {P:Program}{w:World}{H H':Hp}{h h':Heap}{a:Addr}{o:HO}
theorem ObjOk.lt(x:ObjOk P w H h a o):a < h.objs.size:=by
 cases o with
 |lst xs=>obtain⟨_,_,_,_,e⟩:=x;exact Heap.lt_size e
 |tup xs=>obtain⟨_,_,_,p⟩:=x;exact p.lt
 |dK kvs=>obtain⟨_,_,_,_,o,_,_,e,_⟩:=x;exact Heap.lt_size e
 |dT kvs=>obtain⟨_,_,_,_,o,_,_,e,_⟩:=x;exact Heap.lt_size e
 |set S n=>obtain⟨o,_,_,_,e,_⟩:=x;exact Heap.lt_size e
 |ins C dx fs=>obtain⟨_,_,_,e,_⟩:=x;exact Heap.lt_size e
 |own y=>obtain⟨_,e⟩:=x;exact Heap.lt_size e
 |xd fs=>obtain⟨_,⟨_,_,_,e,_⟩,_⟩:=x;exact Heap.lt_size e
 |rng lo hi=>obtain⟨_,_,_,e⟩:=x;exact Heap.lt_size e
 |frz ob u=>obtain⟨e,_⟩:=x;exact Heap.lt_size e
 |tbl ps=>exact Heap.lt_size (show h.get? a=some _ from x)
 |met f y=>exact Heap.lt_size (show h.get? a=some _ from x)
 |ext φ=>obtain⟨_,⟨_,e⟩,_⟩:=x;exact Heap.lt_size e
theorem Paired.mapP:∀{l₁:List α}{l₂:List β},Paired F l₁ l₂->(∀a b,F a b->G a b)->Paired G l₁ l₂
 |_,_,.nil,_=>.nil
 |_,_,.cons r t,f=>.cons (f _ _ r) (Paired.mapP t f)
theorem ObjOk.stay(x:ObjOk P w H h a o)(k:∀b u,(b=a\/H b=some (.own a))->h.get? b=some u->h'.get? b=some u)
  (ho:∀b,H b=some (.own a)->H' b=some (.own a)) (ht:∀b xs,H b=some (.tup xs)->H' b=some (.tup xs)):ObjOk P w H' h' a o:=by
 induction o with
 |lst xs=>obtain⟨z,its,n,r,e⟩:=x;exact⟨z,its,n,r,k _ _ (.inl rfl) e⟩
 |tup xs=>obtain⟨z,its,r,ob,e,c⟩:=x;exact⟨z,its,r,ob,k _ _ (.inl rfl) e,c⟩
 |dK kvs=>obtain⟨z,y,vs,r,ob,es,ep,e,c⟩:=x;exact⟨z,y,vs,r,ob,es,ep,k _ _ (.inl rfl) e,c⟩
 |dT kvs=>
  obtain⟨z,y,xs,r,ob,es,ep,e,c⟩:=x;exact⟨z,y,xs,Paired.mapP r fun p q z=>⟨z.1,ht _ _ z.2.1,z.2.2⟩,ob,es,ep,k _ _ (.inl rfl) e,c⟩
 |set S n=>obtain⟨ob,es,ep,t,e,c⟩:=x;exact⟨ob,es,ep,t,k _ _ (.inl rfl) e,c⟩
 |ins C dx fs=>
  obtain⟨d,z,ne,e,mA,⟨od,es,ep,e2,c⟩,r⟩:=x;exact⟨ho _ d,z,ne,k _ _ (.inl rfl) e,mA,⟨od,es,ep,k _ _ (.inr d) e2,c⟩,r⟩
 |own y=>obtain⟨ob,e⟩:=x;exact⟨ob,k _ _ (.inl rfl) e⟩
 |xd fs=>obtain⟨mA,⟨od,es,ep,e,c⟩,r⟩:=x;exact⟨mA,⟨od,es,ep,k _ _ (.inl rfl) e,c⟩,r⟩
 |rng lo hi=>obtain⟨t,u,v,e⟩:=x;exact⟨t,u,v,k _ _ (.inl rfl) e⟩
 |frz ob u ih=>obtain⟨e,q⟩:=x;exact⟨k _ _ (.inl rfl) e,ih q⟩
 |tbl ps=>
  have e:h.get? a=some {cls:=.none,data:=.fields ps}:=x;show h'.get? a=some {cls:=.none,data:=.fields ps};exact k a _ (.inl rfl) e
 |met f y=>
  have e:h.get? a=some (PySem.W.methodObj (.ref f) (.ref y)):=x;show h'.get? a=some (PySem.W.methodObj (.ref f) (.ref y));exact k a _ (.inl rfl) e
 |ext φ=>obtain⟨p,⟨o,e⟩,st⟩:=x;exact⟨st _ _ p fun o q=>k _ _ (.inl rfl) q,⟨o,k _ _ (.inl rfl) e⟩,st⟩
theorem HOk.lt(x:HOk P w H h)(e:H a=some o):a < h.objs.size:=(x a o e).lt
theorem HOk.fresh(x:HOk P w H h)(e:h.objs.size<=a):H a=none:=by
 cases q:H a with
 |none=>rfl
 |some u=>exact absurd (Nat.lt_of_lt_of_le (x.lt q) e) (Nat.lt_irrefl _)
theorem HOk.kept(x:HOk P w H h)(k:∀b u,h.get? b=some u->h'.get? b=some u):HOk P w H h':=fun a o e=>
 (x a o e).stay (fun b u _ q=>k b u q) (fun _ q=>q) fun _ _ q=>q
theorem HOk.laid(x:HOk P w H h)(k:∀b u,h.get? b=some u->h'.get? b=some u)(hp:h.objs.size<=a)(new:ObjOk P w (upd H a o) h' a o):HOk P w (upd H a o) h':=fun b u e=>by
 have hn:=x.fresh hp;by_cases hb:b=a
 ·subst hb;rw[ah]at e;cases e;exact new
 ·rw[ae hb]at e;exact (x b u e).stay (fun c v _ q=>k c v q) (fun c q=>by rw[ae (aC q hn)];exact q) fun c xs q=>by rw[ae (aC q hn)];exact q
end
noncomputable def Rd(H:Hp)(a:Addr)(u:HO):Prop:=H a=some u\/∃o,H a=some (.frz o u)
theorem Rd.ok{P:Program}{w:World}{H:Hp}{h:Heap}{a:Addr}{u:HO}(r:Rd H a u)(x:HOk P w H h):ObjOk P w H h a u:=by
 rcases r with r|⟨o,r⟩
 ·exact x a u r
 ·obtain⟨_,q⟩:=x a _ r;exact q
noncomputable def Mut:Option HO->Prop
 |some (.lst _)=>True
 |some (.dK _)=>True
 |some (.dT _)=>True
 |some (.set _ _)=>True
 |some (.ins _ _ _)=>True
 |some (.ext _)=>True
 |_=>False
section
variable {P:Program}{w:World}{h h':Heap}{x e:Addr}
theorem HOk.write(ok:HOk P w H h)(mu:Mut (H x))(he:e=x\/H e=some (.own x))(k:∀b u,b≠e->h.get? b=some u->h'.get? b=some u)(heo:∃u,h'.get? e=some u)
  (new:ObjOk P w (upd H x o') h' x o'):HOk P w (upd H x o') h':=fun b u q=>by
 have nown:∀c y,H c=some (.own y)->c≠x:=fun c y r z=>by subst z;rw[r]at mu;exact mu
 have sY:∀c xs,H c=some (.tup xs)->c≠x:=fun c xs r z=>by subst z;rw[r]at mu;exact mu
 by_cases hb:b=x
 ·subst hb;rw[ah]at q;cases q;exact new
 ·rw[ae hb]at q;by_cases hbe:b=e
  ·have q':H b=some (.own x):=by
    rcases he with z|z
    ·exact absurd (hbe.trans z) hb
    ·rw[hbe];exact z
   rw[q]at q';cases q';obtain⟨v,hv⟩:=heo;exact⟨v,by rw[hbe];exact hv⟩
  ·refine (ok b u q).stay (fun c v hc r=>k c v ?_ r) (fun c r=>by rw[ae (nown c b r)];exact r) fun c xs r=>by rw[ae (sY c xs r)];exact r
   rcases hc with rfl|hc
   ·exact hbe
   ·rintro rfl;rcases he with z|z
    ·exact nown c b hc z
    ·rw[hc]at z;cases z;exact hb rfl
end
structure Un (fs ex:List Addr)(H H':Hp)(h h':Heap):Prop where
 keep:∀b o,h.get? b=some o->H b=none->b∉fs->b∉ex->h'.get? b=some o
 slot:∀b o,h.get? b=some o->H b=none->b∈fs->b∉ex->∃sl,h'.get? b=some {o with slots:=sl}
 free:∀b o,h.get? b=some o->H b=none->b∉ex->H' b=none
 there:∀b o,h.get? b=some o->b∉ex->∃o',h'.get? b=some o'
 tups:∀b xs,H b=some (.tup xs)->H' b=some (.tup xs)
 frzs:∀b o u,H b=some (.frz o u)->H' b=some (.frz o u)
 tbls:∀b ps,H b=some (.tbl ps)->∃more,H' b=some (.tbl (ps++more))
section
variable {fs fs' ex ex':List Addr}{H H1 H2:Hp}{h h1 h2 h':Heap}{a x e:Addr}{o:HO}
theorem Un.any(u:Un fs ex H H1 h h1)(q:h.get? b=some ob)(n:H b=none)(hx:b∉ex):∃sl,h1.get? b=some {ob with slots:=sl}:=by
 by_cases hb:b∈fs
 ·exact u.slot b ob q n hb hx
 ·exact⟨ob.slots,u.keep b ob q n hb hx⟩
theorem Un.trans(a:Un fs ex H H1 h h1)(b:Un fs ex H1 H2 h1 h2):Un fs ex H H2 h h2 where
 keep:=fun c ob q n hc hx=>b.keep c ob (a.keep c ob q n hc hx) (a.free c ob q n hx) hc hx
 slot:=fun c ob q n hc hx=>by
  obtain⟨sl,e1⟩:=a.slot c ob q n hc hx;obtain⟨sl',e2⟩:=b.slot c _ e1 (a.free c ob q n hx) hc hx;exact⟨sl',e2⟩
 free:=fun c ob q n hx=>by
  obtain⟨o',e1⟩:=a.there c ob q hx;exact b.free c o' e1 (a.free c ob q n hx) hx
 there:=fun c ob q hx=>by
  obtain⟨o',e1⟩:=a.there c ob q hx;exact b.there c o' e1 hx
 tups:=fun c xs q=>b.tups c xs (a.tups c xs q)
 frzs:=fun c ob xs q=>b.frzs c ob xs (a.frzs c ob xs q)
 tbls:=fun c ps q=>by
  obtain⟨m1,e1⟩:=a.tbls c ps q;obtain⟨m2,e2⟩:=b.tbls c _ e1;exact⟨m1++m2,by rw[e2,Array.append_assoc]⟩
theorem Un.kept(k:∀b u,h.get? b=some u->h'.get? b=some u):Un fs ex H H h h':=
 ⟨fun b ob q _ _ _=>k b ob q,fun b ob q _ _ _=>⟨ob.slots,k b ob q⟩,fun _ _ _ n _=>n,fun b ob q _=>⟨ob,k b ob q⟩,fun _ _ q=>q,fun _ _ _ q=>q,fun _ ps q=>⟨#[],by rw[q];simp⟩⟩
theorem Un.refl:Un fs ex H H h h:=Un.kept fun _ _ q=>q
theorem Un.laid(k:∀b u,h.get? b=some u->h'.get? b=some u)(hp:h.objs.size<=a)(hn:H a=none):Un fs ex H (upd H a o) h h' where
 keep:=fun b u q _ _ _=>k b u q
 slot:=fun b u q _ _ _=>⟨u.slots,k b u q⟩
 free:=fun b u q n _=>by rw[ae (Nat.ne_of_lt (Nat.lt_of_lt_of_le (Heap.lt_size q) hp))];exact n
 there:=fun b u q _=>⟨u,k b u q⟩
 tups:=fun b xs q=>by rw[ae (aC q hn)];exact q
 frzs:=fun b u xs q=>by rw[ae (aC q hn)];exact q
 tbls:=fun b ps q=>⟨#[],by rw[ae (aC q hn),q];simp⟩
theorem Un.write(mu:Mut (H x))(he:e=x\/H e=some (.own x))(k:∀b u,b≠e->h.get? b=some u->h'.get? b=some u)(heo:∃u,h'.get? e=some u):Un fs ex H (upd H x o) h h':=by
 have hx:∀b,H b=none->b≠x:=fun b n z=>by subst z;rw[n]at mu;exact mu
 have hb:∀b,H b=none->b≠e:=fun b n z=>by
  subst z;rcases he with r|r
  ·exact hx b n r
  ·rw[n]at r;cases r
 have hm:∀b u,H b=some u->¬ Mut (some u)->b≠x:=fun b u q nm z=>by subst z;rw[q]at mu;exact nm mu
 refine⟨fun b u q n _ _=>k b u (hb b n) q,fun b u q n _ _=>⟨u.slots,k b u (hb b n) q⟩,fun b u q n _=>by rw[ae (hx b n)];exact n,fun b u q _=>?_,
  fun b xs q=>by rw[ae (hm b _ q fun z=>z)];exact q,fun b u xs q=>by rw[ae (hm b _ q fun z=>z)];exact q,fun b ps q=>⟨#[],by rw[ae (hm b _ q fun z=>z),q];simp⟩⟩
 by_cases hbe:b=e
 ·subst hbe;exact heo
 ·exact⟨u,k b u hbe q⟩
theorem Un.mono(u:Un fs ex H H1 h h1)(hs:∀b∈fs,b∈fs')(hx:∀b∈ex,b∈ex'):Un fs' ex' H H1 h h1:=
 ⟨fun b ob q n hb he=>u.keep b ob q n (fun z=>hb (hs b z)) fun z=>he (hx b z),fun _ _ q n _ he=>u.any q n fun z=>he (hx _ z),fun b ob q n he=>u.free b ob q n fun z=>he (hx b z),fun b ob q he=>u.there b ob q fun z=>he (hx b z),u.tups,u.frzs,u.tbls⟩
end
noncomputable def trk(h:Heap)(H:Hp):List Addr:=(List.range h.objs.size).filter fun a=>(H a).isSome
noncomputable def kE(h:Heap)(H:Hp):Heap:=PySem.W.hideAll h (trk h H)
theorem pj(h:Heap)(H:Hp):(kE h H).objs.size=h.objs.size:=PySem.W.hideAll_size _ _
theorem sf{h:Heap}(e:h.get? b=some o)(n:H b=none):(kE h H).get? b=some o:=
 PySem.W.hideAll_get _ e fun hm=>by
  have q:(H b).isSome=true:=(List.mem_filter.mp hm).2;rw[n]at q;simp at q
theorem tR{h:Heap}(e:(kE h H).get? b=some o):h.get? b=some o/\H b=none:=by
 have e':h.get? b=some o:=PySem.W.of_hideAll (trk h H) e;refine⟨e',?_⟩;cases q:H b with
 |none=>rfl
 |some x=>
  have hm:b∈trk h H:=List.mem_filter.mpr ⟨List.mem_range.mpr (Heap.lt_size e'),by simp[q]⟩
  have z:(kE h H).get? b=none:=PySem.W.hideAll_none (trk h H) hm;rw[z]at e;cases e
noncomputable def sD(g h:Heap)(L:Addr):List (Addr×Obj):=(List.range h.objs.size).filterMap fun a=>if a=L\/(g.get? a).isSome=true then none else (h.get? a).map fun o=>(a,o)
noncomputable def rest(g h:Heap)(L d:Addr):List (Addr×Obj):=(sD g h L).filter fun p=>decide (p.1≠d)
end L2
namespace L2
open PySem PySem.Spec PyProof.Rows
structure Mod (K:PySem.W.Frag)(mg:Str->Option Value)(base:Heap):Prop where
 kin:K.In base
 glob:base.Ns mainGlobals mg
 blt:∃mb,base.Ns builtinsNs mb/\∀x:Str,x≠"__name__"->mb x=bootBuiltins x
 nolimit:base.NoLimit
structure Cx where
 prog:Program
 w:World
 K:PySem.W.Frag
 mg:Str->Option Value
 base:Heap
 A:Around
 N:List Str
 s₀:Shared
 H₀:Hp
 env:Env
 outer:List Env
 stack:List Env
 ex:List Addr
 fn:Str->Bool
 calm:Bool
 pn:List (Addr×Obj)
 xe:Value->Shared->Prop
noncomputable def frs(l:List Env):List Addr:=l.filterMap (·.frame)
noncomputable abbrev Cx.fs(X:Cx):List Addr:=frs X.outer
noncomputable def Vis(sc:Scope)(x:Str):Prop:=sc.names.lookup x=some .local\/sc.names.lookup x=some .cell\/sc.names.lookup x=some .free
noncomputable def Loc(sc:Scope)(x:Str):Prop:=sc.names.lookup x=some .local\/sc.names.lookup x=some .cell
noncomputable def DX(env:Env)(h:Heap)(m:Str->Option Value)(x:Str)(u:Value):Prop:=
 (env.kindOf x=some .local/\m x=some u)\/((env.kindOf x=some .cell\/env.kindOf x=some .free)/\∃c,env.cells.lookup x=some c/\h.IsCell c (some u))
structure Cx.Ok (X:Cx):Prop where
 mod:Mod X.K X.mg X.base
 kind:X.env.scope.kind=.function
 glob:X.env.globals=mainGlobals
 blt:X.env.builtins=builtinsNs
 above:X.s₀.heap.objs.size<=X.env.locals
 inj:∀x y c,X.env.cells.lookup x=some c->X.env.cells.lookup y=some c->x=y
 has:∀x,(X.env.kindOf x=some .cell\/X.env.kindOf x=some .free)->∃c,X.env.cells.lookup x=some c
 cab:∀x c,X.fn x=true->X.env.cells.lookup x=some c->X.s₀.heap.objs.size<=c
 hd:X.calm=true->X.A.handled=none
 frames:X.A.frames=some X.stack
 stk:X.stack=X.outer\/(X.stack=X.env::X.outer/\X.env.frame=some X.env.locals)
 exf:∀b∈X.ex,b≠X.env.locals/\∀x c,X.env.cells.lookup x=some c->c≠b
 bs:∀b o,X.base.get? b=some o->X.s₀.heap.get? b=some o/\X.H₀ b=none
 bsz:X.base.objs.size<=X.s₀.heap.objs.size
 noex:∀b o,X.base.get? b=some o->b∉X.ex
 exfs:∀b∈X.ex,b∉X.fs
 funs:X.s₀.heap.FunFrames X.base X.outer
 frf:∀b∈X.fs,X.H₀ b=none
structure Inv (X:Cx) (pins:List (Addr×Obj)) (σ:List (Option V)) (H:Hp)(s:Shared):Prop where
 ok:X.Ok
 os:s.os=X.s₀.os
 bare:AllBare s.gens
 base:Un X.fs X.ex X.H₀ H X.s₀.heap s.heap
 loc:∃m,s.heap.Ns X.env.locals m/\∀(i:Nat)(x:Str)(v:V),X.N[i]?=some x->σ[i]?=some (some v)->Vis X.env.scope x->∃u,RelV v u/\DX X.env s.heap m x u
 cell:∀x c,X.env.cells.lookup x=some c->∃v,s.heap.IsCell c v
 free:H X.env.locals=none
 freeC:∀x c,X.env.cells.lookup x=some c->H c=none
 pin:∀p∈X.pn++pins,s.heap.get? p.1=some p.2/\H p.1=none/\p.1≠X.env.locals/\p.1∉X.fs/\∀v,p.2.data≠.cell v
 hok:HOk X.prog X.w H s.heap
 len:σ.length=X.N.length
section
variable {X:Cx}{σ:List (Option V)}{s:Shared}{h':Heap}
theorem Cx.Ok.nofr(ok:X.Ok)(e:X.base.get? b=some o):b∉X.fs:=fun hb=>by
 have:=(ok.funs.mem hb).1;rw[e]at this;cases this
theorem Inv.bs(I:Inv X pins σ H s):∀b o,X.base.get? b=some o->s.heap.get? b=some o/\H b=none:=fun b o e=>
 ⟨I.base.keep b o (I.ok.bs b o e).1 (I.ok.bs b o e).2 (I.ok.nofr e) (I.ok.noex b o e),I.base.free b o (I.ok.bs b o e).1 (I.ok.bs b o e).2 (I.ok.noex b o e)⟩
theorem Inv.bk(I:Inv X pins σ H s):∀b o,X.base.get? b=some o->s.heap.get? b=some o:=fun b o e=>(I.bs b o e).1
theorem Inv.mod(I:Inv X pins σ H s):Mod X.K X.mg X.base:=I.ok.mod
theorem Inv.kIn(I:Inv X pins σ H s):X.K.In s.heap:=I.ok.mod.kin.keeps I.bk
theorem Inv.nolimit(I:Inv X pins σ H s):s.heap.NoLimit:=I.ok.mod.nolimit.keeps I.bk
theorem Inv.fr(I:Inv X pins σ H s):∃m,Fr X.base X.env.locals s.heap m:=
 let ⟨m,hn,_⟩:=I.loc
 ⟨m,hn,I.bk,Nat.le_trans I.ok.bsz I.ok.above⟩
theorem Inv.lt(I:Inv X pins σ H s):X.env.locals < s.heap.objs.size:=let ⟨_,hn,_⟩:=I.loc;hn.lt
theorem Inv.sz(I:Inv X pins σ H s):X.s₀.heap.objs.size<=s.heap.objs.size:=Nat.le_trans I.ok.above (Nat.le_of_lt I.lt)
theorem Inv.nofs(I:Inv X pins σ H s)(h:s.heap.objs.size<=a):a∉X.fs:=fun hb=>by
 obtain⟨_,o,ho,_⟩:=I.ok.funs.mem hb;exact absurd (Nat.lt_of_lt_of_le (Heap.lt_size ho) (Nat.le_trans I.sz h)) (Nat.lt_irrefl _)
theorem Inv.cne(I:Inv X pins σ H s):∀x c,X.env.cells.lookup x=some c->c≠X.env.locals:=fun x c e z=>by
 obtain⟨v,o,ho,hd⟩:=I.cell x c e;obtain⟨m,⟨o',es,ep,ho',hd',_⟩,_⟩:=I.loc;rw[z,ho']at ho;cases ho;rw[hd']at hd;cases hd
theorem Inv.funs(I:Inv X pins σ H s):s.heap.FunFrames X.base X.outer:=by
 have all:∀(l:List Env),(∀b∈frs l,b∈X.fs)->X.s₀.heap.FunFrames X.base l->s.heap.FunFrames X.base l:=by
  intro l
  induction l with
  |nil=>intro _ _;trivial
  |cons env r ih=>
   intro hs hl;obtain⟨hk,⟨L,o,hf,hn,ho,hd⟩,hr⟩:=hl;have hL:L∈X.fs:=hs L (by unfold frs;rw[List.filterMap_cons,hf];exact List.mem_cons_self)
   obtain⟨sl,e⟩:=I.base.slot L o ho (I.ok.frf L hL) hL fun z=>I.ok.exfs L z hL
   exact⟨hk,⟨L,_,hf,hn,e,hd⟩,ih (fun b hb=>hs b (by unfold frs;rw[List.filterMap_cons,hf];exact List.mem_cons_of_mem _ hb)) hr⟩
 exact all X.outer (fun _ hb=>hb) I.ok.funs
theorem Inv.stack(I:Inv X pins σ H s):s.heap.FunFrames X.base X.stack:=by
 rcases I.ok.stk with e|⟨e,hf⟩
 ·rw[e];exact I.funs
 ·rw[e];obtain⟨m,hn,_⟩:=I.loc;refine .cons (by rw[I.ok.kind];decide) hf hn ?_ I.funs
  exact Heap.get?_none_of_le (Nat.le_trans I.ok.bsz I.ok.above)
theorem Inv.stkSub(I:Inv X pins σ H s):∀b∈frs X.stack,b∈X.env.locals::X.fs:=fun b hb=>by
 rcases I.ok.stk with e|⟨e,hf⟩
 ·rw[e]at hb;exact List.mem_cons_of_mem _ hb
 ·rw[e]at hb;unfold frs at hb;rw[List.filterMap_cons,hf]at hb;exact hb
theorem Inv.stkFree(I:Inv X pins σ H s):∀b∈frs X.stack,H b=none:=fun b hb=>by
 rcases List.mem_cons.mp (I.stkSub b hb) with e|hb
 ·rw[e];exact I.free
 ·obtain⟨_,o,ho,_⟩:=I.ok.funs.mem hb;exact I.base.free b o ho (I.ok.frf b hb) fun z=>I.ok.exfs b z hb
theorem Inv.step{g':Array GenState}{t':Nat}{d':Drawn}{ch:List Addr}(I:Inv X pins σ H s)
  (hch:∀b∈ch,(b∈X.ex\/X.s₀.heap.objs.size<=b)/\b≠X.env.locals/\(∀x c,X.env.cells.lookup x=some c->c≠b)/\∀p∈X.pn++pins,p.1≠b)
  (keep:∀b o,b≠X.env.locals->b∉X.fs->b∉ch->s.heap.get? b=some o->H b=none->h'.get? b=some o)
  (slot:∀b o,b≠X.env.locals->b∈X.fs->b∉ch->s.heap.get? b=some o->H b=none->∃sl,h'.get? b=some {o with slots:=sl}) (free:∀b o,b∉ch->s.heap.get? b=some o->H b=none->H' b=none)
  (there:∀b o,b∉ch->s.heap.get? b=some o->∃o',h'.get? b=some o')
  (tups:∀b xs,H b=some (.tup xs)->H' b=some (.tup xs)) (frzs:∀b o u,H b=some (.frz o u)->H' b=some (.frz o u)) (tbls:∀b ps,H b=some (.tbl ps)->∃more,H' b=some (.tbl (ps++more)))
  (ns:∀m,s.heap.Ns X.env.locals m->h'.Ns X.env.locals m)(hok:HOk X.prog X.w H' h')(hg:AllBare g') :
  Inv X pins σ H' {s with heap:=h',gens:=g',drawn:=d',toks:=t'}:=by
 have neL:∀b o,X.s₀.heap.get? b=some o->b≠X.env.locals:=fun b o e=>Nat.ne_of_lt (Nat.lt_of_lt_of_le (Heap.lt_size e) I.ok.above)
 have neC:∀b o,X.s₀.heap.get? b=some o->b∉X.ex->b∉ch:=fun b o e hx hb=>by
  rcases (hch b hb).1 with z|z
  ·exact hx z
  ·exact absurd (Nat.lt_of_lt_of_le (Heap.lt_size e) z) (Nat.lt_irrefl _)
 have cellK:∀x c,X.env.cells.lookup x=some c->∀v,s.heap.IsCell c v->h'.IsCell c v:=fun x c e v ⟨o,ho,hd⟩=>by
  have nch:c∉ch:=fun z=>(hch c z).2.2.1 x c e rfl
  by_cases hc:c∈X.fs
  ·obtain⟨sl,q⟩:=slot c o (I.cne x c e) hc nch ho (I.freeC x c e);exact⟨_,q,hd⟩
  ·exact⟨o,keep c o (I.cne x c e) hc nch ho (I.freeC x c e),hd⟩
 refine⟨I.ok,I.os,hg,⟨fun b o e n hb hx=>?_,fun b o e n hb hx=>?_,fun b o e n hx=>?_,fun b o e hx=>?_,fun b xs e=>tups b xs (I.base.tups b xs e),fun b o xs e=>frzs b o xs (I.base.frzs b o xs e),fun b ps e=>?_⟩,?_,fun x c e=>?_,?_,fun x c e=>?_,fun p hp=>?_,hok,I.len⟩
 ·exact keep b o (neL b o e) hb (neC b o e hx) (I.base.keep b o e n hb hx) (I.base.free b o e n hx)
 ·obtain⟨sl,e1⟩:=I.base.slot b o e n hb hx;obtain⟨sl',e2⟩:=slot b _ (neL b o e) hb (neC b o e hx) e1 (I.base.free b o e n hx);exact⟨sl',e2⟩
 ·obtain⟨o',e1⟩:=I.base.there b o e hx;exact free b o' (neC b o e hx) e1 (I.base.free b o e n hx)
 ·obtain⟨o',e1⟩:=I.base.there b o e hx;exact there b o' (neC b o e hx) e1
 ·obtain⟨m1,e1⟩:=I.base.tbls b ps e;obtain⟨m2,e2⟩:=tbls b _ e1;exact⟨m1++m2,by rw[e2,Array.append_assoc]⟩
 ·obtain⟨m,hn,hl⟩:=I.loc;refine⟨m,ns m hn,fun i x v e1 e2 e3=>?_⟩
  obtain⟨u,r,l⟩:=hl i x v e1 e2 e3;refine⟨u,r,?_⟩;rcases l with l|⟨k,c,e,z⟩
  ·exact .inl l
  ·exact .inr ⟨k,c,e,cellK x c e _ z⟩
 ·obtain⟨v,z⟩:=I.cell x c e;exact⟨v,cellK x c e v z⟩
 ·obtain⟨m,⟨o,_,_,ho,_⟩,_⟩:=I.loc;exact free _ o (fun z=>(hch _ z).2.1 rfl) ho I.free
 ·obtain⟨v,o,ho,hd⟩:=I.cell x c e;exact free c o (fun z=>(hch c z).2.2.1 x c e rfl) ho (I.freeC x c e)
 ·obtain⟨e,n,ne,nf,d⟩:=I.pin p hp;have nch:p.1∉ch:=fun z=>(hch p.1 z).2.2.2 p hp rfl
  exact⟨keep p.1 p.2 ne nf nch e n,free p.1 p.2 nch e n,ne,nf,d⟩
theorem Inv.un{t':Nat}(I:Inv X pins σ H s)(u:Un X.fs [] H H' s.heap h')(hok:HOk X.prog X.w H' h'):Inv X pins σ H' {s with heap:=h',toks:=t'}:=by
 obtain⟨m,⟨o,es,ep,ho,r⟩,_⟩:=id I.loc;obtain⟨sl,hL⟩:=u.any ho I.free (by simp)
 exact I.step (g':=s.gens) (d':=s.drawn) (ch:=[]) (fun _ z=>nomatch z) (fun b o _ hb _ e n=>u.keep b o e n hb (by simp)) (fun b o _ hb _ e n=>u.slot b o e n hb (by simp)) (fun b o _ e n=>u.free b o e n (by simp)) (fun b o _ e=>u.there b o e (by simp)) u.tups u.frzs u.tbls (fun m' hm=>by
  obtain⟨o',es',ep',ho',r'⟩:=hm;rw[ho]at ho';cases ho';exact⟨_,es',ep',hL,r'⟩) hok I.bare
theorem Inv.call{g':Array GenState}{t':Nat}{d':Drawn}{ch:List Addr}(I:Inv X pins σ H s)(u:Un (frs X.stack) ch H H' s.heap h')(hok:HOk X.prog X.w H' h')(hg:AllBare g')
  (hch:∀b∈ch,(b∈X.ex\/X.s₀.heap.objs.size<=b)/\b≠X.env.locals/\(∀x c,X.env.cells.lookup x=some c->c≠b)/\∀p∈X.pn++pins,p.1≠b) :
  Inv X pins σ H' {s with heap:=h',gens:=g',drawn:=d',toks:=t'}:=by
 obtain⟨m,⟨o,es,ep,ho,r⟩,_⟩:=id I.loc;obtain⟨sl,hL⟩:=u.any ho I.free fun z=>(hch _ z).2.1 rfl
 exact I.step (ch:=ch) hch (fun b o hL hb hc e n=>u.keep b o e n (fun z=>(List.mem_cons.mp (I.stkSub b z)).elim hL hb) hc) (fun b o _ _ hc e n=>u.any e n hc) (fun b o hc e n=>u.free b o e n hc) (fun b o hc e=>u.there b o e hc) u.tups u.frzs u.tbls (fun m' hm=>by
  obtain⟨o',es',ep',ho',r'⟩:=hm;rw[ho]at ho';cases ho';exact⟨_,es',ep',hL,r'⟩) hok hg
theorem Inv.turned{t':Nat}{it:Addr}(I:Inv X pins σ H s)(k:∀b o,b≠it->s.heap.get? b=some o->h'.get? b=some o)(hn:H it=none)(hL:it≠X.env.locals)
  (h1:it∈X.ex\/X.s₀.heap.objs.size<=it) (h2:∀x c,X.env.cells.lookup x=some c->c≠it) (h3:∀p∈X.pn++pins,p.1≠it):Inv X pins σ H {s with heap:=h',toks:=t'}:=by
 have nit:∀b u,H b=some u->b≠it:=fun b u e z=>by rw[z,hn]at e;cases e
 refine I.step (g':=s.gens) (d':=s.drawn) (ch:=[it]) (fun b hb=>?_) (fun b o _ _ hc e _=>k b o (fun z=>hc (by simp[z])) e) (fun b o _ _ hc e _=>⟨o.slots,k b o (fun z=>hc (by simp[z])) e⟩) (fun _ _ _ _ n=>n)
  (fun b o hc e=>⟨o,k b o (fun z=>hc (by simp[z])) e⟩) (fun _ _ e=>e) (fun _ _ _ e=>e) (fun b ps e=>⟨#[],by rw[e];simp⟩) (fun m hm=>?_) (fun b u e=>?_) I.bare
 ·have e:b=it:=by simpa using hb
  subst e;exact⟨h1,hL,h2,h3⟩
 ·obtain⟨o,es,ep,ho,r⟩:=hm;exact⟨o,es,ep,k _ o (Ne.symm hL) ho,r⟩
 ·refine (I.hok b u e).stay (fun c v hc q=>k c v ?_ q) (fun _ q=>q) fun _ _ q=>q
  rcases hc with z|z
  ·rw[z];exact nit b u e
  ·exact nit c _ z
theorem Inv.tok(I:Inv X pins σ H s)(t:Nat):Inv X pins σ H {s with toks:=t}:=I.un (h':=s.heap) (t':=t) Un.refl I.hok
theorem Inv.kept(I:Inv X pins σ H s)(k:∀b u,s.heap.get? b=some u->h'.get? b=some u):Inv X pins σ H {s with heap:=h',toks:=t'}:=I.un (Un.kept k) (I.hok.kept k)
theorem Inv.laid(I:Inv X pins σ H s)(k:∀b u,s.heap.get? b=some u->h'.get? b=some u)(hp:s.heap.objs.size<=a)(new:ObjOk X.prog X.w (upd H a o) h' a o) :
  Inv X pins σ (upd H a o) {s with heap:=h',toks:=t'}:=I.un (Un.laid k hp (I.hok.fresh hp)) (I.hok.laid k hp new)
theorem Inv.write(I:Inv X pins σ H s)(mu:Mut (H x))(he:e=x\/H e=some (.own x))(k:∀b u,b≠e->s.heap.get? b=some u->h'.get? b=some u)(heo:∃u,h'.get? e=some u)
  (new:ObjOk X.prog X.w (upd H x o) h' x o):Inv X pins σ (upd H x o) {s with heap:=h',toks:=t'}:=I.un (Un.write mu he k heo) (I.hok.write mu he k heo new)
theorem Inv.pins_of(I:Inv X pins σ H s)(h:∀p∈pins',s.heap.get? p.1=some p.2/\H p.1=none/\p.1≠X.env.locals/\p.1∉X.fs/\∀v,p.2.data≠.cell v):Inv X pins' σ H s:=
 ⟨I.ok,I.os,I.bare,I.base,I.loc,I.cell,I.free,I.freeC,fun p hp=>(List.mem_append.mp hp).elim (fun z=>I.pin p (List.mem_append_left _ z)) (h p),I.hok,I.len⟩
theorem iG{N:List Str}(hN:N.Nodup){i j:Nat}{x:Str}(a:N[i]?=some x)(b:N[j]?=some x):i=j:=by
 obtain⟨h1,e1⟩:=List.getElem?_eq_some_iff.mp a;obtain⟨h2,e2⟩:=List.getElem?_eq_some_iff.mp b;exact (List.getElem_inj hN).mp (e1.trans e2.symm)
theorem pG{M:Model}{A:Around}{E:Value->Shared->Prop}{i:Nat}{x:Str}{v:V}{u:Value}{Q:Unit->Shared->Prop}(I:Inv X pins σ H s)(hN:X.N.Nodup)(hi:X.N[i]?=some x)(hx:Loc X.env.scope x)(r:RelV v u)
  (h:∀s',Inv X pins (σ.set i (some v)) H s'->(∃a,Heap.SameBut a s.heap s'.heap/\(a=X.env.locals\/X.env.cells.lookup x=some a))->Q () s') (hf:X.fn x=true\/X.env.scope.names.lookup x=some .local:=by first|exact .inl rfl|exact .inr rfl|assumption):wpAny M A (storeName X.env x u) Q E s:=by
 obtain⟨m,hn,hl⟩:=id I.loc;have hcls:(X.env.scope.kind == .class||(X.env.scope.kind == .module&&X.env.locals != X.env.globals))=false:=by rw[I.ok.kind];rfl
 have hiσ:i < σ.length:=by rw[I.len];exact (List.getElem?_eq_some_iff.mp hi).1
 have cne:=I.cne;have tracked:∀{a:Addr}{h':Heap},(∃o,s.heap.get? a=some o/\H a=none)->Heap.SameBut a s.heap h'->HOk X.prog X.w H h':=fun {a h'} ha hs b ob e=>by
  obtain⟨_,_,hfree⟩:=ha;refine (I.hok b ob e).stay (fun c w' hc q=>(hs.2 c ?_).trans q) (fun _ q=>q) fun _ _ q=>q
  rintro rfl;rcases hc with rfl|hc
  ·rw[hfree]at e;cases e
  ·rw[hfree]at hc;cases hc
 rcases hx with hk|hk
 ·refine wpAny_storeName_local hk hn (fun h' hn' hs=>?_) hcls
  obtain⟨oL,_,_,hoL,_⟩:=id hn;refine h _ ⟨I.ok,I.os,I.bare,⟨fun b o e n hb hx=>?_,fun b o e n hb hx=>?_,I.base.free,fun b o e hx=>?_,I.base.tups,I.base.frzs,I.base.tbls⟩,⟨_,hn',fun j y v' e1 e2 e3=>?_⟩,fun y c e=>?_,I.free,I.freeC,fun p hp=>?_,tracked ⟨oL,hoL,I.free⟩ hs,by simpa using I.len⟩ ⟨_,hs,.inl rfl⟩
  ·exact (hs.2 b (Nat.ne_of_lt (Nat.lt_of_lt_of_le (Heap.lt_size e) I.ok.above))).trans (I.base.keep b o e n hb hx)
  ·obtain⟨sl,e1⟩:=I.base.slot b o e n hb hx;exact⟨sl,(hs.2 b (Nat.ne_of_lt (Nat.lt_of_lt_of_le (Heap.lt_size e) I.ok.above))).trans e1⟩
  ·obtain⟨o',e1⟩:=I.base.there b o e hx;exact⟨o',(hs.2 b (Nat.ne_of_lt (Nat.lt_of_lt_of_le (Heap.lt_size e) I.ok.above))).trans e1⟩
  ·by_cases hj:j=i
   ·subst hj;rw[hi]at e1;cases e1;rw[List.getElem?_set_self hiσ]at e2;cases e2;exact⟨u,r,.inl ⟨hk,by simp⟩⟩
   ·rw[List.getElem?_set_ne (Ne.symm hj)]at e2;obtain⟨u',r',q⟩:=hl j y v' e1 e2 e3;refine⟨u',r',?_⟩;rcases q with ⟨k,e⟩|⟨k,c,e,z⟩
    ·refine .inl ⟨k,?_⟩;have:y≠x:=fun e=>hj (iG hN e1 (e▸hi))
     simp[this,e]
    ·exact .inr ⟨k,c,e,z.sameBut hs (cne y c e)⟩
  ·obtain⟨w',z⟩:=I.cell y c e;exact⟨w',z.sameBut hs (cne y c e)⟩
  ·obtain⟨e,n,ne,nf,d⟩:=I.pin p hp;exact⟨(hs.2 p.1 ne).trans e,n,ne,nf,d⟩
 ·have hfn:X.fn x=true:=by
   rcases hf with z|z
   ·exact z
   ·rw[z]at hk;cases hk
  obtain⟨c,hc⟩:=I.ok.has x (.inl hk);obtain⟨w',z⟩:=I.cell x c hc;refine wpAny_storeName_cell I.ok.kind hk hc z (fun h' hc' hs=>?_)
  obtain⟨oc,hoc,hocd⟩:=id z;refine h {s with heap:=h'} ⟨I.ok,I.os,I.bare,⟨fun b o e n hb hx=>?_,fun b o e n hb hx=>?_,I.base.free,fun b o e hx=>?_,I.base.tups,I.base.frzs,I.base.tbls⟩,⟨m,hn.sameBut hs (Ne.symm (cne x c hc)),fun j y v' e1 e2 e3=>?_⟩,fun y c' e=>?_,I.free,I.freeC,fun p hp=>?_,tracked ⟨oc,hoc,I.freeC x c hc⟩ hs,by simpa using I.len⟩ ⟨c,hs,.inr hc⟩
  ·exact (hs.2 b (Nat.ne_of_lt (Nat.lt_of_lt_of_le (Heap.lt_size e) (I.ok.cab x c hfn hc)))).trans (I.base.keep b o e n hb hx)
  ·obtain⟨sl,e1⟩:=I.base.slot b o e n hb hx;exact⟨sl,(hs.2 b (Nat.ne_of_lt (Nat.lt_of_lt_of_le (Heap.lt_size e) (I.ok.cab x c hfn hc)))).trans e1⟩
  ·obtain⟨o',e1⟩:=I.base.there b o e hx;exact⟨o',(hs.2 b (Nat.ne_of_lt (Nat.lt_of_lt_of_le (Heap.lt_size e) (I.ok.cab x c hfn hc)))).trans e1⟩
  ·by_cases hj:j=i
   ·subst hj;rw[hi]at e1;cases e1;rw[List.getElem?_set_self hiσ]at e2;cases e2;exact⟨u,r,.inr ⟨.inl hk,c,hc,hc'⟩⟩
   ·rw[List.getElem?_set_ne (Ne.symm hj)]at e2;obtain⟨u',r',q⟩:=hl j y v' e1 e2 e3;refine⟨u',r',?_⟩;rcases q with q|⟨k,c',e,z'⟩
    ·exact .inl q
    ·refine .inr ⟨k,c',e,z'.sameBut hs ?_⟩;rintro rfl;exact hj (iG hN e1 (I.ok.inj _ _ _ e hc▸hi))
  ·by_cases hcc:c'=c
   ·subst hcc;exact⟨_,hc'⟩
   ·obtain⟨w2,z2⟩:=I.cell y c' e;exact⟨w2,z2.sameBut hs hcc⟩
  ·obtain⟨e,n,ne,nf,d⟩:=I.pin p hp;refine⟨(hs.2 p.1 ?_).trans e,n,ne,nf,d⟩;intro q;rw[q,hoc]at e;have q':oc=p.2:=Option.some.inj e;exact d w' (by rw[<-q'];exact hocd)
theorem iS(I:Inv X pins σ H s)(hN:X.N.Nodup)(hi:X.N[i]?=some x)(hx:Loc X.env.scope x)(r:RelV v u)
  (h:∀s',Inv X pins (σ.set i (some v)) H s'->Q () s') (hf:X.fn x=true\/X.env.scope.names.lookup x=some .local:=by first|exact .inl rfl|exact .inr rfl|assumption):wpAny M A (storeName X.env x u) Q E s:=
 pG I hN hi hx r (fun s' I' _=>h s' I') hf
theorem Inv.call'{s':Shared}(I:Inv X pins σ H s)(ho:s'.os=s.os)(u:Un (frs X.stack) ch H H' s.heap s'.heap)(hok:HOk X.prog X.w H' s'.heap)(hg:AllBare s'.gens)
  (hch:∀b∈ch,(b∈X.ex\/X.s₀.heap.objs.size<=b)/\b≠X.env.locals/\(∀x c,X.env.cells.lookup x=some c->c≠b)/\∀p∈X.pn++pins,p.1≠b):Inv X pins σ H' s':=by
 obtain⟨h',g',d',t',o'⟩:=s';have e:o'=s.os:=ho;subst e;exact I.call (g':=g') (t':=t') (d':=d') u hok hg hch
end
noncomputable abbrev XK:=Value->Option Addr->Hp->Prop
noncomputable abbrev St:=List (Option V)
noncomputable abbrev VK:=V->Hp->Prop
noncomputable abbrev TE:=St->Hp->VK->Prop
noncomputable abbrev TT:=St->Hp->(Bool->Hp->Prop)->Prop
noncomputable abbrev TA:=St->Hp->(List V->Hp->Prop)->Prop
structure Ends where
 nx:St->Hp->Prop
 rt:VK
 bk:St->Hp->Prop:=fun _ _=>False
 ct:St->Hp->Prop:=fun _ _=>False
noncomputable abbrev TS:=Ends->St->Hp->Prop
noncomputable def EP(X:Cx)(pins:List (Addr×Obj))(σ:St)(Q:VK)(u:Value)(s':Shared):Prop:=∃v H',Inv X pins σ H' s'/\RelV v u/\Q v H'
noncomputable def TP(X:Cx)(pins:List (Addr×Obj))(σ:St)(Q:Bool->Hp->Prop)(b:Bool)(s':Shared):Prop:=∃H',Inv X pins σ H' s'/\Q b H'
noncomputable def AP(X:Cx)(pins:List (Addr×Obj))(σ:St)(Q:List V->Hp->Prop)(us:List Value)(s':Shared):Prop:=∃vs H',Inv X pins σ H' s'/\Vals vs us/\Q vs H'
noncomputable def SP(X:Cx)(pins:List (Addr×Obj))(D:Ends)(f:Flow)(s':Shared):Prop:=
 match f with
 |.next=>∃σ' H',Inv X pins σ' H' s'/\D.nx σ' H'
 |.brk=>∃σ' H',Inv X pins σ' H' s'/\D.bk σ' H'
 |.cont=>∃σ' H',Inv X pins σ' H' s'/\D.ct σ' H'
 |.ret u=>∃v σ' H',Inv X pins σ' H' s'/\RelV v u/\D.rt v H'
noncomputable def PE(X:Cx)(e:Expr)(t:TE):Prop:=
 ∀(pins:List (Addr×Obj)) (s:Shared)(σ:St)(H:Hp)(Q:VK),Inv X pins σ H s->t σ H Q->wpAny (model X.prog X.w) X.A (eval e X.env) (EP X pins σ Q) X.xe s
noncomputable def PT(X:Cx)(e:Expr)(t:TT):Prop:=
 ∀(pins:List (Addr×Obj)) (s:Shared)(σ:St)(H:Hp)(Q:Bool->Hp->Prop),Inv X pins σ H s->t σ H Q->wpAny (model X.prog X.w) X.A (isTrue e X.env (eval e X.env)) (TP X pins σ Q) X.xe s
noncomputable def PW(X:Cx)(e:Expr)(t:TT):Prop:=
 ∀(whole:Sem Value) (pins:List (Addr×Obj)) (s:Shared)(σ:St)(H:Hp)(Q:Bool->Hp->Prop),Inv X pins σ H s->t σ H Q->wpAny (model X.prog X.w) X.A (isTrue e X.env whole) (TP X pins σ Q) X.xe s
theorem PW.pt(h:PW X e t):PT X e t:=h _
noncomputable def PA(X:Cx)(es:List Expr)(t:TA):Prop:=
 ∀(pos:Pos) (pins:List (Addr×Obj)) (s:Shared)(σ:St)(H:Hp)(Q:List V->Hp->Prop),Inv X pins σ H s->t σ H Q->wpAny (model X.prog X.w) X.A (spliced (backTo pos (starEach es X.env))) (AP X pins σ Q) X.xe s
noncomputable def PS(X:Cx)(st:Stmt)(t:TS):Prop:=
 ∀(pins:List (Addr×Obj)) (s:Shared)(σ:St)(H:Hp)(D:Ends),Inv X pins σ H s->t D σ H->wpAny (model X.prog X.w) X.A (exec st X.env) (SP X pins D) X.xe s
noncomputable def PSs(X:Cx)(st:List Stmt)(t:TS):Prop:=
 ∀(pins:List (Addr×Obj)) (s:Shared)(σ:St)(H:Hp)(D:Ends),Inv X pins σ H s->t D σ H->wpAny (model X.prog X.w) X.A (execs st X.env) (SP X pins D) X.xe s
theorem thn{α:Type}{t:Sem α}{Q Q':α->Shared->Prop}{M:Model}{A:Around}{E:Value->Shared->Prop}{s:Shared}(h:wpAny M A t Q E s)(hQ:∀a s,Q a s->Q' a s):wpAny M A t Q' E s:=wpAny_mono h hQ fun _ _ x=>x
end L2
namespace L2
open PySem PySem.Spec PyProof.Rows
section
variable {X:Cx}
theorem bin{a b:Expr}{ta tb:TE}(ha:PE X a ta)(hb:PE X b tb){pins:List (Addr×Obj)}{s:Shared}{σ:St}{H:Hp}{R:V->V->Hp->Prop}(I:Inv X pins σ H s)(h:ta σ H fun x H1=>tb σ H1 fun y H2=>R x y H2)
  {α:Type}{Q:α->Shared->Prop}{f:Value->Value->Sem α}
  (hf:∀v u s2 x y H2,Inv X pins σ H2 s2->RelV x v->RelV y u->R x y H2->wpAny (model X.prog X.w) X.A (f v u) Q X.xe s2) :
  wpAny (model X.prog X.w) X.A (eval a X.env) (fun v s₁=>wpAny (model X.prog X.w) X.A (eval b X.env) (fun u s₂=>wpAny (model X.prog X.w) X.A (f v u) Q X.xe s₂) X.xe s₁) X.xe s:=by
 refine thn (ha pins s σ H _ I h) fun v s1 ⟨x,H1,I1,r1,q1⟩=>?_
 refine thn (hb pins s1 σ H1 _ I1 q1) fun u s2 ⟨y,H2,I2,r2,q2⟩=>?_
 exact hf v u s2 x y H2 I2 r1 r2 q2
noncomputable def ud(i:Nat):TE:=fun σ H Q=>∃v,σ[i]?=some (some v)/\Q v H
noncomputable def tC(v:V):TE:=fun _ H Q=>Q v H
theorem kI(hN:X.N[i]?=some x)(hv:Vis X.env.scope x)(hd:(x == ("__debug__" : Str))=false:=by decide)(hcd:(x == ("__classdict__" : Str))=false:=by decide):PE X (.Name x pos) (ud i):=by
 intro pins s σ H Q I h;obtain⟨v,e,h⟩:=h;obtain⟨m,hn,hl⟩:=I.loc;obtain⟨u,r,l⟩:=hl i x v hN e hv;have fin:EP X pins σ Q u s:=⟨v,H,I,r,h⟩;rcases l with ⟨hk,hm⟩|⟨hk,c,hc,hcell⟩
 ·exact wpAny_Name (wpAny_loadName_local I.ok.kind hk hn hm fin) hd
 ·rcases hk with hk|hk
  ·exact wpAny_Name (wpAny_loadName_cell I.ok.kind hk hc hcell fin) hd
  ·exact wpAny_Name (wpAny_loadName_free I.ok.kind hk hc hcell fin hcd) hd
theorem q9{i j pos}:PE X (.Constant (.int i) j pos) (tC (.int i)):=fun _ _ _ H _ I h=>wpAny_Constant_int ⟨.int i,H,I.tok _,⟨_,rfl⟩,h⟩
theorem BP{b j pos}:PE X (.Constant (.bool b) j pos) (tC (.bl b)):=fun _ _ _ H _ I h=>Constant_bool ⟨.bl b,H,I,rfl,h⟩
theorem yi{j pos}:PE X (.Constant .none j pos) (tC .non):=fun _ _ _ H _ I h=>Constant_none ⟨.non,H,I,rfl,h⟩
theorem m8{x j pos}:PE X (.Constant (.str x) j pos) (tC (.str x)):=fun _ _ _ H _ I h=>Calls.Constant_str ⟨.str x,H,I.tok _,⟨_,rfl⟩,h⟩
noncomputable def Gl(X:Cx)(x:Str):Prop:=X.env.kindOf x=some .globalImplicit
theorem bB(I:Inv X pins σ H s)(hg:Gl X x)(hm:X.mg x=some u)(h:Q u s)
  (hd:(x == ("__debug__" : Str))=false:=by decide):wpAny (model X.prog X.w) X.A (eval (.Name x pos) X.env) Q E s:=
 Calls.Name_function_global I.ok.kind hg (Calls.loadGlobal_global (by rw[I.ok.glob];exact I.mod.glob.keeps I.bk) hm h) hd
theorem ky(I:Inv X pins σ H s)(hg:Gl X x)(hm:X.mg x=none)(hv:bootBuiltins x=some u)(h:Q u s)
  (hn:x≠"__name__":=by decide) (hd:(x == ("__debug__" : Str))=false:=by decide):wpAny (model X.prog X.w) X.A (eval (.Name x pos) X.env) Q E s:=by
 obtain⟨mb,h1,h2⟩:=I.mod.blt;exact Calls.Name_function_global I.ok.kind hg (Calls.loadGlobal_builtin (by rw[I.ok.glob];exact I.mod.glob.keeps I.bk) hm (by rw[I.ok.blt];exact h1.keeps I.bk) ((h2 x hn).trans hv) h) hd
theorem fq(hg:Gl X x)(hm:X.mg x=some u)(r:RelV v u)(hd:(x == ("__debug__" : Str))=false:=by decide):PE X (.Name x pos) (tC v):=
 fun _ _ _ H _ I h=>bB I hg hm ⟨v,H,I,r,h⟩ hd
theorem tE(hg:Gl X x)(hm:X.mg x=none)(hv:bootBuiltins x=some u)(r:RelV v u)(hn:x≠"__name__":=by decide)(hd:(x == ("__debug__" : Str))=false:=by decide):PE X (.Name x pos) (tC v):=
 fun _ _ _ H _ I h=>ky I hg hm hv ⟨v,H,I,r,h⟩ hn hd
variable {a b:Expr}{ta tb:TE}{pos:Pos}
noncomputable def tB(t:TE):TT:=fun σ H Q=>t σ H fun x H1=>∃c,x=.bl c/\Q c H1
theorem vJ{e:Expr}(h:PE X e t)(he:∀whole,isTrue e X.env whole=(do let v<-whole;standAt e.pos;holding [v] (truthy v)):=by intro _;rfl):PT X e (tB t):=by
 intro pins s σ H Q I hw;refine isTrue_plain (thn (h pins s σ H _ I hw) fun v s1 ⟨x,H1,I1,r1,q1⟩=>?_) (he _)
 obtain⟨d,rfl,q⟩:=q1;cases r1;exact wpAny_truthy_bool ⟨H1,I1,q⟩
variable {tA tB':TT}{rest:List Expr}
noncomputable def GG(t u:TT):TT:=fun σ H Q=>t σ H fun c H1=>if c=true then u σ H1 Q else Q false H1
noncomputable def tOr(t u:TT):TT:=fun σ H Q=>t σ H fun c H1=>if c=true then Q true H1 else u σ H1 Q
noncomputable def Gf(t:TT):TT:=fun σ H Q=>t σ H fun c H1=>Q (!c) H1
theorem uC(ha:PT X a tA):PW X (.BoolOp .And [a] pos) tA:=by
 intro wh pins s σ H Q I h;refine isTrue_and (thn (ha pins s σ H Q I h) fun c s1 e=>?_)
 cases c with
 |true=>exact isTrue_and_nil e
 |false=>exact e
theorem Aa(ha:PT X a tA):PW X (.BoolOp .Or [a] pos) tA:=by
 intro wh pins s σ H Q I h;refine isTrue_or (thn (ha pins s σ H Q I h) fun c s1 e=>?_)
 cases c with
 |false=>exact isTrue_or_nil e
 |true=>exact e
theorem zt(ha:PT X a tA)(hb:PW X (.BoolOp .And (b::rest) pos) tB'):PW X (.BoolOp .And (a::b::rest) pos) (GG tA tB'):=by
 intro wh pins s σ H Q I h;refine isTrue_and (thn (ha pins s σ H _ I h) fun c s1 ⟨H1,I1,q1⟩=>?_)
 cases c with
 |true=>exact hb wh pins s1 σ H1 Q I1 q1
 |false=>exact⟨H1,I1,q1⟩
theorem Ch(ha:PT X a tA)(hb:PW X (.BoolOp .Or (b::rest) pos) tB'):PW X (.BoolOp .Or (a::b::rest) pos) (tOr tA tB'):=by
 intro wh pins s σ H Q I h;refine isTrue_or (thn (ha pins s σ H _ I h) fun c s1 ⟨H1,I1,q1⟩=>?_)
 cases c with
 |true=>exact⟨H1,I1,q1⟩
 |false=>exact hb wh pins s1 σ H1 Q I1 q1
theorem yH(ha:PT X a tA):PT X (.UnaryOp .Not a pos) (Gf tA):=by
 intro pins s σ H Q I h;exact isTrue_not (ha pins s σ H (fun c H1=>Q (!c) H1) I h)
noncomputable def Dp(ta tb:TE):TE:=fun σ H Q=>ta σ H fun x H1=>∃c,x=.bl c/\if c=true then tb σ H1 Q else Q (.bl false) H1
noncomputable def G4(ta tb:TE):TE:=fun σ H Q=>ta σ H fun x H1=>∃c,x=.bl c/\if c=true then Q (.bl true) H1 else tb σ H1 Q
noncomputable def B4(ta:TE):TE:=fun σ H Q=>ta σ H fun x H1=>∃c,x=.bl c/\Q (.bl (!c)) H1
theorem zJ{op}(h:PE X a t):PE X (.BoolOp op [a] pos) t:=fun pins s σ H Q I hw=>BoolOp_one (h pins s σ H Q I hw)
theorem xt(ha:PE X a ta)(hb:PE X (.BoolOp .And (b::rest) pos) tb):PE X (.BoolOp .And (a::b::rest) pos) (Dp ta tb):=by
 intro pins s σ H Q I h;refine BoolOp_and (thn (ha pins s σ H _ I h) fun v s1 ⟨x,H1,I1,r1,q1⟩=>?_)
 obtain⟨c,rfl,q1⟩:=q1;cases r1;refine wpAny_truthy_bool ?_;cases c with
 |true=>exact hb pins s1 σ H1 Q I1 q1
 |false=>exact⟨.bl false,H1,I1,rfl,q1⟩
theorem By(ha:PE X a ta)(hb:PE X (.BoolOp .Or (b::rest) pos) tb):PE X (.BoolOp .Or (a::b::rest) pos) (G4 ta tb):=by
 intro pins s σ H Q I h;refine BoolOp_or (thn (ha pins s σ H _ I h) fun v s1 ⟨x,H1,I1,r1,q1⟩=>?_)
 obtain⟨c,rfl,q1⟩:=q1;cases r1;refine wpAny_truthy_bool ?_;cases c with
 |false=>exact hb pins s1 σ H1 Q I1 q1
 |true=>exact⟨.bl true,H1,I1,rfl,q1⟩
theorem Au(ha:PE X a ta):PE X (.UnaryOp .Not a pos) (B4 ta):=by
 intro pins s σ H Q I h;refine UnaryOp_ (thn (ha pins s σ H _ I h) fun v s1 ⟨x,H1,I1,r1,q1⟩=>?_)
 obtain⟨c,rfl,q1⟩:=q1;cases r1;exact not_of (wpAny_truthy_bool ⟨.bl (!c),H1,I1,rfl,q1⟩)
noncomputable def tIf(t:TT)(ta tb:TE):TE:=fun σ H Q=>t σ H fun c H1=>if c=true then ta σ H1 Q else tb σ H1 Q
theorem qr(hc:PT X c tA)(ha:PE X a ta)(hb:PE X b tb):PE X (.IfExp c a b pos) (tIf tA ta tb):=by
 intro pins s σ H Q I h;refine wpAny_IfExp (thn (hc pins s σ H _ I h) fun d s1 ⟨H1,I1,q1⟩=>?_)
 cases d with
 |true=>exact ha pins s1 σ H1 Q I1 q1
 |false=>exact hb pins s1 σ H1 Q I1 q1
end
end L2
namespace L2
open PySem PySem.Spec PyProof.Rows
noncomputable def SqL(K:PySem.W.Frag)(H:Hp)(a:Addr)(xs:List V):Prop:=
 Rd H a (.lst xs)\/
  ∃(o:Obj) (its:Array Value) (n:Nat),K.lookup a=some o/\o.cls=.type "list"/\o.dict=none/\o.data=.seq its n/\its.size<=sizeLine/\Vals xs its.toList
noncomputable def SqT(K:PySem.W.Frag)(H:Hp)(a:Addr)(xs:List V):Prop:=
 Rd H a (.tup xs)\/
  ∃(o:Obj) (its:Array Value) (n:Nat),K.lookup a=some o/\o.cls=.type "tuple"/\o.data=.seq its n/\its.size<=sizeLine/\Vals xs its.toList
noncomputable def Gc:Value->Option V
 |.none=>some .non
 |.bool b=>some (.bl b)
 |.int i _=>some (.int i)
 |.str x _=>some (.str x)
 |.bytes b _=>some (.byt b)
 |.float b _=>some (.flt b)
 |.ref a=>some (.ref a)
 |.type n=>some (.ty n)
 |_=>none
theorem RelV.abs(r:RelV x u):Gc u=some x:=by
 cases x with
 |non=>cases r;rfl
 |bl _=>cases r;rfl
 |int _=>obtain⟨t,rfl⟩:=r;rfl
 |str _=>obtain⟨t,rfl⟩:=r;rfl
 |byt _=>obtain⟨t,rfl⟩:=r;rfl
 |flt _=>obtain⟨t,rfl⟩:=r;rfl
 |ref _=>cases r;rfl
 |ty _=>cases r;rfl
theorem RelV.inj(r:RelV x u)(q:RelV y u):x=y:=Option.some.inj (r.abs.symm.trans q.abs)
theorem Vals.inj:∀{xs ys:List V}{us:List Value},Vals xs us->Vals ys us->xs=ys
 |_,_,_,.nil,.nil=>rfl
 |_,_,_,.cons r t,.cons r' t'=>by rw[r.inj r',Vals.inj t t']
section
variable {X:Cx}{s:Shared}{a:Addr}{xs ys:List V}
theorem SqL.of{K:PySem.W.Frag}(h:H a=some (.lst xs)):SqL K H a xs:=.inl (.inl h)
theorem SqT.of{K:PySem.W.Frag}(h:H a=some (.tup xs)):SqT K H a xs:=.inl (.inl h)
theorem Inv.list(I:Inv X pins σ H s)(h:SqL X.K H a xs):∃its:List Value,Vals xs its/\PlainL s.heap a its.toArray/\xs.length<=sizeLine:=by
 rcases h with h|⟨o,its,n,hk,hc,hd,hs,hz,r⟩
 ·obtain⟨z,its,n,r,e⟩:=h.ok I.hok;exact⟨its,r,⟨_,n,e,rfl,rfl,rfl⟩,z⟩
 ·refine⟨its.toList,r,⟨o,n,I.kIn a o hk,hc,hd,by simpa using hs⟩,?_⟩
  have e:=r.length;simp only[Array.length_toList]at e;omega
theorem Inv.tuple(I:Inv X pins σ H s)(h:SqT X.K H a xs):∃its:List Value,Vals xs its/\IsTup s.heap a its.toArray/\xs.length<=sizeLine:=by
 rcases h with h|⟨o,its,n,hk,hc,hs,hz,r⟩
 ·obtain⟨z,its,r,p⟩:=h.ok I.hok;exact⟨its,r,p,z⟩
 ·refine⟨its.toList,r,⟨o,I.kIn a o hk,hc,n,by simpa using hs⟩,?_⟩
  have e:=r.length;simp only[Array.length_toList]at e;omega
theorem Inv.list_inj(I:Inv X pins σ H s)(h:SqL X.K H a xs)(h':SqL X.K H a ys):xs=ys:=by
 obtain⟨its,r,⟨o,n,e,_,_,d⟩,_⟩:=I.list h;obtain⟨its',r',⟨o',n',e',_,_,d'⟩,_⟩:=I.list h';rw[e]at e';cases e';rw[d]at d';injection d' with d1 _
 have:its=its':=by simpa using congrArg Array.toList d1
 subst this;exact r.inj r'
theorem Inv.tuple_inj(I:Inv X pins σ H s)(h:SqT X.K H a xs)(h':SqT X.K H a ys):xs=ys:=by
 obtain⟨its,r,⟨o,e,_,n,d⟩,_⟩:=I.tuple h;obtain⟨its',r',⟨o',e',_,n',d'⟩,_⟩:=I.tuple h';rw[e]at e';cases e';rw[d]at d';injection d' with d1 _
 have:its=its':=by simpa using congrArg Array.toList d1
 subst this;exact r.inj r'
end
noncomputable abbrev Cx.wish(X:Cx)(E:Value->Shared->Prop):Cx:={X with xe:=E}
noncomputable abbrev Cx.nox(X:Cx):Cx:=X.wish fun _ _=>False
theorem Cx.Ok.wish{X:Cx}(ok:X.Ok)(E:Value->Shared->Prop):(X.wish E).Ok:=
 ⟨ok.mod,ok.kind,ok.glob,ok.blt,ok.above,ok.inj,ok.has,ok.cab,ok.hd,ok.frames,ok.stk,ok.exf,ok.bs,ok.bsz,ok.noex,ok.exfs,ok.funs,ok.frf⟩
theorem Cx.Ok.unwish{X:Cx}(ok:(X.wish E).Ok):X.Ok:=
 ⟨ok.mod,ok.kind,ok.glob,ok.blt,ok.above,ok.inj,ok.has,ok.cab,ok.hd,ok.frames,ok.stk,ok.exf,ok.bs,ok.bsz,ok.noex,ok.exfs,ok.funs,ok.frf⟩
section
variable {X:Cx}{s:Shared}
theorem Inv.wish(I:Inv X pins σ H s)(E:Value->Shared->Prop):Inv (X.wish E) pins σ H s:=⟨I.ok.wish E,I.os,I.bare,I.base,I.loc,I.cell,I.free,I.freeC,I.pin,I.hok,I.len⟩
theorem Inv.unwish(I:Inv (X.wish E) pins σ H s):Inv X pins σ H s:=⟨I.ok.unwish,I.os,I.bare,I.base,I.loc,I.cell,I.free,I.freeC,I.pin,I.hok,I.len⟩
theorem SP.unwish{D:Ends}(h:SP (X.wish E) pins D f s'):SP X pins D f s':=by
 cases f with
 |next=>obtain⟨σ',H',I,q⟩:=h;exact⟨σ',H',I.unwish,q⟩
 |brk=>obtain⟨σ',H',I,q⟩:=h;exact⟨σ',H',I.unwish,q⟩
 |cont=>obtain⟨σ',H',I,q⟩:=h;exact⟨σ',H',I.unwish,q⟩
 |ret u=>obtain⟨v,σ',H',I,r,q⟩:=h;exact⟨v,σ',H',I.unwish,r,q⟩
theorem PE.nox(h:PE X.nox e t):PE X e t:=fun pins s σ H Q I hw=>
 wpAny_mono (h pins s σ H Q (I.wish _) hw) (fun _ _ ⟨v,H',I',r,q⟩=>⟨v,H',I'.unwish,r,q⟩) fun _ _ z=>False.elim z
theorem PT.nox(h:PT X.nox e t):PT X e t:=fun pins s σ H Q I hw=>
 wpAny_mono (h pins s σ H Q (I.wish _) hw) (fun _ _ ⟨H',I',q⟩=>⟨H',I'.unwish,q⟩) fun _ _ z=>False.elim z
theorem PSs.nox{st:List Stmt}(h:PSs X.nox st t):PSs X st t:=fun pins s σ H D I hw=>
 wpAny_mono (h pins s σ H D (I.wish _) hw) (fun _ _ q=>q.unwish) fun _ _ z=>False.elim z
end
section
variable {X:Cx}{st:Stmt}{rest:List Stmt}{t u:TS}{e:Expr}{te:TE}{pos:Pos}
noncomputable def tNext:TS:=fun D σ H=>D.nx σ H
noncomputable def GI(t u:TS):TS:=fun D σ H=>t {D with nx:=u D} σ H
theorem pss_nil:PSs X [] tNext:=fun _ _ σ H _ I h=>wpAny_execs_nil ⟨σ,H,I,h⟩
theorem lV(h1:PS X st t)(h2:PSs X rest u):PSs X (st::rest) (GI t u):=by
 intro pins s σ H D I h;refine wpAny_execs_cons (thn (h1 pins s σ H {D with nx:=u D} I h) fun f s1 q=>?_)
 cases f with
 |next=>
  obtain⟨σ',H',I',q⟩:=q;exact h2 pins s1 σ' H' D I' q
 |ret v=>exact q
 |brk=>exact q
 |cont=>exact q
theorem tj(h1:PS X st t):PSs X [st] t:=by
 intro pins s σ H D I h;refine wpAny_execs_cons (thn (h1 pins s σ H D I h) fun f s1 q=>?_)
 cases f with
 |next=>exact wpAny_execs_nil q
 |ret v=>exact q
 |brk=>exact q
 |cont=>exact q
theorem Inv.quiet(I:Inv X pins σ H s):interactive X.env=false:=by simp[interactive,I.ok.kind]
noncomputable def Bb(te:TE):TS:=fun D σ H=>te σ H fun _ H1=>D.nx σ H1
theorem kC(he:PE X e te)(hs:swapsWith e none pos.line X.env=pure false:=by rfl):PS X (.Expr e pos) (Bb te):=by
 intro pins s σ H D I h;exact wpAny_Expr_any (thn (he pins s σ H _ I h) fun v s1 ⟨x,H1,I1,r1,q1⟩=>⟨σ,H1,I1,q1⟩) I.quiet hs
noncomputable def G0(te:TE):TS:=fun D σ H=>te σ H D.rt
theorem vv(he:PE X e te):PS X (.Return (some e) pos) (G0 te):=by
 intro pins s σ H D I h;exact wpAny_Return_some (thn (he pins s σ H _ I h) fun v s1 ⟨x,H1,I1,r1,q1⟩=>⟨x,σ,H1,I1,r1,q1⟩)
noncomputable def tRetN:TS:=fun D _ H=>D.rt .non H
theorem ps_retN:PS X (.Return none pos) tRetN:=fun _ _ σ H _ I h=>wpAny_Return_none ⟨.non,σ,H,I,rfl,h⟩
noncomputable def GR(c:TT)(t u:TS):TS:=fun D σ H=>c σ H fun b H1=>if b=true then t D σ H1 else u D σ H1
theorem Ee(hc:PT X c tc)(ha:PSs X a t)(hb:PSs X b u):PS X (.If c a b pos) (GR tc t u):=by
 intro pins s σ H D I h;refine wpAny_If (thn (hc pins s σ H _ I h) fun d s1 ⟨H1,I1,q1⟩=>?_)
 cases d with
 |true=>exact ha pins s1 σ H1 D I1 q1
 |false=>exact hb pins s1 σ H1 D I1 q1
end
noncomputable abbrev TG:=V->St->Hp->(St->Hp->Prop)->Prop
noncomputable abbrev TGs:=List V->St->Hp->(St->Hp->Prop)->Prop
noncomputable def PG(X:Cx)(target:Expr)(t:TG):Prop:=
 ∀(pins:List (Addr×Obj)) (s:Shared)(σ:St)(H:Hp)(v:V)(u:Value)(Q:St->Hp->Prop),Inv X pins σ H s->RelV v u->t v σ H Q->
  wpAny (model X.prog X.w) X.A (assign target X.env u) (fun _ s'=>∃σ' H',Inv X pins σ' H' s'/\Q σ' H') X.xe s
noncomputable def PGs(X:Cx)(ts:List Expr)(t:TGs):Prop:=
 ∀(pins:List (Addr×Obj)) (s:Shared)(σ:St)(H:Hp)(vs:List V)(us:List Value)(Q:St->Hp->Prop),Inv X pins σ H s->Vals vs us->t vs σ H Q->
  wpAny (model X.prog X.w) X.A (assignInOrder ((assignEach ts X.env).map (·.2)) us) (fun _ s'=>∃σ' H',Inv X pins σ' H' s'/\Q σ' H') X.xe s
noncomputable abbrev TSet:=V->V->V->Hp->(Hp->Prop)->Prop
noncomputable def zn(X:Cx)(t:TSet):Prop:=
 ∀(pins:List (Addr×Obj)) (s:Shared)(σ:St)(H:Hp)(o i v:V)(ov iv u:Value)(Q:Hp->Prop),Inv X pins σ H s->RelV o ov->RelV i iv->RelV v u->t o i v H Q->
  wpAny (model X.prog X.w) X.A (setItem ov iv u) (fun _ s'=>∃H',Inv X pins σ H' s'/\Q H') X.xe s
section
variable {X:Cx}{pos:Pos}
noncomputable def nH(i:Nat):TG:=fun v σ H Q=>Q (σ.set i (some v)) H
theorem hU(hN:X.N.Nodup)(hi:X.N[i]?=some x)(hx:Loc X.env.scope x)(hf:X.fn x=true\/X.env.scope.names.lookup x=some .local:=by first|exact .inl rfl|exact .inr rfl|assumption):PG X (.Name x pos) (nH i):=by
 intro pins s σ H v u Q I r h;exact wpAny_assign_Name (iS I hN hi hx r (fun s' I'=>⟨_,H,I',h⟩) hf)
noncomputable def gNil:TGs:=fun vs σ H Q=>vs=[]/\Q σ H
noncomputable def Dj(t:TG)(u:TGs):TGs:=fun vs σ H Q=>∃v r,vs=v::r/\t v σ H fun σ' H'=>u r σ' H' Q
theorem sH:PGs X [] gNil:=by
 intro pins s σ H vs us Q I r h;obtain⟨e,h⟩:=h;subst e;cases r;exact assignInOrder_nil ⟨σ,H,I,h⟩
theorem qj(h1:PG X e t)(h2:PGs X es u)
  (hs:(assignEach (e::es) X.env).map (·.2)=assign e X.env::(assignEach es X.env).map (·.2):=by rfl):PGs X (e::es) (Dj t u):=by
 intro pins s σ H vs us Q I r h;obtain⟨v,vr,e1,h⟩:=h;subst e1;cases r with
 |cons r rr=>
  rw[hs];refine assignInOrder_cons (thn (h1 pins s σ H _ _ _ I r h) fun _ s1 ⟨σ1,H1,I1,q1⟩=>?_)
  exact h2 pins s1 σ1 H1 _ _ Q I1 rr q1
noncomputable def Gu(K:PySem.W.Frag)(n:Nat)(t:TGs):TG:=fun v σ H Q=>∃a xs,v=.ref a/\SqT K H a xs/\xs.length=n/\t xs σ H Q
theorem zO(hc:X.calm=true)(h:PGs X es t)
  (hn:(assignEach es X.env).length=n:=by rfl) (hst:(assignEach es X.env).findIdx? (·.1)=none:=by rfl):PG X (.Tuple es k pos) (Gu X.K n t):=by
 intro pins s σ H v u Q I r hw;obtain⟨a,xs,e1,hq,hl,hw⟩:=hw;subst e1;cases r;obtain⟨its,rv,ht,hz⟩:=I.tuple hq;refine assign_Tuple_tuple (I.ok.hd hc) ht (by simp[hn,<-hl,rv.length]) hst fun h' hx=>?_
 have I1:Inv X pins σ H {s with heap:=h'}:=I.kept (t':=s.toks) fun b o e=>hx b o (Nat.ne_of_lt (Heap.lt_size e)) e
 exact h pins _ σ H xs _ Q I1 (by simpa using rv) hw
noncomputable def Gh(to ti:TE)(t:TSet):TG:=fun v σ H Q=>to σ H fun o H1=>ti σ H1 fun i H2=>t o i v H2 fun H3=>Q σ H3
theorem yD(ho:PE X o to)(hi:PE X i ti)(hs:zn X t)
  (ha:∀v,assign (.Subscript o i pos) X.env v=(do
   let ov<-holding [v] (eval o X.env)
   let iv<-holding [v,ov] (eval i X.env)
   standAt pos
   holding [v,ov,iv] (setItem ov iv v)
   release [v,ov,iv] []):=by intro _;rfl):PG X (.Subscript o i pos) (Gh to ti t):=by
 intro pins s σ H v u Q I r h;rw[ha];refine wpAny_bind (wpAny_holding (thn (ho pins s σ H _ I h) fun ov s1 ⟨x,H1,I1,r1,q1⟩=>?_))
 refine wpAny_bind (wpAny_holding (thn (hi pins s1 σ H1 _ I1 q1) fun iv s2 ⟨y,H2,I2,r2,q2⟩=>?_))
 refine wpAny_bind (wpAny_standAt (wpAny_bind (wpAny_holding (thn (hs pins s2 σ H2 x y v ov iv u _ I2 r1 r2 r q2) fun _ s3 ⟨H3,I3,q3⟩=>?_))))
 exact wpAny_release ⟨σ,H3,I3,q3⟩
noncomputable def wB(te:TE)(g:TG):TS:=fun D σ H=>te σ H fun x H1=>g x σ H1 D.nx
theorem rY(he:PE X e te)(hg:PG X tg g)(hs:swapsWithSole [tg] e pos.line X.env=pure false:=by rfl)(hw:swappedStores [tg] e X.env=pure none:=by rfl)
  (h1:(assignEach [tg] X.env).map (·.2)=[assign tg X.env]:=by rfl):PS X (.Assign [tg] e pos) (wB te g):=by
 intro pins s σ H D I h;refine wpAny_Assign_stores (thn (he pins s σ H _ I h) fun v s1 ⟨x,H1,I1,r1,q1⟩=>?_) hs hw
 rw[h1];exact thn (hg pins s1 σ H1 x v _ I1 r1 q1) fun _ s2 q=>q
theorem xU(hN:X.N.Nodup)(hi:X.N[i]?=some x)(hx:Loc X.env.scope x)(he:PE X e te)(hs:swapsWith e (some (.Name x pos')) pos.line X.env=pure false:=by rfl)(hf:X.fn x=true\/X.env.scope.names.lookup x=some .local:=by first|exact .inl rfl|exact .inr rfl|assumption) :
  PS X (.Assign [.Name x pos'] e pos) (wB te (nH i)):=by
 intro pins s σ H D I h;refine wpAny_Assign_Name (thn (he pins s σ H _ I h) fun v s1 ⟨y,H1,I1,r1,q1⟩=>?_) hs
 exact iS I1 hN hi hx r1 (fun s2 I2=>⟨_,H1,I2,q1⟩) hf
end
section
variable {X:Cx}{pos:Pos}
end
structure It where
 go:Nat->Hp->Prop
 yld:Nat->Hp->V->Hp->Prop
 stop:Nat->Hp->Prop
noncomputable def l8(X:Cx)(pins:List (Addr×Obj))(H:Hp)(b:Addr):Prop:=
 H b=none/\b≠X.env.locals/\b∉X.fs/\(b∈X.ex\/X.s₀.heap.objs.size<=b)/\(∀x c,X.env.cells.lookup x=some c->c≠b)/\∀p∈X.pn++pins,p.1≠b
theorem Inv.fpOk{s:Shared}(I:Inv X pins σ H s)(hb:s.heap.objs.size<=b)(hn:H' b=none):l8 X pins H' b:=by
 refine⟨hn,Nat.ne_of_gt (Nat.lt_of_lt_of_le I.lt hb),I.nofs hb,.inr (Nat.le_trans I.sz hb),fun x c e z=>?_,fun p hp z=>?_⟩
 ·obtain⟨v,q⟩:=I.cell x c e;exact absurd (Nat.lt_of_lt_of_le q.lt (by rw[z];exact hb)) (Nat.lt_irrefl _)
 ·exact absurd (Nat.lt_of_lt_of_le (Heap.lt_size (I.pin p hp).1) (by rw[z];exact hb)) (Nat.lt_irrefl _)
structure Turn (P:Program)(w:World)(K:PySem.W.Frag)(tg:Expr)(J:It)(fp:List Addr)(it:Addr)(tn:Nat->Heap->Prop):Prop where
 mem:it∈fp
 obj:∀i h,tn i h->∀b∈fp,∃o,h.get? b=some o/\∀v,o.data≠.cell v
 keep:∀i h h',tn i h->(∀b∈fp,∀o,h.get? b=some o->h'.get? b=some o)->tn i h'
 item:∀(X:Cx),X.prog=P->X.w=w->X.K=K->X.calm=true->∀(i:Nat) (pins:List (Addr×Obj)) (s:Shared)(σ:St)(H:Hp)(E:Value->Shared->Prop),Inv X pins σ H s->(∀b∈fp,l8 X pins H b)->tn i s.heap->J.go i H->
  wpAny (model P w) X.A (pyNext (.ref it)) (fun r s1=>∃u,r=some u/\
   wpAny (model P w) X.A (letOwnedTupleGo tg (.ref it) u) (fun _ s2=>∃x H',Inv X pins σ H' s2/\RelV x u/\J.yld i H x H'/\tn (i+1) s2.heap/\∀b∈fp,H' b=none) E s1) E s
 done:∀(X:Cx),X.prog=P->X.w=w->X.K=K->X.calm=true->∀(i:Nat) (pins:List (Addr×Obj)) (s:Shared)(σ:St)(H:Hp)(E:Value->Shared->Prop),Inv X pins σ H s->(∀b∈fp,l8 X pins H b)->tn i s.heap->J.stop i H->
  wpAny (model P w) X.A (pyNext (.ref it)) (fun r s1=>r=none/\Inv X pins σ H s1) E s
 self:∀(A:Around)(i:Nat)(s:Shared)(Q:Value->Shared->Prop)(E:Value->Shared->Prop),tn i s.heap->Q (.ref it) s->wpAny (model P w) A (pyIter (.ref it)) Q E s
noncomputable abbrev TI:=St->Hp->(It->Hp->Prop)->Prop
noncomputable def PIE(X:Cx)(pins:List (Addr×Obj))(σ:St)(tg:Expr)(R:It->Hp->Prop)(itv:Value)(s2:Shared):Prop:=
 ∃(it:Addr)(fp:List Addr)(tn:Nat->Heap->Prop)(J:It)(H':Hp),itv=.ref it/\Inv X pins σ H' s2/\Turn X.prog X.w X.K tg J fp it tn/\tn 0 s2.heap/\(∀b∈fp,l8 X pins H' b)/\R J H'
noncomputable def PI(X:Cx)(tg iter:Expr)(wi:TI):Prop:=
 ∀(pins:List (Addr×Obj)) (s:Shared)(σ:St)(H:Hp)(R:It->Hp->Prop),Inv X pins σ H s->wi σ H R->
  wpAny (model X.prog X.w) X.A (eval iter X.env) (fun v s1=>wpAny (model X.prog X.w) X.A (pyIter v) (PIE X pins σ tg R) X.xe s1) X.xe s
theorem nM {s : Shared} {o : Obj} (ho : s.heap.get? it = some o) (hc : o.cls = .type n) (hd : o.data = .fields vs)
    (hn : ["enumerate", "zip", "dict_itemiterator", "dict_reverseitemiterator", "odict_iterator", "itertools.zip_longest", "itertools.pairwise"].contains n = false) (hQ : Q () s) : wpAny M A (letOwnedTupleGo tg (.ref it) u) Q E s := by
  unfold letOwnedTupleGo;cases tg <;> first
    | exact wpAny_pure hQ
    | (cases u <;> first
        | exact wpAny_pure hQ
        | (refine wpAny_bind (wpAny_load ho ?_)
           rw [hc, hd];show wpAny M A (if (["enumerate", "zip", "dict_itemiterator", "dict_reverseitemiterator", "odict_iterator", "itertools.zip_longest", "itertools.pairwise"].contains n && vs[0]? == some (rawInt _)) = true then _ else _) Q E s
           rw [if_neg (by intro h; rw [hn, Bool.false_and] at h; cases h)]
           exact wpAny_pure hQ))
noncomputable def Itl(K:PySem.W.Frag)(a:Addr):It:=
 ⟨fun i H=>∃xs x,SqL K H a xs/\xs[i]?=some x,fun i H x H'=>H'=H/\∀xs,SqL K H a xs->xs[i]?=some x,fun i H=>∃xs,SqL K H a xs/\xs.length<=i⟩
noncomputable def Itt(K:PySem.W.Frag)(a:Addr):It:=
 ⟨fun i H=>∃xs x,SqT K H a xs/\xs[i]?=some x,fun i H x H'=>H'=H/\∀xs,SqT K H a xs->xs[i]?=some x,fun i H=>∃xs,SqT K H a xs/\xs.length<=i⟩
noncomputable def Itr(lo:Int)(n:Nat):It:=⟨fun i _=>i < n,fun i H x H'=>H'=H/\x=.int (lo+i),fun i _=>n<=i⟩
theorem ox{K:PySem.W.Frag}(a it:Addr):Turn P w K tg (Itl K a) [it] it (fun i h=>h.IsListIter it a i) where
 mem:=by simp
 obj:=fun i h st b hb=>by
  have e:b=it:=by simpa using hb
  subst e;obtain⟨o,e,c,d⟩:=st;exact⟨o,e,fun v z=>by rw[d]at z;cases z⟩
 keep:=fun i h h' st k=>st.at fun o e=>k it (by simp) o e
 item:=by
  intro X hP hw hK hc i pins s σ H E I hf st hg;subst hP hw hK;obtain⟨xs,x,hq,hx⟩:=hg;obtain⟨its,rv,p,hz⟩:=I.list hq;obtain⟨u,hu,ru⟩:=rv.get hx;obtain⟨f0,f1,f2,f3,f4,f5⟩:=hf it (by simp)
  refine wpAny_pyNext_list_item st p.isList (x:=u) (by simpa using hu) fun h' st' sb=>?_
  have I1:Inv X pins σ H {s with heap:=h'}:=I.turned (t':=s.toks) (fun b o hb e=>(sb.2 b hb).trans e) f0 f1 f3 f4 f5
  obtain⟨o,e,c,d⟩:=id st';exact⟨u,rfl,nM (s:={s with heap:=h'}) e c d (by decide) ⟨x,H,I1,ru,⟨rfl,fun ys hy=>by rw[I.list_inj hy hq];exact hx⟩,st',fun b hb=>(hf b hb).1⟩⟩
 done:=by
  intro X hP hw hK hc i pins s σ H E I hf st hg;subst hP hw hK;obtain⟨xs,hq,hx⟩:=hg;obtain⟨its,rv,p,hz⟩:=I.list hq;obtain⟨f0,f1,f2,f3,f4,f5⟩:=hf it (by simp)
  have hl:=rv.length;exact wpAny_pyNext_list_end (I.ok.hd hc) st p.isList (by simp;omega) fun h' eb=>⟨rfl,I.turned (t':=s.toks) (fun b o hb e=>eb b o hb e) f0 f1 f3 f4 f5⟩
 self:=fun _ _ _ _ _ st h=>wpAny_pyIter_listiter st h
theorem mO{K:PySem.W.Frag}(a it:Addr):Turn P w K tg (Itt K a) [it] it (fun i h=>h.IsTupleIter it a i) where
 mem:=by simp
 obj:=fun i h st b hb=>by
  have e:b=it:=by simpa using hb
  subst e;obtain⟨o,e,c,d⟩:=st;exact⟨o,e,fun v z=>by rw[d]at z;cases z⟩
 keep:=fun i h h' st k=>st.at fun o e=>k it (by simp) o e
 item:=by
  intro X hP hw hK hc i pins s σ H E I hf st hg;subst hP hw hK;obtain⟨xs,x,hq,hx⟩:=hg;obtain⟨its,rv,p,hz⟩:=I.tuple hq;obtain⟨u,hu,ru⟩:=rv.get hx;obtain⟨f0,f1,f2,f3,f4,f5⟩:=hf it (by simp)
  refine wpAny_pyNext_tuple_item st (show s.heap.IsTuple a its.toArray from p) (x:=u) (by simpa using hu) fun h' st' sb=>?_
  have I1:Inv X pins σ H {s with heap:=h'}:=I.turned (t':=s.toks) (fun b o hb e=>(sb.2 b hb).trans e) f0 f1 f3 f4 f5
  obtain⟨o,e,c,d⟩:=id st';exact⟨u,rfl,nM (s:={s with heap:=h'}) e c d (by decide) ⟨x,H,I1,ru,⟨rfl,fun ys hy=>by rw[I.tuple_inj hy hq];exact hx⟩,st',fun b hb=>(hf b hb).1⟩⟩
 done:=by
  intro X hP hw hK hc i pins s σ H E I hf st hg;subst hP hw hK;obtain⟨xs,hq,hx⟩:=hg;obtain⟨its,rv,p,hz⟩:=I.tuple hq;obtain⟨f0,f1,f2,f3,f4,f5⟩:=hf it (by simp)
  have hl:=rv.length;exact wpAny_pyNext_tuple_end (I.ok.hd hc) st (show s.heap.IsTuple a its.toArray from p) (by simp;omega) fun h' eb=>⟨rfl,I.turned (t':=s.toks) (fun b o hb e=>eb b o hb e) f0 f1 f3 f4 f5⟩
 self:=fun _ _ _ _ _ st h=>wpAny_pyIter_tupleiter st h
theorem mQ{K:PySem.W.Frag}(it:Addr)(lo:Int)(n:Nat):Turn P w K tg (Itr lo n) [it] it (fun i h=>IsRangeIter h it (lo+(i:Nat) * 1) ((n:Int) - (i:Nat)) 1) where
 mem:=by simp
 obj:=fun i h st b hb=>by
  have e:b=it:=by simpa using hb
  subst e;exact⟨_,st,fun v z=>by
   have z':Data.fields _=Data.cell v:=z;cases z'⟩
 keep:=fun i h h' st k=>k it (by simp) _ st
 item:=by
  intro X hP hw hK hc i pins s σ H E I hf st hg;subst hP hw hK;obtain⟨f0,f1,f2,f3,f4,f5⟩:=hf it (by simp)
  have W:=Walks.range (prog:=X.prog) (w:=X.w) (I.ok.hd hc) it lo 1 n;refine W.item i s _ _ hg st fun v h' tk hv st' kk=>?_
  obtain⟨t,rfl⟩:=hv;have I1:Inv X pins σ H {s with heap:=h',toks:=tk}:=I.turned (fun b o hb e=>kk b o (by simpa using hb) e) f0 f1 f3 f4 f5
  refine⟨_,rfl,nM (s:={s with heap:=h',toks:=tk}) (n:="range_iterator") st' rfl rfl (by decide) ⟨.int (lo+i),H,I1,⟨t,?_⟩,⟨rfl,rfl⟩,st',fun b hb=>(hf b hb).1⟩⟩
  rw[Int.mul_one]
 done:=by
  intro X hP hw hK hc i pins s σ H E I hf st hg;subst hP hw hK;obtain⟨f0,f1,f2,f3,f4,f5⟩:=hf it (by simp)
  exact wpAny_pyNext_range_end (I.ok.hd hc) st (by have:n<=i:=hg;omega) fun h' eb=>⟨rfl,I.turned (t':=s.toks) (fun b o hb e=>eb b o hb e) f0 f1 f3 f4 f5⟩
 self:=fun _ _ _ _ _ st h=>wpAny_pyIter_rangeiter st h
end L2
namespace L2
open PySem PySem.Spec PyProof.Rows
section
variable {X:Cx}
theorem pW{s:Shared}{lo:Int}(I:Inv X pins σ H s)(h1 : -(2 ^ 62)<=lo)(h2:lo < 2 ^ 62)(h3 : -(2 ^ 62)<=hi)(h4:hi < 2 ^ 62)
  (q:R (Itr lo (hi - lo).toNat) H):wpAny (model X.prog X.w) X.A (pyIter (.ref s.heap.objs.size)) (PIE X pins σ tg R) E {s with heap:=s.heap.push {cls:=.type "range",data:=.fields #[.int lo t,.int hi u,.int 1 v]},toks:=tk}:=by
 refine wpAny_pyIter_range (IsRange.new ..) (small_one h1 h2 h3 h4) ?_;have I1:Inv X pins σ H {s with heap:=s.heap.push {cls:=.type "range",data:=.fields #[.int lo t,.int hi u,.int 1 v]},toks:=tk}:=I.kept fun b o e=>Heap.get?_push_of_some _ e
 refine⟨(s.heap.push {cls:=.type "range",data:=.fields #[.int lo t,.int hi u,.int 1 v]}).objs.size,[(s.heap.push {cls:=.type "range",data:=.fields #[.int lo t,.int hi u,.int 1 v]}).objs.size],_,_,H,rfl,
  I1.kept (t':=tk) fun b o e=>Heap.get?_push_of_some _ e,mQ _ lo (hi - lo).toNat,?_,fun b hb=>?_,q⟩
 ·have e1:lo+((0:Nat):Int) * 1=lo:=by simp
  have e2:(((hi - lo).toNat:Nat):Int) - ((0:Nat):Int)=Builtin.Range.rangeSize lo hi 1:=by rw[rangeSize_one];split<;>omega
  show IsRangeIter _ _ (lo+((0:Nat):Int) * 1) ((((hi - lo).toNat:Nat):Int) - ((0:Nat):Int)) 1;rw[e1,e2];exact Heap.get?_push_size _ rfl
 ·have e:b=(s.heap.push {cls:=.type "range",data:=.fields #[.int lo t,.int hi u,.int 1 v]}).objs.size:=by simpa using hb
  subst e;exact I1.fpOk (Nat.le_refl _) (I1.hok.fresh (Nat.le_refl _))
noncomputable def Bu(ta:TA):TI:=fun σ H R=>ta σ H fun vs H1=>∃j:Int,vs=[.int j]/\-(2 ^ 62)<=j/\j < 2 ^ 62/\R (Itr 0 j.toNat) H1
theorem pv(hg:Gl X "range")(hm:X.mg "range"=none)(ha:PA X [a] ta)(hs:starEach [a] X.env=[(false,eval a X.env)]:=by rfl):PI X tg (.Call (.Name "range" p) [a] [] pos) (Bu ta):=by
 intro pins s σ H R I h;refine Call_ (ky I hg hm boot_range (PyProof.Rows.callWith_type1 (thn (ha pos pins s σ H _ I h) fun us s1 ⟨vs,H1,I1,r1,q1⟩=>?_) hs rfl))
 obtain⟨j,e,q1,q2,q⟩:=q1;subst e;cases r1 with
 |cons r rr=>
  cases rr;obtain⟨t,rfl⟩:=r;exact call_range_1 (pW I1 (by omega) (by omega) q1 q2 (by simpa using q))
noncomputable def FT(wi:TI)(g:TG)(tb:TS):TS:=fun D σ H=>wi σ H fun J H1=>∃W:Nat->Nat->St->Hp->Prop,(∃m,W 0 m σ H1)/\∀i m σ H,W i m σ H->
 (J.stop i H/\D.nx σ H)\/(J.go i H/\∃N:St->Hp->Prop,(∀σ' H',N σ' H'->∃m',m' < m/\W (i+1) m' σ' H')/\∀x H',J.yld i H x H'->g x σ H' fun σ2 H2=>tb {D with nx:=N,ct:=N,bk:=D.nx} σ2 H2)
noncomputable def iA(fp:List Addr)(h:Heap):List (Addr×Obj):=fp.filterMap fun b=>(h.get? b).map fun o=>(b,o)
theorem dh{h:Heap}(hb:b∈fp)(e:h.get? b=some o):(b,o)∈iA fp h:=List.mem_filterMap.mpr ⟨b,hb,by rw[e];rfl⟩
theorem pK{h:Heap}{p:Addr×Obj}(hp:p∈iA fp h):p.1∈fp/\h.get? p.1=some p.2:=by
 obtain⟨b,hb,e⟩:=List.mem_filterMap.mp hp;cases q:h.get? b with
 |none=>rw[q]at e;cases e
 |some o=>
  rw[q]at e;have e':(b,o)=p:=Option.some.inj e;subst e';exact⟨hb,q⟩
theorem Inv.pinned{s:Shared}(I:Inv X pins σ H s)(hf:∀b∈fp,l8 X pins H b)(ho:∀b∈fp,∃o,s.heap.get? b=some o/\∀v,o.data≠.cell v):Inv X (pins++iA fp s.heap) σ H s:=
 I.pins_of fun p hp=>(List.mem_append.mp hp).elim (fun z=>I.pin p (List.mem_append_right _ z)) fun z=>by
  obtain⟨hb,e⟩:=pK z;obtain⟨f0,f1,f2,_⟩:=hf p.1 hb;obtain⟨o,e',d⟩:=ho p.1 hb;rw[e]at e';cases e';exact⟨e,f0,f1,f2,d⟩
theorem Inv.unpinned(I:Inv X (pins++pl) σ H s):Inv X pins σ H s:=I.pins_of fun p hp=>I.pin p (List.mem_append_right _ (List.mem_append_left _ hp))
theorem zZ(hp:PassesOwn (model X.prog X.w) X.A X.env X.xe)(hc:X.calm=true)(hi:PI X tg iter wi)(hg:PG X tg g)(hb:PSs X body tb)
  (hs:∀x,foldedSetIterable iter X.env x=pure x:=by intro _;rfl):PS X (.For tg iter body [] pos) (FT wi g tb):=by
 intro pins s σ H D I h;refine wpAny_For (thn (hi pins s σ H _ I h) fun v s1 h1=>thn h1 fun itv s2 h2=>?_) hs
 obtain⟨it,fp,tn,J,H2,e,I2,T,st2,f2,W,⟨m0,w0⟩,turn⟩:=h2;subst e;have stat:∀{H':Hp},(∀b∈fp,H' b=none)->∀b∈fp,l8 X pins H' b:=fun hn b hb=>⟨hn b hb,(f2 b hb).2⟩
 refine codeAny_forLoop_any (fun n s'=>∃i σ' H',Inv X pins σ' H' s'/\tn i s'.heap/\(∀b∈fp,H' b=none)/\W i n σ' H') ?_ m0 ⟨0,σ,H2,I2,st2,fun b hb=>(f2 b hb).1,w0⟩
 rintro n s3 ⟨i,σ3,H3,I3,st3,fr3,w3⟩;rcases turn i n σ3 H3 w3 with ⟨stop,qn⟩|⟨go,N,hN,step⟩
 ·refine wpAny_passesOwn hp (thn (T.done X rfl rfl rfl hc i pins s3 σ3 H3 X.xe I3 (stat fr3) st3 stop) fun r s4 ⟨hr,I4⟩=>?_)
  subst hr;exact wpAny_execs_nil ⟨σ3,H3,I4,qn⟩
 ·refine wpAny_passesOwn hp (thn (T.item X rfl rfl rfl hc i pins s3 σ3 H3 X.xe I3 (stat fr3) st3 go) fun r s4 ⟨u,hr,h4⟩=>?_)
  subst hr;refine wpAny_passesOwn hp (thn h4 fun _ s5 ⟨x,H5,I5,r5,y5,st5,fr5⟩=>?_)
  have I5':=I5.pinned (stat fr5) (T.obj _ _ st5);refine wpAny_passesOwn hp (thn (hg _ s5 σ3 H5 x u _ I5' r5 (step x H5 y5)) fun _ s6 ⟨σ6,H6,I6,q6⟩=>?_)
  refine wpAny_passesOwn hp (thn (hb _ s6 σ6 H6 _ I6 q6) fun f s7 q7=>?_)
  have again:∀{σ7:St}{H7:Hp},Inv X (pins++iA fp s5.heap) σ7 H7 s7->N σ7 H7->∃m,m < n/\∃i σ' H',Inv X pins σ' H' s7/\tn i s7.heap/\(∀b∈fp,H' b=none)/\W i m σ' H':=fun {σ7 H7} I7 n7=>by
   obtain⟨m',hm,w7⟩:=hN σ7 H7 n7;refine⟨m',hm,i+1,σ7,H7,I7.unpinned,T.keep _ _ _ st5 fun b hb o e=>(I7.pin (b,o) (List.mem_append_right _ (List.mem_append_right _ (dh hb e)))).1,fun b hb=>?_,w7⟩
   obtain⟨o,e,d⟩:=T.obj _ _ st5 b hb;exact (I7.pin (b,o) (List.mem_append_right _ (List.mem_append_right _ (dh hb e)))).2.1
  cases f with
  |next=>obtain⟨σ7,H7,I7,n7⟩:=q7;exact again I7 n7
  |cont=>obtain⟨σ7,H7,I7,n7⟩:=q7;exact again I7 n7
  |brk=>obtain⟨σ7,H7,I7,q7⟩:=q7;exact⟨σ7,H7,I7.unpinned,q7⟩
  |ret v=>obtain⟨x7,σ7,H7,I7,r7,q7⟩:=q7;exact⟨x7,σ7,H7,I7.unpinned,r7,q7⟩
end
end L2
namespace L2
open PySem PySem.Spec PyProof.Rows
noncomputable abbrev R2:=V->V->Hp->VK->Prop
noncomputable def OpR(X:Cx)(f:Value->Value->Sem Value)(r:R2):Prop:=
 ∀(pins:List (Addr×Obj)) (s:Shared)(σ:St)(H:Hp)(x y:V)(v u:Value)(Q:VK),Inv X pins σ H s->RelV x v->RelV y u->r x y H Q->
  wpAny (model X.prog X.w) X.A (f v u) (EP X pins σ Q) X.xe s
noncomputable def UnR(X:Cx)(f:Value->Sem Value)(r:V->Hp->VK->Prop):Prop:=
 ∀(pins:List (Addr×Obj)) (s:Shared)(σ:St)(H:Hp)(x:V)(v:Value)(Q:VK),Inv X pins σ H s->RelV x v->r x H Q->
  wpAny (model X.prog X.w) X.A (f v) (EP X pins σ Q) X.xe s
noncomputable def CallR(X:Cx)(f:Value)(r:List V->Hp->VK->Prop):Prop:=
 ∀(pins:List (Addr×Obj)) (s:Shared)(σ:St)(H:Hp)(xs:List V)(us:List Value)(Q:VK),Inv X pins σ H s->Vals xs us->r xs H Q->
  wpAny (model X.prog X.w) X.A (call f us) (EP X pins σ Q) X.xe s
noncomputable def tOp(r:R2)(ta tb:TE):TE:=fun σ H Q=>ta σ H fun x H1=>tb σ H1 fun y H2=>r x y H2 Q
noncomputable def tUn(r:V->Hp->VK->Prop)(ta:TE):TE:=fun σ H Q=>ta σ H fun x H1=>r x H1 Q
noncomputable def rI(C:Int->Int->Prop)(g:Int->Int->V):R2:=fun x y H Q=>∃i j,x=.int i/\y=.int j/\C i j/\Q (g i j) H
noncomputable def rI0(g:Int->Int->V):R2:=fun x y H Q=>∃i j,x=.int i/\y=.int j/\Q (g i j) H
noncomputable def rU(g:Int->V):V->Hp->VK->Prop:=fun x H Q=>∃i,x=.int i/\Q (g i) H
section
variable {X:Cx}{a b c:Expr}{ta tb tc:TE}{pos:Pos}
theorem vU(ha:PE X a ta)(hb:PE X b tb){pins:List (Addr×Obj)}{s:Shared}{σ:St}{H:Hp}{R:V->V->Hp->Prop}(I:Inv X pins σ H s)
  (h:ta σ H fun x H1=>tb σ H1 fun y H2=>R x y H2) {Q:Value->Shared->Prop}{f:Value->Value->Sem Value}
  (hf:∀v u s2 x y H2,Inv X pins σ H2 s2->RelV x v->RelV y u->R x y H2->wpAny (model X.prog X.w) X.A (f v u) Q X.xe s2) :
  wpAny (model X.prog X.w) X.A (eval a X.env) (fun v s₁=>wpAny (model X.prog X.w) X.A (eval b X.env) (fun u s₂=>wpAny (model X.prog X.w) X.A (f v u) Q X.xe s₂) X.xe s₁) X.xe s:=by
 refine thn (ha pins s σ H _ I h) fun v s1 ⟨x,H1,I1,r1,q1⟩=>?_
 refine thn (hb pins s1 σ H1 _ I1 q1) fun u s2 ⟨y,H2,I2,r2,q2⟩=>?_
 exact hf v u s2 x y H2 I2 r1 r2 q2
theorem DI{op:Operator}{r:R2}(ho:OpR X (binaryOp op) r)(ha:PE X a ta)(hb:PE X b tb):PE X (.BinOp a op b pos) (tOp r ta tb):=by
 intro pins s σ H Q I h;exact wpAny_BinOp (vU ha hb I h fun v u s2 x y H2 I2 rx ry q=>ho pins s2 σ H2 x y v u Q I2 rx ry q)
theorem Em(ho:UnR X (unaryOp op) r)(ha:PE X a ta):PE X (.UnaryOp op a pos) (tUn r ta):=by
 intro pins s σ H Q I h;exact UnaryOp_ (thn (ha pins s σ H _ I h) fun v s1 ⟨x,H1,I1,r1,q1⟩=>ho pins s1 σ H1 x v Q I1 r1 q1)
theorem opI{f:Value->Value->Sem Value}{C:Int->Int->Prop}{g:Int->Int->Int}
  (rule:∀(i j:Int)(t u:Tok)(s:Shared)(Q:Value->Shared->Prop)(E:Value->Shared->Prop),C i j->Q (.int (g i j) s.toks) {s with toks:=s.toks+1}->wpAny (model X.prog X.w) X.A (f (.int i t) (.int j u)) Q E s) :
  OpR X f (rI C fun i j=>.int (g i j)):=by
 intro pins s σ H x y v u Q I rx ry h;obtain⟨i,j,rfl,rfl,hc,q⟩:=h;obtain⟨t,rfl⟩:=rx;obtain⟨t',rfl⟩:=ry;exact rule i j t t' s _ _ hc ⟨.int (g i j),H,I.tok _,⟨_,rfl⟩,q⟩
theorem zC{f:Value->Value->Sem Value}{g:Int->Int->Int}
  (rule:∀(i j:Int)(t u:Tok)(s:Shared)(Q:Value->Shared->Prop)(E:Value->Shared->Prop),Q (.int (g i j) s.toks) {s with toks:=s.toks+1}->wpAny (model X.prog X.w) X.A (f (.int i t) (.int j u)) Q E s) :
  OpR X f (rI0 fun i j=>.int (g i j)):=by
 intro pins s σ H x y v u Q I rx ry h;obtain⟨i,j,rfl,rfl,q⟩:=h;obtain⟨t,rfl⟩:=rx;obtain⟨t',rfl⟩:=ry;exact rule i j t t' s _ _ ⟨.int (g i j),H,I.tok _,⟨_,rfl⟩,q⟩
theorem uH{f:Value->Value->Sem Value}{g:Int->Int->Bool}
  (rule:∀(i j:Int)(t u:Tok)(s:Shared)(Q:Value->Shared->Prop)(E:Value->Shared->Prop),Q (.bool (g i j)) s->wpAny (model X.prog X.w) X.A (f (.int i t) (.int j u)) Q E s) :
  OpR X f (rI0 fun i j=>.bl (g i j)):=by
 intro pins s σ H x y v u Q I rx ry h;obtain⟨i,j,rfl,rfl,q⟩:=h;obtain⟨t,rfl⟩:=rx;obtain⟨t',rfl⟩:=ry;exact rule i j t t' s _ _ ⟨.bl (g i j),H,I,rfl,q⟩
noncomputable def rg(i j:Int):Prop:=0<=j/\j<=1000000/\i.natAbs < 2 ^ 64
theorem mz(k:Nat):(0:Int)<=2 ^ k:=by
 rw[two_pow_cast];exact Int.natCast_nonneg _
theorem yI:OpR X (binaryOp .Add) (rI0 fun i j=>.int (i+j)):=zC fun _ _ _ _ _ _ _ q=>add_int q
theorem yn:OpR X (binaryOp .Sub) (rI0 fun i j=>.int (i - j)):=zC fun _ _ _ _ _ _ _ q=>sub_int q
theorem xo:OpR X (binaryOp .Mod) (rI (fun _ j=>0 < j) fun i j=>.int (i % j)):=opI fun i j _ _ _ _ _ hc q=>by
 have h1:(0:Int) < j:=hc;exact mod_int' (by omega) (by rw[Int.fmod_eq_emod_of_nonneg i (by omega)];exact q)
theorem wl:OpR X (binaryOp .Pow) (rI rg fun i j=>.int (i ^ j.toNat)):=opI fun _ _ _ _ _ _ _ hc q=>pow_int_small hc.1 hc.2.1 hc.2.2 q
theorem xM:OpR X (binaryOp .RShift) (rI (fun _ j=>0<=j) fun i j=>.int (i / 2 ^ j.toNat)):=opI fun i j _ _ _ _ _ hc q=>
 rshift_int hc (by rw[Int.fdiv_eq_ediv_of_nonneg i (mz _)];exact q)
theorem xj:OpR X (binaryOp .BitAnd) (rI0 fun i j=>.int (Builtin.bitAnd i j)):=zC fun _ _ _ _ _ _ _ q=>and_int q
theorem unI{f:Value->Sem Value}{g:Int->Int}
  (rule:∀(i:Int)(t:Tok)(s:Shared)(Q:Value->Shared->Prop)(E:Value->Shared->Prop),Q (.int (g i) s.toks) {s with toks:=s.toks+1}->wpAny (model X.prog X.w) X.A (f (.int i t)) Q E s) :
  UnR X f (rU fun i=>.int (g i)):=by
 intro pins s σ H x v Q I rx h;obtain⟨i,rfl,q⟩:=h;obtain⟨t,rfl⟩:=rx;exact rule i t s _ _ ⟨.int (g i),H,I.tok _,⟨_,rfl⟩,q⟩
theorem zz:UnR X (unaryOp .USub) (rU fun i=>.int (-i)):=unI fun _ _ _ _ _ q=>neg_int q
end
section
variable {X:Cx}{a b c:Expr}{ta tb tc:TE}{pos:Pos}
theorem lf(I:Inv X pins σ H s)(q:Q (.bl k) H)(e:k=k'):EP X pins σ Q (.bool k') s:=by
 subst e;exact⟨.bl k,H,I,rfl,q⟩
theorem Du:OpR X (compareOp .Lt) (rI0 fun i j=>.bl (decide (i < j))):=uH fun _ _ _ _ _ _ _ q=>lt_int q
theorem Dg:OpR X (compareOp .LtE) (rI0 fun i j=>.bl (decide (i<=j))):=uH fun _ _ _ _ _ _ _ q=>le_int q
theorem Dc:OpR X (compareOp .Gt) (rI0 fun i j=>.bl (decide (j < i))):=uH fun _ _ _ _ _ _ _ q=>gt_int q
theorem Bo:OpR X (compareOp .GtE) (rI0 fun i j=>.bl (decide (j<=i))):=uH fun _ _ _ _ _ _ _ q=>ge_int q
theorem oR:OpR X (compareOp .In) (fun x y H Q=>∃i j,x=.str i/\y=.str j/\Q (.bl (!(Builtin.Str.occurrences j i 0 j.length 1).isEmpty)) H):=by
 intro pins s σ H x y v u Q I rx ry h;obtain⟨i,j,rfl,rfl,q⟩:=h;obtain⟨t,rfl⟩:=rx;obtain⟨t',rfl⟩:=ry;exact in_str (lf I q rfl)
theorem zL:OpR X (compareOp .Is) (fun x y H Q=>y=.non/\Q (.bl (decide (x=.non))) H):=by
 intro pins s σ H x y v u Q I rx ry h;obtain⟨rfl,q⟩:=h;cases ry;refine is_none_gen (lf I q ?_);cases x<;>first
  |(cases rx;rfl)
  |(obtain⟨t,rfl⟩:=rx;rfl)
theorem uP:OpR X (compareOp .IsNot) (fun x y H Q=>y=.non/\Q (.bl (!decide (x=.non))) H):=by
 intro pins s σ H x y v u Q I rx ry h;obtain⟨rfl,q⟩:=h;cases ry;refine isnot_none_gen (lf I q ?_);cases x<;>first
  |(cases rx;rfl)
  |(obtain⟨t,rfl⟩:=rx;rfl)
theorem k9:OpR X (compareOp .NotIn) (fun x y H Q=>∃i j,x=.str i/\y=.str j/\Q (.bl (!(!(Builtin.Str.occurrences j i 0 j.length 1).isEmpty))) H):=by
 intro pins s σ H x y v u Q I rx ry h;obtain⟨i,j,rfl,rfl,q⟩:=h;obtain⟨t,rfl⟩:=rx;obtain⟨t',rfl⟩:=ry;exact notIn_str (lf I q rfl)
theorem OpR.or(h:OpR X f r)(h':OpR X f r'):OpR X f (fun x y H Q=>r x y H Q\/r' x y H Q):=by
 intro pins s σ H x y v u Q I rx ry q;rcases q with q|q
 ·exact h pins s σ H x y v u Q I rx ry q
 ·exact h' pins s σ H x y v u Q I rx ry q
theorem tZ{op:CmpOp}{r:R2}(ho:OpR X (compareOp op) r)(ha:PE X a ta)(hb:PE X b tb)(hm:behindInMarks op b=false):PE X (.Compare a [op] [b] pos) (tOp r ta tb):=by
 intro pins s σ H Q I h;exact wpAny_Compare1 (vU ha hb I h fun v u s2 x y H2 I2 rx ry q=>ho pins s2 σ H2 x y v u Q I2 rx ry q) hm
noncomputable def rB(t:TE):TT:=fun σ H Q=>t σ H fun x H'=>∃k,x=.bl k/\Q k H'
theorem uD(ho:OpR X (compareOp op) r)(ha:PE X a ta)(hb:PE X b tb)(hm:behindInMarks op b=false):PT X (.Compare a [op] [b] pos) (rB (tOp r ta tb)):=by
 intro pins s σ H Q I h;refine wpAny_isTrue_Compare1 (thn (ha pins s σ H _ I h) fun v s1 ⟨x,H1,I1,r1,q1⟩=>thn (hb pins s1 σ H1 _ I1 q1) fun u s2 ⟨y,H2,I2,r2,q2⟩=>
  thn (ho pins s2 σ H2 x y v u _ I2 r1 r2 q2) fun c s3 ⟨z,H3,I3,r3,k,e,q3⟩=>?_) hm
 subst e;cases r3;exact wpAny_truthy_bool ⟨H3,I3,q3⟩
noncomputable def qG(r r':R2)(ta tb tc:TE):TE:=fun σ H Q=>ta σ H fun x H1=>tb σ H1 fun y H2=>r x y H2 fun z H3=>∃k,z=.bl k/\
 (if k=true then tc σ H3 fun w' H4=>r' y w' H4 Q else Q (.bl false) H3)
theorem qK(ho:OpR X (compareOp op) r)(ho':OpR X (compareOp op') r')(ha:PE X a ta)(hb:PE X b tb)(hc:PE X c tc)
  (hm:lastMarks [op,op'] [b,c]=false:=by with_unfolding_all rfl):PE X (.Compare a [op,op'] [b,c] pos) (qG r r' ta tb tc):=by
 intro pins s σ H Q I h;refine Compare_chain (thn (ha pins s σ H _ I h) fun v s1 ⟨x,H1,I1,r1,q1⟩=>chain_link (thn (hb pins s1 σ H1 _ I1 q1) fun u s2 ⟨y,H2,I2,r2,q2⟩=>
  thn (ho pins s2 σ H2 x y v u _ I2 r1 r2 q2) fun d s3 ⟨z,H3,I3,r3,k,e,q3⟩=>?_)) hm
 subst e;cases r3;refine wpAny_truthy_bool ?_;cases k with
 |false=>exact ite_ff ⟨.bl false,H3,I3,rfl,q3⟩
 |true=>exact ite_tt (chain_last (thn (hc pins s3 σ H3 _ I3 q3) fun w' s4 ⟨z',H4,I4,r4,q4⟩=>ho' pins s4 σ H4 y z' u w' Q I4 r2 r4 q4))
theorem rX(ho:OpR X (compareOp op) r)(ho':OpR X (compareOp op') r')(ha:PE X a ta)(hb:PE X b tb)(hc:PE X c tc)
  (hm:lastMarks [op,op'] [b,c]=false:=by with_unfolding_all rfl):PT X (.Compare a [op,op'] [b,c] pos) (rB (qG r r' ta tb tc)):=by
 intro pins s σ H Q I h;refine isTrue_chain (thn (ha pins s σ H _ I h) fun v s1 ⟨x,H1,I1,r1,q1⟩=>test_link (thn (hb pins s1 σ H1 _ I1 q1) fun u s2 ⟨y,H2,I2,r2,q2⟩=>
  thn (ho pins s2 σ H2 x y v u _ I2 r1 r2 q2) fun d s3 ⟨z,H3,I3,r3,k,e,q3⟩=>?_)) hm
 subst e;cases r3;refine wpAny_truthy_bool ?_;cases k with
 |false=>
  obtain⟨k',e',q'⟩:=q3;cases e';exact ite_ff ⟨H3,I3,q'⟩
 |true=>
  refine ite_tt (test_last (thn (hc pins s3 σ H3 _ I3 q3) fun w' s4 ⟨z',H4,I4,r4,q4⟩=>thn (ho' pins s4 σ H4 y z' u w' _ I4 r2 r4 q4) fun d' s5 ⟨z2,H5,I5,r5,k2,e2,q5⟩=>?_))
  subst e2;cases r5;exact wpAny_truthy_bool ⟨H5,I5,q5⟩
theorem gj:(sizeLine:Nat) < 2 ^ 63:=by rw[sizeLine_eq];decide
theorem ny:OpR X (binaryOp .Add) (fun x y H Q=>∃i j,x=.str i/\y=.str j/\i.length+j.length<=sizeLine/\Q (.str (i++j)) H):=by
 intro pins s σ H x y v u Q I rx ry h;obtain⟨i,j,rfl,rfl,hz,q⟩:=h;obtain⟨t,rfl⟩:=rx;obtain⟨t',rfl⟩:=ry;exact add_str (fun t' tk=>⟨.str (i++j),H,I.tok _,⟨_,rfl⟩,q⟩) hz
theorem j3(r:Vals [x] us):∃u,us=[u]/\RelV x u:=by
 cases r with
 |cons r1 r2=>cases r2;exact⟨_,rfl,r1⟩
end
end L2
namespace L2
open PySem PySem.Spec PyProof.Rows
structure ObjM (h:Heap)(x dx C:Addr)(mA:Str->Option Value):Prop where
 obj:h.get? x=some (PySem.W.instObj C dx)
 ns:h.Ns1 dx mA
 ne:dx≠x
theorem j4{h:Heap}(n:h.Ns1 dx mA):∃od,h.get? dx=some od/\∀name,PySem.W.lookIn name od=some (mA name):=by
 obtain⟨o,es,ep,ho,hd,hk,_,hm⟩:=n;refine⟨o,ho,fun name=>?_⟩
 have e:=hm name;unfold nsFind findBy at e;rw[<-Array.find?_toList]at e;unfold PySem.W.lookIn;rw[hd];dsimp only;split
 ·rename_i y q;rw[q]at e;exact congrArg some e
 ·rename_i q;rw[q]at e;have a:es.toList.any (·.refKey)=false:=by
   rw[List.any_eq_false];intro y hy;obtain⟨z,t,hkey⟩:=hk y (Array.mem_toList_iff.mp hy);simp[DictEntry.refKey,hkey]
  have a':¬ es.toList.any (·.refKey)=true:=by rw[a];exact Bool.false_ne_true
  rw[if_neg a'];exact congrArg some e
theorem ObjM.look(I:ObjM h x dx C mA):∃od,PySem.W.InstAt h x (PySem.W.instObj C dx) C (some od)/\∀name,PySem.W.lookIn name od=some (mA name):=
 let ⟨od,ho,hl⟩:=j4 I.ns
 ⟨od,⟨I.obj,rfl,rfl,ho⟩,hl⟩
section
variable {w:World}{A:Around}{s:Shared}{K:PySem.W.Frag}{x:Addr}
theorem uo(X:K.In s.heap)(I:ObjM s.heap x dx C mA)(hg:PySem.W.plainGet K C name=true)(hh:PySem.W.hasDictIn K C=true)
  (ha:PySem.W.findIn K (.ref C) name=some none) (hv:mA name=some v) (hv':PySem.W.handedIn v=true) (h:Q v {s with toks:=s.toks+1}) :
  wpAny (model prog w) A (getAttr (.ref x) name expr) Q E s:=by
 obtain⟨od,J,hl⟩:=I.look;exact PySem.W.get_value X J (PySem.W.plainGet_of hg).1 (PySem.W.findObj_own hh ha rfl (by rw[hl,hv])) hv' h
theorem rP(X:K.In s.heap)(I:ObjM s.heap x dx C mA)(hg:PySem.W.plainGet K C name=true)
  (hf:PySem.W.findIn K (.ref C) name=some (some (.ref f))) (ht:PySem.W.isFn K (.ref f)=true) (hv:mA name=none) (h:Q (.ref f,[.ref x]) s) :
  wpAny (model prog w) A (getMethod (.ref x) name pl) Q E s:=by
 obtain⟨od,J,hl⟩:=I.look;exact PySem.W.method_fn X J (PySem.W.plainGet_of hg).1 (PySem.W.plainGet_of hg).2 hf (beq_iff_eq.mp ht) (by show (PySem.W.lookIn name od).map (·.isSome)=some false;rw[hl,hv];rfl) h
theorem uA{ns:List Str}(X:K.In s.heap)(I:ObjM s.heap x dx C mA)
  (hs:PySem.W.findIn K (.ref C) "__setattr__"=some (some (.builtin "object.__setattr__"))) (hp:PySem.W.plainOver K C=true) (ht:PySem.W.takerIn K C name=some none) (hh:PySem.W.hasDictIn K C=true)
  (hw:PySem.Within mA ns) (hsz:ns.length<=sizeLine)
  (h:∀h',ObjM h' x dx C (fun y=>if y=name then some v else mA y)->Heap.SameBut dx s.heap h'->Q () {s with heap:=h',toks:=s.toks+2}) :
  wpAny (model prog w) A (setAttr (.ref x) name v) Q E s:=by
 obtain⟨od,J,hl⟩:=I.look;refine PySem.W.set_plain X J hs (PySem.W.osa_open (s:={s with toks:=s.toks+1}) (r:=none) X J hp ht fun b=>?_)
 obtain⟨cd,hc,hd'⟩:=PySem.W.any_some hh;have hx:s.heap.get? x=some ⟨.ref C,some dx,.plain,#[]⟩:=I.obj;refine wpAny_bind (wpAny_pure (wpAny_bind (wpAny_bind (wpAny_loadPart hx (wpAny_bind (PySem.W.Looks.here (s:={s with toks:=s.toks+1}) (PySem.W.looks_clsIn X hc) ?_))))))
 rw[hd'];refine wpAny_pure (a:=some dx) (wpAny_bind (wpAny_pure (wpAny_bind ?_)));refine wpAny_nsSet1 (s:={s with toks:=s.toks+1}) I.ns fun h' hn2 hs2=>?_
 obtain⟨oD,esD,epD,hoD,hdD,hcD⟩:=hn2.count (PySem.Within.cons name v hw);refine wpAny_bind (wpAny_lookBehind hoD (by rw[hdD];exact pastItsLine_dict (Nat.le_trans hcD (by rw[List.length_cons];omega))) ?_)
 exact wpAny_pure (h _ ⟨(hs2.2 _ (Ne.symm I.ne)).trans I.obj,hn2,I.ne⟩ hs2)
theorem rW(X:K.In s.heap)(hm:PySem.W.makesIn K C=true)
  (hi:PySem.W.findIn K (.ref C) "__init__"=some (some (.ref f))) (hf:PySem.W.typeIn K (.ref f)=some (.type "function"))
  (h:codeAny (model prog w) (A.under (.builtin "type.__call__" ⟨.ref C::vs,kw⟩)) (.call (.ref f) ⟨.ref (s.heap.objs.size+1)::vs,kw⟩) (PySem.W.InitBack (s.heap.objs.size+1) R)
   {s with heap:=(s.heap.push PySem.W.emptyDict).push (PySem.W.instObj C s.heap.objs.size)}) :
  codeAny (model prog w) A (.call (.ref C) ⟨vs,kw⟩) R s:=by
 obtain⟨hh,g,d,t,os⟩:=s;exact PySem.W.make_core (PySem.W.makes_of X hm) (PySem.W.looks_findIn X hi) (fun self=>PySem.W.bind_fn X self hf) (.inl rfl) h
end
noncomputable def cR(f:Str)(v:V):List (Str×V)->List (Str×V)
 |[]=>[(f,v)]
 |(g,x)::r=>if g=f then (g,v)::r else (g,x)::cR f v r
theorem gx(f g:Str)(v:V):∀fs:List (Str×V),(cR f v fs).lookup g=if g=f then some v else fs.lookup g
 |[]=>by
  show List.lookup g [(f,v)]=_;by_cases h:g=f
  ·have hb:(g == f)=true:=beq_iff_eq.mpr h;simp only[List.lookup,hb,if_pos h]
  ·have hb:(g == f)=false:=beq_eq_false_iff_ne.mpr h;simp only[List.lookup,hb,if_neg h]
 |(k,x)::r=>by
  have ih:=gx f g v r;rw[show cR f v ((k,x)::r)=(if k=f then (k,v)::r else (k,x)::cR f v r) from rfl]
  by_cases hk:k=f
  ·rw[if_pos hk];by_cases h:g=k
   ·have hb:(g == k)=true:=beq_iff_eq.mpr h;simp only[List.lookup,hb,if_pos (h.trans hk)]
   ·have hb:(g == k)=false:=beq_eq_false_iff_ne.mpr h;simp only[List.lookup,hb,if_neg (fun e:g=f=>h (e.trans hk.symm))]
  ·rw[if_neg hk];by_cases h:g=k
   ·have hb:(g == k)=true:=beq_iff_eq.mpr h;simp only[List.lookup,hb,if_neg (fun e:g=f=>hk (h.symm.trans e))]
   ·have hb:(g == k)=false:=beq_eq_false_iff_ne.mpr h;simp only[List.lookup,hb];exact ih
theorem f6(f:Str)(v:V):∀fs:List (Str×V),f∈(cR f v fs).map (·.1)/\∀g,g∈fs.map (·.1)->g∈(cR f v fs).map (·.1)
 |[]=>⟨by simp[cR],fun g h=>by simp at h⟩
 |(k,x)::r=>by
  obtain⟨i1,i2⟩:=f6 f v r;rw[show cR f v ((k,x)::r)=(if k=f then (k,v)::r else (k,x)::cR f v r) from rfl]
  by_cases hk:k=f
  ·rw[if_pos hk];subst hk;exact⟨by simp,fun g h=>by simpa using h⟩
  ·rw[if_neg hk];refine⟨?_,fun g h=>?_⟩
   ·rw[List.map_cons];exact List.mem_cons_of_mem _ i1
   ·rw[List.map_cons]at h ⊢;rcases List.mem_cons.mp h with e|e
    ·exact List.mem_cons.mpr (.inl e)
    ·exact List.mem_cons_of_mem _ (i2 g e)
theorem gQ(f:Str)(v:V):∀fs:List (Str×V),(cR f v fs).length<=fs.length+1
 |[]=>by simp[cR]
 |(k,x)::r=>by
  have ih:=gQ f v r;rw[show cR f v ((k,x)::r)=(if k=f then (k,v)::r else (k,x)::cR f v r) from rfl]
  by_cases hk:k=f
  ·rw[if_pos hk,List.length_cons,List.length_cons];omega
  ·rw[if_neg hk,List.length_cons,List.length_cons];omega
theorem RelO.some_of(r:RelO (some v) o):∃u,o=some u/\RelV v u:=by
 cases o with
 |none=>exact (show False from r).elim
 |some u=>exact⟨u,rfl,r⟩
theorem RelO.none_of(r:RelO none o):o=none:=by
 cases o with
 |none=>rfl
 |some u=>exact (show False from r).elim
theorem jS(r:RelV v u):PySem.W.handedIn u=true:=by
 cases v with
 |non=>cases (show u=Value.none from r);rfl
 |bl b=>cases (show u=Value.bool b from r);rfl
 |int i=>obtain⟨t,e⟩:=(show ∃t,u=Value.int i t from r);cases e;rfl
 |str x=>obtain⟨t,e⟩:=(show ∃t,u=Value.str x t from r);cases e;rfl
 |byt b=>obtain⟨t,e⟩:=(show ∃t,u=Value.bytes b t from r);cases e;rfl
 |flt b=>obtain⟨t,e⟩:=(show ∃t,u=Value.float b t from r);cases e;rfl
 |ref a=>cases (show u=Value.ref a from r);rfl
 |ty n=>cases (show u=Value.type n from r);rfl
section
variable {P:Program}{w:World}{h h':Heap}{a:Addr}{fs:List (Str×V)}
theorem sV(hok:HOk P w H h)(e:H a=some (.ins C dx fs)):∃mA,ObjM h a dx C mA/\(∀f,RelO (fs.lookup f) (mA f))/\PySem.Within mA (fs.map (·.1))/\fs.length<=1000/\H dx=some (.own a):=by
 obtain⟨d,z,ne,ob,mA,n,r,q⟩:=(show ObjOk P w H h a (.ins C dx fs) from hok a _ e);exact⟨mA,⟨ob,n,ne⟩,r,q,z,d⟩
end
structure Cls (K:PySem.W.Frag)(C:Addr):Prop where
 pg:PySem.W.plainGet K C Str.empty=true
 hd:PySem.W.hasDictIn K C=true
 po:PySem.W.plainOver K C=true
 sa:PySem.W.findIn K (.ref C) "__setattr__"=some (some (.builtin "object.__setattr__"))
theorem Cls.get{K:PySem.W.Frag}{C:Addr}(c:Cls K C)(f:Str):PySem.W.plainGet K C f=true:=c.pg
noncomputable def NoAttr(K:PySem.W.Frag)(C:Addr)(f:Str):Prop:=PySem.W.findIn K (.ref C) f=some none
theorem NoAttr.taker{K:PySem.W.Frag}(n:NoAttr K C f):PySem.W.takerIn K C f=some none:=by
 unfold PySem.W.takerIn;rw[show PySem.W.findIn K (.ref C) f=some none from n];rfl
structure Meth (K:PySem.W.Frag)(C:Addr)(m:Str)(f:Addr):Prop where
 at_:PySem.W.findIn K (.ref C) m=some (some (.ref f))
 fn:PySem.W.isFn K (.ref f)=true
 kp:PySem.W.keepIn K (.ref f)=true
section
variable {X:Cx}{s:Shared}{a:Addr}{fs:List (Str×V)}{A:Around}
theorem mI(I:Inv X pins σ H s)(e:H a=some (.ins C dx fs))(c:Cls X.K C)(n:NoAttr X.K C f)(hl:fs.length < 1000)(ry:RelV y u)
  (h:∀s',Inv X pins σ (upd H a (.ins C dx (cR f y fs))) s'->Q () s'):wpAny (model X.prog X.w) A (setAttr (.ref a) f u) Q E s:=by
 obtain⟨mA,O,r,wi,_,ho⟩:=sV I.hok e;have hz:(fs.map (·.1)).length<=sizeLine:=by rw[List.length_map,sizeLine_eq];omega
 refine uA I.kIn O c.sa c.po n.taker c.hd wi hz fun h' O' sb=>h _ ?_
 have hd:∃o,h'.get? dx=some o:=let ⟨o,_,_,e',_⟩:=O'.ns;⟨o,e'⟩
 refine I.write (x:=a) (e:=dx) (by rw[e];exact True.intro) (.inr ho) (fun b q hb z=>(sb.2 b hb).trans z) hd ?_
 refine⟨by rw[ae O.ne];exact ho,?_,O.ne,O'.obj,_,O'.ns,fun g=>?_,fun g hg=>?_⟩
 ·have:=gQ f y fs;omega
 ·show RelO ((cR f y fs).lookup g) (if g=f then some u else mA g)
  rw[gx];by_cases q:g=f
  ·rw[if_pos q,if_pos q];exact ry
  ·rw[if_neg q,if_neg q];exact r g
 ·by_cases q:g=f
  ·rw[q];exact (f6 f y fs).1
  ·refine (f6 f y fs).2 g (wi g fun z=>hg ?_)
   show (if g=f then some u else mA g)=none
   rw[if_neg q];exact z
theorem Inv.made(I:Inv X pins σ H s):Inv X pins σ (upd (upd H s.heap.objs.size (.own (s.heap.objs.size+1))) (s.heap.objs.size+1) (.ins C s.heap.objs.size []))
  {s with heap:=(s.heap.push PySem.W.emptyDict).push (PySem.W.instObj C s.heap.objs.size)}:=by
 have e1:(s.heap.push PySem.W.emptyDict).get? s.heap.objs.size=some PySem.W.emptyDict:=Heap.get?_push_size s.heap rfl;have e2:((s.heap.push PySem.W.emptyDict).push (PySem.W.instObj C s.heap.objs.size)).get? (s.heap.objs.size+1)=some (PySem.W.instObj C s.heap.objs.size):=by
  have:=Heap.get?_push_size (s.heap.push PySem.W.emptyDict) (o:=PySem.W.instObj C s.heap.objs.size) rfl
  rwa [Heap.size_push]at this
 have e3:(s.heap.push PySem.W.emptyDict).Ns s.heap.objs.size (fun _=>none):=⟨PySem.W.emptyDict,#[],_,e1,rfl,(fun e he=>absurd he (by simp)),fun _=>rfl⟩
 have I1:=I.laid (a:=s.heap.objs.size) (o:=.own (s.heap.objs.size+1)) (h':=s.heap.push PySem.W.emptyDict) (t':=s.toks) (fun b u q=>Heap.get?_push_of_some _ q) (Nat.le_refl _) ⟨_,e1⟩
 refine I1.laid (a:=s.heap.objs.size+1) (o:=.ins C s.heap.objs.size []) (t':=s.toks) (fun b u q=>Heap.get?_push_of_some _ q) (Nat.le_of_eq (Heap.size_push _ _)) ?_
 have ne:s.heap.objs.size≠s.heap.objs.size+1:=Nat.ne_of_lt (Nat.lt_succ_self _);refine⟨by rw[ae ne,ah],Nat.zero_le _,ne,e2,fun _=>none,(Heap.Ns1.of_empty e3).at fun o q=>Heap.get?_push_of_some _ q,fun _=>True.intro,fun y hy=>absurd rfl hy⟩
theorem on(hb:attributeBase e f env (eval e env)=eval e env)
  (h:wpAny (model prog w) A (eval e env) (fun o s₁=>wpAny (model prog w) A (getAttr o f true) Q E s₁) E s):wpAny (model prog w) A (eval (.Attribute e f pos) env) Q E s:=
 Attribute_any_ h (by rw[arm_eval_Attribute,hb])
end
noncomputable def F9(K:PySem.W.Frag)(ta tv:TE)(f:Str):TS:=fun D σ H=>tv σ H fun y H1=>ta σ H1 fun x H2=>∃a C dx fs,x=.ref a/\H2 a=some (.ins C dx fs)/\Cls K C/\NoAttr K C f/\fs.length < 1000/\
 D.nx σ (upd H2 a (.ins C dx (cR f y fs)))
section
variable {X:Cx}{o:Expr}{pos:Pos}
theorem yf(ha:PE X o ta)(hv:PE X value tv)(hs:swapsWith value (some (.Attribute o f pos')) pos.line X.env=pure false):PS X (.Assign [.Attribute o f pos'] value pos) (F9 X.K ta tv f):=by
 intro pins s σ H D I h;refine plainObj_wpAny_Assign_Attribute (thn (hv pins s σ H _ I h) fun u s1 ⟨y,H1,I1,ry,q⟩=>thn (ha pins s1 σ H1 _ I1 q) fun ov s2 ⟨x,H2,I2,rx,a,C,dx,fs,ex,ea,c,n,l,q2⟩=>?_) hs
 subst ex;obtain rfl:ov=Value.ref a:=rx;exact mI I2 ea c n l ry fun s3 I3=>⟨σ,_,I3,q2⟩
end
section
variable {X:Cx}{s:Shared}{A:Around}{c:Value}{b:Bool}
end
end L2
namespace L2
open PySem PySem.Spec PyProof.Rows
structure Room (k:Nat)(A:Around):Prop where
 hd:A.handled=none
 dp:A.depth+3 * k+5 < recursionLimit
 un:A.units+16 * k+200 < cLine
theorem Room.mono(r:Room k A)(h:j<=k):Room j A:=⟨r.hd,by have:=r.dp;omega,by have:=r.un;omega⟩
theorem Room.deeper{A:Around}(r:Room (k+1) A)(env:Env):Room k (A.deeper env):=
 ⟨r.hd,by have:=r.dp;show A.depth+1+3 * k+5 < _;omega,by have:=r.un;show A.units+3+16 * k+200 < _;omega⟩
theorem mH{A:Around}:(A.under (.builtin "type.__call__" ⟨.ref C::us,kw⟩)).depth=A.depth+1:=by
 first|rfl|simp[Around.under,Code.weight,Code.isCreation,Code.isGuard,Code.isCaller,Code.frames,Code.isFrame,guardIds]
theorem nt{A:Around}:(A.under (.builtin "type.__call__" ⟨.ref C::us,kw⟩)).units=A.units+1:=by
 first|rfl|simp[Around.under,Code.cUnits,Code.frames,Code.isFrame]
theorem Room.make{A:Around}(r:Room (k+1) A)(C:Addr)(us:List Value)(kw:List (Str×Value)):Room k (A.under (.builtin "type.__call__" ⟨.ref C::us,kw⟩)):=
 ⟨r.hd,by have:=r.dp;rw[mH];omega,by have:=r.un;rw[nt];omega⟩
theorem Room.depth{A:Around}(r:Room k A):A.depth < recursionLimit:=by have:=r.dp;omega
theorem Room.units{A:Around}(r:Room k A):A.units+64 < cLine:=by have:=r.un;omega
noncomputable def tNil:TA:=fun _ H Q=>Q [] H
noncomputable def Cs(ta:TE)(tr:TA):TA:=fun σ H Q=>ta σ H fun x H1=>tr σ H1 fun xs H2=>Q (x::xs) H2
section
variable {X:Cx}{pos:Pos}
theorem pa_nil:PA X [] tNil:=fun _ _ _ _ H Q I h=>Calls.spliced_nil ⟨[],H,I,.nil,h⟩
theorem bD(ha:PE X e te)(hr:PA X es t)(hs:starEach (e::es) X.env=(false,eval e X.env)::starEach es X.env:=by rfl):PA X (e::es) (Cs te t):=by
 intro pos pins s σ H Q I h;rw[hs];show wpAny _ _ (spliced ((false,eval e X.env)::backTo pos (starEach es X.env))) _ _ s;refine Calls.spliced_cons (thn (ha pins s σ H _ I h) fun u s1 ⟨x,H1,I1,r1,q1⟩=>?_)
 exact thn (hr pos pins s1 σ H1 _ I1 q1) fun us s2 ⟨xs,H2,I2,r2,q2⟩=>⟨x::xs,H2,I2,.cons r1 r2,q2⟩
noncomputable def GD(t:TA):TE:=fun σ H Q=>t σ H fun xs H1=>xs.length<=sizeLine/\∀p,H1 p=none->Q (.ref p) (upd H1 p (.tup xs))
noncomputable def F6(t:TA):TE:=fun σ H Q=>t σ H fun xs H1=>xs.length<=sizeLine/\∀p,H1 p=none->Q (.ref p) (upd H1 p (.lst xs))
theorem yb{x1}(h:PA X es t):PE X (.Tuple es x1 pos) (GD t):=by
 intro pins s σ H Q I hq;refine wpAny_Tuple_spliced (thn (h pos pins s σ H _ I hq) fun us s1 ⟨xs,H1,I1,r,z,q⟩=>⟨by rw[<-r.length];exact z,?_⟩)
 have hf:H1 s1.heap.objs.size=none:=I1.hok.fresh (Nat.le_refl _);refine⟨.ref s1.heap.objs.size,upd H1 s1.heap.objs.size (.tup xs),I1.laid (t':=s1.toks) (fun b u e=>Heap.get?_push_of_some _ e) (Nat.le_refl _) ?_,rfl,q _ hf⟩
 exact⟨z,us,r,⟨_,Heap.get?_push_size _ rfl,rfl,_,rfl⟩⟩
theorem vH(h:PA X es t):PE X (.List es pos) (F6 t):=by
 intro pins s σ H Q I hq;refine wpAny_List_spliced (thn (h pos pins s σ H _ I hq) fun us s1 ⟨xs,H1,I1,r,z,q⟩=>⟨by rw[<-r.length];exact z,?_⟩)
 have hf:H1 s1.heap.objs.size=none:=I1.hok.fresh (Nat.le_refl _);refine⟨.ref s1.heap.objs.size,upd H1 s1.heap.objs.size (.lst xs),I1.laid (t':=s1.toks) (fun b u e=>Heap.get?_push_of_some _ e) (Nat.le_refl _) ?_,rfl,q _ hf⟩
 exact⟨z,us,0,r,Heap.get?_push_size _ rfl⟩
end
noncomputable abbrev Sp:=List V->Hp->VK->XK->Prop
noncomputable abbrev CXT:=List Env->Hp->Shared->XK->Value->Shared->Prop
structure Env0 (P:Program)(w:World)(K:PySem.W.Frag)(mg:Str->Option Value)(base:Heap)(A:Around)(outer:List Env)(s:Shared)(H:Hp):Prop where
 frames:A.frames=some outer
 mod:Mod K mg base
 bs:∀b o,base.get? b=some o->s.heap.get? b=some o/\H b=none
 bsz:base.objs.size<=s.heap.objs.size
 funs:s.heap.FunFrames base outer
 frf:∀b∈frs outer,H b=none
 hok:HOk P w H s.heap
 bare:AllBare s.gens
noncomputable def CE(outer:List Env)(P:Program)(w:World)(H:Hp)(s:Shared)(Q:VK)(u:Value)(s':Shared):Prop:=
 ∃v H',s'.os=s.os/\AllBare s'.gens/\Un (frs outer) [] H H' s.heap s'.heap/\HOk P w H' s'.heap/\RelV v u/\Q v H'
noncomputable def CR(CX:CXT)(outer:List Env)(P:Program)(w:World)(H:Hp)(s:Shared)(Q:VK)(E:XK)(r:Result)(s':Shared):Prop:=
 match r with
 |.ok (.ret u)=>CE outer P w H s Q u s'
 |.ok _=>False
 |.error e=>CX outer H s E e s'
structure FnOk (P:Program)(w:World)(K:PySem.W.Frag)(mg:Str->Option Value)(base:Heap)(CX:CXT)(k:Nat)(f:Addr)(fd:FuncData)(ps:List Str)(sp:Sp):Prop where
 len:∀vs H Q E,sp vs H Q E->vs.length=ps.length
 run:∀(A:Around)(outer:List Env)(s:Shared)(H:Hp)(args:Args)(us:List Value)(vs:List V)(Q:VK)(E:XK),Room k A->Env0 P w K mg base A outer s H->BindsTo s fd args (ps.zip us)->Vals vs us->sp vs H Q E->
  codeAny (model P w) A (.call (.ref f) args) (CR CX outer P w H s Q E) s
theorem FnOk.mono{K:PySem.W.Frag}(F:FnOk P w K mg base CX j f fd ps sp)(h:j<=k) :
  FnOk P w K mg base CX k f fd ps sp:=⟨F.len,fun A outer s H args us vs Q E hr=>F.run A outer s H args us vs Q E (hr.mono h)⟩
theorem Env0.make{K:PySem.W.Frag}{A:Around}(e:Env0 P w K mg base A outer s H)(C:Addr)(us:List Value)(kw:List (Str×Value)) :
  Env0 P w K mg base (A.under (.builtin "type.__call__" ⟨.ref C::us,kw⟩)) outer s H:=⟨by first|exact e.frames|(simpa [Around.under,Code.envs,Code.isFrame,pushEnvs] using e.frames),e.mod,e.bs,e.bsz,e.funs,e.frf,e.hok,e.bare⟩
section
variable {X:Cx}{s:Shared}
theorem Inv.env0(I:Inv X pins σ H s):Env0 X.prog X.w X.K X.mg X.base X.A X.stack s H:=
 ⟨I.ok.frames,I.ok.mod,I.bs,Nat.le_trans I.ok.bsz I.sz,I.stack,I.stkFree,I.hok,I.bare⟩
theorem Inv.after(I:Inv X pins σ H s)(h:CE X.stack X.prog X.w H s Q u s'):EP X pins σ Q u s':=by
 obtain⟨v,H',os,bare,un,hok,r,q⟩:=h;obtain⟨hh,g,d,t,os'⟩:=s';obtain rfl:os'=s.os:=os;exact⟨v,H',I.call (h':=hh) (g':=g) (d':=d) (t':=t) (ch:=[]) un hok bare (fun b z=>absurd z (by simp)),r,q⟩
end
noncomputable def Binds(K:PySem.W.Frag)(fd:FuncData)(ps:List Str)(ds:List Value):Prop:=
 ∀(s:Shared)(us:List Value),K.In s.heap->(us++ds).length=ps.length->BindsTo s fd ⟨us,[]⟩ (ps.zip (us++ds))
theorem Binds.all{K:PySem.W.Frag}{ps:List Str}(h:∀us:List Value,us.length=ps.length->bindArgs fd ⟨us,[]⟩=pure (ps.zip us)):Binds K fd ps []:=fun s us _ hl=>by
 rw[List.append_nil]at hl ⊢;exact .of_eq (h us hl)
noncomputable def yL(CX:CXT)(X:Cx)(E:XK):Prop:=∀(pins:List (Addr×Obj)) (σ:St)(H:Hp)(s:Shared)(e:Value)(s':Shared),Inv X pins σ H s->CX X.stack H s E e s'->X.xe e s'
section
variable {X:Cx}{k:Nat}{ps:List Str}{x:Str}{p pos apos:Pos}{o:Expr}
structure Mk (K:PySem.W.Frag)(C f:Addr):Prop where
 makes:PySem.W.makesIn K C=true
 init:PySem.W.findIn K (.ref C) "__init__"=some (some (.ref f))
 fn:PySem.W.isFn K (.ref f)=true
 kp:PySem.W.keepIn K (.ref C)=true
end
section
variable {X:Cx}{k:Nat}{ps ks:List Str}{x:Str}{p pos apos:Pos}{o:Expr}
end
structure FnScope (N P:List Str)(sc:Scope):Prop where
 kind:sc.kind=.function
 co:sc.isCoroutine=false
 gen:sc.isGenerator=false
 nd:N.Nodup
 pre:N.take P.length=P
 par:∀x∈P,sc.names.lookup x=some .local\/sc.names.lookup x=some .cell
 nofree:∀y∈sc.names,y.2≠.free
theorem jV{kindOf:Str->Option NameKind}{x:Str}:∀{binds:List (Str×Value)}{m:Str->Option Value},(∀v,(x,v)∉binds)->bindL kindOf binds m x=m x
 |[],_,_=>rfl
 |(n,v)::r,m,h=>by
  unfold bindL;rw[jV fun w hw=>h w (List.mem_cons_of_mem _ hw)]
  split
  ·have:x≠n:=by rintro rfl;exact h v List.mem_cons_self
   simp[this]
  ·rfl
theorem jU{kindOf:Str->Option NameKind}{x:Str}:∀{binds:List (Str×Value)}{m:Str->Option Value},(∀v,(x,v)∉binds)->bindC kindOf binds m x=m x
 |[],_,_=>rfl
 |(n,v)::r,m,h=>by
  unfold bindC;rw[jU fun w hw=>h w (List.mem_cons_of_mem _ hw)]
  split
  ·rfl
  ·have:x≠n:=by rintro rfl;exact h v List.mem_cons_self
   simp[this]
theorem j8{kindOf:Str->Option NameKind}{x:Str}{v:Value}:∀{P:List Str}{vs:List Value}{i:Nat}{m:Str->Option Value},P.Nodup->P[i]?=some x->vs[i]?=some v->kindOf x=some .local->
  bindL kindOf (P.zip vs) m x=some v
 |[],_,_,_,_,h,_,_=>by simp at h
 |_::_,[],_,_,_,_,h,_=>by simp at h
 |p::P,w::vs,0,m,nd,h1,h2,hk=>by
  simp at h1 h2;subst h1;subst h2;show bindL kindOf ((p,w)::P.zip vs) m p=_;unfold bindL;rw[jV fun v hv=>(List.nodup_cons.mp nd).1 (List.of_mem_zip hv).1,if_pos hk]
  simp
 |p::P,w::vs,i+1,m,nd,h1,h2,hk=>by
  show bindL kindOf ((p,w)::P.zip vs) m x=_;unfold bindL;exact j8 (i:=i) (List.nodup_cons.mp nd).2 (by simpa using h1) (by simpa using h2) hk
theorem jX{kindOf:Str->Option NameKind}{x:Str}{v:Value}:∀{P:List Str}{vs:List Value}{i:Nat}{m:Str->Option Value},P.Nodup->P[i]?=some x->vs[i]?=some v->kindOf x≠some .local->
  bindC kindOf (P.zip vs) m x=some v
 |[],_,_,_,_,h,_,_=>by simp at h
 |_::_,[],_,_,_,_,h,_=>by simp at h
 |p::P,w::vs,0,m,nd,h1,h2,hk=>by
  simp at h1 h2;subst h1;subst h2;show bindC kindOf ((p,w)::P.zip vs) m p=_;unfold bindC;rw[jU fun v hv=>(List.nodup_cons.mp nd).1 (List.of_mem_zip hv).1,if_neg hk]
  simp
 |p::P,w::vs,i+1,m,nd,h1,h2,hk=>by
  show bindC kindOf ((p,w)::P.zip vs) m x=_;unfold bindC;exact jX (i:=i) (List.nodup_cons.mp nd).2 (by simpa using h1) (by simpa using h2) hk
noncomputable def dH(N:List Str)(vs:List V):St:=vs.map some++List.replicate (N.length - vs.length) none
noncomputable def cy(CX:CXT)(P:Program)(w:World)(K:PySem.W.Frag)(mg:Str->Option Value)(base:Heap)(N:List Str)(qual:Str)(scope:Scope)(f:Addr)(cd:Value)(A:Around)(outer:List Env)(s:Shared)(H:Hp)(E:XK):Cx where
 prog:=P
 w:=w
 K:=K
 mg:=mg
 base:=base
 A:=A.deeper (envOfC qual scope s.heap.objs.size f cd)
 N:=N
 s₀:=s
 H₀:=H
 env:=envOfC qual scope s.heap.objs.size f cd
 outer:=outer
 stack:=envOfC qual scope s.heap.objs.size f cd::outer
 ex:=[]
 calm:=true
 fn:=fun _=>true
 pn:=[]
 xe:=fun e s'=>wpAny (model P w) (A.deeper (envOfC qual scope s.heap.objs.size f cd)) (leaving (envOfC qual scope s.heap.objs.size f cd) e) (fun _ s''=>CX outer H s E e s'') (fun e' s''=>CX outer H s E e' s'') s'
theorem lF{sc:Scope}(h:sc.names.lookup x=some .cell):∃c,(cellsFrom n sc.names []).lookup x=some c:=by
 have q:=PySem.W.cellsFrom_some sc.names n [] (.inl h);exact Option.isSome_iff_exists.mp q
theorem oV{K:PySem.W.Frag}{ps:List Str}{scope:Scope}{A:Around}{s:Shared}{vs:List V}
  (S:FnScope N ps scope) (hd:A.handled=none) (e0:Env0 P w K mg base A outer s H) (hl:vs.length=ps.length) (r:Vals vs us)
  (x:InCallC s s.heap.objs.size (bindL (envOfC qual scope s.heap.objs.size f cd).kindOf (ps.zip us) fun _=>none) (cellsFrom (s.heap.objs.size+1) scope.names []) (bindC (envOfC qual scope s.heap.objs.size f cd).kindOf (ps.zip us) fun _=>none) s1) :
  Inv (cy CX P w K mg base N qual scope f cd A outer s H E) [] (dH N vs) H s1:=by
 have hpl:ps.length<=N.length:=by have:=congrArg List.length S.pre;rw[List.length_take]at this;omega
 obtain⟨h1,tk,rfl,hk⟩:=x.done;have noA:∀b:Addr,b∉(cy CX P w K mg base N qual scope f cd A outer s H E).ex:=fun b z=>absurd (show b∈([]:List Addr) from z) (by simp)
 refine⟨⟨e0.mod,S.kind,rfl,rfl,Nat.le_refl _,fun y z c h1 h2=>?_,fun y hy=>?_,fun y c _ h=>?_,fun _=>hd,Around.frames_deeper e0.frames,.inr ⟨rfl,rfl⟩,fun b z=>absurd z (noA b),e0.bs,e0.bsz,fun b _ _=>noA b,fun b z=>absurd z (noA b),e0.funs,e0.frf⟩,
  rfl,e0.bare,Un.kept hk,⟨_,x.toInCall.ns,fun i y v h1 h2 h3=>?_⟩,fun y c h=>⟨_,x.cell y c h⟩,e0.hok.fresh (Nat.le_refl _),fun y c h=>?_,fun p hp=>absurd (show p∈([]:List (Addr×Obj)) from hp) (by simp),e0.hok.kept hk,?_⟩
 ·exact name_of_addr x.apart (PySem.mem_of_lookup h1) (PySem.mem_of_lookup h2)
 ·have hy:scope.names.lookup y=some .cell\/scope.names.lookup y=some .free:=hy;rcases hy with hy|hy
  ·exact lF hy
  ·exact absurd rfl (S.nofree _ (PySem.mem_of_lookup hy))
 ·exact Nat.le_of_lt (x.above y c (PySem.mem_of_lookup h))
 ·have hi:i < vs.length:=by
   unfold dH at h2;by_cases hi:i < vs.length
   ·exact hi
   ·rw[List.getElem?_append_right (by simpa using hi)]at h2
    rw[List.getElem?_replicate]at h2;split at h2<;>cases h2
  have ha:vs[i]?=some v:=by
   unfold dH at h2;rw[List.getElem?_append_left (by simpa using hi),List.getElem?_map]at h2
   cases e:vs[i]? with
   |none=>rw[e]at h2;cases h2
   |some a=>rw[e]at h2;cases h2;rfl
  obtain⟨u,hu,rv⟩:=r.get ha;have hp:ps[i]?=some y:=by
   rw[<-S.pre,List.getElem?_take_of_lt (by omega)];exact h1
  have ndP:ps.Nodup:=by rw[<-S.pre];exact S.nd.sublist (List.take_sublist _ _)
  refine⟨u,rv,?_⟩;rcases S.par y (List.mem_of_getElem? hp) with k|k
  ·exact .inl ⟨k,j8 ndP hp hu k⟩
  ·obtain⟨c,e⟩:=lF (n:=s.heap.objs.size+1) k;refine .inr ⟨.inl k,c,e,?_⟩;have q:=x.cell y c e;rw[jX ndP hp hu (by show scope.names.lookup y≠_;rw[k];decide)]at q
   exact q
 ·exact e0.hok.fresh (Nat.le_of_lt (x.above y c (PySem.mem_of_lookup h)))
 ·unfold dH;show _=N.length;rw[List.length_append,List.length_map,List.length_replicate];omega
theorem sh{CX:CXT}{P:Program}{w:World}{K:PySem.W.Frag}{mg:Str->Option Value}{base:Heap}{k:Nat}{f:Addr}{name qual:Str}{params:Arguments}{body:List Stmt}{scope:Scope}{dV kV doc pm cdv ct oc:Value}{an od:Option Addr}
  {osl:Array (Option Value)}{N ps:List Str}{sp:Sp} (lk:K.lookup f=some ⟨oc,od,.func (PySem.W.fnOf name qual params body scope dV kV doc pm an cdv ct),osl⟩) (hcd:PySem.W.codeIn K cdv qual=true) (S:FnScope N ps scope)
  (len:∀vs H Q E,sp vs H Q E->vs.length=ps.length)
  (hbody:∀(A:Around)(outer:List Env)(s:Shared)(H:Hp)(vs:List V)(Q:VK)(E:XK),Room k (A.deeper (envOfC qual scope s.heap.objs.size f cdv))->sp vs H Q E->
   ∃t,PSs (cy CX P w K mg base N qual scope f cdv A outer s H E) body t/\t {nx:=fun _ H'=>Q .non H',rt:=Q} (dH N vs) H) :
  FnOk P w K mg base CX (k+1) f (PySem.W.fnOf name qual params body scope dV kV doc pm an cdv ct) ps sp:=by
 refine⟨len,fun A outer s H args us vs Q E hr e0 hb r hsp=>?_⟩
 have hl:=len _ _ _ _ hsp;have KX:K.In s.heap:=e0.mod.kin.keeps fun b o e=>(e0.bs b o e).1
 have lim:s.heap.NoLimit:=e0.mod.nolimit.keeps fun b o e=>(e0.bs b o e).1
 have hkind:∀y∈ps.zip us,scope.names.lookup y.1=some .local\/(scope.names.lookup y.1=some .cell/\((cellsFrom (s.heap.objs.size+1) scope.names []).lookup y.1).isSome=true):=fun ⟨n,v⟩ hy=>by
  rcases S.par n (List.of_mem_zip hy).1 with q|q
  ·exact .inl q
  ·exact .inr ⟨q,PySem.W.cellsFrom_some _ _ _ (.inl q)⟩
 refine codeAny_call_function hr.depth (KX _ _ lk) rfl S.co S.gen rfl (PySem.W.codeRec_of KX hcd) (hb _ _ _ _ ?_);refine wpAny_newFunctionEnv_cells S.kind hkind fun env he s1 x=>?_
 subst he;refine⟨lim.keeps x.toInCall.keep,codeAny_func ?_⟩;obtain⟨t,ht,hq⟩:=hbody A outer s H vs Q E (hr.deeper _) hsp;have I:Inv (cy CX P w K mg base N qual scope f cdv A outer s H E) [] (dH N vs) H s1:=oV S hr.hd e0 hl r x;refine wpAny_mono (ht [] s1 (dH N vs) H _ I hq) (fun fl s' hs=>?_) fun e s' hs=>hs
 have fin:∀{σ':St}{H':Hp}{v:V}{u:Value},Inv (cy CX P w K mg base N qual scope f cdv A outer s H E) [] σ' H' s'->RelV v u->Q v H'->CE outer P w H s Q u s':=
  fun {σ' H' v u} J rv q=>⟨v,H',J.os,J.bare,J.base,J.hok,rv,q⟩
 cases fl with
 |ret u=>
  obtain⟨v,σ',H',J,rv,q⟩:=hs;exact fin J rv q
 |next=>
  obtain⟨σ',H',J,q⟩:=hs;exact fin (v:=V.non) (u:=Value.none) J rfl q
 |brk=>
  obtain⟨_,_,_,q⟩:=hs;exact False.elim q
 |cont=>
  obtain⟨_,_,_,q⟩:=hs;exact False.elim q
end L2
namespace L2
open PySem PySem.Spec PyProof.Rows
section
variable {X:Cx}{x:Str}{p pos:Pos}{id:String}
noncomputable def tCB(r:List V->Hp->VK->Prop)(t:TA):TE:=fun σ H Q=>t σ H fun vs H1=>r vs H1 Q
theorem fJ(hc:CallR X (.builtin id) r)(hg:Gl X x)(hm:X.mg x=none)(hv:bootBuiltins x=some (.builtin id))(ha:PA X (e::es) t)(hn:x≠"__name__":=by decide)(hdb:(x == ("__debug__" : Str))=false:=by decide)
  (he:starEach (e::es) X.env=(false,eval e X.env)::starEach es X.env:=by rfl) (hpl:(backTo pos (starEach es X.env)).any (·.1)=false:=by rfl):PE X (.Call (.Name x p) (e::es) [] pos) (tCB r t):=by
 intro pins s σ H Q I h;refine wpAny_Call_Name_kw (ky I hg hm hv ?_ hn hdb);exact PyProof.Rows.callWith_builtin1 (thn (ha pos pins s σ H _ I h) fun us s1 ⟨vs,H1,I1,r1,q1⟩=>hc pins s1 σ H1 vs us Q I1 r1 q1) he hpl
theorem pi(hc:CallR X (.type T) r)(hg:Gl X x)(hm:X.mg x=none)(hv:bootBuiltins x=some (.type T))(ha:PA X (e::es) t)(hn:x≠"__name__":=by decide)(hdb:(x == ("__debug__" : Str))=false:=by decide)
  (he:starEach (e::es) X.env=(false,eval e X.env)::starEach es X.env:=by rfl) (hpl:(backTo pos (starEach es X.env)).any (·.1)=false:=by rfl):PE X (.Call (.Name x p) (e::es) [] pos) (tCB r t):=by
 intro pins s σ H Q I h;refine wpAny_Call_Name_kw (ky I hg hm hv ?_ hn hdb);exact PyProof.Rows.callWith_type1 (thn (ha pos pins s σ H _ I h) fun us s1 ⟨vs,H1,I1,r1,q1⟩=>hc pins s1 σ H1 vs us Q I1 r1 q1) he hpl
end
end L2
namespace L2
open PySem PySem.Spec PyProof.Rows
section
variable [DecidableEq κ]
noncomputable def dF(kvs:List (κ×V))(k:κ):Option V:=(kvs.find? fun kv=>decide (kv.1=k)).map (·.2)
noncomputable def dO(kvs:List (κ×V))(k:κ)(v:V):List (κ×V):=
 if (kvs.any fun kv=>decide (kv.1=k))=true then kvs.map (fun kv=>if kv.1=k then (kv.1,v) else kv) else kvs++[(k,v)]
theorem dW{p:κ×V}(e:p.1=k):dF (p::r) k=some p.2:=by simp[dF,List.find?_cons,e]
theorem c3{p:κ×V}(e:¬ p.1=k):dF (p::r) k=dF r k:=by simp[dF,List.find?_cons,e]
theorem lL(k:κ):∀kvs:List (κ×V),(kvs.any fun kv=>decide (kv.1=k))=(dF kvs k).isSome
 |[]=>rfl
 |p::r=>by
  rw[List.any_cons];by_cases e:p.1=k
  ·simp only[dW e,decide_eq_true e,Bool.true_or,Option.isSome_some]
  ·rw[c3 e,decide_eq_false e,Bool.false_or];exact lL k r
theorem gz(kvs:List (κ×V))(k:κ)(v:V):(dO kvs k v).length<=kvs.length+1:=by
 unfold dO;split
 ·rw[List.length_map];omega
 ·rw[List.length_append,List.length_cons,List.length_nil];omega
theorem RelO.isSome_eq{o:Option V}{u:Option Value}(r:RelO o u):o.isSome=u.isSome:=by
 cases o with
 |none=>cases u with
  |none=>rfl
  |some _=>exact (show False from r).elim
 |some _=>cases u with
  |none=>exact (show False from r).elim
  |some _=>rfl
theorem RelO.getD{o:Option V}{u:Option Value}(r:RelO o u)(rd:RelV d d'):RelV (o.getD d) (u.getD d'):=by
 cases o with
 |none=>cases u with
  |none=>exact rd
  |some _=>exact (show False from r).elim
 |some _=>cases u with
  |none=>exact (show False from r).elim
  |some _=>exact r
theorem KV.val(r:KV kvs vs)(k:κ):RelO (dF kvs k) (valueAt vs k):=by
 unfold KV at r
 induction r with
 |nil=>exact True.intro
 |@cons p q ps qs h t ih=>
  obtain⟨h1,h2⟩:=h;by_cases e:p.1=k
  ·have e':q.1=k:=h1.symm.trans e;have b:valueAt (q::qs) k=some q.2:=by simp[valueAt,List.find?_cons,e']
   rw[dW e,b];exact h2
  ·have e':¬ q.1=k:=fun z=>e (h1.trans z)
   have b:valueAt (q::qs) k=valueAt qs k:=by simp[valueAt,List.find?_cons,e']
   rw[c3 e,b];exact ih
theorem KV.any{kvs:List (κ×V)}{vs:List (κ×Value)}(r:KV kvs vs)(k:κ):(kvs.any fun kv=>decide (kv.1=k))=vs.any fun kv=>decide (kv.1=k):=by
 unfold KV at r
 induction r with
 |nil=>rfl
 |cons h t ih=>rw[List.any_cons,List.any_cons,ih,h.1]
theorem KV.repl{kvs:List (κ×V)}{vs:List (κ×Value)}(r:KV kvs vs)(k:κ)(ry:RelV y u) :
  KV (kvs.map fun kv=>if kv.1=k then (kv.1,y) else kv) (vs.map fun kv=>if kv.1=k then (kv.1,u) else kv):=by
 unfold KV at r ⊢
 induction r with
 |nil=>exact .nil
 |@cons p q ps qs h t ih=>
  rw[List.map_cons,List.map_cons];refine .cons ?_ ih;obtain⟨h1,h2⟩:=h;by_cases e:p.1=k
  ·rw[if_pos e,if_pos (h1.symm.trans e)];exact⟨h1,ry⟩
  ·rw[if_neg e,if_neg (fun z=>e (h1.trans z))];exact⟨h1,h2⟩
theorem KV.put(r:KV kvs vs)(k:κ)(ry:RelV y u):KV (dO kvs k y) (stored vs k u):=by
 unfold dO stored;rw[r.any k];by_cases e:(vs.any fun kv=>decide (kv.1=k))=true
 ·rw[if_pos e,if_pos e];exact r.repl k ry
 ·rw[if_neg e,if_neg e];exact Paired.snoc r ⟨rfl,ry⟩
theorem KV.keys{kvs:List (κ×V)}{vs:List (κ×Value)}(r:KV kvs vs):kvs.map (·.1)=vs.map (·.1):=by
 unfold KV at r
 induction r with
 |nil=>rfl
 |cons h t ih=>rw[List.map_cons,List.map_cons,ih,h.1]
theorem KV.length{kvs:List (κ×V)}{vs:List (κ×Value)}(r:KV kvs vs):kvs.length=vs.length:=Paired.length r
end
theorem iQ(r:RelV (kV k) u):(au P w).is k u=true:=by
 cases k with
 |inl i=>obtain⟨t,e⟩:=(show ∃t,u=Value.int i t from r);subst e;exact lX P w i t
 |inr x=>obtain⟨t,e⟩:=(show ∃t,u=Value.str x t from r);subst e;exact gA P w x t
theorem jP:∀{ks:List Key}{us:List Value},Vals (ks.map kV) us->ItemsAre (au P w) ks us
 |[],_,r=>by rw[List.map_nil]at r;cases r;exact .nil
 |k::ks,_,r=>by
  rw[List.map_cons]at r;cases r with
  |cons h t=>exact .cons (iQ h) (jP t)
noncomputable abbrev KT(H:Hp):List (List Key×V)->List (List Key×Addr×Value)->Prop:=Paired fun p q=>p.1=q.1/\H q.2.1=some (.tup (p.1.map kV))/\RelV p.2 q.2.2
theorem KT.val(r:KT H kvs xs)(k:List Key):RelO (dF kvs k) ((atKey xs k).map (·.2)):=by
 induction r with
 |nil=>exact True.intro
 |@cons p q ps qs h t ih=>
  obtain⟨h1,_,h2⟩:=h;by_cases e:p.1=k
  ·have e':q.1=k:=h1.symm.trans e;have b:atKey (q::qs) k=some q.2:=by simp[atKey,List.find?_cons,e']
   rw[dW e,b];exact h2
  ·have e':¬ q.1=k:=fun z=>e (h1.trans z)
   have b:atKey (q::qs) k=atKey qs k:=by simp[atKey,List.find?_cons,e']
   rw[c3 e,b];exact ih
theorem KT.repl{kvs:List (List Key×V)}{xs:List (List Key×Addr×Value)}(r:KT H kvs xs)(k:List Key)(ry:RelV y u) :
  KT H (kvs.map fun kv=>if kv.1=k then (kv.1,y) else kv) (xs.map (putAt k u)):=by
 induction r with
 |nil=>exact .nil
 |@cons p q ps qs h t ih=>
  rw[List.map_cons,List.map_cons];refine .cons ?_ ih;obtain⟨h1,h2,h3⟩:=h;unfold putAt;by_cases e:p.1=k
  ·rw[if_pos e,if_pos (h1.symm.trans e)];exact⟨h1,h2,ry⟩
  ·rw[if_neg e,if_neg (fun z=>e (h1.trans z))];exact⟨h1,h2,h3⟩
theorem KT.put(r:KT H kvs xs)(k:List Key)(hb:H b=some (.tup (k.map kV)))(ry:RelV y u) :
  KT H (dO kvs k y) (storedH xs k b u):=by
 have e:(kvs.any fun kv=>decide (kv.1=k))=(atKey xs k).isSome:=by
  rw[lL,(r.val k).isSome_eq,Option.isSome_map]
 unfold dO storedH;rw[e];by_cases q:(atKey xs k).isSome=true
 ·rw[if_pos q,if_pos q];exact r.repl k ry
 ·rw[if_neg q,if_neg q];exact Paired.snoc r ⟨rfl,hb,ry⟩
theorem KT.keeps(r:KT H kvs xs)(ht:∀b ys,H b=some (.tup ys)->H' b=some (.tup ys)):KT H' kvs xs:=
 Paired.mapP r fun _ _ z=>⟨z.1,ht _ _ z.2.1,z.2.2⟩
section
variable {w:World}{h:Heap}{a:Addr}
theorem u3(ok:HOk P w H h)(e:Rd H a u):ObjOk P w H h a u:=e.ok ok
theorem gP{kvs:List (Key×V)}(ok:HOk P w H h)(e:Rd H a (.dK kvs)):kvs.length<=sizeLine/\(a == sysModules)=false/\∃vs,KV kvs vs/\h.DictOf (au P w) a vs:=
 show ObjOk P w H h a (.dK kvs) from u3 ok e
theorem qA{kvs:List (Key×V)}(ok:HOk P w H h)(e:H a=some (.dK kvs)):kvs.length<=sizeLine/\(a == sysModules)=false/\∃vs,KV kvs vs/\h.DictOf (au P w) a vs:=gP ok (.inl e)
theorem eU{ks:List Key}(ok:HOk P w H h)(e:H a=some (.tup (ks.map kV))):(tupleKind (au P w)).is h ks a:=by
 obtain⟨_,its,r,o,h1,h2,n,h3⟩:=(show ObjOk P w H h a (.tup (ks.map kV)) from ok a _ e);exact⟨o,its.toArray,n,h1,h2,h3,by simpa using jP r⟩
theorem j1{kvs:List (List Key×V)}(ok:HOk P w H h)(e:Rd H a (.dT kvs)):kvs.length<=sizeLine/\(a == sysModules)=false/\
  ∃xs,KT H kvs xs/\h.DictOfH (tupleKind (au P w)) a xs:=by
 obtain⟨z,y,xs,r,o,es,ep,h1,h2,h3,h4,h5⟩:=(show ObjOk P w H h a (.dT kvs) from u3 ok e);refine⟨z,y,xs,r,o,es,ep,h1,h2,h3,h4,fun x hx=>?_,h5⟩
 have all:∀{l:List (List Key×V)}{m:List (List Key×Addr×Value)},KT H l m->∀x∈m,(tupleKind (au P w)).is h x.1 x.2.1:=by
  intro l m q
  induction q with
  |nil=>intro x hx;exact nomatch hx
  |@cons p q ps qs hq t ih=>
   intro x hx;rcases List.mem_cons.mp hx with e|hx
   ·subst e;exact eU ok (by rw[<-hq.1];exact hq.2.1)
   ·exact ih x hx
 exact all r x hx
theorem CW{kvs:List (List Key×V)}(ok:HOk P w H h)(e:H a=some (.dT kvs)):kvs.length<=sizeLine/\(a == sysModules)=false/\
  ∃xs,KT H kvs xs/\h.DictOfH (tupleKind (au P w)) a xs:=j1 ok (.inl e)
end
noncomputable def DGet(H:Hp)(a:Addr)(y:V)(r:Option V):Prop:=
 (∃kvs k,Rd H a (.dK kvs)/\y=kV k/\r=dF kvs k)\/∃kvs k b,Rd H a (.dT kvs)/\y=.ref b/\H b=some (.tup (k.map kV))/\r=dF kvs k
noncomputable def DPut(H:Hp)(a:Addr)(y v:V)(H':Hp):Prop:=
 (∃kvs k,H a=some (.dK kvs)/\y=kV k/\kvs.length < sizeLine/\H'=upd H a (.dK (dO kvs k v)))\/
 ∃kvs k b,H a=some (.dT kvs)/\y=.ref b/\H b=some (.tup (k.map kV))/\kvs.length < sizeLine/\H'=upd H a (.dT (dO kvs k v))
theorem DGet.k{H:Hp}{a:Addr}{kvs:List (Key×V)}{k:Key}(e:H a=some (.dK kvs)):DGet H a (kV k) (dF kvs k):=.inl ⟨kvs,k,.inl e,rfl,rfl⟩
theorem DGet.t{H:Hp}{a b:Addr}{kvs:List (List Key×V)}{k:List Key}(e:H a=some (.dT kvs))(eb:H b=some (.tup (k.map kV))):DGet H a (.ref b) (dF kvs k):=.inr ⟨kvs,k,b,.inl e,rfl,eb,rfl⟩
theorem DPut.k{H:Hp}{a:Addr}{kvs:List (Key×V)}{k:Key}{v:V}(e:H a=some (.dK kvs))(hl:kvs.length < sizeLine):DPut H a (kV k) v (upd H a (.dK (dO kvs k v))):=.inl ⟨kvs,k,e,rfl,hl,rfl⟩
theorem DPut.t{H:Hp}{a b:Addr}{kvs:List (List Key×V)}{k:List Key}{v:V}(e:H a=some (.dT kvs))(eb:H b=some (.tup (k.map kV)))(hl:kvs.length < sizeLine) :
  DPut H a (.ref b) v (upd H a (.dT (dO kvs k v))):=.inr ⟨kvs,k,b,e,rfl,eb,hl,rfl⟩
section
variable {X:Cx}{s:Shared}{a:Addr}{y:V}{o:Option V}{A:Around}
theorem oW(hu:A.units+1 < cLine)(I:Inv X pins σ H s)(g:DGet H a y (some v))(ry:RelV y u)(h:∀w' s',Inv X pins σ H s'->RelV v w'->Q w' s') :
  wpAny (model X.prog X.w) A (getItem (.ref a) u) Q E s:=by
 rcases g with ⟨kvs,k,e,ey,l⟩|⟨kvs,k,b,e,ey,eb,l⟩
 ·subst ey;obtain⟨z,hd,vs,rel,dd⟩:=gP I.hok e;obtain⟨w',hw,rw'⟩:=RelO.some_of (v:=v) (o:=valueAt vs k) (by rw[l];exact rel.val k)
  exact wpAny_getItem_of (iQ ry) dd.mapOf hw (h w' _ (I.tok _) rw')
 ·subst ey;cases (show u=Value.ref b from ry);obtain⟨z,hd,xs,rel,dd⟩:=j1 I.hok e;obtain⟨w',hw,rw'⟩:=RelO.some_of (v:=v) (o:=(atKey xs k).map (·.2)) (by rw[l];exact rel.val k)
  obtain⟨p,hp,hp2⟩:=Option.map_eq_some_iff.mp hw;refine wpAny_getItem_heap (tupleKind_room_in1 hu) (eU I.hok eb) dd hp ?_;rw[hp2];exact h w' _ (I.tok _) rw'
theorem Gq(hu:A.units+1 < cLine)(I:Inv X pins σ H s)(g:DGet H a y o)(ry:RelV y u)(h:∀s',Inv X pins σ H s'->Q (.bool o.isSome) s') :
  wpAny (model X.prog X.w) A (compareOp .In u (.ref a)) Q E s:=by
 rcases g with ⟨kvs,k,e,ey,l⟩|⟨kvs,k,b,e,ey,eb,l⟩
 ·subst ey;obtain⟨z,hd,vs,rel,dd⟩:=gP I.hok e;refine wpAny_in_of (iQ ry) hd dd.mapOf ?_;rw[<-(rel.val k).isSome_eq,<-l];exact h _ (I.tok _)
 ·subst ey;cases (show u=Value.ref b from ry);obtain⟨z,hd,xs,rel,dd⟩:=j1 I.hok e;refine wpAny_in_heap (tupleKind_room_in1 hu) (eU I.hok eb) hd dd ?_;have q:=(rel.val k).isSome_eq;rw[Option.isSome_map]at q;rw[<-q,<-l];exact h _ (I.tok _)
theorem uk(hu:A.units+1 < cLine)(I:Inv X pins σ H s)(g:DGet H a y o)(ry:RelV y u)(h:∀s',Inv X pins σ H s'->Q (.bool (!o.isSome)) s') :
  wpAny (model X.prog X.w) A (compareOp .NotIn u (.ref a)) Q E s:=by
 rcases g with ⟨kvs,k,e,ey,l⟩|⟨kvs,k,b,e,ey,eb,l⟩
 ·subst ey;obtain⟨z,hd,vs,rel,dd⟩:=gP I.hok e;refine wpAny_notIn_of (iQ ry) hd dd.mapOf ?_;rw[<-(rel.val k).isSome_eq,<-l];exact h _ (I.tok _)
 ·subst ey;cases (show u=Value.ref b from ry);obtain⟨z,hd,xs,rel,dd⟩:=j1 I.hok e;refine wpAny_notIn_heap (tupleKind_room_in1 hu) (eU I.hok eb) hd dd ?_;have q:=(rel.val k).isSome_eq;rw[Option.isSome_map]at q;rw[<-q,<-l];exact h _ (I.tok _)
theorem g7{h':Heap}(I:Inv X pins σ H s)(mu:Mut (H a))(hs:Heap.SameBut a s.heap h')(he:∃q,h'.get? a=some q)(new:ObjOk X.prog X.w (upd H a ob) h' a ob) :
  Inv X pins σ (upd H a ob) {s with heap:=h',toks:=t'}:=
 I.write (x:=a) (e:=a) mu (.inl rfl) (fun b q hb z=>(hs.2 b hb).trans z) he new
theorem vC{h':Heap}{kvs:List (Key×V)}(z:kvs.length<=sizeLine)(hd:(a == sysModules)=false)(rel:KV kvs vs)(dd:h'.DictOf (au P w) a vs) :
  ObjOk P w H' h' a (.dK kvs):=⟨z,hd,vs,rel,dd⟩
theorem pB(hu:A.units+1 < cLine)(I:Inv X pins σ H s)(g:DPut H a y v H')(ry:RelV y u)(rv:RelV v r)(h:∀s',Inv X pins σ H' s'->Q () s') :
  wpAny (model X.prog X.w) A (setItem (.ref a) u r) Q E s:=by
 rcases g with ⟨kvs,k,e,ey,l,eH⟩|⟨kvs,k,b,e,ey,eb,l,eH⟩
 ·subst ey eH;obtain⟨z,hd,vs,rel,dd⟩:=qA I.hok e;have hz:vs.length<=sizeLine:=by rw[<-rel.length];exact z
  have hl:(dO kvs k v).length<=sizeLine:=by have:=gz kvs k v;omega
  refine wpAny_setItem_pairs (hsz:=hz) (iQ ry) dd fun h' dd' hs=>h _ ?_
  have he:∃q,h'.get? a=some q:=let ⟨q,_,_,hq,_⟩:=dd';⟨q,hq⟩
  exact g7 I (by rw[e];exact True.intro) hs he (vC hl hd (rel.put k rv) dd')
 ·subst ey eH;cases (show u=Value.ref b from ry);obtain⟨z,hd,xs,rel,dd⟩:=CW I.hok e;have hz:xs.length<=sizeLine:=by rw[<-Paired.length rel];exact z
  have hl:(dO kvs k v).length<=sizeLine:=by have:=gz kvs k v;omega
  refine wpAny_setItem_heap (hsz:=hz) (tupleKind_room_in1 hu) (eU I.hok eb) dd fun h' dd' hs=>h _ ?_
  obtain⟨q,es,ep,hq,h2,h3,h4,_,h5⟩:=dd';refine g7 I (by rw[e];exact True.intro) hs ⟨q,hq⟩ ⟨hl,hd,_,(rel.put k eb rv).keeps fun c ys ec=>?_,q,es,ep,hq,h2,h3,h4,h5⟩
  rw[ae (cY ec e (fun z=>nomatch z))]
  exact ec
end
section
variable {X:Cx}{s:Shared}{a:Addr}{kvs:List (Key×V)}{A:Around}
end
section
variable {X:Cx}{o:Expr}{pos:Pos}
end
section
variable {X:Cx}
end
structure M1 (X:Cx)(o:Expr)(m:Str)(apos:Pos)(e:Expr)(cpos:Pos):Prop where
 base:attributeBase o m X.env (eval o X.env)=eval o X.env
 few:((backTo cpos (starEach [e] X.env)).all (fun x=>!x.1)&&(backToKw cpos (keywordEach [] X.env)).all (fun x=>x.1.isSome)
  &&decide (([e]:List Expr).length+([]:List Keyword).length+(if ([]:List Keyword).isEmpty then 0 else 1) < 30))=true
 line:(apos.endLine == cpos.line)=true
 trees:backTo cpos (starEach [e] X.env)=[(false,eval e X.env)]
structure M2 (X:Cx)(o:Expr)(m:Str)(apos:Pos)(e f:Expr)(cpos:Pos):Prop where
 base:attributeBase o m X.env (eval o X.env)=eval o X.env
 few:((backTo cpos (starEach [e,f] X.env)).all (fun x=>!x.1)&&(backToKw cpos (keywordEach [] X.env)).all (fun x=>x.1.isSome)
  &&decide (([e,f]:List Expr).length+([]:List Keyword).length+(if ([]:List Keyword).isEmpty then 0 else 1) < 30))=true
 line:(apos.endLine == cpos.line)=true
 trees:backTo cpos (starEach [e,f] X.env)=[(false,eval e X.env),(false,eval f X.env)]
section
variable {X:Cx}{s:Shared}{a:Addr}{y d:V}{o:Option V}{A:Around}
theorem we(hu:A.units+1 < cLine)(I:Inv X pins σ H s)(g:DGet H a y o)(ry:RelV y u)(h:∀w' s',Inv X pins σ H s'->RelV (o.getD .non) w'->Q w' s') :
  wpAny (model X.prog X.w) A (call (.builtin "dict.get") [.ref a,u]) Q E s:=by
 rcases g with ⟨kvs,k,e,ey,l⟩|⟨kvs,k,b,e,ey,eb,l⟩
 ·subst ey;obtain⟨z,hd,vs,rel,dd⟩:=gP I.hok e;refine call_meetsIn PySem.F.slot_dict_get dd.typeIs PySem.F.entry_dict_get (PySem.F.args_dict_get_2 _ _) (meets_dict_get (au X.prog X.w) a (iQ ry) hd) ⟨_,dd.mapOf,h _ _ (I.tok _) ?_⟩;rw[l];exact (rel.val k).getD rfl
 ·subst ey;cases (show u=Value.ref b from ry);obtain⟨z,hd,xs,rel,dd⟩:=j1 I.hok e;refine call_meetsIn PySem.F.slot_dict_get dd.typeIs PySem.F.entry_dict_get (PySem.F.args_dict_get_2 _ _) (meetsH_dict_get (tupleKind (au X.prog X.w)) a b hd) ⟨tupleKind_room_in1 hu,k,xs,eU I.hok eb,dd,h _ _ (I.tok _) ?_⟩;rw[l];exact (rel.val k).getD rfl
theorem yE(hu:A.units+1 < cLine)(I:Inv X pins σ H s)(g:DGet H a y o)(ry:RelV y u)(rd:RelV d r)(h:∀w' s',Inv X pins σ H s'->RelV (o.getD d) w'->Q w' s') :
  wpAny (model X.prog X.w) A (call (.builtin "dict.get") [.ref a,u,r]) Q E s:=by
 rcases g with ⟨kvs,k,e,ey,l⟩|⟨kvs,k,b,e,ey,eb,l⟩
 ·subst ey;obtain⟨z,hd,vs,rel,dd⟩:=gP I.hok e;refine call_meetsIn PySem.F.slot_dict_get dd.typeIs PySem.F.entry_dict_get (PySem.F.args_dict_get_3 _ _ _) (meets_dict_get_default (au X.prog X.w) a (iQ ry) hd r) ⟨_,dd.mapOf,h _ _ (I.tok _) ?_⟩;rw[l];exact (rel.val k).getD rd
 ·subst ey;cases (show u=Value.ref b from ry);obtain⟨z,hd,xs,rel,dd⟩:=j1 I.hok e;refine call_meetsIn PySem.F.slot_dict_get dd.typeIs PySem.F.entry_dict_get (PySem.F.args_dict_get_3 _ _ _) (meetsH_dict_get_default (tupleKind (au X.prog X.w)) a b hd r) ⟨tupleKind_room_in1 hu,k,xs,eU I.hok eb,dd,h _ _ (I.tok _) ?_⟩;rw[l];exact (rel.val k).getD rd
end
section
variable {X:Cx}{o:Expr}
end
section
variable {X:Cx}{s:Shared}{a:Addr}{kvs:List (Key×V)}{A:Around}
end
section
variable {X:Cx}{s:Shared}{a:Addr}{y:V}{A:Around}
end
end L2
namespace HT
open PySem PyProof.Rows
section
open PySem.SeqAt
open PySem.AutoSeq1 (wpAny_loadPart')
open PySem.MeetsSeq PySem.MeetsSeq2 PySem.MeetsSeq3
end
section
variable {w:World}{A:Around}{s:Shared}
theorem cat_tup{vs ws:List Value}(ht:IsTup s.heap t vs.toArray)(hb:IsTup s.heap b ws.toArray)(hv:vs≠[])
  (h1:ws=[]->Q (.ref t) s) (h2:ws≠[]->Q (.ref s.heap.objs.size) {s with heap:=s.heap.push {cls:=.type "tuple",data:=.seq (vs++ws).toArray}})
  (hsz:vs.length+ws.length<=sizeLine):wpAny (model prog w) A (binaryOp .Add (.ref t) (.ref b)) Q E s:=by
 obtain⟨⟨cls,dd,data,sl⟩,ho,hc,n,hd⟩:=id ht;obtain⟨⟨cls2,dd2,data2,sl2⟩,ho2,hc2,n2,hd2⟩:=id hb;simp only at hc hd hc2 hd2;subst hc hd hc2 hd2;have e:vs.toArray++ws.toArray=(vs++ws).toArray:=by simp
 by_cases hw:ws=[]
 ·exact concat_meets ⟨_,ho,rfl⟩ ⟨_,ho2,rfl⟩ noFill_tuple_add seq_tuple_add PySem.F.slot_tuple_add PySem.F.entry_tuple_add (PySem.F.args_tuple_add_2 _ _)
   (tuple_addW1 t b vs.toArray ws.toArray n n2 dd dd2 sl sl2 (by simpa using hv) (by simp[hw])) ⟨ho,ho2,h1 hw⟩
 ·refine concat_meets ⟨_,ho,rfl⟩ ⟨_,ho2,rfl⟩ noFill_tuple_add seq_tuple_add PySem.F.slot_tuple_add PySem.F.entry_tuple_add (PySem.F.args_tuple_add_2 _ _)
   (tuple_addW2 t b vs.toArray ws.toArray n n2 dd dd2 sl sl2 (by simpa using hv) (by simpa using hw) (by rw[List.size_toArray,List.size_toArray];exact hsz)) ⟨ho,ho2,?_⟩
  rw[e];exact h2 hw
noncomputable def sIx(n d:Nat):Option Int->Nat
 |none=>d
 |some v=>if v < 0 then (v+(n:Int)).toNat else min v.toNat n
theorem sIx_none(n d:Nat):sIx n d none=d:=rfl
theorem sIx_nat(n d k:Nat):sIx n d (some (k:Int))=min k n:=by
 show (if (k:Int) < 0 then ((k:Int)+(n:Int)).toNat else min (k:Int).toNat n)=min k n
 rw[if_neg (by omega),Int.toNat_natCast]
theorem zo(n d:Nat)(hd:d<=n)(o:Option Int):sIx n d o<=n:=by
 cases o with
 |none=>exact hd
 |some v=>
  show (if v < 0 then (v+(n:Int)).toNat else min v.toNat n)<=n
  by_cases hv:v < 0
  ·rw[if_pos hv];omega
  ·rw[if_neg hv];exact Nat.min_le_right _ _
theorem nQ(v:Int)(n d:Nat):(if v < 0 then max (v+(n:Int)) 0 else min v (n:Int))=((sIx n d (some v):Nat):Int):=by
 show (if v < 0 then max (v+(n:Int)) 0 else min v (n:Int))=(((if v < 0 then (v+(n:Int)).toNat else min v.toNat n):Nat):Int)
 by_cases hv:v < 0
 ·simp only[if_pos hv];omega
 ·simp only[if_neg hv];omega
theorem my(lo hi:Option Int)(n:Nat):Builtin.Slice.sliceAdjust lo hi 1 (n:Int)=(((sIx n 0 lo:Nat):Int),((sIx n n hi:Nat):Int)):=by
 have h1:¬ ((1:Int) < 0):=by omega
 unfold Builtin.Slice.sliceAdjust;simp only[h1,if_false];refine Prod.ext ?_ ?_
 ·cases lo with
  |none=>rfl
  |some v=>exact nQ v n 0
 ·cases hi with
  |none=>rfl
  |some v=>exact nQ v n n
theorem mP(i j:Nat):Builtin.Slice.slicePlaces (i:Int) (j:Int) 1=j - i:=by
 unfold Builtin.Slice.slicePlaces;have h1:(1:Int) > 0:=by omega
 simp only[h1,if_true,Int.ediv_one];split<;>omega
theorem jo(p:IsPart v o)(h:Q o s):wpAny (model prog w) A (Builtin.Slice.slicePartIndex v) Q E s:=by
 cases p with
 |none=>exact slicePart_none h
 |int i t=>exact slicePart_int h
theorem gi{sl:Addr}{vl vu:Value}{lo hi:Option Int}{n:Nat}{Q:Int×Int×Nat->Shared->Prop}(hs:s.heap.IsSliceOf sl vl vu .none)(pl:IsPart vl lo)(pu:IsPart vu hi)
  (h:Q (((sIx n 0 lo:Nat):Int),1,sIx n n hi - sIx n 0 lo) s):wpAny (model prog w) A (Builtin.Slice.sliceApplied (.ref sl) (pure (n:Int))) Q E s:=by
 obtain⟨os,hos,hcs,hds⟩:=id hs;unfold Builtin.Slice.sliceApplied Builtin.Slice.sliceFields;refine wpAny_bind (wpAny_bind (wpAny_field hos hds (x:=vl) rfl (wpAny_bind (wpAny_field hos hds (x:=vu) rfl (wpAny_bind (wpAny_field hos hds (x:=.none) rfl (wpAny_pure ?_)))))));refine wpAny_bind (slicePart_none ?_);show wpAny _ _ (if ((1:Int) == 0)=true then _ else _) _ _ s
 rw[if_neg (by decide)]
 refine wpAny_bind (jo pl (wpAny_bind (jo pu (wpAny_bind (wpAny_pure ?_)))));show wpAny _ _ (match Builtin.Slice.sliceAdjust lo hi 1 (n:Int) with|(lo,hi)=>pure (lo,(1:Int),Builtin.Slice.slicePlaces lo hi 1)) _ _ s
 rw[my lo hi n];show wpAny _ _ (pure (((sIx n 0 lo:Nat):Int),(1:Int),Builtin.Slice.slicePlaces ((sIx n 0 lo:Nat):Int) ((sIx n n hi:Nat):Int) 1)) _ _ s;rw[mP];exact wpAny_pure h
theorem p9(xs:Array Value)(i k:Nat):((List.range k).filterMap fun (m:Nat)=>xs[((i:Int)+(m:Int) * 1).toNat]?).toArray=((xs.toList.drop i).take k).toArray:=by
 have e:(fun (m:Nat)=>xs[((i:Int)+(m:Int) * 1).toNat]?)=fun m=>xs[i+m]?:=by
  funext m;have:((i:Int)+(m:Int) * 1).toNat=i+m:=by omega
  rw[this]
 rw[e];have:=pick_run xs i k;rw[List.filterMap_map]at this;have e2:((fun x=>xs[x]?)∘fun x=>i+x)=fun m=>xs[i+m]?:=rfl
 rw[e2]at this;rw[this]
theorem getItem_tuple_cut{items:Array Value}{lo:Option Int}(ht:IsTup s.heap t items)(hs:s.heap.IsSliceOf sl vl vu .none)(pl:IsPart vl lo)(pu:IsPart vu hi)
  (hw:¬ (sIx items.size 0 lo=0/\sIx items.size items.size hi=items.size))
  (h:Q (.ref s.heap.objs.size) {s with heap:=s.heap.push {cls:=.type "tuple",data:=.seq ((items.toList.drop (sIx items.size 0 lo)).take (sIx items.size items.size hi - sIx items.size 0 lo)).toArray}})
  (hsz:items.size<=sizeLine):wpAny (model prog w) A (getItem (.ref t) (.ref sl)) Q E s:=by
 have htake:sizeOk (.seq ((items.toList.drop (sIx items.size 0 lo)).take (sIx items.size items.size hi - sIx items.size 0 lo)).toArray):=by
  show ((items.toList.drop (sIx items.size 0 lo)).take (sIx items.size items.size hi - sIx items.size 0 lo)).toArray.size<=sizeLine;rw[List.size_toArray,List.length_take,List.length_drop,Array.length_toList];omega
 have hj:sIx items.size items.size hi<=items.size:=zo _ _ (Nat.le_refl _) hi;obtain⟨os,hos,hcs,hds⟩:=id hs;have hTs:s.TypeIs (.ref sl) "slice":=⟨os,hos,hcs⟩;unfold getItem
 try with_reducible refine wpAny_holding ?_
 first|refine wpAny_bind (wpAny_pure ?_)|skip
 refine wpAny_bind (wpAny_sequenceKey ht.typeIs (by decide) ?_)
 refine wpAny_bind (wpAny_callSpecial?_slot (name:=Str.ofString "__getitem__") ht.typeIs PyProof.Rows.slot_tuple_getitem
  (wpAny_call_entry PyProof.Rows.slot_tuple_getitem ht.typeIs entry_tuple_getitem ?_ (args_tuple_getitem _ _)))
 show wpAny _ _ (Builtin.Tuple.tupleItemsOf (.ref t) >>=_) _ _ s;refine wpAny_bind (tupleItemsOf_ ht ?_);refine wpAny_bind (wpAny_typeOf hTs ?_);rw[if_pos (by decide)]
 refine wpAny_bind (gi hs pl pu ?_);have hno:¬ ((((sIx items.size 0 lo:Nat):Int) == 0&&(1:Int) == 1&&(sIx items.size items.size hi - sIx items.size 0 lo) == items.size)=true):=by
  intro q;rw[Bool.and_eq_true,Bool.and_eq_true]at q;have q1:((sIx items.size 0 lo:Nat):Int)=0:=eq_of_beq q.1.1;have q2:sIx items.size items.size hi - sIx items.size 0 lo=items.size:=eq_of_beq q.2;exact hw ⟨by omega,by omega⟩
 show wpAny _ _ (if (((sIx items.size 0 lo:Nat):Int) == 0&&(1:Int) == 1&&(sIx items.size items.size hi - sIx items.size 0 lo) == items.size)=true then _ else _) _ _ s
 rw[if_neg hno,p9]
 first
  |exact wpAny_bind (m:=Builtin.Tuple.tupleExact _) (wpAny_newObj_type (wpAny_pure ⟨_,rfl,wpAny_pure h⟩) htake)
  |exact wpAny_bind (m:=Builtin.Tuple.tupleExact _) (wpAny_newObj_type (wpAny_bind (wpAny_pure (wpAny_pure ⟨_,rfl,wpAny_pure h⟩))) htake)
  |exact wpAny_bind (wpAny_bind (m:=Builtin.Tuple.tupleExact _) (wpAny_newObj_type (wpAny_pure (wpAny_pure ⟨_,rfl,wpAny_pure h⟩)) htake))
  |exact wpAny_bind (wpAny_bind (m:=Builtin.Tuple.tupleExact _) (wpAny_newObj_type (wpAny_pure ⟨_,rfl,wpAny_pure h⟩) htake))
end
end HT
namespace L2
open PySem PySem.Spec PyProof.Rows
noncomputable abbrev TO:=St->Hp->(Option Int->Hp->Prop)->Prop
noncomputable def PO(X:Cx)(e:Option Expr)(t:TO):Prop:=
 ∀(pins:List (Addr×Obj)) (s:Shared)(σ:St)(H:Hp)(Q:Option Int->Hp->Prop),Inv X pins σ H s->t σ H Q->
  wpAny (model X.prog X.w) X.A (evalPart e X.env) (fun u s'=>∃o H',Inv X pins σ H' s'/\IsPart u o/\Q o H') X.xe s
noncomputable def tNoPart:TO:=fun _ H Q=>Q none H
noncomputable def A3(t:TE):TO:=fun σ H Q=>t σ H fun x H1=>∃i,x=.int i/\Q (some i) H1
section
variable {X:Cx}{lo:Option Expr}
theorem po_none:PO X none tNoPart:=by
 intro pins s σ H Q I h;rw[evalPart_none];exact wpAny_pure ⟨none,H,I,.none,h⟩
theorem sN(h:PE X e te):PO X (some e) (A3 te):=by
 intro pins s σ H Q I hw;rw[evalPart_some];refine thn (h pins s σ H _ I hw) fun u s1 ⟨x,H1,I1,r1,q1⟩=>?_
 obtain⟨i,rfl,q⟩:=q1;obtain⟨t,rfl⟩:=r1;exact⟨some i,H1,I1,.int i t,q⟩
noncomputable def SlR(X:Cx)(r:V->Option Int->Option Int->Hp->VK->Prop):Prop:=
 ∀(pins:List (Addr×Obj)) (s:Shared)(σ:St)(H:Hp)(x:V)(v vl vu:Value)(lo hi:Option Int)(sl:Addr)(Q:VK),Inv X pins σ H s->RelV x v->s.heap.IsSliceOf sl vl vu .none->IsPart vl lo->IsPart vu hi->r x lo hi H Q->
  ∃T id,typeLookup (.type T) "__getitem__"=pure (some (.builtin id))/\s.TypeIs v T/\wpAny (model X.prog X.w) X.A (getItem v (.ref sl)) (EP X pins σ Q) X.xe s
theorem SlR.or(h:SlR X r)(h':SlR X r'):SlR X (fun x lo hi H Q=>r x lo hi H Q\/r' x lo hi H Q):=by
 intro pins s σ H x v vl vu lo hi sl Q I rx hs pl pu q;rcases q with q|q
 ·exact h pins s σ H x v vl vu lo hi sl Q I rx hs pl pu q
 ·exact h' pins s σ H x v vl vu lo hi sl Q I rx hs pl pu q
noncomputable def tSl(r:V->Option Int->Option Int->Hp->VK->Prop)(te:TE)(tl th:TO):TE:=fun σ H Q=>te σ H fun x H1=>tl σ H1 fun l H2=>th σ H2 fun u H3=>r x l u H3 Q
theorem se(hr:SlR X r)(he:PE X e te)(hl:PO X lo tl)(hu:PO X hi th):PE X (.Subscript e (.Slice lo hi none p2) pos) (tSl r te tl th):=by
 intro pins s σ H Q I h;refine Subscript_ (thn (he pins s σ H _ I h) fun v s1 ⟨x,H1,I1,r1,q1⟩=>?_)
 refine wpAny_Slice (thn (hl pins s1 σ H1 _ I1 q1) fun vl s2 ⟨l,H2,I2,pl,q2⟩=>thn (hu pins s2 σ H2 _ I2 q2) fun vu s3 ⟨u,H3,I3,pu,q3⟩=>?_)
 rw[evalPart_none];refine wpAny_pure ?_;have I4:Inv X pins σ H3 {s3 with heap:=s3.heap.push {cls:=.type "slice",data:=.fields #[vl,vu,.none]}}:=I3.kept (t':=s3.toks) fun b ob q=>Heap.get?_push_of_some _ q
 obtain⟨T,id,hT,ht,hg⟩:=hr pins {s3 with heap:=s3.heap.push {cls:=.type "slice",data:=.fields #[vl,vu,.none]}} σ H3 x v vl vu l u s3.heap.objs.size Q I4 r1 (Heap.IsSliceOf.new ..) pl pu q3
 show wpAny (model X.prog X.w) X.A (subscriptTail e (.Slice lo hi none p2) v (.ref s3.heap.objs.size)) (EP X pins σ Q) X.xe {s3 with heap:=s3.heap.push {cls:=.type "slice",data:=.fields #[vl,vu,.none]}}
 exact tail_any (ops:=[.ref s3.heap.objs.size,v]) ht hT hg (by with_unfolding_all rfl)
noncomputable def mW(xs:List V)(lo hi:Option Int):List V:=(xs.drop (HT.sIx xs.length 0 lo)).take (HT.sIx xs.length xs.length hi - HT.sIx xs.length 0 lo)
theorem gR(xs:List V)(lo hi:Option Int):(mW xs lo hi).length<=xs.length:=by
 unfold mW;rw[List.length_take,List.length_drop];omega
noncomputable def G6(K:PySem.W.Frag):V->Option Int->Option Int->Hp->VK->Prop:=fun x lo hi H Q=>∃a xs,x=.ref a/\SqT K H a xs/\
 ¬ (HT.sIx xs.length 0 lo=0/\HT.sIx xs.length xs.length hi=xs.length)/\∀p,H p=none->Q (.ref p) (upd H p (.tup (mW xs lo hi)))
theorem zq:SlR X (G6 X.K):=by
 intro pins s σ H x v vl vu lo hi sl Q I rx hs pl pu h;obtain⟨a,xs,rfl,hx,hw,q⟩:=h;cases rx;obtain⟨its,r,ht,hz⟩:=I.tuple hx;have hlen:its.toArray.size=xs.length:=by rw[List.size_toArray];exact r.length.symm
 refine⟨"tuple",_,PyProof.Rows.slot_tuple_getitem.lookup,ht.typeIs,?_⟩;refine HT.getItem_tuple_cut ht hs pl pu (by rw[hlen];exact hw) ?_ (by rw[hlen];exact hz)
 rw[hlen];refine⟨.ref s.heap.objs.size,_,I.laid (t':=s.toks) (o:=.tup (mW xs lo hi)) (fun b ob q=>Heap.get?_push_of_some _ q) (Nat.le_refl _) ?_,rfl,q _ (I.hok.fresh (Nat.le_refl _))⟩
 exact⟨Nat.le_trans (gR xs lo hi) hz,_,(r.drop (HT.sIx xs.length 0 lo)).take (HT.sIx xs.length xs.length hi - HT.sIx xs.length 0 lo),IsTup.new _ _⟩
noncomputable def Dt(K:PySem.W.Frag):R2:=fun x y H Q=>∃a b xs ys,x=.ref a/\y=.ref b/\SqT K H a xs/\SqT K H b ys/\xs≠[]/\xs.length+ys.length<=sizeLine/\
 (ys=[]->Q (.ref a) H)/\(ys≠[]->∀p,H p=none->Q (.ref p) (upd H p (.tup (xs++ys))))
theorem Vals.nil_iff(r:Vals xs us):us=[]<->xs=[]:=by
 cases r with
 |nil=>simp
 |cons _ _=>simp
theorem uK:OpR X (binaryOp .Add) (Dt X.K):=by
 intro pins s σ H x y v u Q I rx ry h;obtain⟨a,b,xs,ys,rfl,rfl,ha,hb,hx,hz,q1,q2⟩:=h;cases rx;cases ry;obtain⟨its,r1,p1,_⟩:=I.tuple ha;obtain⟨its2,r2,p2,_⟩:=I.tuple hb;refine HT.cat_tup p1 p2 (fun z=>hx (r1.nil_iff.mp z)) (fun z=>⟨.ref a,H,I,rfl,q1 (r2.nil_iff.mp z)⟩) (fun z=>?_) (by rw[<-r1.length,<-r2.length];exact hz)
 refine⟨.ref s.heap.objs.size,_,I.laid (t':=s.toks) (o:=.tup (xs++ys)) (fun b ob q=>Heap.get?_push_of_some _ q) (Nat.le_refl _) ?_,rfl,q2 (fun w=>z (r2.nil_iff.mpr w)) _ (I.hok.fresh (Nat.le_refl _))⟩
 exact⟨by rw[List.length_append];exact hz,_,r1.append r2,IsTup.new _ _⟩
end
end L2
namespace L2
open PySem PySem.Spec PyProof.Rows
noncomputable def ixN(n:Nat)(i:Int):Option Nat:=if 0<=i then (if i < n then some i.toNat else none) else if -(n:Int)<=i then some (i+n).toNat else none
noncomputable def atI(xs:List α)(i:Int):Option α:=(ixN xs.length i).bind fun j=>xs[j]?
theorem nZ(h:ixN n i=some j):seqIndex? i n=some j/\j < n/\-(n:Int)<=i/\i < n:=by
 unfold ixN at h;by_cases h0:0<=i
 ·rw[if_pos h0]at h;by_cases h1:i < n
  ·rw[if_pos h1]at h;have e:i.toNat=j:=Option.some.inj h;exact⟨by rw[seqIndex_of h0 h1,e],by omega,by omega,h1⟩
  ·rw[if_neg h1]at h;cases h
 ·rw[if_neg h0]at h;by_cases h1 : -(n:Int)<=i
  ·rw[if_pos h1]at h;have e:(i+n).toNat=j:=Option.some.inj h;exact⟨by rw[seqIndex_neg (by omega) h1,e],by omega,h1,by omega⟩
  ·rw[if_neg h1]at h;cases h
theorem lc{xs:List α}(h:atI xs i=some v):∃j,seqIndex? i xs.length=some j/\xs[j]?=some v/\j < xs.length/\-(xs.length:Int)<=i/\i < xs.length:=by
 unfold atI at h;cases e:ixN xs.length i with
 |none=>rw[e]at h;cases h
 |some j=>
  rw[e]at h;obtain⟨h1,h2,h3,h4⟩:=nZ e;exact⟨j,h1,h,h2,h3,h4⟩
theorem bC{α:Type}{xs:List α}{j:Nat}{v:α}(h:xs[j]?=some v):atI xs (j:Int)=some v:=by
 have hj:j < xs.length:=(List.getElem?_eq_some_iff.mp h).1;have e:ixN xs.length (j:Int)=some j:=by
  unfold ixN;rw[if_pos (by omega),if_pos (by omega)];simp
 unfold atI;rw[e];exact h
noncomputable def kz(b:Expr):Prop:=∀o i,subscripted b false o i=operate [o,i] (getItem o i)
noncomputable def IxR(X:Cx)(r:R2):Prop:=
 ∀(value slice:Expr) (pins:List (Addr×Obj)) (s:Shared)(σ:St)(H:Hp)(x y:V)(v u:Value)(Q:VK),Inv X pins σ H s->RelV x v->RelV y u->r x y H Q->
  subscripted slice false v u=operate [v,u] (getItem v u)->wpAny (model X.prog X.w) X.A (subscriptTail value slice v u) (EP X pins σ Q) X.xe s
noncomputable def MtR(X:Cx)(id:String)(r:V->List V->Hp->VK->Prop):Prop:=
 ∀(pins:List (Addr×Obj)) (s:Shared)(σ:St)(H:Hp)(x:V)(xs:List V)(v:Value)(us:List Value)(Q:VK),Inv X pins σ H s->RelV x v->Vals xs us->r x xs H Q->
  wpAny (model X.prog X.w) X.A (call (.builtin id) (v::us)) (EP X pins σ Q) X.xe s
section
variable {X:Cx}{a:Expr}
theorem IxR.or(h:IxR X r)(h':IxR X r'):IxR X (fun x y H Q=>r x y H Q\/r' x y H Q):=by
 intro value slice pins s σ H x y v u Q I rx ry q hs;rcases q with q|q
 ·exact h value slice pins s σ H x y v u Q I rx ry q hs
 ·exact h' value slice pins s σ H x y v u Q I rx ry q hs
theorem MtR.or{id:String}(h:MtR X id r)(h':MtR X id r'):MtR X id (fun x xs H Q=>r x xs H Q\/r' x xs H Q):=by
 intro pins s σ H x xs v us Q I rx rs q;rcases q with q|q
 ·exact h pins s σ H x xs v us Q I rx rs q
 ·exact h' pins s σ H x xs v us Q I rx rs q
theorem Dw(hr:IxR X r)(ha:PE X a ta)(hb:PE X b tb)(hs:kz b):PE X (.Subscript a b pos) (tOp r ta tb):=by
 intro pins s σ H Q I h;exact Subscript_ (vU ha hb I h fun v u s2 x y H2 I2 rx ry q=>hr a b pins s2 σ H2 x y v u Q I2 rx ry q (hs _ _))
noncomputable def Bw(K:PySem.W.Frag):R2:=fun x y H Q=>∃p xs i v,x=.ref p/\y=.int i/\SqL K H p xs/\atI xs i=some v/\Q v H
noncomputable def Cq(K:PySem.W.Frag):R2:=fun x y H Q=>∃p xs i v,x=.ref p/\y=.int i/\SqT K H p xs/\atI xs i=some v/\Q v H
noncomputable def rIxS:R2:=fun x y H Q=>∃z i c,x=.str z/\y=.int i/\z.length<=sizeLine/\atI z.cps.toList i=some c/\Q (.str ⟨#[c]⟩) H
theorem ix_list:IxR X (Bw X.K):=by
 intro value slice pins s σ H x y v u Q I rx ry h hs;obtain⟨p,xs,i,z,rfl,rfl,hq,he,q⟩:=h;cases rx;obtain⟨t,rfl⟩:=ry;obtain⟨its,r,pl,hz⟩:=I.list hq;obtain⟨j,h1,h2,h3,h4,h5⟩:=lc he;obtain⟨w,ew,rw'⟩:=r.get h2;have hl:=r.length;have hn:=gj;have fin:EP X pins σ Q w s:=⟨z,H,I,rw',q⟩;by_cases h0:0<=i
 ·have hj:i.toNat=j:=by
   rw[seqIndex_of h0 h5]at h1;exact Option.some.inj h1
  exact item_listR pl.isList h0 (by omega) (by rw[hj];simpa using ew) fin hs
 ·have hj:(i+(its.toArray.size:Int)).toNat=j:=by
   rw[seqIndex_neg (by omega) h4]at h1
   rw[List.size_toArray,<-hl];exact Option.some.inj h1
  exact subscriptTail_builtinR (x:=w) pl.isList.typeIs slot_list_getitem.lookup
   (wpAny_getItem_list_neg (Q:=fun r s'=>r=w/\EP X pins σ Q r s') pl.isList (by omega) (by rw[List.size_toArray]<;>omega) (by omega) (by rw[hj];simpa using ew) ⟨rfl,fin⟩) hs
theorem ix_tup:IxR X (Cq X.K):=by
 intro value slice pins s σ H x y v u Q I rx ry h hs;obtain⟨p,xs,i,z,rfl,rfl,hq,he,q⟩:=h;cases rx;obtain⟨t,rfl⟩:=ry;obtain⟨its,r,pl,hz⟩:=I.tuple hq;obtain⟨j,h1,h2,h3,h4,h5⟩:=lc he;obtain⟨w,ew,rw'⟩:=r.get h2;have hl:=r.length;have hn:=gj;have fin:EP X pins σ Q w s:=⟨z,H,I,rw',q⟩;exact subscriptTail_builtinR (x:=w) pl.typeIs slot_tuple_getitem.lookup
  (getItem_tuple (j:=j) (Q:=fun r s'=>r=w/\EP X pins σ Q r s') pl (by omega) (by omega) (by rw[List.size_toArray,<-hl];exact h1) (by simpa using ew) ⟨rfl,fin⟩) hs
theorem zp:IxR X rIxS:=by
 intro value slice pins s σ H x y v u Q I rx ry h hs;obtain⟨z,i,c,rfl,rfl,hz,he,q⟩:=h;obtain⟨t,rfl⟩:=rx;obtain⟨t',rfl⟩:=ry;obtain⟨j,h1,h2,h3,h4,h5⟩:=lc he;have hl:z.cps.toList.length=z.length:=by simp[Str.length]
 rw[hl]at h1 h4 h5;have hn:=gj;exact tail_any (typeIs_str s z t) slot_str_getitem.lookup (getItem_str (c:=c) (by
  have e1:decide (i < -(2 ^ 63:Int))=false:=decide_eq_false (by omega)
  have e2:decide (i>=2 ^ 63)=false:=decide_eq_false (by omega)
  rw[e1,e2,Bool.or_false]) (by rw[h1];simpa using h2) ⟨.str ⟨#[c]⟩,H,I.tok _,⟨_,rfl⟩,q⟩) hs
noncomputable def rIx(K:PySem.W.Frag):R2:=fun x y H Q=>Bw K x y H Q\/Cq K x y H Q\/rIxS x y H Q
theorem xy:IxR X (rIx X.K):=ix_list.or (ix_tup.or zp)
theorem m7(its:List Value)(n j:Nat)(u:Value):Obj.mapSeq (·.setIfInBounds j u) {cls:=.type "list",data:=.seq its.toArray n}={cls:=.type "list",data:=.seq (its.set j u).toArray n}:=by
 simp[Obj.mapSeq]
theorem Inv.lst{s:Shared}(I:Inv X pins σ H s)(h:H p=some (.lst xs)) :
  ∃(its:List Value) (n:Nat),Vals xs its/\s.heap.get? p=some {cls:=.type "list",data:=.seq its.toArray n}/\xs.length<=sizeLine:=by
 obtain⟨z,its,n,r,e⟩:=I.hok p _ h;exact⟨its,n,r,e,z⟩
theorem Inv.lstUpd{pins:List (Addr×Obj)}{σ:St}{H:Hp}{s:Shared}{p:Addr}{xs ys:List V}{its its':List Value}{n n':Nat}{f:Obj->Obj}(I:Inv X pins σ H s)(h:H p=some (.lst xs))
  (ho:s.heap.get? p=some {cls:=.type "list",data:=.seq its.toArray n}) (hf:f {cls:=.type "list",data:=.seq its.toArray n}={cls:=.type "list",data:=.seq its'.toArray n'}) (r:Vals ys its') (hz:ys.length<=sizeLine) (t:Nat) :
  Inv X pins σ (upd H p (.lst ys)) {s with heap:=s.heap.update p f,toks:=t}:=by
 have e:(s.heap.update p f).get? p=some {cls:=.type "list",data:=.seq its'.toArray n'}:=by
  rw[Heap.get?_update_self f ho (by rw[hf]<;>rfl),hf]
 refine I.write (x:=p) (e:=p) (by rw[h];trivial) (.inl rfl) (fun b u hb q=>(Heap.get?_update_other _ _ (Ne.symm hb)).trans q) ⟨_,e⟩ ?_
 exact⟨hz,its',n',r,e⟩
noncomputable def rSetL:V->V->V->Hp->(Hp->Prop)->Prop:=fun o i v H Q=>∃p xs k j,o=.ref p/\i=.int k/\H p=some (.lst xs)/\ixN xs.length k=some j/\Q (upd H p (.lst (xs.set j v)))
theorem rL:zn X rSetL:=by
 intro pins s σ H o i v ov iv u Q I ro ri rv h;obtain⟨p,xs,k,j,rfl,rfl,hp,hj,q⟩:=h;cases ro;obtain⟨t,rfl⟩:=ri;obtain⟨its,n,r,ho,hz⟩:=I.lst hp;obtain⟨h1,h2,h3,h4⟩:=nZ hj;have hl:=r.length;have hn:=gj;have I':Inv X pins σ (upd H p (.lst (xs.set j v))) {s with heap:=s.heap.update p (Obj.mapSeq (·.setIfInBounds j u))}:=
  I.lstUpd hp ho (m7 its n j u) (r.set rv j) (by rw[List.length_set];exact hz) s.toks
 by_cases h0:0<=k
 ·have hk:k.toNat=j:=by
   rw[seqIndex_of h0 h4]at h1;exact Option.some.inj h1
  exact PySem.W.ki_setAt ho h0 (by omega) (by rw[List.size_toArray,<-hl];exact h4) (by rw[hk];exact⟨_,I',q⟩)
 ·have hk:(k+(its.toArray.size:Int)).toNat=j:=by
   rw[seqIndex_neg (by omega) h3]at h1
   rw[List.size_toArray,<-hl];exact Option.some.inj h1
  exact PySem.W.ki_setBack ho (by omega) (by rw[List.size_toArray,<-hl];exact h3) (by omega) (by rw[hk];exact⟨_,I',q⟩)
theorem kH(lo hi:Option Int)(n:Nat):(sliceBounds lo hi none n).1=((HT.sIx n 0 lo:Nat):Int)/\(sliceBounds lo hi none n).2.1=((HT.sIx n n hi:Nat):Int)/\(sliceBounds lo hi none n).2.2=1:=by
 refine⟨?_,?_,rfl⟩
 ·cases lo with
  |none=>simp[sliceBounds,HT.sIx]
  |some i=>
   simp only[sliceBounds,HT.sIx,Option.getD_none,show (1:Int) > 0 by decide,if_true]
   by_cases h:i < 0
   ·simp only[h,if_true]<;>omega
   ·simp only[h,if_false]<;>omega
 ·cases hi with
  |none=>simp[sliceBounds,HT.sIx]
  |some i=>
   simp only[sliceBounds,HT.sIx,Option.getD_none,show (1:Int) > 0 by decide,if_true]
   by_cases h:i < 0
   ·simp only[h,if_true]<;>omega
   ·simp only[h,if_false]<;>omega
theorem jw(its:List Value)(lo hi:Option Int):slicePick its.toArray lo hi none=((its.drop (HT.sIx its.length 0 lo)).take (HT.sIx its.length its.length hi - HT.sIx its.length 0 lo)).toArray:=by
 obtain⟨h1,h2,h3⟩:=kH lo hi its.toArray.size;unfold slicePick;rw[h1,h2,h3];simp only[sliceRange_one,pick_run,List.size_toArray]<;>rfl
theorem kP:CallR X (.builtin "len") (fun xs H Q=>∃p ys,xs=[.ref p]/\(SqL X.K H p ys\/SqT X.K H p ys)/\Q (.int ys.length) H):=by
 intro pins s σ H xs us Q I r h;obtain⟨p,ys,rfl,hq,q⟩:=h;obtain⟨u,rfl,rx⟩:=j3 r;cases rx;have hn:=gj;rcases hq with hq|hq
 ·obtain⟨its,r',pl,hz⟩:=I.list hq;have hlen:=r'.length;exact Calls.call_len_list pl.isList (by simp only[List.size_toArray]<;>omega) ⟨.int ys.length,H,I.tok _,⟨s.toks+1,by rw[List.size_toArray,hlen]⟩,q⟩
 ·obtain⟨its,r',pl,hz⟩:=I.tuple hq;have hlen:=r'.length;exact len_tuple pl (by simp only[List.size_toArray]<;>omega) ⟨.int ys.length,H,I.tok _,⟨s.toks+1,by rw[List.size_toArray,hlen]⟩,q⟩
theorem kK:CallR X (.builtin "len") (fun xs H Q=>∃z,xs=[.str z]/\z.length<=sizeLine/\Q (.int z.length) H):=by
 intro pins s σ H xs us Q I r h;obtain⟨z,rfl,hz,q⟩:=h;obtain⟨u,rfl,t,rfl⟩:=j3 r;have hn:=gj;exact len_str (by omega) ⟨.int z.length,H,I.tok _,⟨_,rfl⟩,q⟩
theorem CallR.or(h:CallR X f r)(h':CallR X f r'):CallR X f (fun xs H Q=>r xs H Q\/r' xs H Q):=by
 intro pins s σ H xs us Q I rs q;rcases q with q|q
 ·exact h pins s σ H xs us Q I rs q
 ·exact h' pins s σ H xs us Q I rs q
theorem kQ:CallR X (.type "list") (fun xs H Q=>∃p ys,xs=[.ref p]/\(SqL X.K H p ys\/SqT X.K H p ys)/\∀l,H l=none->Q (.ref l) (upd H l (.lst ys))):=by
 intro pins s σ H xs us Q I r h;obtain⟨p,ys,rfl,hq,q⟩:=h;obtain⟨u,rfl,rx⟩:=j3 r;cases rx;have fin:∀(its:List Value),Vals ys its->ys.length<=sizeLine->∀(h':Heap)(c':Nat),(∀b o',s.heap.get? b=some o'->h'.get? b=some o')->
   h'.get? s.heap.objs.size=some {cls:=.type "list",dict:=none,data:=.seq its.toArray c',slots:=#[]}->EP X pins σ Q (.ref s.heap.objs.size) {s with heap:=h'}:=fun its r' hz h' c' kp e=>
  ⟨.ref s.heap.objs.size,_,I.laid (t':=s.toks) kp (Nat.le_refl _) (show ObjOk X.prog X.w _ h' _ (.lst ys) from⟨hz,its,c',r',e⟩),rfl,q _ (I.hok.fresh (Nat.le_refl _))⟩
 rcases hq with hq|hq
 ·obtain⟨its,r',pl,hz⟩:=I.list hq;have hlen:=r'.length;obtain⟨o,ho,hc,n,hd⟩:=pl.isList;exact call_list_seq p (.inl rfl) ho hc hd (fun h' c' kp e=>fin its r' hz h' c' kp e) (by simp only[List.size_toArray]<;>omega)
 ·obtain⟨its,r',pl,hz⟩:=I.tuple hq;have hlen:=r'.length;obtain⟨o,ho,hc,n,hd⟩:=pl;exact call_list_seq p (.inr rfl) ho hc hd (fun h' c' kp e=>fin its r' hz h' c' kp e) (by simp only[List.size_toArray]<;>omega)
noncomputable def tyV(K:PySem.W.Frag)(T:String)(x:V)(H:Hp):Prop:=match x with
 |.str _=>T = "str"
 |.int _=>T = "int"
 |.ref p=>(T = "list"/\∃xs,SqL K H p xs)\/(T = "tuple"/\∃o,K.lookup p=some o/\o.cls=.type "tuple"/\o.dict=none)\/
   (T = "dict"/\((∃kvs,H p=some (.dK kvs))\/∃kvs,H p=some (.dT kvs)))\/(T = "set"/\∃S n,H p=some (.set S n))
 |_=>False
theorem yU{s:Shared}(I:Inv X pins σ H s)(r:RelV x v)(ty:tyV X.K T x H) :
  s.TypeIs v T/\∀a,v=.ref a->∃ob,s.heap.get? a=some ob/\ob.dict=none:=by
 cases x with
 |str z=>
  obtain⟨t,rfl⟩:=r;cases (show T = "str" from ty);exact⟨typeIs_str s z t,fun _ e=>nomatch e⟩
 |int i=>
  obtain⟨t,rfl⟩:=r;cases (show T = "int" from ty);exact⟨typeIs_int s i t,fun _ e=>nomatch e⟩
 |ref p=>
  cases r;rcases ty with ⟨rfl,xs,hq⟩|⟨rfl,o,hk,hc,hd⟩|⟨rfl,hk⟩|⟨rfl,S,n,hk⟩
  ·obtain⟨its,_,pl,_⟩:=I.list hq;refine⟨pl.isList.typeIs,fun a e=>?_⟩
   cases e;obtain⟨o,n,e,c,hd,_⟩:=pl;exact⟨o,e,hd⟩
  ·refine⟨⟨o,I.kIn p o hk,hc⟩,fun a e=>?_⟩
   cases e;exact⟨o,I.kIn _ o hk,hd⟩
  ·have z:∃o,s.heap.get? p=some o/\o.ExactDict:=by
    rcases hk with ⟨kvs,hk⟩|⟨kvs,hk⟩
    ·obtain⟨_,_,_,_,o,_,_,e,ex,_⟩:=I.hok p _ hk;exact⟨o,e,ex⟩
    ·obtain⟨_,_,_,_,o,_,_,e,ex,_⟩:=I.hok p _ hk;exact⟨o,e,ex⟩
   obtain⟨o,e,ex⟩:=z;refine⟨⟨o,e,ex.1⟩,fun a e2=>?_⟩
   cases e2;exact⟨o,e,ex.2.1⟩
  ·obtain⟨o,_,_,_,e,ex,_⟩:=I.hok p _ hk;refine⟨⟨o,e,ex.1⟩,fun a e2=>?_⟩
   cases e2;exact⟨o,e,ex.2.1⟩
 |_=>exact False.elim ty
noncomputable def tBM(K:PySem.W.Frag)(T:String)(r:V->List V->Hp->VK->Prop)(to:TE)(t:TA):TE:=fun σ H Q=>to σ H fun x H1=>tyV K T x H1/\t σ H1 fun xs H2=>r x xs H2 Q
variable {o:Expr}{id:String}
theorem BV(pa:PlainAttrs T)(slot:Slot T name id)(hty:typeOf (.builtin id)=pure (.type "method_descriptor"))(hm:MtR X id r)(ho:PE X o to)(ha:PA X (e::es) t)
  (hbase:attributeBase o name X.env (eval o X.env)=eval o X.env:=by rfl)
  (hfew:((backTo cpos (starEach (e::es) X.env)).all (fun x=>!x.1)&&(backToKw cpos (keywordEach [] X.env)).all (fun x=>x.1.isSome)
   &&decide ((e::es).length+([]:List Keyword).length+(if ([]:List Keyword).isEmpty then 0 else 1) < 30))=true:=by rfl)
  (hline:(apos.endLine == cpos.line)=true:=by rfl) (hs:starEach (e::es) X.env=(false,eval e X.env)::starEach es X.env:=by rfl) (hplain:(backTo cpos (starEach es X.env)).any (·.1)=false:=by rfl) :
  PE X (.Call (.Attribute o name apos) (e::es) [] cpos) (tBM X.K T r to t):=by
 intro pins s σ H Q I h;refine wpAny_Call_method_late hbase hfew hline rfl (thn (ho pins s σ H _ I h) fun v s1 ⟨x,H1,I1,r1,ty,q1⟩=>?_)
 obtain⟨h1,h2⟩:=yU I1 r1 ty;refine⟨T,id,pa,slot,hty,h1,h2,?_⟩;have hA:=ha cpos pins s1 σ H1 _ I1 q1;rw[hs]at hA ⊢;refine Calls.callWith_builtin (by show (false||(backTo cpos (starEach es X.env)).any (·.1))=false;rw[hplain]<;>rfl) (Calls.evalArgs_plain ?_)
 exact thn hA fun us s2 ⟨vs,H2,I2,r2,q2⟩=>hm pins s2 σ H2 x vs v us Q I2 r1 r2 q2
end
end L2
namespace L2
open PySem PySem.Spec PyProof.Rows
noncomputable def MtM(X:Cx)(id:String)(r:V->List V->Hp->VK->Prop):Prop:=
 ∀(pins:List (Addr×Obj)) (s:Shared)(σ:St)(H:Hp)(x:V)(xs:List V)(v:Value)(us:List Value)(Q:VK),Inv X pins σ H s->RelV x v->Vals xs us->r x xs H Q->
  wpAny (model X.prog X.w) X.A (call (.builtin id) (v::us)) (EP X pins σ Q) X.xe s
theorem Vals.one:∀{x:V}{us:List Value},Vals [x] us->∃u,us=[u]/\RelV x u
 |_,_,.cons r .nil=>⟨_,rfl,r⟩
theorem Vals.two:∀{x y:V}{us:List Value},Vals [x,y] us->∃u v,us=[u,v]/\RelV x u/\RelV y v
 |_,_,_,.cons r (.cons q .nil)=>⟨_,_,rfl,r,q⟩
theorem Vals.zero:∀{us:List Value},Vals [] us->us=[]
 |_,.nil=>rfl
theorem Vals.dropLast{xs:List V}{us:List Value}(h:Vals xs us):Vals xs.dropLast us.dropLast:=by
 induction h with
 |nil=>exact .nil
 |cons r t ih=>
  cases t with
  |nil=>exact .nil
  |cons q t'=>exact .cons r ih
theorem Vals.eraseIdx:∀{xs:List V}{us:List Value} (i:Nat),Vals xs us->Vals (xs.eraseIdx i) (us.eraseIdx i)
 |_,_,_,.nil=>.nil
 |_,_,0,.cons _ t=>t
 |_,_,i+1,.cons r t=>.cons r (Vals.eraseIdx i t)
theorem Vals.rep(h:Vals xs us):∀k:Nat,Vals (List.replicate k xs).flatten (List.replicate k us).flatten
 |0=>.nil
 |k+1=>by
  rw[List.replicate_succ,List.replicate_succ,List.flatten_cons,List.flatten_cons];exact Vals.append h (Vals.rep h k)
theorem kg(its:List Value):∀(k:Nat)(acc:List Value),
  List.foldl (fun x1 x2=>x1++x2) acc.toArray (List.replicate k its.toArray)=(acc++(List.replicate k its).flatten).toArray
 |0,acc=>by simp
 |k+1,acc=>by
  have e:acc.toArray++its.toArray=(acc++its).toArray:=by simp
  have e2:(acc++its)++(List.replicate k its).flatten=acc++(List.replicate (k+1) its).flatten:=by
   rw[List.replicate_succ,List.flatten_cons,List.append_assoc]
  rw[<-e2,<-kg its k (acc++its),<-e,List.replicate_succ,List.foldl_cons]
section
variable {X:Cx}{s:Shared}{l:Addr}{xs ys:List V}
theorem Inv.lset{its its':List Value}{n:Nat}{f:Array Value->Array Value}{t':Nat}(I:Inv X pins σ H s)(hH:H l=some (.lst xs))
  (e:s.heap.get? l=some {cls:=.type "list",data:=.seq its.toArray n}) (hf:f its.toArray=its'.toArray) (hv:Vals ys its') (hz:ys.length<=sizeLine) :
  Inv X pins σ (upd H l (.lst ys)) {s with heap:=s.heap.update l (Obj.mapSeq f),toks:=t'}:=by
 have q:=PySem.IsL.update e f;rw[hf]at q;refine I.write (x:=l) (e:=l) (by rw[hH];exact trivial) (.inl rfl) (fun b' u hb hu=>(Heap.get?_update_other s.heap (Obj.mapSeq f) (Ne.symm hb)).trans hu) ⟨_,q⟩ ?_
 exact⟨hz,its',_,hv,q⟩
theorem Inv.lnew(I:Inv X pins σ H s)(hv:Vals ys its)(hz:ys.length<=sizeLine) :
  Inv X pins σ (upd H s.heap.objs.size (.lst ys)) {s with heap:=s.heap.push {cls:=.type "list",data:=.seq its.toArray},toks:=t'}:=
 I.laid (fun _ _ q=>Heap.get?_push_of_some _ q) (Nat.le_refl _) ⟨hz,its,0,hv,Heap.get?_push_size _ rfl⟩
theorem Inv.fresh(I:Inv X pins σ H s):H s.heap.objs.size=none:=I.hok.fresh (Nat.le_refl _)
theorem Inv.lstM(I:Inv X pins σ H s)(hH:H l=some (.lst xs)):xs.length<=sizeLine/\∃(its:List Value) (n:Nat),Vals xs its/\xs.length=its.length/\s.heap.get? l=some {cls:=.type "list",data:=.seq its.toArray n}:=by
 obtain⟨z,its,n,r,e⟩:=I.hok l _ hH;exact⟨z,its,n,r,r.length,e⟩
theorem qN{n:Nat}(h:n<=sizeLine):Builtin.List.listTooLong n=false:=by
 unfold Builtin.List.listTooLong;exact decide_eq_false (by omega)
end
section
variable {X:Cx}
noncomputable def rAppend:V->List V->Hp->VK->Prop:=fun x vs H Q=>∃l xs y,x=.ref l/\vs=[y]/\H l=some (.lst xs)/\xs.length < sizeLine/\Q .non (upd H l (.lst (xs++[y])))
theorem jI:MtM X "list.append" rAppend:=by
 intro pins s σ H x vs v us Q I rx rv h;obtain⟨l,xs,y,rfl,rfl,hH,hz,q⟩:=h;cases rx;obtain⟨u,rfl,ru⟩:=rv.one;obtain⟨z,its,n,r,hl,e⟩:=I.lstM hH;refine call_meets F.slot_list_append ⟨_,e,rfl⟩ F.entry_list_append (F.args_list_append_2 _ _) (PySem.list_append l its.toArray n u (by rw[List.size_toArray];omega)) ⟨e,?_⟩
 refine⟨.non,_,I.lset (its':=its++[u]) hH e (by simp) (r.append (.cons ru .nil)) ?_,rfl,q⟩
 rw[List.length_append,List.length_singleton];omega
theorem tJ(xs:List α)(k:Nat):(List.replicate k xs).flatten.length=k * xs.length:=by
 induction k with
 |zero=>simp
 |succ k ih=>rw[List.replicate_succ,List.flatten_cons,List.length_append,ih,Nat.succ_mul,Nat.add_comm]
end
section
variable {w:World}{A:Around}{s:Shared}
set_option maxRecDepth 100000 in
end
section
variable {X:Cx}
end
end L2
namespace Att
open PySem PySem.W PySem.Calls PyProof.Rows
theorem gU:∀(ns:List Int)(vs:List Value),WellAll P h vs (ns.map WData.int)->IntsAre vs ns:=by
 intro ns
 induction ns with
 |nil=>
  intro vs w;rw[List.map_nil]at w;cases w;exact .nil
 |cons n ns ih=>
  intro vs w;rw[List.map_cons]at w;cases w with
  |cons a b=>
   cases a;exact .cons _ _ (ih _ b)
theorem oz{l:OpenLaw}(hn:l.most=some n){h:Heap}
  (hpre:l.row.toRowW.claim.pre args=true) (hwl:WellAll P h vals args) :
  ∃a vs ns,vals=[Value.ref a]/\args=[WData.list (ns.map WData.int)]/\h.get? a=some {cls:=.type "list",data:=.seq vs.toArray}/\IntsAre vs ns/\ns.length<=n:=by
 have hsh:WShape.hasAll [] args [.list .int]=true:=(pre_splitW hpre).1;have hc:l.pre.holds [] {args:=args}=true:=(pre_splitW hpre).2;obtain⟨d,r,rfl,h1,h2⟩:=hasAllW_cons hsh;obtain rfl:=hasAllW_nil h2;obtain⟨xs,rfl,h3⟩:=hasW_list h1;obtain⟨ns,rfl⟩:=items_int h3;have hlen:ns.length<=n:=by
  unfold OpenLaw.pre at hc;have h4:(WTm.not (.lt (.lit (.int (n:Int))) (.len (.arg 0)))).holds [] {args:=[.list (ns.map .int)]}=true:=by
   have h4:=(holds_andW hc).1;rw[hn]at h4;exact h4
  have h5:=condW_of h4 (w_not (w_lt w_lit (w_len_list (w_arg rfl))));rw[List.length_map]at h5;refine Nat.le_of_not_lt fun q=>?_
  have q':(n:Int) < ((ns.length:Nat):Int):=by omega
  first
   |(rw[decide_eq_true q']at h5;exact absurd h5 (by decide))
   |(simp at h5;omega)
 cases hwl with
 |cons w1 w2=>
  cases w2;cases w1 with
  |list ho hall=>exact⟨_,_,ns,rfl,rfl,ho,gU ns _ hall,hlen⟩
theorem oH(l:OpenLaw)(args:List WData):l.row.toRowW.claim.post args (.bool true) args=true:=
 postW_of (r:=l.row.toRowW) (X:=(true == true))
  (show WShape.has [] (.bool true) .bool=true by first|rfl|decide|simp[WShape.has,WShape.arms,WShape.armsAll])
  (show (WTm.eq .res (.lit (.bool true))).value [] {args:=args,res:=some (.bool true),after:=args}=some (.bool (true == true)) from w_eq_bool (w_res rfl) w_lit) rfl
theorem attach_call{l:OpenLaw}{d:DefRec}
  (hn:l.most=some n) (hdf:d.params.defaults=[])
  (call:∀(w:World)(s₀ s₁:Shared)(mg mb:Str->Option Value)(fa:Addr)(o:Obj)(pm cd doc:Value)(a:Addr)(vs:List Value)(ns:List Int),
   Ground q loose [] XP w s₀ mg mb s₁.heap->YP w s₁.heap->
   s₁.heap.get? fa=some o->o.data=.func (docDef d.name d.params d.body d.scope pm cd doc)->s₁.heap.CodeRec cd d.name->mg d.name=some (.ref fa)->
   s₁.heap.get? a=some {cls:=.type "list",data:=.seq vs.toArray}->IntsAre vs ns->ns.length<=n->s₁.gens=#[]->
   codeAny (model l.prog w) callerA (.call (.ref fa) ⟨[.ref a],[]⟩) (fun r s'=>r=.ok (.ret (.bool true))/\OldK s₁.heap s'.heap/\s'.os=s₁.os/\AllBare s'.gens) s₁) :
  WalkO q loose XP YP l.row.toRowW d [] (fun f vs=>PySem.call f vs):=by
 intro w s₀ s₁ mg mb G Y fa o pm cd doc dV kV ho hd hcd hD hmg hg args vals as hpre hlay hrd hwl hlo;obtain rfl:dV=.none:=Dflts.none hD hdf;obtain rfl:kV=.none:=Dflts.noKw hD;obtain⟨a,vs,ns,rfl,rfl,hobj,hints,hlen⟩:=oz hn hpre hwl;refine enter_call (codeAny_mono (call w s₀ s₁ mg mb fa o pm cd doc a vs ns G Y ho (fd_plain hd) hcd hmg hobj hints hlen hg) fun r s' hq=>?_)
 obtain⟨rfl,h2,h3,h4⟩:=hq;exact⟨.inl ⟨.bool true,.bool true,[],rfl,fun _=>rfl,.bool true,oH l _,fun _=>⟨List.Pairwise.nil,fun _ hm=>(nomatch hm)⟩⟩,h2,h3,h4⟩
section
variable {w:World}{A:Around}{s:Shared}{K:Frag}
end
end Att
namespace L2
open PySem PySem.Spec PyProof.Rows
theorem gq:∀{vs:List Value}{ns:List Int},IntsAre vs ns->Vals (ns.map V.int) vs
 |_,_,.nil=>.nil
 |_,_,.cons n t h=>.cons ⟨t,rfl⟩ (gq h)
noncomputable def DL(H:Hp):Prop:=∀b,H b=none\/∃o xs,H b=some (.frz o (.lst xs))
theorem pZ{K:PySem.W.Frag}{s₁:Shared}
  (KX:K.In s₁.heap)(hns:s₁.heap.Ns mainGlobals mg)(hb:s₁.heap.Ns builtinsNs mb) (hbb:∀x:Str,x≠"__name__"->mb x=bootBuiltins x) (hlim:s₁.heap.NoLimit) (hg:s₁.gens=#[])
  (ha:s₁.heap.get? a=some {cls:=.type "list",data:=.seq vs.toArray}) (hi:IntsAre vs ns) (hl:ns.length<=sizeLine) (hr:Room k callerA)
  (F:∀base:Heap,K.In base->base.Ns mainGlobals mg->FnOk P w K mg base CX k fa fd [x] sp) (hbind:∀(s:Shared)(u:Value),BindsTo s fd ⟨[u],[]⟩ [(x,u)])
  (hsp:∀H:Hp,DL H->SqL K H a (ns.map V.int)->sp [.ref a] H (fun v _=>v=.bl true) fun _ _ _=>False)
  (hCX:∀H e s',CX [] H s₁ (fun _ _ _=>False) e s'->False) :
  codeAny (model P w) callerA (.call (.ref fa) ⟨[.ref a],[]⟩) (fun r s'=>r=.ok (.ret (.bool true))/\OldK s₁.heap s'.heap/\s'.os=s₁.os/\AllBare s'.gens) s₁:=by
 have rv:=gq hi;have lenV:=hi.length;have core:∀H:Hp,DL H->SqL K H a (ns.map V.int)->HOk P w H s₁.heap->(∀b,H b≠none->b=a)->(H a≠none->K.lookup a=none)->
   codeAny (model P w) callerA (.call (.ref fa) ⟨[.ref a],[]⟩) (fun r s'=>r=.ok (.ret (.bool true))/\OldK s₁.heap s'.heap/\s'.os=s₁.os/\AllBare s'.gens) s₁:=by
  intro H hO hS hok hA hK;have base_of:∀{b:Addr}{o:Obj},s₁.heap.get? b=some o->H b=none->(kE s₁.heap H).get? b=some o:=fun e n=>sf e n
  have noA:∀{b:Addr}{o:Obj}{es:Array DictEntry}{ep:Nat},s₁.heap.get? b=some o->o.data=.dict es ep->H b=none:=fun {b o es ep} e d=>by
   cases q:H b with
   |none=>rfl
   |some u=>
    have e':b=a:=hA b (by rw[q];simp)
    subst e';rw[ha]at e;cases e;have d':Data.seq vs.toArray _=Data.dict es ep:=d;cases d'
  have nsK:∀{b:Addr}{m:Str->Option Value},s₁.heap.Ns b m->(kE s₁.heap H).Ns b m:=fun {b m} ⟨o,es,ep,e,d,r⟩=>⟨o,es,ep,base_of e (noA e d),d,r⟩
  have hKb:K.In (kE s₁.heap H):=fun b o e=>base_of (KX b o e) (by
   cases q:H b with
   |none=>rfl
   |some u=>
    have e':b=a:=hA b (by rw[q];simp)
    subst e';rw[hK (by rw[q];simp)]at e;cases e)
  have hM:Mod K mg (kE s₁.heap H):=⟨hKb,nsK hns,⟨mb,nsK hb,hbb⟩,let ⟨mc,h1,h2⟩:=hlim;⟨mc,nsK h1,h2⟩⟩
  have e0:Env0 P w K mg (kE s₁.heap H) callerA [] s₁ H:=⟨rfl,hM,fun b o e=>tR e,Nat.le_of_eq (pj _ _),trivial,fun b hb=>absurd (show b∈([]:List Addr) from hb) (by simp),hok,.of_eq hg⟩
  refine codeAny_mono ((F _ hKb (nsK hns)).run callerA [] s₁ H ⟨[.ref a],[]⟩ [.ref a] [.ref a] _ _ hr e0 (hbind s₁ (.ref a)) (.cons rfl .nil) (hsp H hO hS)) fun r s' h=>?_
  cases r with
  |error e=>exact (hCX H e s' h).elim
  |ok fl=>
   cases fl with
   |next=>exact False.elim h
   |brk=>exact False.elim h
   |cont=>exact False.elim h
   |ret u=>
    obtain⟨v,H',os,bare,un,hok',r',q⟩:=h;have q':v=.bl true:=q;subst q';obtain rfl:u=Value.bool true:=r';refine⟨rfl,OldK.of_keep fun b o e=>?_,os,bare⟩
    cases q:H b with
    |none=>exact un.keep b o e q (by intro z;exact absurd (show b∈([]:List Addr) from z) (by simp)) (by simp)
    |some u=>
     rcases hO b with z|⟨ob,xs,z⟩
     ·rw[q]at z;cases z
     ·have z2:=un.frzs b ob _ z;obtain⟨e1,_⟩:=hok b _ z;obtain⟨e2,_⟩:=hok' b _ z2;rw[e]at e1;cases e1;exact e2
 cases hk:K.lookup a with
 |some o=>
  have e:=KX a o hk;rw[ha]at e;cases e;refine core (fun _=>none) (fun _=>.inl rfl) (.inr ⟨_,vs.toArray,_,hk,rfl,rfl,rfl,by rw[List.size_toArray,lenV];exact hl,by simpa using rv⟩) (fun b u z=>by have z':(none:Option HO)=some u:=z;cases z') (fun b z=>absurd rfl z) fun z=>absurd rfl z
 |none=>
  refine core (fun b=>if b=a then some (.frz {cls:=.type "list",data:=.seq vs.toArray} (.lst (ns.map V.int))) else none) (fun b=>?_) (.inl (.inr ⟨{cls:=.type "list",data:=.seq vs.toArray},if_pos rfl⟩)) (fun b u z=>?_) (fun b z=>?_) fun _=>hk
  ·by_cases hb:b=a
   ·exact .inr ⟨_,_,if_pos hb⟩
   ·exact .inl (if_neg hb)
  ·by_cases hb:b=a
   ·have z':=(if_pos hb).symm.trans z;cases z';subst hb;exact⟨ha,by rw[List.length_map];exact hl,vs,_,rv,ha⟩
   ·have z':=(if_neg hb).symm.trans z;cases z'
  ·by_cases hb:b=a
   ·exact hb
   ·exact absurd (if_neg hb) z
end L2
namespace L2
open PySem PySem.Spec PyProof.Rows
end L2
namespace L2
open PySem PySem.Spec PyProof.Rows
noncomputable def ag(s:Stmt)(j:Nat):Stmt:=match s with
 |.ClassDef _ _ _ body _ _ _ _ _ _ _=>body.getD j (.Pass ⟨0,0,0,0⟩)
 |_=>.Pass ⟨0,0,0,0⟩
noncomputable def bX(s:Stmt):Arguments:=match s with
 |.FunctionDef _ a _ _ _ _ _ _ _ _=>a
 |_=>{posonlyargs:=[],args:=[],vararg:=none,kwonlyargs:=[],kw_defaults:=[],kwarg:=none,defaults:=[]}
noncomputable def be(s:Stmt):List Stmt:=match s with
 |.FunctionDef _ _ b _ _ _ _ _ _ _=>b
 |_=>[]
noncomputable def aB(s:Stmt):Scope:=match s with
 |.FunctionDef _ _ _ _ _ _ sc _ _ _=>sc
 |_=>{kind:=.function,names:=[],isGenerator:=false,isCoroutine:=false}
noncomputable abbrev CX0:CXT:=fun _ _ _ _ _ _=>False
structure Fun (K:PySem.W.Frag)(x qual:Str)(st:Stmt)(f:Addr)(fd:FuncData):Prop where
 ex:∃(oc:Value) (od:Option Addr) (kV doc pm:Value) (an:Option Addr) (cdv ct:Value) (osl:Array (Option Value)),
  fd=PySem.W.fnOf x qual (bX st) (be st) (aB st) .none kV doc pm an cdv ct/\K.lookup f=some ⟨oc,od,.func fd,osl⟩/\PySem.W.codeIn K cdv qual=true
 kp:PySem.W.keepIn K (.ref f)=true
section
variable {K:PySem.W.Frag}
theorem Fun.ok{st:Stmt}{ps:List Str}(F:Fun K x qual st f fd)(S:FnScope N ps (aB st))(len:∀vs H Q E,sp vs H Q E->vs.length=ps.length)
  (hbody:∀(cdv:Value)(A:Around)(outer:List Env)(s:Shared)(H:Hp)(vs:List V)(Q:VK)(E:XK),Room k (A.deeper (envOfC qual (aB st) s.heap.objs.size f cdv))->sp vs H Q E->
   ∃t,PSs (cy CX0 P w K mg base N qual (aB st) f cdv A outer s H E).nox (be st) t/\t {nx:=fun _ H'=>Q .non H',rt:=Q} (dH N vs) H):FnOk P w K mg base CX0 (k+1) f fd ps sp:=by
 obtain⟨oc,od,kV,doc,pm,an,cdv,ct,osl,rfl,lk,hcd⟩:=F.ex;refine sh lk hcd S len fun A outer s H vs Q E hr hsp=>?_
 obtain⟨t,h,q⟩:=hbody cdv A outer s H vs Q E hr hsp;exact⟨t,h.nox,q⟩
theorem zX{x qual:Str}{st:Stmt}{f:Addr}{oc:Value}{od an:Option Addr}{osl:Array (Option Value)}{kV doc pm cdv ct:Value}(l:K.lookup f=some ⟨oc,od,.func (PySem.W.fnOf x qual (bX st) (be st) (aB st) .none kV doc pm an cdv ct),osl⟩)
  (c:PySem.W.codeIn K cdv qual=true) (k:PySem.W.keepIn K (.ref f)=true):Fun K x qual st f (PySem.W.fnOf x qual (bX st) (be st) (aB st) .none kV doc pm an cdv ct):=⟨⟨oc,od,kV,doc,pm,an,cdv,ct,osl,rfl,l,c⟩,k⟩
end
section
variable {X:Cx}
end
section
variable {κ:Type} [DecidableEq κ]
end
end L2
set_option maxHeartbeats 4000000
namespace L2
open PySem PySem.Spec PyProof.Rows
noncomputable def DA(h:Heap)(e:Addr)(d:Option Addr):Prop:=∃o,h.get? e=some o/\o.dict=d
theorem jn(f:Array Value->Array Value)(o:Obj):(Obj.mapFields f o).dict=o.dict:=by
 obtain⟨c,d,x,sl⟩:=o;cases x<;>rfl
section
variable {A:Around}{s:Shared}{base:Heap}{env:Env}
theorem nP{oe:Obj}{vs:Array Value}(hfr:A.frames=some (env::outer))(hl:s.heap.FunFrames base (env::outer))(hf:env.frame=some L)(he:s.heap.get? e=some oe)(hkb:base.StaysIn s.heap)(hen:base.get? e=none)
  (hd:oe.data=.fields vs) (hsz:1 < vs.size) (h0:vs[0]?=some a0) (k:∀h',Heap.NotedW base (env::outer) e oe.cls a0 (rawInt L) s.heap h'->DA h' e oe.dict->Q () {s with heap:=h'}) :
  wpAny M A (do let fr<-frameOf env;let pl<-entryPlaceOf L hadNext;let t<-EntryCells.newEntry head fr .none (rawInt L) .none pl;setField (.ref e) 1 t) Q E s:=by
 have out:e∉(env::outer).filterMap (·.frame):=fun z=>by
  obtain⟨_,o,ho,nf⟩:=hl.mem z;cases he.symm.trans ho;exact nf vs hd
 refine wpAny_bind (wpAny_frameOf_fun hfr hl hf fun g1 sl1=>wpAny_bind (wpAny_entryPlaceOf fun pl hpl=>?_))
 unfold EntryCells.newEntry newFields;refine wpAny_bind (wpAny_newObj_type ?_ (hpl.sizeOk5 _ _ _ _ _));generalize hT:({cls:=.type "traceback",dict:=none,data:=.fields ([head,.ref L,.none,rawInt L,.none]++(if pl.isEmpty then List.replicate 6 Value.none else pl)).toArray}:Obj)=oT
 have e1:g1.get? e=some oe:=(sl1.2.1 e out).trans he;have b1:base.StaysIn g1:=fun b o q=>(sl1.2.1 b fun z=>by rw[(hl.mem z).1]at q;cases q).trans (hkb b o q)
 have e2:(g1.push oT).get? e=some oe:=Heap.get?_push_of_some oT e1;refine wpAny_setField e2 hd hsz (k _ ?_ ?_)
 ·have ne:g1.objs.size≠e:=Nat.ne_of_gt (Heap.lt_size e1);have d3:=Obj.data_mapFields hd (·.setIfInBounds 1 (Value.ref g1.objs.size));have e3:=Heap.get?_update_self (Obj.mapFields (·.setIfInBounds 1 (Value.ref g1.objs.size))) e2 (Obj.isFreed_of_fields d3);have t3:(g1.push oT).get? g1.objs.size=some oT:=Heap.get?_push_size g1 (by rw[<-hT];rfl)
  have t4:((g1.push oT).update e (Obj.mapFields (·.setIfInBounds 1 (Value.ref g1.objs.size)))).get? g1.objs.size=some oT:=(Heap.get?_update_other _ _ (Ne.symm ne)).trans t3;have stay:∀b o,b≠e->g1.get? b=some o->((g1.push oT).update e (Obj.mapFields (·.setIfInBounds 1 (Value.ref g1.objs.size)))).get? b=some o:=fun b o n q=>
   (Heap.get?_update_other _ _ (Ne.symm n)).trans (Heap.get?_push_of_some oT q)
  have other:∀b o,s.heap.get? b=some o->(∀ws,o.data≠.fields ws)->b≠e:=fun b o q nf z=>by
   subst z;cases he.symm.trans q;exact nf vs hd
  refine⟨fun b o q=>stay b o (fun z=>by rw[z,hen]at q;cases q) (b1 b o q),hl.of_keeps fun b o q nf=>?_,⟨_,_,g1.objs.size,oT,_,e3,⟨Obj.cls_mapFields _ _,?_⟩,d3,by simp[hsz],b1.fresh,ne,t4,by rw[<-hT],?_⟩,fun b o q nf=>?_⟩
  ·obtain⟨sl,z⟩:=sl1.2.2 b o q;exact⟨_,stay b _ (other b o q nf) z,rfl⟩
  ·rw[Array.getElem?_setIfInBounds_ne (by decide)];exact h0
  ·first|(simp;done)|(rcases hpl with rfl|⟨_,_,_,_,_,_,_,rfl⟩<;>simp)
  ·obtain⟨sl,z⟩:=sl1.2.2 b o q;exact⟨sl,stay b _ (other b o q nf) z⟩
 ·have d3:=Obj.data_mapFields hd (·.setIfInBounds 1 (Value.ref g1.objs.size));exact⟨_,Heap.get?_update_self (Obj.mapFields (·.setIfInBounds 1 (Value.ref g1.objs.size))) e2 (Obj.isFreed_of_fields d3),jn _ _⟩
theorem iY(hkb:base.StaysIn s.heap)(hl:s.heap.FunFrames base l)(ht:s.heap.TracedAtW base e cls a0 fl)(hd:DA s.heap e d)
  (k:∀h',base.StaysIn h'->h'.FunFrames base l->h'.TracedW base e cls a0->s.heap.UpToSlots h'->DA h' e d->Q () {s with heap:=h'}):wpAny M A (setFlight (.ref e) none) Q E s:=by
 obtain⟨oe,vs,T,oT,ts,he,hc,hv,h1,nT,ne,hT,dT,h3⟩:=ht;obtain⟨oe',he',hd⟩:=hd;cases he.symm.trans he';have sz:3 < ts.size:=(Array.getElem?_eq_some_iff.mp h3).1;unfold setFlight;refine wpAny_bind (wpAny_field he hv h1 ?_);rw[if_pos (by simp:(Value.ref T != Value.none)=true)]
 have oth:∀b,b≠T->(s.heap.update T (Obj.mapFields (·.setIfInBounds 3 ((none:Option Addr).elim Value.none fun f=>rawInt f)))).get? b=s.heap.get? b:=fun b n=>Heap.get?_update_other _ _ (Ne.symm n)
 have plain:∀b o,s.heap.get? b=some o->(∀ws,o.data≠.fields ws)->b≠T:=fun b o q nf z=>by
  subst z;cases hT.symm.trans q;exact nf ts dT
 have ee:=(oth e (Ne.symm ne)).trans he;refine wpAny_setField hT dT sz (k _ (fun b o q=>(oth b fun z=>by rw[z,nT]at q;cases q).trans (hkb b o q)) (hl.of_keeps fun b o q nf=>⟨o,(oth b (plain b o q nf)).trans q,rfl⟩) ⟨oe,vs,T,_,_,ee,hc,hv,h1,nT,ne,Heap.get?_update_self _ hT (Obj.isFreed_of_fields (Obj.data_mapFields dT _)),Obj.data_mapFields dT _,by simp[sz]⟩
  (fun b o q nf=>⟨o.slots,(oth b (plain b o q nf)).trans q⟩) ⟨oe,ee,hd⟩)
theorem rJ(hfr:A.frames=some (env::outer))(hf:env.frame=some L)(fl:Heap.FlyingW base (env::outer) e cls a0 s.heap)(hd:DA s.heap e d)
  (k:∀h',Heap.HeldW base (env::outer) e cls a0 L h'->s.heap.UpToSlots h'->DA h' e d->Q () {s with heap:=h'}):wpAny M A (noteFrame (.ref e) env) Q E s:=by
 obtain⟨hkb,hen,hl,oe,vs,T,oT,ts,he,⟨rfl,h0⟩,hv,h1,nT,ne,hT,dT,h3⟩:=fl;obtain⟨oe',he',rfl⟩:=hd;cases he.symm.trans he';unfold noteFrame;simp only[hf];refine wpAny_bind (wpAny_field he hv h1 ?_);rw[if_pos (by simp:(Value.ref T != Value.none)=true)]
 refine wpAny_bind (wpAny_field hT dT h3 ?_);rw[if_neg (by simp[rawInt]:¬ ((Value.none == rawInt L)=true))]
 refine wpAny_bind (wpAny_setField hT dT (Array.getElem?_eq_some_iff.mp h3).1 ?_);have oth:∀b,b≠T->(s.heap.update T (Obj.mapFields (·.setIfInBounds 3 Value.none))).get? b=s.heap.get? b:=fun b n=>Heap.get?_update_other _ _ (Ne.symm n)
 have plain:∀b o,s.heap.get? b=some o->(∀ws,o.data≠.fields ws)->b≠T:=fun b o q nf z=>by
  subst z;cases hT.symm.trans q;exact nf ts dT
 exact nP hfr (hl.of_keeps fun b o q nf=>⟨o,(oth b (plain b o q nf)).trans q,rfl⟩) hf ((oth e (Ne.symm ne)).trans he) (fun b o q=>(oth b fun z=>by rw[z,nT]at q;cases q).trans (hkb b o q)) hen hv (Array.getElem?_eq_some_iff.mp h1).1 h0
  fun h' ⟨x1,x2,x3,x4⟩ dd=>k h' ⟨x1,hen,x2,x3⟩ (fun b o q nf=>x4 b o ((oth b (plain b o q nf)).trans q) nf) dd
theorem nN(hh:Heap.HeldW base l e cls a0 L s.heap)(hd:DA s.heap e d)(k:∀h',Heap.FlyingW base l e cls a0 h'->s.heap.UpToSlots h'->DA h' e d->Q () {s with heap:=h'}):wpAny M A (setFlight (.ref e) none) Q E s:=
 iY hh.1 hh.2.2.1 hh.2.2.2 hd fun h' k1 k2 k3 k4 k5=>k h' ⟨k1,hh.2.1,k2,k3⟩ k4 k5
theorem og(fl:Heap.FlyingW base l e cls a0 s.heap)(hd:DA s.heap e d)(k:∀h',Heap.FlyingW base l e cls a0 h'->s.heap.UpToSlots h'->DA h' e d->Q () {s with heap:=h'}):wpAny M A (setFlight (.ref e) none) Q E s:=
 iY fl.1 fl.2.2.1 fl.2.2.2.at hd fun h' k1 k2 k3 k4 k5=>k h' ⟨k1,fl.2.1,k2,k3⟩ k4 k5
theorem dX{h:Heap}(x:h.FunFrames base (env::outer)):h.FunFrames base outer:=x.2.2
theorem qt(hfr:A.frames=some (env::outer))(hf:env.frame=some L)(fl:Heap.FlyingW base (env::outer) e cls a0 s.heap)(hd:DA s.heap e d)
  (k:∀h',Heap.FlyingW base outer e cls a0 h'->s.heap.UpToSlots h'->DA h' e d->Q () {s with heap:=h'}):wpAny M A (leaving env (.ref e)) Q E s:=by
 unfold leaving;refine wpAny_bind (rJ hfr hf fl hd fun h1 x1 u1 d1=>nN x1 d1 fun h2 x2 u2 d2=>k h2 ⟨x2.1,x2.2.1,dX x2.2.2.1,x2.2.2.2⟩ (u1.trans u2) d2)
theorem sW{oe:Obj}(hfr:A.frames=some (env::outer))(hf:env.frame=some L)(hkb:base.StaysIn s.heap)(hl:s.heap.FunFrames base (env::outer))(he:s.heap.get? e=some oe)(hen:base.get? e=none)(hv:oe.data=.fields vs)(h0:vs[0]?=some a0)(h1:vs[1]?=some .none)
  (k:∀h',Heap.FlyingW base outer e oe.cls a0 h'->s.heap.UpToSlots h'->DA h' e oe.dict->Q () {s with heap:=h'}):wpAny M A (leaving env (.ref e)) Q E s:=by
 unfold leaving noteFrame;simp only[hf];refine wpAny_bind (wpAny_bind (wpAny_field he hv h1 ?_));rw[if_neg (by decide)]
 refine nP hfr hl hf he hkb hen hv (Array.getElem?_eq_some_iff.mp h1).1 h0 fun h1 x1 d1=>?_
 exact iY x1.1 x1.2.1 x1.2.2.1 d1 fun h2 k1 k2 k3 k4 k5=>k h2 ⟨k1,hen,dX k2,k3⟩ (Heap.UpToSlots.trans x1.2.2.2 k4) k5
end
end L2
namespace L2
open PySem PySem.Spec PyProof.Rows
section
variable {h h':Heap}{o:HO}
theorem ObjOk.isAt(x:ObjOk P w H h a o):∃ob,h.get? a=some ob:=by
 cases o with
 |lst xs=>obtain⟨_,_,_,_,e⟩:=x;exact⟨_,e⟩
 |tup xs=>obtain⟨_,_,_,ob,e,_⟩:=x;exact⟨_,e⟩
 |dK kvs=>obtain⟨_,_,_,_,ob,_,_,e,_⟩:=x;exact⟨_,e⟩
 |dT kvs=>obtain⟨_,_,_,_,ob,_,_,e,_⟩:=x;exact⟨_,e⟩
 |set S n=>obtain⟨ob,_,_,_,e,_⟩:=x;exact⟨_,e⟩
 |ins C dx fs=>obtain⟨_,_,_,e,_⟩:=x;exact⟨_,e⟩
 |own y=>exact x
 |xd fs=>obtain⟨_,⟨ob,_,_,e,_⟩,_⟩:=x;exact⟨_,e⟩
 |rng lo hi=>obtain⟨_,_,_,e⟩:=x;exact⟨_,e⟩
 |frz ob u=>exact⟨_,x.1⟩
 |tbl ps=>exact⟨_,x⟩
 |met f y=>exact⟨_,x⟩
 |ext φ=>exact x.2.1
theorem HOk.keptT(x:HOk P w H h)(k:∀b u ob,H b=some u->h.get? b=some ob->h'.get? b=some ob):HOk P w H h':=fun a o e=>
 (x a o e).stay (fun b u hb q=>hb.elim (fun z=>by subst z;exact k _ _ _ e q) (fun z=>k _ _ _ z q)) (fun _ q=>q) fun _ _ q=>q
end
noncomputable def Fly(B:Heap)(l:List Env)(a:Addr)(cls:Value)(h:Heap):Prop:=∃a0,Heap.FlyingW B l a cls a0 h
noncomputable def Within(B:Heap)(l:List Env)(hs:Heap)(H':Hp)(h':Heap):Prop:=
 ∀b ob,h'.get? b=some ob->(H' b≠none\/((∃o',hs.get? b=some o')/\b∉frs l))->B.get? b=some ob
noncomputable def CX1(P:Program)(w:World):CXT:=fun outer H s E e s'=>
 ∃(a:Addr) (cls:Value) (B:Heap) (H':Hp) (dx:Option Addr),e=.ref a/\s'.os=s.os/\AllBare s'.gens/\Un (frs outer) [] H H' s.heap s'.heap/\HOk P w H' s'.heap/\
  (Fly B outer a cls s'.heap/\DA s'.heap a dx)/\H' a=none/\Within B outer s.heap H' s'.heap/\E cls dx H'
theorem Inv.notrk{s:Shared}(I:Inv X pins σ H s)(hn:s.heap.get? e=none):H e=none:=by
 cases q:H e with
 |none=>rfl
 |some u=>
  obtain⟨ob,z⟩:=(I.hok e u q).isAt;rw[hn]at z;cases z
theorem Inv.oldNe{X:Cx}(I:Inv X pins σ H s)(q:X.s₀.heap.get? b=some o)(hb:b∉X.fs):b∉frs X.stack:=fun hm=>by
 rcases List.mem_cons.mp (I.stkSub b hm) with z|z
 ·have:=Nat.lt_of_lt_of_le (Heap.lt_size q) I.ok.above;rw[z]at this;exact absurd this (Nat.lt_irrefl _)
 ·exact hb z
section
variable {K:PySem.W.Frag}{s:Shared}
theorem jW{s1:Shared}{oe:Obj}{h':Heap}
  (I:Inv (cy (CX1 P w) P w K mg base N qual scope f cd A outer s H E) pins σ H1 s1) (hk:∀b o,s1.heap.get? b=some o->b≠e->h'.get? b=some o) (hke:∀o,s1.heap.get? e=some o->∃vs,o.data=.fields vs) (hnt:H1 e=none) (hno:s.heap.get? e=none)
  (hoe:h'.get? e=some oe) (hv:oe.data=.fields vs) (hv0:vs[0]?=some a0) (hv1:vs[1]?=some .none) (he:E oe.cls oe.dict H1) :
  (cy (CX1 P w) P w K mg base N qual scope f cd A outer s H E).xe (.ref e) {s1 with heap:=h'}:=by
 have hfr:((cy (CX1 P w) P w K mg base N qual scope f cd A outer s H E).A).frames=some (envOfC qual scope s.heap.objs.size f cd::outer):=I.ok.frames;have hl:s1.heap.FunFrames base (envOfC qual scope s.heap.objs.size f cd::outer):=I.stack;have hin:∀env∈(envOfC qual scope s.heap.objs.size f cd::outer),∀b,env.frame=some b->b∈e::frs (envOfC qual scope s.heap.objs.size f cd::outer):=fun env he b hb=>List.mem_cons_of_mem _ (List.mem_filterMap.mpr ⟨env,he,hb⟩)
 have hB:∀b o,(PySem.W.hideAll s1.heap (e::frs (envOfC qual scope s.heap.objs.size f cd::outer))).get? b=some o->s1.heap.get? b=some o/\b≠e:=fun b o q=>⟨PySem.W.of_hideAll _ q,fun z=>by
  subst z;rw[PySem.W.hideAll_none _ List.mem_cons_self]at q;cases q⟩
 have hff:s1.heap.FunFrames (PySem.W.hideAll s1.heap (e::frs (envOfC qual scope s.heap.objs.size f cd::outer))) (envOfC qual scope s.heap.objs.size f cd::outer):=PySem.W.funFrames_hide hl hin;show wpAny _ _ (leaving _ _) _ _ _;refine sW (base:=PySem.W.hideAll s1.heap (e::frs (envOfC qual scope s.heap.objs.size f cd::outer))) hfr rfl (fun b o q=>hk b o (hB b o q).1 (hB b o q).2) (hff.of_keeps fun b o q nf=>⟨o,hk b o q (fun z=>by
  subst z;obtain⟨ws,dw⟩:=hke o q;exact nf ws dw),rfl⟩) hoe (PySem.W.hideAll_none _ List.mem_cons_self) hv hv0 hv1 fun h2 fl up dd=>?_
 have tB:∀b u ob,H1 b=some u->s1.heap.get? b=some ob->(PySem.W.hideAll s1.heap (e::frs (envOfC qual scope s.heap.objs.size f cd::outer))).get? b=some ob:=fun b u ob hb q=>
  PySem.W.hideAll_get _ q fun hm=>by
   rcases List.mem_cons.mp hm with z|hm
   ·rw[z,hnt]at hb;cases hb
   ·have z:=I.stkFree b hm;rw[hb]at z;cases z
 have one:∀b o,s.heap.get? b=some o->b≠e:=fun b o q z=>by rw[z,hno]at q;cases q
 have oB:∀b o ob,s.heap.get? b=some o->b∉frs outer->s1.heap.get? b=some ob->(PySem.W.hideAll s1.heap (e::frs (envOfC qual scope s.heap.objs.size f cd::outer))).get? b=some ob:=fun b o ob q hb q1=>
  PySem.W.hideAll_get _ q1 fun hm=>(List.mem_cons.mp hm).elim (one b o q) (I.oldNe q hb)
 have st:=fl.1;have slot:∀b o,s.heap.get? b=some o->H b=none->b∈frs outer->∃sl,h2.get? b=some {o with slots:=sl}:=fun b o q n hb=>by
  obtain⟨sl,e1⟩:=I.base.slot b o q n hb (fun z=>nomatch z)
  obtain⟨_,o2,e2,nf⟩:=I.ok.funs.mem hb;have e3:o2=o:=Option.some.inj (e2.symm.trans q);subst e3;obtain⟨sl2,e4⟩:=up b _ (hk _ _ e1 (one b _ q)) nf;exact⟨sl2,e4⟩
 refine⟨e,oe.cls,_,H1,oe.dict,rfl,I.os,I.bare,⟨fun b o q n hb _=>?_,fun b o q n hb _=>slot b o q n hb,fun b o q n _=>I.base.free b o q n (fun z=>nomatch z),fun b o q _=>?_,I.base.tups,I.base.frzs,I.base.tbls⟩,?_,⟨⟨_,fl⟩,dd⟩,hnt,fun b ob q hb=>?_,he⟩
 ·exact st b o (oB b o o q hb (I.base.keep b o q n hb (fun z=>nomatch z)))
 ·by_cases hb:b∈frs outer
  ·obtain⟨sl,z⟩:=slot b o q (I.ok.frf b hb) hb;exact⟨_,z⟩
  ·obtain⟨o',e1⟩:=I.base.there b o q (fun z=>nomatch z)
   exact⟨o',st b o' (oB b o o' q hb e1)⟩
 ·exact I.hok.keptT fun b u ob hb q=>st b ob (tB b u ob hb q)
 ·rcases hb with hb|⟨⟨o',ho'⟩,hb⟩
  ·cases z:H1 b with
   |none=>exact absurd z hb
   |some u=>
    obtain⟨o1,e1⟩:=(I.hok b u z).isAt;have e2:=tB b u o1 z e1;have e3:o1=ob:=Option.some.inj ((st b o1 e2).symm.trans q);rw[<-e3];exact e2
  ·obtain⟨o1,e1⟩:=I.base.there b o' ho' (fun z=>nomatch z)
   have e2:=oB b o' o1 ho' hb e1;have e3:o1=ob:=Option.some.inj ((st b o1 e2).symm.trans q);rw[<-e3];exact e2
theorem oX{s1:Shared}
  (I:Inv (cy (CX1 P w) P w K mg base N qual scope f cd A outer s H E) pins σ H1 s1) (hx:Heap.MadeExcOf s1.heap h' e cls args)(he:E cls none H1) :
  (cy (CX1 P w) P w K mg base N qual scope f cd A outer s H E).xe (.ref e) {s1 with heap:=h'}:=by
 obtain⟨t,e1,_,_⟩:=hx.there;refine jW I (fun b o q _=>hx.keeps b o q) (fun o q=>by rw[hx.new]at q;cases q) (I.notrk hx.new) ?_ e1 rfl rfl rfl he
 cases q:s.heap.get? e with
 |none=>rfl
 |some o=>
  obtain⟨o1,z⟩:=I.base.there e o q (fun z=>nomatch z)
  rw[hx.new]at z;cases z
theorem qV(hE:∀c d H',E' c d H'->E c d H')
  (I:Inv (cy (CX1 P w) P w K mg base N qual scope f cd A outer s H E) pins σ H1 s1) (hc:CX1 P w (envOfC qual scope s.heap.objs.size f cd::outer) H1 s1 E' e s') :
  (cy (CX1 P w) P w K mg base N qual scope f cd A outer s H E).xe e s':=by
 obtain⟨a,cls,B,H2,dx,rfl,os,bare,un,hok,⟨⟨a0,fl⟩,dd⟩,ha,inc,he⟩:=hc;have hfr:((cy (CX1 P w) P w K mg base N qual scope f cd A outer s H E).A).frames=some (envOfC qual scope s.heap.objs.size f cd::outer):=I.ok.frames;show wpAny _ _ (leaving _ _) _ _ _;refine qt hfr rfl fl dd fun h2 fl2 up dd2=>?_
 have st:=fl2.1;have nil:∀b:Addr,b∉([]:List Addr):=fun b z=>nomatch z
 have slot:∀b o,s.heap.get? b=some o->H b=none->b∈frs outer->∃sl,h2.get? b=some {o with slots:=sl}:=fun b o q n hb=>by
  obtain⟨sl,e1⟩:=I.base.slot b o q n hb (nil b);obtain⟨sl1,e2⟩:=un.any e1 (I.base.free b o q n (nil b)) (nil b);obtain⟨_,o2,e3,nf⟩:=I.ok.funs.mem hb;have e4:o2=o:=Option.some.inj (e3.symm.trans q);subst e4;obtain⟨sl2,e5⟩:=up b _ e2 nf;exact⟨sl2,e5⟩
 have old:∀b o,s.heap.get? b=some o->b∉frs outer->∃ob,s'.heap.get? b=some ob/\B.get? b=some ob:=fun b o q hb=>by
  obtain⟨o1,e1⟩:=I.base.there b o q (nil b);obtain⟨o2,e2⟩:=un.there b o1 e1 (nil b);exact⟨o2,e2,inc b o2 e2 (.inr ⟨⟨o1,e1⟩,I.oldNe q hb⟩)⟩
 refine⟨a,cls,B,H2,dx,rfl,os.trans I.os,bare,⟨fun b o q n hb _=>?_,fun b o q n hb _=>slot b o q n hb,fun b o q n _=>?_,fun b o q _=>?_,fun b xs q=>un.tups b xs (I.base.tups b xs q),fun b o u q=>un.frzs b o u (I.base.frzs b o u q),fun b ps q=>?_⟩,?_,⟨⟨a0,fl2⟩,dd2⟩,ha,fun b ob q hb=>?_,hE _ _ _ he⟩
 ·have e1:=I.base.keep b o q n hb (nil b);have e2:=un.keep b o e1 (I.base.free b o q n (nil b)) (I.oldNe q hb) (nil b);exact st b o (inc b o e2 (.inr ⟨⟨o,e1⟩,I.oldNe q hb⟩))
 ·obtain⟨o1,e1⟩:=I.base.there b o q (nil b);exact un.free b o1 e1 (I.base.free b o q n (nil b)) (nil b)
 ·by_cases hb:b∈frs outer
  ·obtain⟨sl,z⟩:=slot b o q (I.ok.frf b hb) hb;exact⟨_,z⟩
  ·obtain⟨ob,_,e2⟩:=old b o q hb;exact⟨ob,st b ob e2⟩
 ·obtain⟨m1,e1⟩:=I.base.tbls b ps q;obtain⟨m2,e2⟩:=un.tbls b _ e1;exact⟨m1++m2,by rw[e2,Array.append_assoc]⟩
 ·exact hok.keptT fun b u ob hb q=>st b ob (inc b ob q (.inl (by rw[hb];exact fun z=>nomatch z)))
 ·rcases hb with hb|⟨⟨o',ho'⟩,hb⟩
  ·cases z:H2 b with
   |none=>exact absurd z hb
   |some u=>
    obtain⟨o1,e1⟩:=(hok b u z).isAt;have e2:=inc b o1 e1 (.inl hb);have e3:o1=ob:=Option.some.inj ((st b o1 e2).symm.trans q);rw[<-e3];exact e2
  ·obtain⟨o1,e1,e2⟩:=old b o' ho' hb;have e3:o1=ob:=Option.some.inj ((st b o1 e2).symm.trans q);rw[<-e3];exact e2
theorem Cu:yL (CX1 P w) (cy (CX1 P w) P w K mg base N qual scope f cd A outer s H E) E:=fun _ _ _ _ _ _ I h=>qV (fun _ _ _ z=>z) I h
theorem G2:PassesOwn (model P w) (cy (CX1 P w) P w K mg base N qual scope f cd A outer s H E).A (cy (CX1 P w) P w K mg base N qual scope f cd A outer s H E).env (cy (CX1 P w) P w K mg base N qual scope f cd A outer s H E).xe:=
 PassesOwn.leaving
end
noncomputable def kZ(X:Cx)(E:XK):Prop:=∀(pins:List (Addr×Obj)) (σ:St)(H:Hp)(s:Shared)(e:Addr)(cls:Value)(args:List Value)(h':Heap),Inv X pins σ H s->Heap.MadeExcOf s.heap h' e cls args->E cls none H->X.xe (.ref e) {s with heap:=h'}
noncomputable def hV(X:Cx)(E:XK):Prop:=∀(pins:List (Addr×Obj)) (σ:St)(H:Hp)(s:Shared)(e:Addr)(oe:Obj)(vs:Array Value)(a0:Value),Inv X pins σ H s->H e=none->X.s₀.heap.get? e=none->s.heap.get? e=some oe->oe.data=.fields vs->vs[0]?=some a0->vs[1]?=some .none->E oe.cls oe.dict H->X.xe (.ref e) s
theorem qP{K:PySem.W.Frag} :
  hV (cy (CX1 P w) P w K mg base N qual scope f cd A outer s H E) E:=fun _ _ _ s1 e oe vs a0 I ht h0 hoe hv v0 v1 he=>jW (h':=s1.heap) I (fun _ _ q _=>q) (fun o q=>by
 cases hoe.symm.trans q;exact⟨vs,hv⟩) ht h0 hoe hv v0 v1 he
theorem t8{K:PySem.W.Frag} :
  kZ (cy (CX1 P w) P w K mg base N qual scope f cd A outer s H E) E:=fun _ _ _ _ _ _ _ _ I hx he=>oX I hx he
abbrev bmV:List Value:=[.type "ValueError",.type "Exception",.type "BaseException",.type "object"]
noncomputable def uO(K:PySem.W.Frag)(C:Addr):Prop:=PySem.W.excIn K C bmV "ValueError.__new__"=true
noncomputable def wZ(E:XK)(C:Addr)(t:TA):TS:=fun _ σ H=>t σ H fun vs H1=>vs.length<=sizeLine/\E (.ref C) none H1
theorem tU{K:PySem.W.Frag}{h:Heap}(X:K.In h)(z:PySem.W.excIn K C bmB nid=true) :
  ∃bm M nm qn bs b1 sn sb b2 co dd x0 x1 x2 x3 x5 mN,h.get? C=some (excClassObj nm qn C M bs bm b1 sn sb b2 co dd x0 x1 x2 x3 x5 nid)/\h.Ns M mN/\mN "__init__"=none/\OwnTail h bmB bm:=by
 unfold PySem.W.excIn at z;split at z
 next dd cd sl ho=>
  split at z
  next C' bm x0 x1 x2 x3 n x5 hm hs=>
   rw[Bool.and_eq_true,Bool.and_eq_true,Bool.and_eq_true,Bool.and_eq_true,Bool.and_eq_true,beq_iff_eq,beq_iff_eq,beq_iff_eq]at z;have z1:=z.1.1.1.1.1;have z2:=z.1.1.1.1.2;have z3:=z.1.1.1.2;have z4:=z.1.1.2;have z5:=z.1.2;have z6:=z.2;subst z1;subst z2;cases cd with
   |mk nm bs mro ns qn hd sn sub ab col del=>
    cases hm;cases del with
    |true=>cases z3
    |false=>
     have es:sl=#[x0,x1,x2,x3,some (.builtin n),x5]:=by
      cases sl with
      |mk l=>cases hs;rfl
     subst es;exact⟨bm,ns,nm,qn,bs,hd,sn,sub,ab,col,dd,x0,x1,x2,x3,x5,_,X _ _ ho,.of_isNs (PySem.W.isNs_of_in X z5),PySem.W.nsMap_none_of_in X z5 z6,PySem.W.tail_of_in X z4⟩
  next=>cases z
 next=>cases z
section
variable {X:Cx}
theorem rD(hx:kZ X E)(hc:X.calm=true)(hg:Gl X x)(hm:X.mg x=some (.ref C))(q:uO X.K C)(ha:PA X (e::es) t)(hdb:(x == ("__debug__" : Str))=false:=by decide)
  (he:starEach (e::es) X.env=(false,eval e X.env)::starEach es X.env:=by rfl) (hpl:(backTo cpos (starEach es X.env)).any (·.1)=false:=by rfl) :
  PS X (.Raise (some (.Call (.Name x np) (e::es) [] cpos)) none pos) (wZ E C t):=by
 intro pins s σ H D I h;obtain⟨bm,M,nm,qn,bs,b1,sn,sb,b2,co,dd,x0,x1,x2,x3,x5,mN,hC,hN,hni,T⟩:=tU I.ok.mod.kin q;refine wpAny_Raise_call_subT (C:=C) (nm:=nm) (q:=qn) (N:=M) (bs:=bs) (bm:=bm) (hdct:=b1) (sn:=sn) (sub:=sb) (ab:=b2) (col:=co) (dd:=dd) (k0:=x0) (k1:=x1) (k2:=x2) (k3:=x3) (k5:=x5)
  PySem.F.excBase_ValueError (mN:=mN) (T.hasType PySem.F.excBase_ValueError.hasBase) (I.ok.hd hc) ?pl hni (bB I hg hm ⟨rfl,?_⟩ hdb)
 case pl=>
  rw[he];show (false||(backTo cpos (starEach es X.env)).any (·.1))=false
  rw[hpl];rfl
 have h2:=ha cpos pins s σ H _ I h;rw[he]at h2 ⊢;refine Calls.evalArgs_plain (thn h2 fun us s2 ⟨vs,H2,I2,r,z,q2⟩=>?_)
 exact⟨rfl,by rw[<-r.length];exact z,I2.bk _ _ hC,hN.keeps I2.bk,T.keeps I2.bk,fun h' a hm'=>hx pins σ H2 s2 a _ us h' I2 hm' q2⟩
end
end L2
namespace L2
open PySem PySem.Spec PyProof.Rows
noncomputable def aS(CX:CXT)(X:Cx)(E:St->XK):Prop:=∀(pins:List (Addr×Obj)) (σ:St)(H:Hp)(s:Shared)(e:Value)(s':Shared),Inv X pins σ H s->CX X.stack H s (E σ) e s'->X.xe e s'
section
variable {X:Cx}{p:Pos}{o:Expr}
end
section
variable {X:Cx}{σ:St}{s1 s':Shared}{B:Heap}
theorem Inv.behind(I:Inv X pins σ H1 s1)(hex:X.ex=[])(os:s'.os=s1.os)(bare:AllBare s'.gens)(un:Un (frs X.stack) [] H1 H2 s1.heap s'.heap)(hok:HOk X.prog X.w H2 s'.heap)
  (inc:Within B X.stack s1.heap H2 s'.heap)(st:B.StaysIn h4)(up:s'.heap.UpToSlots h4):Inv X pins σ H2 {s' with heap:=h4}:=by
 have nil:∀b:Addr,b∉([]:List Addr):=fun b z=>nomatch z
 have ex:∀b:Addr,b∉X.ex:=fun b=>by rw[hex];exact nil b
 have dataK:∀b o,s1.heap.get? b=some o->H1 b=none->(∀vs,o.data≠.fields vs)->∃sl,h4.get? b=some {o with slots:=sl}:=fun b o q n nf=>by
  obtain⟨sl,e1⟩:=un.any q n (nil b);obtain⟨sl2,e2⟩:=up b _ e1 nf;exact⟨sl2,e2⟩
 have cellK:∀x c,X.env.cells.lookup x=some c->∀v,s1.heap.IsCell c v->h4.IsCell c v:=fun x c e v ⟨o,ho,hd⟩=>by
  obtain⟨sl,z⟩:=dataK c o ho (I.freeC x c e) fun vs q=>by rw[hd]at q;cases q
  exact⟨_,z,hd⟩
 refine⟨I.ok,os.trans I.os,bare,⟨fun b o q n hb _=>?_,fun b o q n hb _=>?_,fun b o q n _=>?_,fun b o q _=>?_,fun b xs q=>un.tups b xs (I.base.tups b xs q),fun b o u q=>un.frzs b o u (I.base.frzs b o u q),fun b ps q=>?_⟩,?_,fun x c e=>?_,?_,fun x c e=>?_,fun p hp=>?_,?_,I.len⟩
 ·have e1:=I.base.keep b o q n hb (ex b);have e2:=un.keep b o e1 (I.base.free b o q n (ex b)) (I.oldNe q hb) (nil b);exact st b o (inc b o e2 (.inr ⟨⟨o,e1⟩,I.oldNe q hb⟩))
 ·obtain⟨sl,e1⟩:=I.base.slot b o q n hb (ex b);obtain⟨_,o2,e3,nf⟩:=I.ok.funs.mem hb;have e4:o2=o:=Option.some.inj (e3.symm.trans q);subst e4;obtain⟨sl2,e5⟩:=dataK b _ e1 (I.base.free b _ q n (ex b)) nf;exact⟨sl2,e5⟩
 ·obtain⟨o1,e1⟩:=I.base.there b o q (ex b);exact un.free b o1 e1 (I.base.free b o q n (ex b)) (nil b)
 ·obtain⟨o1,e1⟩:=I.base.there b o q (ex b);by_cases hb:b∈X.fs
  ·obtain⟨_,o2,e3,nf⟩:=I.ok.funs.mem hb;obtain⟨sl,e4⟩:=I.base.slot b o2 e3 (I.ok.frf b hb) hb (ex b);obtain⟨sl2,e5⟩:=dataK b _ e4 (I.base.free b _ e3 (I.ok.frf b hb) (ex b)) nf;exact⟨_,e5⟩
  ·obtain⟨o2,e2⟩:=un.there b o1 e1 (nil b);exact⟨o2,st b o2 (inc b o2 e2 (.inr ⟨⟨o1,e1⟩,I.oldNe q hb⟩))⟩
 ·obtain⟨m1,e1⟩:=I.base.tbls b ps q;obtain⟨m2,e2⟩:=un.tbls b _ e1;exact⟨m1++m2,by rw[e2,Array.append_assoc]⟩
 ·obtain⟨m,⟨o,es,ep,ho,hd,r⟩,hl⟩:=I.loc;obtain⟨sl,z⟩:=dataK _ o ho I.free fun vs q=>by rw[hd]at q;cases q
  refine⟨m,⟨_,es,ep,z,hd,r⟩,fun i x v e1 e2 e3=>?_⟩
  obtain⟨u,r',l⟩:=hl i x v e1 e2 e3;refine⟨u,r',l.elim .inl fun ⟨k,c,e,z⟩=>.inr ⟨k,c,e,cellK x c e _ z⟩⟩
 ·obtain⟨v,z⟩:=I.cell x c e;exact⟨v,cellK x c e v z⟩
 ·obtain⟨m,⟨o,_,_,ho,_⟩,_⟩:=I.loc;exact un.free _ o ho I.free (nil _)
 ·obtain⟨v,o,ho,_⟩:=I.cell x c e;exact un.free c o ho (I.freeC x c e) (nil _)
 ·obtain⟨e,n,ne,nf,d⟩:=I.pin p hp;have nb:p.1∉frs X.stack:=fun hm=>(List.mem_cons.mp (I.stkSub _ hm)).elim ne nf
  have e2:=un.keep p.1 p.2 e n nb (nil _);exact⟨st _ _ (inc _ _ e2 (.inr ⟨⟨_,e⟩,nb⟩)),un.free p.1 p.2 e n (nil _),ne,nf,d⟩
 ·exact hok.keptT fun b u ob hb q=>st b ob (inc b ob q (.inl (by rw[hb];exact fun z=>nomatch z)))
theorem tI(fl:Fly B X.stack a cls s'.heap)(inc:Within B X.stack s1.heap H2 s'.heap):s1.heap.get? a=none:=by
 obtain⟨a0,f1,f2,f3,oe,vs,T,oT,ts,he,hc,hd,_⟩:=fl;cases q:s1.heap.get? a with
 |none=>rfl
 |some o=>
  have z:=inc a oe he (.inr ⟨⟨o,q⟩,fun hm=>by
   obtain⟨_,o2,e2,nf⟩:=f3.mem hm;rw[he]at e2;cases e2;exact nf vs hd⟩)
  rw[f2]at z;cases z
end
noncomputable def qe(a:Addr)(cls:Value)(dx:Option Addr):HO:=.ext fun h=>∃o vs,h.get? a=some o/\o.cls=cls/\o.data=.fields vs/\o.dict=dx
section
variable {X:Cx}{σ:St}{s:Shared}
theorem Inv.trackExc{o:Obj}(I:Inv X pins σ H s)(hn:H a=none)(ho:s.heap.get? a=some o)(hc:o.cls=cls)(hd:o.data=.fields vs)(hdx:o.dict=dx)(h0:X.s₀.heap.get? a=none)(hp:∀p∈X.pn++pins,p.1≠a) :
  Inv X pins σ (upd H a (qe a cls dx)) s:=by
 have ne:∀b u,H b=some u->b≠a:=fun b u q=>aC q hn
 have nL:X.env.locals≠a:=fun z=>by
  obtain⟨m,⟨o',_,_,ho',hd',_⟩,_⟩:=I.loc;rw[z,ho]at ho';cases ho';rw[hd]at hd';cases hd'
 have nC:∀x c,X.env.cells.lookup x=some c->c≠a:=fun x c e z=>by
  obtain⟨v,o',ho',hd'⟩:=I.cell x c e;rw[z,ho]at ho';cases ho';rw[hd]at hd';cases hd'
 refine⟨I.ok,I.os,I.bare,⟨I.base.keep,I.base.slot,fun b o' q n hx=>?_,I.base.there,fun b xs q=>?_,fun b o' u q=>?_,fun b ps q=>?_⟩,I.loc,I.cell,?_,fun x c e=>?_,fun p hp'=>?_,fun b u q=>?_,I.len⟩
 ·rw[ae fun z=>by rw[z,h0]at q;cases q]
  exact I.base.free b o' q n hx
 ·have z:=I.base.tups b xs q;rw[ae (ne _ _ z)];exact z
 ·have z:=I.base.frzs b o' u q;rw[ae (ne _ _ z)];exact z
 ·obtain⟨m,z⟩:=I.base.tbls b ps q;exact⟨m,by rw[ae (ne _ _ z)];exact z⟩
 ·rw[ae nL];exact I.free
 ·rw[ae (nC x c e)];exact I.freeC x c e
 ·obtain⟨e,n,r⟩:=I.pin p hp';exact⟨e,by rw[ae (hp p hp')];exact n,r⟩
 ·by_cases hb:b=a
  ·subst hb;rw[ah]at q;cases q;exact⟨⟨o,vs,ho,hc,hd,hdx⟩,⟨o,ho⟩,fun h1 h2 ⟨o1,vs1,e1,e2,e3⟩ k=>⟨o1,vs1,k _ e1,e2,e3⟩⟩
  ·rw[ae hb]at q;exact (I.hok b u q).stay (fun _ _ _ z=>z) (fun c z=>by rw[ae (ne _ _ z)];exact z) fun c xs z=>by rw[ae (ne _ _ z)];exact z
theorem Inv.goes{h':Heap}(hi:X.N[i]?=some n)(hN:X.N.Nodup)(I:Inv X pins σ H s)(hm:s.heap.Ns X.env.locals m)
  (hl:∀(j:Nat)(x:Str)(w:V),X.N[j]?=some x->σ[j]?=some (some w)->Vis X.env.scope x->∃u,RelV w u/\DX X.env s.heap m x u)
  (hn:h'.Ns X.env.locals (fun x=>if x=n then v else m x)) (hs:Heap.SameBut X.env.locals s.heap h'):Inv X pins (σ.set i none) H {s with heap:=h',toks:=t'}:=by
 obtain⟨oL,_,_,hoL,_⟩:=id hm;have old:∀b o,X.s₀.heap.get? b=some o->h'.get? b=s.heap.get? b:=fun b o e=>hs.2 b (Nat.ne_of_lt (Nat.lt_of_lt_of_le (Heap.lt_size e) I.ok.above))
 refine⟨I.ok,I.os,I.bare,⟨fun b o q n hb hx=>(old b o q).trans (I.base.keep b o q n hb hx),fun b o q n hb hx=>?_,I.base.free,fun b o q hx=>?_,I.base.tups,I.base.frzs,I.base.tbls⟩,⟨_,hn,fun j y w e1 e2 e3=>?_⟩,fun y c e=>?_,I.free,I.freeC,fun p hp=>?_,fun b u q=>?_,by rw[List.length_set];exact I.len⟩
 ·obtain⟨sl,z⟩:=I.base.slot b o q n hb hx;exact⟨sl,(old b o q).trans z⟩
 ·obtain⟨o',z⟩:=I.base.there b o q hx;exact⟨o',(old b o q).trans z⟩
 ·have hj:j≠i:=fun z=>by
   subst z;rw[List.getElem?_set_self']at e2;cases q:σ[j]? with
   |none=>rw[q]at e2;cases e2
   |some r=>rw[q]at e2;cases e2
  rw[List.getElem?_set_ne (Ne.symm hj)]at e2;obtain⟨u,r,l⟩:=hl j y w e1 e2 e3;refine⟨u,r,?_⟩;rcases l with ⟨k,e⟩|⟨k,c,e,z⟩
  ·refine .inl ⟨k,?_⟩;have:y≠n:=fun e=>hj (iG hN e1 (e▸hi))
   show (if y=n then v else m y)=some u
   rw[if_neg this];exact e
  ·exact .inr ⟨k,c,e,z.sameBut hs (I.cne y c e)⟩
 ·obtain⟨w',z⟩:=I.cell y c e;exact⟨w',z.sameBut hs (I.cne y c e)⟩
 ·obtain⟨e,n,ne,nf,d⟩:=I.pin p hp;exact⟨(hs.2 p.1 ne).trans e,n,ne,nf,d⟩
 ·refine (I.hok b u q).stay (fun c w' hc z=>(hs.2 c ?_).trans z) (fun _ z=>z) fun _ _ z=>z
  rintro rfl;rcases hc with rfl|hc
  ·rw[I.free]at q;cases q
  ·rw[I.free]at hc;cases hc
end
noncomputable abbrev Cx.marked(X:Cx)(v:Value):Cx:={X with A:=X.A.mark (some v),calm:=false,xe:=fun _ _=>False}
noncomputable abbrev Cx.tryX(X:Cx)(pn:List (Addr×Obj))(W:Value->Shared->Prop):Cx:={X with pn:=X.pn++pn,xe:=W}
section
variable {X:Cx}
theorem Inv.marked(I:Inv X pins σ H s)(v:Value):Inv (X.marked v) pins σ H s:=
 ⟨⟨I.ok.mod,I.ok.kind,I.ok.glob,I.ok.blt,I.ok.above,I.ok.inj,I.ok.has,I.ok.cab,(fun z=>nomatch z),I.ok.frames,I.ok.stk,I.ok.exf,I.ok.bs,I.ok.bsz,I.ok.noex,I.ok.exfs,I.ok.funs,I.ok.frf⟩,I.os,I.bare,I.base,I.loc,I.cell,I.free,I.freeC,I.pin,I.hok,I.len⟩
theorem Inv.unmark{v:Value}(ok:X.Ok)(I:Inv (X.marked v) pins σ H s):Inv X pins σ H s:=⟨ok,I.os,I.bare,I.base,I.loc,I.cell,I.free,I.freeC,I.pin,I.hok,I.len⟩
theorem Cx.Ok.tryX(ok:X.Ok)(pn:List (Addr×Obj))(W:Value->Shared->Prop):(X.tryX pn W).Ok:=
 ⟨ok.mod,ok.kind,ok.glob,ok.blt,ok.above,ok.inj,ok.has,ok.cab,ok.hd,ok.frames,ok.stk,ok.exf,ok.bs,ok.bsz,ok.noex,ok.exfs,ok.funs,ok.frf⟩
theorem Inv.tryX(I:Inv X pins σ H s)(W:Value->Shared->Prop):Inv (X.tryX pins W) [] σ H s:=
 ⟨I.ok.tryX _ _,I.os,I.bare,I.base,I.loc,I.cell,I.free,I.freeC,fun p hp=>I.pin p (by rw[List.append_nil]at hp;exact hp),I.hok,I.len⟩
theorem Inv.untry(ok:X.Ok)(I:Inv (X.tryX pn W) pins σ H s):Inv X pn σ H s:=
 ⟨ok,I.os,I.bare,I.base,I.loc,I.cell,I.free,I.freeC,fun p hp=>I.pin p (List.mem_append_left _ hp),I.hok,I.len⟩
end
noncomputable def XI(X:Cx)(pins:List (Addr×Obj))(σ:St)(H:Hp)(a:Addr)(cls:Value)(dx:Option Addr)(s:Shared):Prop:=
 ∃B a0,Inv X pins σ H s/\(Heap.FlyingW B X.stack a cls a0 s.heap/\DA s.heap a dx)/\H a=none/\X.s₀.heap.get? a=none/\(∀p∈X.pn++pins,p.1≠a)/\∀h4,B.StaysIn h4->s.heap.UpToSlots h4->Inv X pins σ H {s with heap:=h4}
noncomputable def PH(X:Cx)(hs:List ExceptHandler)(t:Ends->St->XK):Prop:=
 ∀(pins:List (Addr×Obj)) (s:Shared)(σ:St)(H:Hp)(D:Ends)(a:Addr)(cls:Value)(dx:Option Addr),XI X pins σ H a cls dx s->t D σ cls dx H->wpAny (model X.prog X.w) X.A (handleBy (.ref a) X.env hs) (SP X pins D) X.xe s
noncomputable def Ends.goes(D:Ends)(i:Nat):Ends:=⟨fun σ H=>D.nx (σ.set i none) H,D.rt,fun σ H=>D.bk (σ.set i none) H,fun σ H=>D.ct (σ.set i none) H⟩
noncomputable def GJ(K:PySem.W.Frag)(C:Addr)(i:Nat)(ts:TS)(tr:Ends->St->XK):Ends->St->XK:=fun D σ cls d H=>
 (PySem.W.exmOne K cls (.ref C)=some true/\∀a,H a=none->ts (D.goes i) (σ.set i (some (.ref a))) (upd H a (qe a cls d)))\/(PySem.W.exmOne K cls (.ref C)=some false/\tr D σ cls d H)
noncomputable def Ha(K:PySem.W.Frag)(C:Addr)(ts:TS)(tr:Ends->St->XK):Ends->St->XK:=fun D σ cls d H=>
 (PySem.W.exmOne K cls (.ref C)=some true/\ts D σ H)\/(PySem.W.exmOne K cls (.ref C)=some false/\tr D σ cls d H)
section
variable {X:Cx}{c n:Str}{C:Addr}{b0:Stmt}{suite:List Stmt}{np hpos pos:Pos}{rest:List ExceptHandler}{ts:TS}{tr:Ends->St->XK}{i:Nat}
theorem fj{M:Model}{B h:Heap}{l:List Env}{a:Addr}{cls a0:Value}(fl:Heap.FlyingW B l a cls a0 h):PySem.W.Looks M h (typeOf (.ref a)) cls:=by
 obtain⟨ob,hob,hc⟩:=fl.there;exact hc▸(PySem.W.Looks.ld hob).andThen .now
theorem Ec(hg:Gl X c)(hm:X.mg c=some (.ref C))(hN:X.N.Nodup)(hi:X.N[i]?=some n)(hl:X.env.scope.names.lookup n=some .local)(hs:∀v,PSs (X.marked v) (b0::suite) ts)(hr:PH X rest tr)(hdb:(c == ("__debug__" : Str))=false:=by decide) :
  PH X (.ExceptHandler (some (.Name c np)) (some n) (b0::suite) hpos::rest) (GJ X.K C i ts tr):=by
 intro pins s σ H D a cls dx xi h;obtain⟨B,a0,I,⟨fl,dd⟩,ha,h0,hp,stab⟩:=id xi;rcases h with ⟨em,k⟩|⟨em,k⟩
 ·refine wpAny_handleBy_cons (codeAny_handlers_test (bB (I.marked (.ref a)) hg hm ?_ hdb)) (by intro q;cases q)
  refine (PySem.W.exm_one I.kIn (fj fl) em).here ?_;refine codeAny_handlers_suite_as (og fl dd fun h6 fl6 up6 dd6=>?_)
  have I6:=stab h6 fl6.1 up6;obtain⟨oe,vs,e1,e2,e3,_⟩:=fl6.first
  have e4:oe.dict=dx:=by
   obtain⟨o',z1,z2⟩:=dd6;cases e1.symm.trans z1;exact z2
  have I7:=I6.trackExc (cls:=cls) ha e1 e2 e3 e4 h0 hp;refine iS (X:=X.marked (.ref a)) (v:=.ref a) (I7.marked (.ref a)) hN hi (.inl hl) rfl (fun s7 I8=>?_) (.inr hl)
  refine wpAny_mono (hs (.ref a) pins s7 _ _ (D.goes i) I8 (k a ha)) (fun fl s8 q=>?_) (fun _ _ z=>False.elim z)
  have hcl:(X.env.scope.kind == .class||(X.env.scope.kind == .module&&X.env.locals != X.env.globals))=false:=by rw[I.ok.kind];rfl
  have fin:∀σ' H',Inv (X.marked (.ref a)) pins σ' H' s8->∀(Q:Unit->Shared->Prop),(∀s9,Inv X pins (σ'.set i none) H' s9->Q () s9)->
    wpAny (model X.prog X.w) X.A (do bindName X.env n .none;unbindBehindTheSuite X.env n hpos) Q X.xe s8:=fun σ' H' J Q kq=>by
   have J':=J.unmark I.ok;obtain⟨m,hm',hl'⟩:=J'.loc;exact wpAny_nameGoes_keeps hl hm' hcl fun h' v hn hs'=>kq _ (Inv.goes hi hN J' hm' hl' hn hs')
  match fl,q with
  |.next,⟨σ',H',J,q⟩=>exact fin σ' H' J _ fun s9 J9=>⟨_,_,J9,q⟩
  |.brk,⟨σ',H',J,q⟩=>exact fin σ' H' J _ fun s9 J9=>⟨_,_,J9,q⟩
  |.cont,⟨σ',H',J,q⟩=>exact fin σ' H' J _ fun s9 J9=>⟨_,_,J9,q⟩
  |.ret u,⟨v,σ',H',J,r,q⟩=>exact fin σ' H' J _ fun s9 J9=>⟨v,_,_,J9,r,q⟩
 ·refine wpAny_handleBy_cons (codeAny_handlers_test (bB (I.marked (.ref a)) hg hm ?_ hdb)) (by intro q;cases q)
  refine (PySem.W.exm_one I.kIn (fj fl) em).here ?_;exact hr pins s σ H D a cls dx xi k
theorem C7(hg:Gl X c)(hm:X.mg c=some (.ref C))(hs:∀v,PSs (X.marked v) (b0::suite) ts)(hr:PH X rest tr)(hdb:(c == ("__debug__" : Str))=false:=by decide) :
  PH X (.ExceptHandler (some (.Name c np)) none (b0::suite) hpos::rest) (Ha X.K C ts tr):=by
 intro pins s σ H D a cls dx xi h;obtain⟨B,a0,I,⟨fl,dd⟩,ha,h0,hp,stab⟩:=id xi;rcases h with ⟨em,k⟩|⟨em,k⟩
 ·refine wpAny_handleBy_cons (codeAny_handlers_test (bB (I.marked (.ref a)) hg hm ?_ hdb)) (by intro q;cases q)
  refine (PySem.W.exm_one I.kIn (fj fl) em).here ?_;refine codeAny_handlers_suite (og fl dd fun h6 fl6 up6 dd6=>?_)
  have I6:=stab h6 fl6.1 up6;refine wpAny_mono (hs (.ref a) pins _ _ _ D (I6.marked (.ref a)) k) (fun fl s8 q=>?_) (fun _ _ z=>False.elim z)
  match fl,q with
  |.next,⟨σ',H',J,q⟩=>exact⟨_,_,J.unmark I.ok,q⟩
  |.brk,⟨σ',H',J,q⟩=>exact⟨_,_,J.unmark I.ok,q⟩
  |.cont,⟨σ',H',J,q⟩=>exact⟨_,_,J.unmark I.ok,q⟩
  |.ret u,⟨v,σ',H',J,r,q⟩=>exact⟨v,_,_,J.unmark I.ok,r,q⟩
 ·refine wpAny_handleBy_cons (codeAny_handlers_test (bB (I.marked (.ref a)) hg hm ?_ hdb)) (by intro q;cases q)
  refine (PySem.W.exm_one I.kIn (fj fl) em).here ?_;exact hr pins s σ H D a cls dx xi k
end
end L2
namespace L2
open PySem PySem.Spec PySem.Calls PyProof.Rows
noncomputable def cP(K:PySem.W.Frag)(C:Addr):Bool:=match K.lookup C with
 |some ⟨.type "type",_,.cls k,sl⟩=>(match k.mro with
  |.ref C2::above=>C2 == C&&!k.hasDel&&PySem.W.tailIn K bmV above&&(match sl.toList with
   |[_,_,_,_,some (.builtin mk),_]=>mk == "ValueError.__new__"
   |_=>false)
  |_=>false)
 |_=>false
theorem ft{K:PySem.W.Frag}{h:Heap}(X:K.In h)(z:cP K C=true) :
  ∃bm M nm qn bs b1 sn sb b2 co dd x0 x1 x2 x3 x5,h.get? C=some (excClassObj nm qn C M bs bm b1 sn sb b2 co dd x0 x1 x2 x3 x5 "ValueError.__new__")/\OwnTail h bmV bm:=by
 unfold cP at z;split at z
 ·rename_i dd k sl ho;split at z
  ·rename_i C2 above hm;rw[Bool.and_eq_true,Bool.and_eq_true,Bool.and_eq_true,beq_iff_eq]at z;obtain⟨⟨⟨rfl,z2⟩,z3⟩,z4⟩:=z;split at z4
   ·rename_i x0 x1 x2 x3 mk x5 hs;rw[beq_iff_eq]at z4;subst z4;cases k with
    |mk nm bs mro ns qn hd sn sub ab col del=>
     cases hm;cases del with
     |true=>cases z2
     |false=>
      have es:sl=#[x0,x1,x2,x3,some (.builtin "ValueError.__new__"),x5]:=by
       cases sl with
       |mk l=>cases hs;rfl
      subst es;exact⟨above,ns,nm,qn,bs,hd,sn,sub,ab,col,dd,x0,x1,x2,x3,x5,X _ _ ho,PySem.W.tail_of_in X z3⟩
   ·cases z4
  ·cases z
 ·cases z
noncomputable abbrev exB:ExcBaseFacts "ValueError" "ValueError.__new__" "ValueError.__init__" bmV:=PySem.F.excBase_ValueError
section
variable {A:Around}{h:Heap}{os:OsState}{K:PySem.W.Frag}
theorem re{us:List Value}(X:K.In h)(z:cP K C=true)(hi:PySem.W.findIn K (.ref C) "__init__"=some (some (.ref fI)))(hf:PySem.W.typeIn K (.ref fI)=some (.type "function"))(hl:us.length<=sizeLine)
  (k:∀h' e,h.objs.size<=e->Heap.MadeExcOf h h' e (.ref C) us->wpAny (model prog w) (A.under (.builtin "type.__call__" ⟨.ref C::us,[]⟩)) (call (.ref fI) (.ref e::us)) (fun r s'=>r=.none/\Q (.ref e) s') E ⟨h',g,d,t,os⟩) :
  wpAny (model prog w) A (call (.ref C) us) Q E ⟨h,g,d,t,os⟩:=by
 obtain⟨bm,M,nm,qn,bs,b1,sn,sb,b2,co,dd,x0,x1,x2,x3,x5,hC,T⟩:=ft X z;have F:=exB;have f1:=tc_lookup;have f2:=tc_bind (.ref C);have hT:(⟨h,g,d,t,os⟩:Shared).TypeIs (.ref C) "type":=⟨_,hC,rfl⟩;refine wpAny_call (codeAny_of_tree ?_);show wpAny _ _ (callAny (.ref C) _) _ _ _
 repeat (any_goals (first|assumption|with_reducible refine wpAny_loadPart_at hC ?_|wp_step))
 refine⟨rfl,codeAny_call_builtin_at (Code.quiet_builtin _ (by decide +kernel)) entry_typeCall (wpAny_check_type_call_sub hC ?_)⟩
 repeat (first|with_reducible refine wpAny_loadPart_at hC ?_|with_reducible refine wpAny_madeBy_exc hC ?_|wp_step)
 refine codeAny_call_builtin_code (Code.quiet_builtin _ F.quiet) (wpAny_check_new_subU F F.hasB T hC (codeAny_exc_new_subU F F.hasB F T hC ?_ hl));show wpAny _ _ _ _ _ ⟨(h.push {cls:=.type "tuple",data:=.seq us.toArray}).push {cls:=.ref C,data:=.fields #[.ref h.objs.size,.none,.none,.none,.bool false,.none]},g,d,t,os⟩;generalize hoT:({cls:=.type "tuple",data:=.seq us.toArray}:Obj)=oT;generalize hoE:({cls:=.ref C,data:=.fields #[.ref h.objs.size,.none,.none,.none,.bool false,.none]}:Obj)=oE;have kp:∀b o,h.get? b=some o->((h.push oT).push oE).get? b=some o:=fun b o q=>Heap.get?_push_of_some _ (Heap.get?_push_of_some _ q)
 have gC:=kp _ _ hC;have gE:((h.push oT).push oE).get? (h.objs.size+1)=some oE:=Heap.get?_push_at (by rw[Heap.size_push]) (by rw[<-hoE];rfl)
 have cE:oE.cls=.ref C:=by rw[<-hoE]
 have has:(Value.ref C::bm).contains (.ref C)=true:=by simp
 have X1:K.In ((h.push oT).push oE):=X.keeps kp;unfold isInstance
 repeat (first|(with_reducible refine wpAny_loadPart_at gE ?_;rw[cE])|(with_reducible refine wpAny_isSubtype_exc gC ?_;rw[has])|wp_step)
 show wpAny _ _ (typeLookup (.ref C) _) _ _ _;refine (PySem.W.looks_findIn X1 hi).here ?_;refine wpAny_holding (wpAny_bind ((PySem.W.bind_fn X1 _ hf).here (wpAny_bind (wpAny_mono (k _ (h.objs.size+1) (Nat.le_succ _) ⟨kp,Heap.get?_none_of_le (Nat.le_succ _),h.objs.size,?_,Heap.get?_none_of_le (Nat.le_refl _),?_⟩) (fun r s' hr=>?_) fun _ _ x=>x))))
 ·rw[gE,<-hoE]
 ·rw[<-hoT];exact Heap.get?_push_of_some _ (Heap.get?_push_at rfl rfl)
 ·obtain⟨rfl,hQ⟩:=hr
  wp_walk
  exact hQ
theorem rb{oe:Obj}{us:List Value}(X:K.In h)(z:cP K C=true)(he:h.get? e=some oe)(hc:oe.cls=.ref C)(hd:oe.data=.fields vs)(h0:vs[0]?=some (.ref t0))(hl:us.length<=sizeLine)
  (k:Q .none ⟨(h.push {cls:=.type "tuple",data:=.seq us.toArray}).update e (Obj.mapFields (·.setIfInBounds 0 (.ref h.objs.size))),g,d,t,os⟩):wpAny (model prog w) A (call (.builtin "ValueError.__init__") (.ref e::us)) Q E ⟨h,g,d,t,os⟩:=by
 obtain⟨bm,M,nm,qn,bs,b1,sn,sb,b2,co,dd,x0,x1,x2,x3,x5,hC,T⟩:=ft X z;refine wpAny_call (codeAny_call_builtin exB.init.plain exB.initEntry (wpAny_check_init_subU exB T hC he hc ?_));unfold Builtin.«BaseException.__init__»;dsimp only;rw[if_neg (by simp)]
 unfold newTuple Builtin.BaseException.bexcPut;have e1:=Heap.get?_push_of_some (h:=h) {cls:=.type "tuple",data:=.seq us.toArray} he;refine wpAny_bind (wpAny_newObj_type ?_ (by show us.toArray.size<=sizeLine;rw[List.size_toArray];exact hl))
 exact wpAny_bind (wpAny_bind (wpAny_field e1 hd h0 (wpAny_bind (wpAny_setField e1 hd (Array.getElem?_eq_some_iff.mp h0).1 (wpAny_letGo (wpAny_pure k))))))
theorem lP(T:OwnTail h bmV bm):refuseLoop self "__setattr__" bm=pure ():=by
 induction T with
 |base=>exact PySem.F.store_ValueError.passes self
 |own _ _ _ _ ih=>rw[refuseLoop_ref];exact ih
theorem rH{oe:Obj}{s:Shared}(X:K.In s.heap)(z:cP K C=true)(he:s.heap.get? e=some oe)(hc:oe.cls=.ref C)(hd:oe.data=.fields vs)(hdn:oe.dict=none)
  (hfn:PySem.W.findIn K (.ref C) name=some none) (hhd:PySem.W.hasDictIn K C=true) (hm:PySem.W.mroIn K C (.type "object")=some true)
  (k:∀h' t',h'.get? e=some {oe with dict:=some s.heap.objs.size}->h'.Ns1 s.heap.objs.size (fun y=>if y=name then some v else none)->(∀b o,b≠e->s.heap.get? b=some o->h'.get? b=some o)->R (.ok (.ret .none)) {s with heap:=h',toks:=t'}) :
  codeAny (model prog w) A (.call (.builtin "object.__setattr__") ⟨[.ref e,.str name tk,v],[]⟩) R s:=by
 obtain⟨bm,M,nm,qn,bs,b1,sn,sb,b2,co,dd,x0,x1,x2,x3,x5,hC,T⟩:=ft X z;have SF:=PySem.F.store_ValueError;have LT:PySem.W.Looks (model prog w) s.heap (typeOf (.ref e)) (.ref C):=hc▸(PySem.W.Looks.ld he).andThen .now;have sub:PySem.W.Looks (model prog w) s.heap (isInstance (.ref e) (.type "object")) true:=LT.andThen (PySem.W.looks_mroIn X hm);obtain⟨cd,hcd,hdt⟩:=PySem.W.any_some hhd;have LM:PySem.W.Looks (model prog w) s.heap (mroOf (.ref C)) cd.mro:=(PySem.W.looks_clsIn X hcd).andThen .now;have em:cd.mro=.ref C::bm:=by
  unfold PySem.W.clsIn at hcd;split at hcd
  ·rename_i c' d' cd' sl' ho;cases hcd;have:=X _ _ ho;rw[hC]at this;cases this;rfl
  ·cases hcd
 refine codeAny_call_builtin SF.slot.plain SF.entry (@PySem.W.check_slot (model prog w) _ _ s "object.__setattr__" "object" "__setattr__" (.ref e) [.str name tk,v] [] _ SF.kind SF.split sub (SF.args (.ref e) (.str name tk) v) ?_);rw[PySem.W.osa_eq,refuse_eq];refine wpAny_bind (wpAny_bind (LT.here (wpAny_bind (LM.here ?_))));rw[em,refuseLoop_ref,lP T];refine wpAny_pure (wpAny_bind (LT.here (wpAny_bind ((PySem.W.looks_findIn X hfn).here (wpAny_bind (wpAny_pure ?_))))));dsimp only;obtain⟨oc,od,oda,osl⟩:=oe;dsimp only at hc hd hdn;subst hc hd hdn;refine wpAny_bind (wpAny_pure (wpAny_bind (wpAny_bind (wpAny_loadPart he (wpAny_bind ((PySem.W.looks_clsIn X hcd).here ?_))))));rw[hdt];refine wpAny_bind (wpAny_alloc' ?_);have ne:e≠s.heap.objs.size:=Nat.ne_of_lt (Heap.lt_size he);have e1:(s.heap.push {cls:=.type "dict",data:=.dict #[]}).get? e=some ⟨.ref C,none,.fields vs,osl⟩:=Heap.get?_push_of_some _ he;refine wpAny_bind (wpAny_update' e1 (wpAny_pure ?_));generalize hH:(s.heap.push {cls:=.type "dict",data:=.dict #[]}).update e (fun o=>{cls:=o.cls,dict:=some s.heap.objs.size,data:=o.data,slots:=o.slots})=H1
 have gd:H1.get? s.heap.objs.size=some {cls:=.type "dict",data:=.dict #[]}:=by
  rw[<-hH];exact (Heap.get?_update_ne _ _ _ _ ne.symm).trans (Heap.get?_push_at rfl rfl)
 have ge:H1.get? e=some ⟨.ref C,some s.heap.objs.size,.fields vs,osl⟩:=by
  rw[<-hH];exact Heap.get?_update_self _ e1 rfl
 have gk:∀b o,b≠e->s.heap.get? b=some o->H1.get? b=some o:=fun b o n q=>by
  rw[<-hH];exact (Heap.get?_update_ne _ _ _ _ n).trans (Heap.get?_push_of_some _ q)
 have nd:H1.Ns s.heap.objs.size (fun _=>none):=⟨_,#[],_,gd,rfl,fun x hx=>absurd hx (by simp),fun _=>rfl⟩
 show wpAny _ _ (Builtin.ObjectAttr.storeInDict s.heap.objs.size (.str name tk) name v) _ _ _;unfold Builtin.ObjectAttr.storeInDict Builtin.ObjectAttr.newKeyGuard;refine wpAny_bind (wpAny_pure (wpAny_bind (wpAny_nsSet1 (Heap.Ns1.of_empty nd) fun h' n' hs=>?_)))
 obtain⟨oD,esD,epD,hoD,hdD,hcD⟩:=n'.count (PySem.Within.cons name v PySem.Within.nil);refine wpAny_bind (wpAny_lookBehind hoD (by rw[hdD];exact pastItsLine_dict (Nat.le_trans hcD (by rw[List.length_cons,List.length_nil,sizeLine_eq];omega))) ?_)
 exact wpAny_pure (k h' _ ((hs.2 e ne).trans ge) n' fun b o n q=>(hs.2 b (Nat.ne_of_lt (Heap.lt_size q))).trans (gk b o n q))
theorem uy{oe:Obj}{s:Shared}(X:K.In s.heap)(z:cP K C=true)(he:s.heap.get? e=some oe)(hc:oe.cls=.ref C)(hd:oe.data=.fields vs)(hdn:oe.dict=none)
  (hsa:PySem.W.findIn K (.ref C) "__setattr__"=some (some (.builtin "object.__setattr__"))) (hfn:PySem.W.findIn K (.ref C) name=some none) (hhd:PySem.W.hasDictIn K C=true) (hm:PySem.W.mroIn K C (.type "object")=some true)
  (k:∀h' t',h'.get? e=some {oe with dict:=some s.heap.objs.size}->h'.Ns1 s.heap.objs.size (fun y=>if y=name then some v else none)->(∀b o,b≠e->s.heap.get? b=some o->h'.get? b=some o)->Q () {s with heap:=h',toks:=t'}) :
  wpAny (model prog w) A (setAttr (.ref e) name v) Q E s:=by
 have LT:PySem.W.Looks (model prog w) s.heap (typeOf (.ref e)) (.ref C):=hc▸(PySem.W.Looks.ld he).andThen .now;have f3:=PySem.F.store_ValueError.slot.bind (.ref e);unfold setAttr callSpecial? specialOf;refine wpAny_bind (wpAny_mkText (wpAny_bind (wpAny_bind (wpAny_bind (LT.at ((PySem.W.looks_findIn X hsa).at (wpAny_holding (wpAny_bind ?_))))))));rw[f3];refine wpAny_pure (wpAny_bind (wpAny_call (rH (s:={s with toks:=s.toks+1}) X z he hc hd hdn hfn hhd hm fun h' t' q1 q2 q3=>?_)))
 exact wpAny_pure (wpAny_pure (k h' t' q1 q2 q3))
end
end L2
namespace L2
open PySem PySem.Spec PySem.Calls PyProof.Rows
section
variable {pos:Pos}
theorem fi{args:List Expr}(h1:(backTo pos (starEach args env)).any (·.1)=false)(h2:args.length < 30):methodCallForm (args.length+([]:List Keyword).length) (backTo pos (starEach args env)) (backToKw pos (keywordEach [] env))=true:=by
 unfold methodCallForm;have a:(backTo pos (starEach args env)).all (!·.1)=true:=by
  rw[List.all_eq_true];intro x hx;have:=List.any_eq_false.mp h1 x hx;simpa using this
 rw[a];have:(backToKw pos (keywordEach [] env)).all (·.1.isSome)=true:=rfl;rw[this];have h3:(backToKw pos (keywordEach ([]:List Keyword) env)).isEmpty=true:=rfl;simp only[h3,if_true,List.length_nil,Bool.true_and,Nat.add_zero,decide_eq_true_eq];exact h2
theorem eh{apos:Pos}{args:List Expr}(hb:attributeBase o m env (eval o env)=eval o env)
  (hf:methodCallForm (args.length+([]:List Keyword).length) (backTo pos (starEach args env)) (backToKw pos (keywordEach [] env))=true) (hl:(apos.endLine == pos.line)=true) :
  eval (.Call (.Attribute o m apos) args [] pos) env=(do
   let ov<-eval o env
   standAt apos.atName
   let (f,first)<-holding [ov] (getMethod ov m (do return (<-importBound o env).getD true))
   callWith pos f first (backTo pos (starEach args env)) (backToKw pos (keywordEach [] env))):=by
 rw[arm_eval_Call,hb];unfold methodCall calleeOf methodCallPos;simp only[hf,hl];rfl
end
noncomputable def fK(e C:Addr):HO:=.ext fun h=>∃t0,h.get? e=some {cls:=.ref C,data:=.fields #[.ref t0,.none,.none,.none,.bool false,.none]}
noncomputable def fH(e C dx:Addr):HO:=.ext fun h=>∃t0,h.get? e=some {cls:=.ref C,dict:=some dx,data:=.fields #[.ref t0,.none,.none,.none,.bool false,.none]}
theorem nB{h:Heap}(q:h.get? e=some {cls:=.ref C,data:=.fields #[.ref t0,.none,.none,.none,.bool false,.none]}):ObjOk P w H h e (fK e C):=
 ⟨⟨t0,q⟩,⟨_,q⟩,fun _ _ ⟨t1,z⟩ k=>⟨t1,k _ z⟩⟩
theorem tD{h:Heap}(q:h.get? e=some {cls:=.ref C,dict:=some dx,data:=.fields #[.ref t0,.none,.none,.none,.bool false,.none]}):ObjOk P w H h e (fH e C dx):=
 ⟨⟨t0,q⟩,⟨_,q⟩,fun _ _ ⟨t1,z⟩ k=>⟨t1,k _ z⟩⟩
structure XIni (K:PySem.W.Frag)(C fI:Addr)(f:Str):Prop where
 cl:cP K C=true
 ini:PySem.W.findIn K (.ref C) "__init__"=some (some (.ref fI))
 fn:PySem.W.typeIn K (.ref fI)=some (.type "function")
 sa:PySem.W.findIn K (.ref C) "__setattr__"=some (some (.builtin "object.__setattr__"))
 at_:PySem.W.findIn K (.ref C) f=some none
 hd:PySem.W.hasDictIn K C=true
 ob:PySem.W.mroIn K C (.type "object")=some true
 kp:PySem.W.keepIn K (.ref C)=true
structure BIni (K:PySem.W.Frag)(D:Addr):Prop where
 ga:PySem.W.specialIn K (.ref D) "__getattribute__"=some (some (.builtin "type.__getattribute__"))
 rd:PySem.W.readsIn K D (.type "type")=true
 at_:PySem.W.findCls K (.ref D) (.type "type") "__init__"=some (.val (.builtin "ValueError.__init__"))
noncomputable def tXI(K:PySem.W.Frag)(t:TA):TE:=fun σ H Q=>t σ H fun vs H1=>∃a r C,vs=.ref a::r/\cP K C=true/\H1 a=some (fK a C)/\r.length<=sizeLine/\Q .non H1
noncomputable def sXF(C:Addr)(f:Str)(ta tv:TE):TS:=fun D σ H=>tv σ H fun y H1=>ta σ H1 fun x H2=>∃a,x=.ref a/\H2 a=some (fK a C)/\∀dx o,H2 dx=none->dx≠a->D.nx σ (upd (upd H2 a (fH a C dx)) dx (.frz o (.xd [(f,y)])))
section
variable {X:Cx}{D:Addr}{apos pos:Pos}
theorem sU(hg:Gl X x)(hm:X.mg x=some (.ref D))(hdb:(x == ("__debug__" : Str))=false)(b:BIni X.K D)(ha:PA X (e::es) t)(hl:(apos.endLine == pos.line)=true)(hn:(e::es).length < 30)
  (he:starEach (e::es) X.env=(false,eval e X.env)::starEach es X.env) (hpl:(backTo pos (starEach es X.env)).any (·.1)=false) :
  PE X (.Call (.Attribute (.Name x px) "__init__" apos) (e::es) [] pos) (tXI X.K t):=by
 intro pins s σ H Q I h;have hst:(backTo pos (starEach (e::es) X.env)).any (·.1)=false:=by
  rw[he];show ((false,_)::backTo pos (starEach es X.env)).any (·.1)=false;rw[List.any_cons,hpl];rfl
 have hT:PE X (.Name x px) (tC (.ref D)):=fq hg hm rfl hdb;refine PySem.W.methodCall_KW (thn (hT pins s σ H (fun v H1=>v=.ref D/\H1=H) I ⟨rfl,rfl⟩) fun u s1 ⟨v,H1,I1,r1,e1,e2⟩=>?_) (eh (by rfl) (fi hst hn) hl)
 subst e1 e2;obtain rfl:u=Value.ref D:=r1;refine PySem.W.method_cls I1.kIn b.ga (PySem.W.cls_value I1.kIn b.rd b.at_ (by decide +kernel) ?_)
 have I2:=I1.tok (s1.toks+1);rw[he];refine PySem.W.callWith_of (P:=fun h=>X.K.In h) (by show ((false||(backTo pos (starEach es X.env)).any (·.1))||false)=false;rw[hpl];rfl) (fun _ _=>⟨.machine,.inr (.inl rfl),.now⟩) (PySem.Calls.evalArgs_plain ?_)
 have h2:=ha pos pins _ σ H1 _ I2 h;rw[he]at h2;refine thn h2 fun us s2 ⟨vs,H2,I3,r,a,rs,C,ev,z,ea,hz,q⟩=>⟨I3.kIn,?_⟩
 subst ev;cases r with
 |@cons v u vs us rv r=>
  obtain rfl:u=Value.ref a:=rv;have oa:=I3.hok a _ ea;obtain⟨⟨t0,go⟩,_,_⟩:=oa;obtain⟨h2,g2,d2,t2,os2⟩:=s2;refine rb (oe:=_) (t0:=t0) I3.kIn z go rfl rfl rfl (by rw[<-r.length];exact hz) ?_
  refine⟨.non,H2,?_,rfl,q⟩;have ge:((h2.push {cls:=.type "tuple",data:=.seq us.toArray}).update a (Obj.mapFields (·.setIfInBounds 0 (.ref h2.objs.size)))).get? a=some {cls:=.ref C,data:=.fields #[.ref h2.objs.size,.none,.none,.none,.bool false,.none]}:=
   Heap.get?_update_self _ (Heap.get?_push_of_some _ go) rfl
  have w:=I3.write (x:=a) (e:=a) (o:=fK a C) (h':=(h2.push {cls:=.type "tuple",data:=.seq us.toArray}).update a (Obj.mapFields (·.setIfInBounds 0 (.ref h2.objs.size)))) (t':=t2) (by rw[ea];exact True.intro) (.inl rfl)
   (fun b ob n q=>(Heap.get?_update_other _ _ (Ne.symm n)).trans (Heap.get?_push_of_some _ q)) ⟨_,ge⟩ (nB ge)
  have eq:upd H2 a (fK a C)=H2:=by
   funext b;by_cases hb:b=a
   ·rw[hb,ah,ea]
   ·rw[ae hb]
  rw[eq]at w;exact w
theorem uq(q:XIni X.K C fI f)(ha:PE X o ta)(hv:PE X value tv)(hs:swapsWith value (some (.Attribute o f pos')) pos.line X.env=pure false):PS X (.Assign [.Attribute o f pos'] value pos) (sXF C f ta tv):=by
 intro pins s σ H D I h;refine plainObj_wpAny_Assign_Attribute (thn (hv pins s σ H _ I h) fun u s1 ⟨y,H1,I1,ry,h1⟩=>thn (ha pins s1 σ H1 _ I1 h1) fun ov s2 ⟨x,H2,I2,rx,a,ex,ea,h2⟩=>?_) hs
 subst ex;obtain rfl:ov=Value.ref a:=rx;obtain⟨⟨t0,go⟩,_,_⟩:=I2.hok a _ ea;refine uy (vs:=#[.ref t0,.none,.none,.none,.bool false,.none]) I2.kIn q.cl go rfl rfl rfl q.sa q.at_ q.hd q.ob fun h' t' g1 g2 g3=>?_
 obtain⟨od,es,ep,gd,gr⟩:=id g2;have hn:H2 s2.heap.objs.size=none:=I2.hok.fresh (Nat.le_refl _);have ne:s2.heap.objs.size≠a:=Nat.ne_of_gt (Heap.lt_size go);have hk1:HOk X.prog X.w (upd H2 a (fH a C s2.heap.objs.size)) h':=I2.hok.write (x:=a) (e:=a) (by rw[ea];exact True.intro) (.inl rfl) (fun b u n q=>g3 b u n q) ⟨_,g1⟩ (tD g1)
 have un:∀b u,H2 b=some u->(∀φ,u≠.ext φ)->upd (upd H2 a (fH a C s2.heap.objs.size)) s2.heap.objs.size (.frz od (.xd [(f,y)])) b=some u:=fun b u q nx=>by
  rw[ae (aC q hn),ae (fun z=>by rw[z,ea]at q;cases q;exact nx _ rfl)]
  exact q
 refine⟨σ,_,I2.un (t':=t') ⟨fun b ob z n _ _=>g3 b ob (fun w=>by rw[w,ea]at n;cases n) z,fun b ob z n _ _=>⟨ob.slots,g3 b ob (fun w=>by rw[w,ea]at n;cases n) z⟩,fun b ob z n _=>?_,fun b ob z _=>?_,fun b xs z=>un b _ z (fun _ w=>nomatch w),fun b ob u z=>un b _ z (fun _ w=>nomatch w),fun b ps z=>⟨#[],by rw[Array.append_empty];exact un b _ z (fun _ w=>nomatch w)⟩⟩ (fun b u z=>?_),h2 _ od hn ne⟩
 ·rw[ae (Nat.ne_of_lt (Heap.lt_size z)),ae (fun w=>by rw[w,ea]at n;cases n)]
  exact n
 ·by_cases w:b=a
  ·subst w;exact⟨_,g1⟩
  ·exact⟨_,g3 b ob w z⟩
 ·by_cases w:b=s2.heap.objs.size
  ·subst w;rw[ah]at z;cases z;refine⟨gd,_,g2,fun n=>?_⟩
   show RelO (List.lookup n [(f,y)]) (if n=f then some u else none)
   by_cases wn:n=f
   ·rw[if_pos wn,wn,List.lookup_cons,beq_self_eq_true];exact ry
   ·rw[if_neg wn,List.lookup_cons,beq_eq_false_iff_ne.mpr wn];exact True.intro
  ·rw[ae w]at z;refine (hk1 b u z).stay (fun _ _ _ q=>q) (fun c q=>?_) fun c xs q=>?_
   ·rw[ae fun e=>?_]
    ·exact q
    ·rw[e,ae ne,hn]at q;cases q
   ·rw[ae fun e=>?_]
    ·exact q
    ·rw[e,ae ne,hn]at q;cases q
noncomputable def forget(H:Hp)(a:Addr):Hp:=fun b=>if b=a then none else H b
theorem cO:forget H a a=none:=if_pos rfl
theorem c4(h:b≠a):forget H a b=H b:=if_neg h
theorem Inv.forget(I:Inv X pins σ H s)(ea:H a=some (.ext φ)):Inv X pins σ (forget H a) s:=by
 have un:∀b u,H b=some u->(∀φ,u≠.ext φ)->L2.forget H a b=some u:=fun b u q nx=>by
  rw[c4 (fun z=>by rw[z,ea]at q;cases q;exact nx _ rfl)]
  exact q
 have nn:∀b,H b=none->L2.forget H a b=none:=fun b n=>by
  by_cases w:b=a
  ·rw[w];exact cO
  ·rw[c4 w];exact n
 refine⟨I.ok,I.os,I.bare,⟨I.base.keep,I.base.slot,fun b ob q n x=>nn b (I.base.free b ob q n x),I.base.there,fun b xs q=>un b _ (I.base.tups b xs q) (fun _ w=>nomatch w),fun b ob u q=>un b _ (I.base.frzs b ob u q) (fun _ w=>nomatch w),fun b ps q=>?_⟩,I.loc,I.cell,nn _ I.free,fun x c e=>nn _ (I.freeC x c e),fun p hp=>?_,fun b u q=>?_,I.len⟩
 ·obtain⟨m,z⟩:=I.base.tbls b ps q;exact⟨m,un b _ z (fun _ w=>nomatch w)⟩
 ·obtain⟨e,n,r⟩:=I.pin p hp;exact⟨e,nn _ n,r⟩
 ·have w:b≠a:=fun w=>by rw[w,cO]at q;cases q
  rw[c4 w]at q;exact (I.hok b u q).stay (fun _ _ _ z=>z) (fun c z=>un c _ z (fun _ w=>nomatch w)) fun c xs z=>un c _ z (fun _ w=>nomatch w)
theorem oO{K:PySem.W.Frag}{A:Around}(hh:A.handled=none)(z:cP K C=true)
  (h:wpAny (model prog w) A (eval ce env) (fun v s1=>∃a t0 dx,v=.ref a/\K.In s1.heap/\s1.heap.get? a=some {cls:=.ref C,dict:=some dx,data:=.fields #[.ref t0,.none,.none,.none,.bool false,.none]}/\E (.ref a) s1) E s) :
  wpAny (model prog w) A (exec (.Raise (some ce) none pos) env) Q E s:=by
 rw[arm_exec_Raise];refine wpAny_bind (wpAny_standAt ?_);simp only[evalOpt,Option.map];unfold raiseStmt;refine wpAny_bind (wpAny_bind (wpAny_mono h (fun v s1 ⟨a,t0,dx,ev,X,go,he⟩=>wpAny_bind (wpAny_standAt (wpAny_pure ?_))) fun _ _ x=>x))
 subst ev;obtain⟨bm,M,nm,qn,bs,b1,sn,sb,b2,co,dd,x0,x1,x2,x3,x5,hC,T⟩:=ft X z;have has:(Value.ref C::bm).contains (.type "BaseException")=true:=by rw[List.contains_cons,T.hasType exB.hasBase,Bool.or_true]
 obtain⟨hp,g,d,tk,os⟩:=s1
 repeat (first|with_reducible refine wpAny_loadPart_at go ?_|with_reducible refine wpAny_loadPart_at hC ?_|(with_reducible refine wpAny_isSubtype_exc hC ?_;rw[has])|wp_step)
 exact wpAny_raiseNew_none hh he
noncomputable def gD(cp:Bool)(K:PySem.W.Frag)(C:Addr)(f:Str):Sp:=fun vs H Q _=>∃a v,vs=[.ref a,v]/\H a=some (fK a C)/\(cp=false->∀dx ob,H dx=none->dx≠a->Q .non (upd (upd H a (fH a C dx)) dx (.frz ob (.xd [(f,v)]))))/\
 (cp=true->∃p ws,v=.ref p/\SqL K H p ws/\∀q dx ob,H q=none->H dx=none->dx≠a->dx≠q->Q .non (upd (upd (upd H q (.lst ws)) a (fH a C dx)) dx (.frz ob (.xd [(f,.ref q)]))))
end
theorem zA{P:Program}{w:World}{K:PySem.W.Frag}{mg:Str->Option Value}{base:Heap}{fI C D:Addr}{name qual:Str}{params:Arguments}{scope:Scope}{kV doc pm cdv ct oc:Value}{an od:Option Addr}{osl:Array (Option Value)}{b sl pr f tx:Str}{j:Nat}{px apos p1 p2 cp p3 p4 p5 p6 p7:Pos}
  (lk:K.lookup fI=some ⟨oc,od,.func (PySem.W.fnOf name qual params [.Expr (.Call (.Attribute (.Name b px) "__init__" apos) [.Name sl p1,.Constant (.str tx) j p2] [] cp) p3,.Assign [.Attribute (.Name sl p4) f p5] (.Name pr p6) p7] scope .none kV doc pm an cdv ct),osl⟩)
  (hcd:PySem.W.codeIn K cdv qual=true) (S:FnScope [sl,pr] [sl,pr] scope) (hg:scope.names.lookup b=some .globalImplicit) (hm:mg b=some (.ref D)) (hl:(apos.endLine == cp.line)=true) (hb:BIni K D)(q:XIni K C fI f)
  (db1:(b == ("__debug__" : Str))=false) (db2:(sl == ("__debug__" : Str))=false) (db3:(pr == ("__debug__" : Str))=false) (cd2:(sl == ("__classdict__" : Str))=false) (cd3:(pr == ("__classdict__" : Str))=false) :
  FnOk P w K mg base (CX1 P w) 1 fI (PySem.W.fnOf name qual params [.Expr (.Call (.Attribute (.Name b px) "__init__" apos) [.Name sl p1,.Constant (.str tx) j p2] [] cp) p3,.Assign [.Attribute (.Name sl p4) f p5] (.Name pr p6) p7] scope .none kV doc pm an cdv ct) [sl,pr] (gD false K C f):=by
 refine sh (k:=0) lk hcd S (fun vs H Q E ⟨_,_,e,_⟩=>by subst e;rfl) fun A outer s H vs Q E hr hsp=>?_
 obtain⟨a,v,ev,ea,h,_⟩:=hsp;have h:=h rfl;subst ev;have vs:∀x∈[sl,pr],Vis scope x:=fun x hx=>(S.par x hx).elim .inl fun z=>.inr (.inl z)
 have h0:PE (cy (CX1 P w) P w K mg base [sl,pr] qual scope fI cdv A outer s H E) (.Name sl p1) (ud 0):=kI rfl (vs _ (by simp)) db2 cd2
 have h4:PE (cy (CX1 P w) P w K mg base [sl,pr] qual scope fI cdv A outer s H E) (.Name sl p4) (ud 0):=kI rfl (vs _ (by simp)) db2 cd2
 have h1:PE (cy (CX1 P w) P w K mg base [sl,pr] qual scope fI cdv A outer s H E) (.Name pr p6) (ud 1):=kI rfl (vs _ (by simp)) db3 cd3
 refine⟨_,lV (kC (sU (D:=D) hg hm db1 hb (bD h0 (bD m8 pa_nil)) hl (by simp) rfl rfl)) (tj (uq q h4 h1 rfl)),?_⟩
 refine⟨.ref a,rfl,?_⟩;refine⟨a,[.str tx],C,rfl,q.cl,ea,by rw[sizeLine_eq];simp,?_⟩
 exact⟨v,rfl,.ref a,rfl,a,rfl,ea,fun dx ob n ne=>h dx ob n ne⟩
end L2
namespace L2
open PySem PySem.Spec PyProof.Rows
noncomputable def aO(names:List (Str×NameKind))(cs:List (Str×Addr))(acc:List (Str×Addr)):List (Str×Addr):=match names with
 |[]=>acc
 |(n,k)::r=>if k=.free then (match cs.lookup n with|some c=>aO r cs ((n,c)::acc)|none=>aO r cs acc) else aO r cs acc
theorem bO{cs:List (Str×Addr)}:∀{names:List (Str×NameKind)}{acc:List (Str×Addr)},(∀p∈acc,cs.lookup p.1=some p.2)->∀p∈aO names cs acc,cs.lookup p.1=some p.2
 |[],_,h,p,hp=>h p hp
 |(n,k)::r,acc,h,p,hp=>by
  unfold aO at hp;split at hp
  ·split at hp
   next c e=>
    refine bO (fun q hq=>?_) p hp
    rcases List.mem_cons.mp hq with z|z
    ·subst z;exact e
    ·exact h q z
   next=>exact bO h p hp
  ·exact bO h p hp
theorem c8:∀{names:List (Str×NameKind)}{acc:List (Str×Addr)}{p:Str×Addr},p∈acc->p∈aO names cs acc
 |[],_,_,h=>h
 |(n,k)::r,acc,p,h=>by
  unfold aO;split
  ·split
   ·exact c8 (List.mem_cons_of_mem _ h)
   ·exact c8 h
  ·exact c8 h
theorem dq{cs:List (Str×Addr)}(e:cs.lookup x=some c):∀{names:List (Str×NameKind)}{acc:List (Str×Addr)},(x,NameKind.free)∈names->(x,c)∈aO names cs acc
 |(n,k)::r,acc,h=>by
  rcases List.mem_cons.mp h with z|z
  ·cases z;unfold aO;rw[if_pos rfl,e];exact c8 List.mem_cons_self
  ·unfold aO;split
   ·split
    ·exact dq e z
    ·exact dq e z
   ·exact dq e z
theorem dU{l:List (Str×Addr)}(h:(x,c)∈l)(u:∀p∈l,p.1=x->p.2=c):l.lookup x=some c:=by
 induction l with
 |nil=>cases h
 |cons p r ih=>
  obtain⟨n,d⟩:=p;by_cases e:x=n
  ·subst e;rw[List.lookup_cons,beq_self_eq_true];exact congrArg some (u (x,d) List.mem_cons_self rfl)
  ·rw[List.lookup_cons];rw[beq_eq_false_iff_ne.mpr e];rcases List.mem_cons.mp h with z|z
   ·cases z;exact absurd rfl e
   ·exact ih z fun q hq=>u q (List.mem_cons_of_mem _ hq)
theorem bA{l:List (Str×Addr)}(h:l.lookup x=some c):(x,c)∈l:=PySem.mem_of_lookup h
theorem lK{cs:List (Str×Addr)}(hm:(x,NameKind.free)∈names)(e:cs.lookup x=some c):(aO names cs []).lookup x=some c:=by
 refine dU (dq e hm) fun p hp hx=>?_
 have z:=bO (acc:=[]) (fun p hp=>nomatch hp) p hp
 rw[hx,e]at z;exact (Option.some.inj z).symm
theorem oK{env:Env}(e:env.cells.lookup n=some c):cellOf env n=pure c:=by
 unfold cellOf;rw[e]
theorem jG{scope:Scope}{env:Env}(h:∀y∈scope.names,y.2=.free->∃c,env.cells.lookup y.1=some c):closureFor scope env=pure (aO scope.names env.cells []):=by
 have go:∀(names:List (Str×NameKind)) (acc:List (Str×Addr)),(∀y∈names,y.2=.free->∃c,env.cells.lookup y.1=some c)->
   (forIn names acc fun x r=>match x with
    |(n,k)=>if (k == NameKind.free)=true then do let c<-cellOf env n;pure (ForInStep.yield ((n,c)::r)) else pure (ForInStep.yield r):Sem (List (Str×Addr)))=pure (aO names env.cells acc):=by
  intro names
  induction names with
  |nil=>intro acc _;rfl
  |cons y r ih=>
   intro acc hy;obtain⟨n,k⟩:=y;rw[List.forIn_cons];by_cases hk:k=NameKind.free
   ·subst hk;obtain⟨c,e⟩:=hy (n,.free) List.mem_cons_self rfl;simp only[beq_self_eq_true,if_true];rw[oK e];show (forIn r ((n,c)::acc) _:Sem _)=_;rw[ih _ fun z hz=>hy z (List.mem_cons_of_mem _ hz)]
    conv=>rhs;unfold aO
    simp only[if_true,e]
   ·have hb:(k == NameKind.free)=false:=by simpa using hk
    simp only[hb,Bool.false_eq_true,if_false];show (forIn r acc _:Sem _)=_;rw[ih _ fun z hz=>hy z (List.mem_cons_of_mem _ hz)]
    conv=>rhs;unfold aO
    simp only[hk,if_false]
 have e:=go scope.names [] h;show ((forIn scope.names [] fun x r=>match x with
    |(n,k)=>if (k == NameKind.free)=true then do let c<-cellOf env n;pure (ForInStep.yield ((n,c)::r)) else pure (ForInStep.yield r):Sem (List (Str×Addr))) >>=fun z=>pure z)=_
 rw[e];rfl
theorem aK:∀(names:List (Str×NameKind)) (n:Nat) (acc:List (Str×Addr)),cellsFrom n names acc=cellsFrom n names []++acc
 |[],_,_=>rfl
 |(x,k)::r,n,acc=>by
  unfold cellsFrom;split
  ·rw[aK r (n+1) ((x,n)::acc),aK r (n+1) [(x,n)],List.append_assoc];rfl
  ·exact aK r n acc
theorem aG:∀{names:List (Str×NameKind)}{n:Nat}{p:Str×Addr},p∈cellsFrom n names []->(p.1,NameKind.cell)∈names/\n<=p.2
 |[],_,_,h=>nomatch h
 |(x,k)::r,n,p,h=>by
  unfold cellsFrom at h;split at h
  ·rename_i hk;rw[aK]at h;rcases List.mem_append.mp h with z|z
   ·obtain⟨a,b⟩:=aG z;exact⟨List.mem_cons_of_mem _ a,by omega⟩
   ·obtain rfl:=List.mem_singleton.mp z;exact⟨by rw[show k=NameKind.cell from by simpa using hk];exact List.mem_cons_self,Nat.le_refl _⟩
  ·obtain⟨a,b⟩:=aG h;exact⟨List.mem_cons_of_mem _ a,b⟩
theorem cA:∀{names:List (Str×NameKind)}{n:Nat}{x:Str},(x,NameKind.cell)∈names->∃c,(x,c)∈cellsFrom n names []
 |(y,k)::r,n,x,h=>by
  rcases List.mem_cons.mp h with z|z
  ·cases z;unfold cellsFrom;rw[if_pos (by rfl),aK]
   exact⟨n,List.mem_append_right _ List.mem_cons_self⟩
  ·unfold cellsFrom;split
   ·obtain⟨c,e⟩:=cA z (n:=n+1);rw[aK];exact⟨c,List.mem_append_left _ e⟩
   ·exact cA z
theorem dn:∀{l:List (Str×Addr)}{x:Str}{c:Addr},(x,c)∈l->∃c',l.lookup x=some c'
 |(y,d)::r,x,c,h=>by
  rw[List.lookup_cons];cases e:x == y with
  |true=>exact⟨d,rfl⟩
  |false=>
   rcases List.mem_cons.mp h with z|z
   ·cases z;simp at e
   ·exact dn z
theorem gc
  (hQ:Q {scope:=scope,locals:=s.heap.objs.size,globals:=globals,cells:=cellsFrom (s.heap.objs.size+1) scope.names []++cl,qual:=qual,func:=none,code:=outer.code,frame:=outer.frame,builtins:=outer.builtins} {s with heap:=pushCells (s.heap.push {cls:=.type "dict",data:=.dict #[]}) scope.names}) :
  wpAny M A (newFunctionEnv scope globals cl [] qual none .none (some outer)) Q E s:=by
 simp only[newFunctionEnv,Option.isSome_some,if_true];refine wpAny_bind (wpAny_alloc ?_);refine wpAny_bind (wpAny_layCells _ (fun name kind cells=>by cases hkc:kind == NameKind.cell<;>simp[hkc]) _ _ _ _ ?_)
 rw[show ({s with heap:=s.heap.push {cls:=.type "dict",data:=.dict #[]}}:Shared).heap.objs.size=s.heap.objs.size+1 from Heap.size_push ..,aK]
 refine wpAny_bind ?_;rw[List.forIn_nil];exact wpAny_pure (wpAny_pure hQ)
noncomputable def dI(N:List Str)(js:List (Option Nat))(sc osc:Scope)(oN:List Str):Bool:=
 N.length == js.length&&decide N.Nodup&&
 (N.zip js).all (fun p=>match p.2 with
  |none=>sc.names.lookup p.1 == some .local||sc.names.lookup p.1 == some .cell
  |some j=>oN[j]? == some p.1&&sc.names.contains (p.1,NameKind.free)&&osc.names.lookup p.1 == some .cell)&&
 decide (sc.names.map (·.1)).Nodup&&sc.names.all (fun y=>(y.2 != .free||osc.names.lookup y.1 == some .cell)&&(y.2 != .local||sc.names.lookup y.1 == some .local))&&(sc.kind == .function)&&(osc.kind == .function)
noncomputable def iH(js:List (Option Nat))(σ:St):St:=js.map fun o=>o.bind fun j=>(σ[j]?).bind id
noncomputable abbrev compCx(X:Cx)(scope:Scope)(C:Addr)(N:List Str)(s2:Shared)(H2:Hp)(fp:List Addr)(pins:List (Addr×Obj)):Cx:=
 {X with env:=compEnvC scope (cellsFrom (C+1) scope.names []++aO scope.names X.env.cells []) C X.env,N:=N,s₀:=s2,H₀:=H2,outer:=X.stack,stack:=X.stack,ex:=fp,fn:=fun x=>scope.names.lookup x == some .cell,pn:=X.pn++pins,xe:=fun _ _=>False}
theorem fk{env:Env}(hk:env.scope.kind=.function)(hc:env.kindOf x=some .cell):∀{names:List (Str×NameKind)},(x,NameKind.free)∈names->(∀y∈names,y.1=x->y.2=.free)->
  (names.map fun (n,k)=>if (k == .free&&env.scope.kind == .function&&env.kindOf n == some .cell) then (n,.cell) else (n,k)).lookup x=some NameKind.cell
 |(n,k)::r,hm,hu=>by
  show List.lookup x ((if (k == NameKind.free&&env.scope.kind == .function&&env.kindOf n == some .cell)=true then (n,NameKind.cell) else (n,k))::_)=_
  by_cases e:x=n
  ·subst e;have ek:k=.free:=hu (x,k) List.mem_cons_self rfl;subst ek;simp only[hk,hc,beq_self_eq_true,Bool.and_self,if_true];rw[List.lookup_cons,beq_self_eq_true]
  ·have hm':(x,NameKind.free)∈r:=by
    rcases List.mem_cons.mp hm with z|z
    ·cases z;exact absurd rfl e
    ·exact z
   have ih:=fk hk hc hm' fun y hy=>hu y (List.mem_cons_of_mem _ hy)
   split
   ·rw[List.lookup_cons,beq_eq_false_iff_ne.mpr e];exact ih
   ·rw[List.lookup_cons,beq_eq_false_iff_ne.mpr e];exact ih
end L2
namespace L2
open PySem PySem.Spec PyProof.Rows
structure CompOk (N:List Str) (js:List (Option Nat)) (sc osc:Scope)(oN:List Str):Prop where
 len:N.length=js.length
 nd:N.Nodup
 own:∀(i:Nat)(x:Str),N[i]?=some x->js[i]?=some none->sc.names.lookup x=some .local\/sc.names.lookup x=some .cell
 fr:∀(i:Nat)(x:Str)(j:Nat),N[i]?=some x->js[i]?=some (some j)->oN[j]?=some x/\(x,NameKind.free)∈sc.names/\osc.names.lookup x=some .cell
 ndn:(sc.names.map (·.1)).Nodup
 nf:∀y∈sc.names,y.2=.free->osc.names.lookup y.1=some .cell
 nl:∀y∈sc.names,y.2=.local->sc.names.lookup y.1=some .local
 k1:sc.kind=.function
 k2:osc.kind=.function
theorem ke(h:dI N js sc osc oN=true):CompOk N js sc osc oN:=by
 unfold dI at h;simp only[Bool.and_eq_true,beq_iff_eq,decide_eq_true_eq,List.all_eq_true,Bool.or_eq_true,bne_iff_ne]at h;obtain⟨⟨⟨⟨⟨⟨h1,h2⟩,h3⟩,h4⟩,h5⟩,h6⟩,h7⟩:=h;have zip:∀(i:Nat)(x:Str)(o:Option Nat),N[i]?=some x->js[i]?=some o->(x,o)∈N.zip js:=fun i x o e1 e2=>
  List.mem_of_getElem? (i:=i) (by rw[List.getElem?_zip_eq_some];exact⟨e1,e2⟩)
 refine⟨h1,h2,fun i x e1 e2=>?_,fun i x j e1 e2=>?_,h4,fun y hy e=>?_,fun y hy e=>?_,h6,h7⟩
 ·have z:=h3 _ (zip i x _ e1 e2);simpa using z
 ·have z:=h3 _ (zip i x _ e1 e2);simp only[Bool.and_eq_true,beq_iff_eq]at z;exact⟨z.1.1,List.contains_iff_mem.mp z.1.2,z.2⟩
 ·rcases (h5 y hy).1 with z|z
  ·exact absurd e z
  ·exact z
 ·rcases (h5 y hy).2 with z|z
  ·exact absurd e z
  ·exact z
theorem dS{env:Env}:∀{names:List (Str×NameKind)},
  (names.map fun (n,k)=>if (k == .free&&env.scope.kind == .function&&env.kindOf n == some .cell) then (n,.cell) else (n,k)).lookup x=some k->∃k',(x,k')∈names/\(k'=k\/k'=.free)
 |[],h=>by cases h
 |(n,k0)::r,h=>by
  have h:List.lookup x ((if (k0 == NameKind.free&&env.scope.kind == .function&&env.kindOf n == some .cell)=true then (n,NameKind.cell) else (n,k0))::_)=_:=h
  by_cases e:x=n
  ·subst e;split at h
   next hc=>
    refine⟨k0,List.mem_cons_self,.inr ?_⟩;have:=(Bool.and_eq_true_iff.mp (Bool.and_eq_true_iff.mp hc).1).1;simpa using this
   next=>
    rw[List.lookup_cons,beq_self_eq_true]at h;exact⟨k0,List.mem_cons_self,.inl (Option.some.inj h)⟩
  ·have h':List.lookup x (r.map fun (n,k)=>if (k == .free&&env.scope.kind == .function&&env.kindOf n == some .cell) then (n,.cell) else (n,k))=some k:=by
    split at h
    ·rw[List.lookup_cons,beq_eq_false_iff_ne.mpr e]at h;exact h
    ·rw[List.lookup_cons,beq_eq_false_iff_ne.mpr e]at h;exact h
   obtain⟨k',m,z⟩:=dS h';exact⟨k',List.mem_cons_of_mem _ m,z⟩
theorem oM(I:Nat->Shared->Prop)
  (turn:∀n s,I n s->wpAny (model prog w) A (pyNext it) (fun r s1=>match r with
   |none=>R (.ok .next) s1
   |some v=>wpAny (model prog w) A (letOwnedTupleGo target it v) (fun _ s2=>wpAny (model prog w) A (assign target env v) (fun _ s3=>
     wpAny (model prog w) A (forIn ifs true fun c r=>if r=true then do let ok<-isTrue c env (eval c env);pure (ForInStep.yield ok) else pure (ForInStep.yield r)) (fun ok s4=>
      if ok=true then wpAny (model prog w) A (eval elt env) (fun x s5=>wpAny (model prog w) A (call (.builtin "list.append") [acc,x]) (fun _ s6=>∃m,m < n/\I m s6) (fun _ _=>False) s5) (fun _ _=>False) s4
      else ∃m,m < n/\I m s4) (fun _ _=>False) s3) (fun _ _=>False) s2) (fun _ _=>False) s1) (fun _ _=>False) s)
  (n:Nat)(h:I n s):codeAny (model prog w) A (.compLoop (.ListComp elt [⟨target,iter,ifs,0⟩] scope pos) 0 it acc env) R s:=by
 have no:∀{α:Type}{t:Sem α}{Q:α->Shared->Prop}{E:Value->Shared->Prop}{z:Shared},wpAny (model prog w) A t Q (fun _ _=>False) z->wpAny (model prog w) A t Q E z:=fun h=>wpAny_noRaise h
 refine codeAny_loop rfl I (fun n s hI=>?_) n h
 show wpAny _ A ((compTurn (.ListComp elt [⟨target,iter,ifs,0⟩] scope pos) 0 it acc env).onRaise (fun x=>do noteFrame x env;theTreesLotGoes x)) _ _ s
 refine wpAny_noted ?_;rw[compTurn_list];refine wpAny_bind (wpAny_standAt (wpAny_bind (no (wpAny_mono (turn n s hI) (fun r s1 h1=>?_) fun _ _ z=>z))))
 cases r with
 |none=>exact wpAny_pure h1
 |some v=>
  refine wpAny_bind (no (wpAny_mono h1 (fun _ s2 h2=>?_) fun _ _ z=>z))
  refine wpAny_bind (no (wpAny_mono h2 (fun _ s3 h3=>?_) fun _ _ z=>z))
  refine wpAny_bind (no (wpAny_mono h3 (fun ok s4 h4=>?_) fun _ _ z=>z))
  cases ok with
  |false=>exact wpAny_pure ⟨rfl,h4⟩
  |true=>
   refine wpAny_bind (wpAny_bind (no (wpAny_mono h4 (fun x s5 h5=>?_) fun _ _ z=>z)))
   exact wpAny_bind (no (wpAny_mono h5 (fun _ s6 h6=>wpAny_pure (wpAny_pure ⟨rfl,h6⟩)) fun _ _ z=>z))
noncomputable def PIf(X:Cx)(ifs:List Expr)(tt:TT):Prop:=∀(pins:List (Addr×Obj)) (s:Shared)(σ:St)(H:Hp)(Q:Bool->Hp->Prop),Inv X pins σ H s->tt σ H Q->
 wpAny (model X.prog X.w) X.A (forIn ifs true fun c r=>if r=true then do let ok<-isTrue c X.env (eval c X.env);pure (ForInStep.yield ok) else pure (ForInStep.yield r)) (TP X pins σ Q) X.xe s
noncomputable def tYes:TT:=fun _ H Q=>Q true H
theorem sJ:PIf X [] tYes:=fun pins s σ H Q I h=>wpAny_tests_nil ⟨H,I,h⟩
theorem uw(h:PT X c t):PIf X [c] t:=fun pins s σ H Q I q=>wpAny_tests_one (h pins s σ H Q I q)
noncomputable def ow(js:List (Option Nat))(wi:TI)(g:TG)(tt:TT)(te:TE):TE:=fun σ H Q=>wi σ H fun J H1=>∀p,H1 p=none->∃W:Nat->Nat->St->Hp->Prop,(∃m,W 0 m (iH js σ) (upd H1 p (.lst [])))/\
 ∀(i:Nat) m σc H,W i m σc H->(J.stop i H/\Q (.ref p) H)\/(J.go i H/\∀x H',J.yld i H x H'->g x σc H' fun σ2 H2=>tt σ2 H2 fun b H3=>
  if b=true then te σ2 H3 fun y H4=>∃ys,H4 p=some (.lst ys)/\ys.length < sizeLine/\∃m',m' < m/\W (i+1) m' σ2 (upd H4 p (.lst (ys++[y]))) else ∃m',m' < m/\W (i+1) m' σ2 H3)
section
variable {X:Cx}
theorem lx(hok:dI N js scope X.env.scope X.N=true)(hcalm:X.calm=true)(hi:PI X tg iter wi)
  (hg:∀C s2 H2 fp pn,PG (compCx X scope C N s2 H2 fp pn) tg g) (ht:∀C s2 H2 fp pn,PIf (compCx X scope C N s2 H2 fp pn) ifs tt) (he:∀C s2 H2 fp pn,PE (compCx X scope C N s2 H2 fp pn) elt te)
  (hs:∀x,foldedSetIterable iter X.env x=pure x) (I:Inv X pins σ H s)(h:ow js wi g tt te σ H Q)
  (fin:∀(D C:Addr)(s5:Shared)(H4:Hp)(m5:Str->Option Value),s5.heap.Ns C m5->l8 X pins H4 C->(∀h',Heap.SameBut C s5.heap h'->Inv X pins σ H4 {s5 with heap:=h'})->Q (.ref D) H4->compPost (model X.prog X.w) X.A X.xe use Qf (.ref D) C (.ok .next) s5) :
  wpAny (model X.prog X.w) X.A (comprehension (.ListComp elt [⟨tg,iter,ifs,0⟩] scope pos) scope X.env pos' (newList []) false (eval iter X.env) use) Qf X.xe s:=by
 have O:=ke hok;have hcells:∀y∈scope.names,y.2=.free->∃c,X.env.cells.lookup y.1=some c:=fun y hy e=>I.ok.has y.1 (.inl (O.nf y hy e))
 refine wpAny_comprehension_free (use:=use) rfl hs (jG hcells) O.k1 O.nl (thn (hi pins s σ H _ I h) fun xv s1 h1=>thn h1 fun itv s2 h2=>?_)
 obtain⟨it,fp,tn,J,H2,rfl,I2,T,st2,f2,hQ⟩:=h2;refine wpAny_newObj_type (gc ?_);dsimp only;have sz1:(s2.heap.push {cls:=.type "list",dict:=none,data:=.seq ([]:List Value).toArray}).objs.size=s2.heap.objs.size+1:=Heap.size_push ..;have sz2:((s2.heap.push {cls:=.type "list",dict:=none,data:=.seq ([]:List Value).toArray}).push {cls:=.type "dict",data:=.dict #[]}).objs.size=s2.heap.objs.size+1+1:=by rw[Heap.size_push,sz1]
 have hns:(pushCells ((s2.heap.push {cls:=.type "list",dict:=none,data:=.seq ([]:List Value).toArray}).push {cls:=.type "dict",data:=.dict #[]}) scope.names).Ns (s2.heap.objs.size+1) (fun _=>none):=by
  rw[<-sz1];exact (Heap.Ns.new _ (.type "dict")).keeps (pushCells_keeps _ _)
 have keep:∀b o,s2.heap.get? b=some o->(pushCells ((s2.heap.push {cls:=.type "list",dict:=none,data:=.seq ([]:List Value).toArray}).push {cls:=.type "dict",data:=.dict #[]}) scope.names).get? b=some o:=fun b o e=>
  pushCells_keeps _ _ b o (Heap.get?_push_of_some _ (Heap.get?_push_of_some _ e))
 have atD:(pushCells ((s2.heap.push {cls:=.type "list",dict:=none,data:=.seq ([]:List Value).toArray}).push {cls:=.type "dict",data:=.dict #[]}) scope.names).get? s2.heap.objs.size=some {cls:=.type "list",data:=.seq ([]:List Value).toArray}:=
  pushCells_keeps _ _ _ _ (Heap.get?_push_of_some _ (Heap.get?_push_size _ rfl))
 have cok:=cellsFrom_ok scope.names ((s2.heap.push {cls:=.type "list",dict:=none,data:=.seq ([]:List Value).toArray}).push {cls:=.type "dict",data:=.dict #[]}) (s2.heap.objs.size+1+1) [] ⟨fun _ _ hm=>(nomatch hm),List.Pairwise.nil⟩ (by rw[sz2];exact Nat.le_refl _)
 rw[sz2]at cok;rw[sz1];generalize pushCells ((s2.heap.push {cls:=.type "list",dict:=none,data:=.seq ([]:List Value).toArray}).push {cls:=.type "dict",data:=.dict #[]}) scope.names=h1' at hns keep atD cok ⊢;have frD:H2 s2.heap.objs.size=none:=I2.hok.fresh (Nat.le_refl _);have frC:H2 (s2.heap.objs.size+1)=none:=I2.hok.fresh (Nat.le_succ _);have hCD:s2.heap.objs.size+1≠s2.heap.objs.size:=Nat.succ_ne_self _;obtain⟨W,⟨m0,w0⟩,turn⟩:=hQ s2.heap.objs.size frD;have fpThere:∀b∈fp,b < s2.heap.objs.size:=fun b hb=>by
  obtain⟨o,e,_⟩:=T.obj 0 _ st2 b hb;exact Heap.lt_size e
 have lk:∀x c,(cellsFrom (s2.heap.objs.size+1+1) scope.names []++aO scope.names X.env.cells []).lookup x=some c->(x,c)∈cellsFrom (s2.heap.objs.size+1+1) scope.names []\/X.env.cells.lookup x=some c:=fun x c e=>by
  rcases List.mem_append.mp (bA e) with z|z
  ·exact .inl z
  ·exact .inr (bO (acc:=[]) (fun p hp=>nomatch hp) _ z)
 have old:∀x c,X.env.cells.lookup x=some c->c < s2.heap.objs.size:=fun x c e=>by
  obtain⟨v,o,ho,hd⟩:=I2.cell x c e;exact Heap.lt_size ho
 have cne:∀b∈fp,∀x c,(cellsFrom (s2.heap.objs.size+1+1) scope.names []++aO scope.names X.env.cells []).lookup x=some c->c≠b:=fun b hb x c e=>by
  rcases lk x c e with z|z
  ·have a1:=(aG z).2;exact Nat.ne_of_gt (Nat.lt_of_lt_of_le (fpThere b hb) (Nat.le_trans (Nat.le_add_right _ 2) a1))
  ·exact (f2 b hb).2.2.2.2.1 x c z
 let Xc:Cx:=compCx X scope (s2.heap.objs.size+1) N s2 H2 fp pins
 have cOk:Xc.Ok:=by
  refine⟨I2.ok.mod,O.k1,I2.ok.glob,I2.ok.blt,Nat.le_succ _,fun x y c e1 e2=>?_,fun x hx=>?_,fun x c e1 e2=>?_,I2.ok.hd,I2.ok.frames,.inl rfl,fun b hb=>?_,I2.bs,Nat.le_trans I2.ok.bsz I2.sz,fun b o e hb=>?_,fun b hb hm=>?_,I2.stack,I2.stkFree⟩
  ·rcases lk x c e1 with z1|z1<;>rcases lk y c e2 with z2|z2
   ·exact name_of_addr cok.apart z1 z2
   ·have a1:=(aG z1).2;exact absurd (Nat.lt_of_lt_of_le (old _ _ z2) (Nat.le_trans (Nat.le_add_right _ 2) a1)) (Nat.lt_irrefl _)
   ·have a1:=(aG z2).2;exact absurd (Nat.lt_of_lt_of_le (old _ _ z1) (Nat.le_trans (Nat.le_add_right _ 2) a1)) (Nat.lt_irrefl _)
   ·exact I2.ok.inj x y c z1 z2
  ·have hx:(relabel scope X.env).names.lookup x=some .cell\/(relabel scope X.env).names.lookup x=some .free:=hx;have key:(x,NameKind.free)∈scope.names\/(x,NameKind.cell)∈scope.names:=by
    rcases hx with hx|hx
    ·obtain⟨k',m,z⟩:=dS hx;rcases z with z|z
     ·subst z;exact .inr m
     ·subst z;exact .inl m
    ·obtain⟨k',m,z⟩:=dS hx;rcases z with z|z<;>(subst z;exact .inl m)
   rcases key with key|key
   ·obtain⟨c,e⟩:=hcells _ key rfl;exact dn (List.mem_append_right _ (bA (lK key e)))
   ·obtain⟨c,e⟩:=cA key (n:=s2.heap.objs.size+1+1);exact dn (List.mem_append_left _ e)
  ·have e1:scope.names.lookup x=some .cell:=beq_iff_eq.mp e1;obtain⟨c1,h1⟩:=cA (PySem.mem_of_lookup e1) (n:=s2.heap.objs.size+1+1);obtain⟨c2,h2⟩:=dn h1;have e2:(cellsFrom (s2.heap.objs.size+1+1) scope.names []++aO scope.names X.env.cells []).lookup x=some c:=e2;rw[List.lookup_append,h2]at e2;cases e2;have a1:=(aG (bA h2)).2;exact Nat.le_trans (Nat.le_add_right _ 2) a1
  ·exact⟨Nat.ne_of_lt (Nat.lt_succ_of_lt (fpThere b hb)),fun x c e=>cne b hb x c e⟩
  ·rcases (f2 b hb).2.2.2.1 with z|z
   ·exact I2.ok.noex b o e z
   ·exact absurd (Nat.lt_of_lt_of_le (Heap.lt_size e) (Nat.le_trans I2.ok.bsz z)) (Nat.lt_irrefl _)
  ·rcases List.mem_cons.mp (I2.stkSub b hm) with z|z
   ·exact (f2 b hb).2.1 z
   ·exact (f2 b hb).2.2.1 z
 have I3:Inv Xc [] (iH js σ) (upd H2 s2.heap.objs.size (.lst [])) {s2 with heap:=h1'}:=by
  refine⟨cOk,rfl,I2.bare,Un.laid keep (Nat.le_refl _) frD,⟨_,hns,fun i x v e1 e2 e3=>?_⟩,fun x c e=>?_,?_,fun x c e=>?_,fun p hp=>?_,?_,?_⟩
  ·have e2:(js.map fun o=>o.bind fun j=>(σ[j]?).bind id)[i]?=some (some v):=e2
   rw[List.getElem?_map]at e2;cases q:js[i]? with
   |none=>rw[q]at e2;cases e2
   |some o=>
    rw[q]at e2;cases o with
    |none=>cases e2
    |some j=>
     obtain⟨a1,a2,a3⟩:=O.fr i x j e1 q;have hv:σ[j]?=some (some v):=by
      cases z:σ[j]? with
      |none=>rw[Option.map_some,Option.bind_some,z]at e2;cases e2
      |some y=>
       rw[Option.map_some,Option.bind_some,z]at e2;have e2:some (id y)=some (some v):=e2;rw[show y=some v from Option.some.inj e2]
     obtain⟨m,hn,hl⟩:=I2.loc;obtain⟨u,r,l⟩:=hl j x v a1 hv (.inr (.inl a3));refine⟨u,r,?_⟩;rcases l with ⟨k,_⟩|⟨k,c,e,o,ho,hd⟩
     ·rw[show X.env.kindOf x=some .cell from a3]at k;cases k
     ·have only:∀y∈scope.names,y.1=x->y.2=.free:=fun y hy hyx=>?_
      ·refine .inr ⟨.inl (fk I2.ok.kind a3 a2 only),c,dU (List.mem_append_right _ (bA (lK a2 e))) (fun p hp hx=>?_),o,keep _ _ ho,hd⟩
       rcases List.mem_append.mp hp with z|z
       ·have:=only _ (aG z).1 hx;cases this
       ·have z:=bO (acc:=[]) (fun p hp=>nomatch hp) p z
        rw[hx,e]at z;exact (Option.some.inj z).symm
      obtain⟨i1,h1,e1'⟩:=List.mem_iff_getElem.mp hy;obtain⟨i2,h2,e2'⟩:=List.mem_iff_getElem.mp a2;have:i1=i2:=by
       refine (List.getElem_inj (h₀:=by rw[List.length_map];exact h1) (h₁:=by rw[List.length_map];exact h2) O.ndn).mp ?_
       rw[List.getElem_map,List.getElem_map,e1',e2'];exact hyx
      subst this;rw[e1']at e2';rw[e2']
  ·rcases lk x c e with z|z
   ·exact⟨none,(cok.empty x c z).1⟩
   ·obtain⟨v,o,ho,hd⟩:=I2.cell x c z;exact⟨v,o,keep _ _ ho,hd⟩
  ·show upd H2 _ _ (s2.heap.objs.size+1)=none;rw[ae hCD];exact frC
  ·rcases lk x c e with z|z
   ·have a1:=(aG z).2;show upd H2 _ _ c=none;rw[ae (Nat.ne_of_gt (Nat.lt_of_lt_of_le (Nat.lt_add_of_pos_right (by decide:0 < 2)) a1))]
    exact I2.hok.fresh (Nat.le_trans (Nat.le_add_right _ 2) a1)
   ·have a2:=old _ _ z;show upd H2 _ _ c=none;rw[ae (Nat.ne_of_lt a2)];exact I2.freeC x c z
  ·have hp:p∈X.pn++pins:=by rw[List.append_nil]at hp;exact hp
   obtain⟨e,n,ne,nf,d⟩:=I2.pin p hp;refine⟨keep _ _ e,by rw[ae (Nat.ne_of_lt (Heap.lt_size e))];exact n,Nat.ne_of_lt (Nat.lt_succ_of_lt (Heap.lt_size e)),fun hm=>?_,d⟩
   rcases List.mem_cons.mp (I2.stkSub _ hm) with z|z
   ·exact ne z
   ·exact nf z
  ·exact I2.hok.laid keep (Nat.le_refl _) ⟨Nat.zero_le _,[],0,.nil,atD⟩
  ·show (js.map _).length=N.length;rw[List.length_map,O.len]
 have fpc:∀{H':Hp},(∀b∈fp,H' b=none)->∀b∈fp,l8 Xc [] H' b:=fun {H'} hn b hb=>by
  refine⟨hn b hb,Nat.ne_of_lt (Nat.lt_succ_of_lt (fpThere b hb)),fun hm=>?_,.inl hb,fun x c e=>cne b hb x c e,fun p hp=>(f2 b hb).2.2.2.2.2 p (by rw[List.append_nil]at hp;exact hp)⟩
  rcases List.mem_cons.mp (I2.stkSub b hm) with z|z
  ·exact (f2 b hb).2.1 z
  ·exact (f2 b hb).2.2.1 z
 have st3:tn 0 h1':=T.keep 0 _ _ st2 fun b hb o e=>keep b o e
 have fr3:∀b∈fp,(upd H2 s2.heap.objs.size (.lst [])) b=none:=fun b hb=>by
  rw[ae (Nat.ne_of_lt (fpThere b hb))];exact (f2 b hb).1
 have loop:codeAny (model X.prog X.w) X.A (.compLoop (.ListComp elt [⟨tg,iter,ifs,0⟩] scope pos) 0 (.ref it) (.ref s2.heap.objs.size) (compEnvC scope (cellsFrom (s2.heap.objs.size+1+1) scope.names []++aO scope.names X.env.cells []) (s2.heap.objs.size+1) X.env))
   (compPost (model X.prog X.w) X.A X.xe use Qf (.ref s2.heap.objs.size) (s2.heap.objs.size+1)) {s2 with heap:=h1'}:=by
  refine oM (fun n s'=>∃i σc H',Inv Xc [] σc H' s'/\tn i s'.heap/\(∀b∈fp,H' b=none)/\W i n σc H') ?_ m0 ⟨0,_,_,I3,st3,fr3,w0⟩
  rintro n s4 ⟨i,σc,H4,I4,st4,fr4,w4⟩;rcases turn i n σc H4 w4 with ⟨stop,q⟩|⟨go,step⟩
  ·refine thn (T.done Xc rfl rfl rfl hcalm i [] s4 σc H4 (fun _ _=>False) I4 (fpc fr4) st4 stop) fun r s5 ⟨hr,I5⟩=>?_
   subst hr;obtain⟨m5,hn5,_⟩:=I5.loc;have un5:Un (frs X.stack) fp H2 H4 s2.heap s5.heap:=I5.base;have neC:∀b o,s2.heap.get? b=some o->b≠s2.heap.objs.size+1:=fun b o e=>Nat.ne_of_lt (Nat.lt_succ_of_lt (Heap.lt_size e))
   have fC:H4 (s2.heap.objs.size+1)=none:=I5.free;refine fin _ _ _ H4 m5 hn5 (I2.fpOk (Nat.le_succ _) fC) (fun h' hsame=>?_) q
   refine I2.call' (s':={s5 with heap:=h'}) (ch:=fp) I5.os ⟨fun b o q n hb hx=>(hsame.2 b (neC b o q)).trans (un5.keep b o q n hb hx),fun b o q n hb hx=>?_,un5.free,fun b o q hx=>?_,un5.tups,un5.frzs,un5.tbls⟩ ?_ I5.bare (fun b hb=>⟨(f2 b hb).2.2.2.1,(f2 b hb).2.1,(f2 b hb).2.2.2.2.1,(f2 b hb).2.2.2.2.2⟩)
   ·obtain⟨sl,z⟩:=un5.slot b o q n hb hx;exact⟨sl,(hsame.2 b (neC b o q)).trans z⟩
   ·obtain⟨o',z⟩:=un5.there b o q hx;exact⟨o',(hsame.2 b (neC b o q)).trans z⟩
   ·exact I5.hok.keptT fun b u ob hb q=>(hsame.2 b fun z=>by rw[z,fC]at hb;cases hb).trans q
  ·refine thn (T.item Xc rfl rfl rfl hcalm i [] s4 σc H4 (fun _ _=>False) I4 (fpc fr4) st4 go) fun r s5 ⟨u,hr,h5⟩=>?_
   subst hr;refine thn h5 fun _ s6 ⟨x,H6,I6,r6,y6,st6,fr6⟩=>?_
   have I6':=I6.pinned (fpc fr6) (T.obj _ _ st6);refine thn (hg _ _ _ _ _ _ s6 σc H6 x u _ I6' r6 (step x H6 y6)) fun _ s7 ⟨σ7,H7,I7,q7⟩=>?_
   refine thn (ht _ _ _ _ _ _ s7 σ7 H7 _ I7 q7) fun ok s8 ⟨H8,I8,q8⟩=>?_
   have back:∀{H9:Hp}{s9:Shared}{σ9:St},Inv Xc ([]++iA fp s6.heap) σ9 H9 s9->Inv Xc [] σ9 H9 s9/\tn (i+1) s9.heap/\∀b∈fp,H9 b=none:=fun {H9 s9 σ9} I9=>by
    refine⟨I9.unpinned,T.keep _ _ _ st6 fun b hb o e=>(I9.pin (b,o) (List.mem_append_right _ (List.mem_append_right _ (dh hb e)))).1,fun b hb=>?_⟩
    obtain⟨o,e,d⟩:=T.obj _ _ st6 b hb;exact (I9.pin (b,o) (List.mem_append_right _ (List.mem_append_right _ (dh hb e)))).2.1
   cases ok with
   |false=>
    rw[if_neg Bool.false_ne_true]at q8 ⊢;obtain⟨m',hm,w8⟩:=q8;obtain⟨b1,b2,b3⟩:=back I8;exact⟨m',hm,i+1,σ7,H8,b1,b2,b3,w8⟩
   |true=>
    rw[if_pos rfl]at q8 ⊢;refine thn (he _ _ _ _ _ _ s8 σ7 H8 _ I8 q8) fun y s9 ⟨z,H9,I9,r9,ys,e9,hl,m',hm,w9⟩=>?_
    refine thn (jI (X:=Xc) _ s9 σ7 H9 (.ref s2.heap.objs.size) [z] (.ref s2.heap.objs.size) [y] (fun _ H10=>H10=upd H9 s2.heap.objs.size (.lst (ys++[z]))) I9 rfl (.cons r9 .nil) ⟨_,ys,z,rfl,rfl,e9,hl,rfl⟩) fun _ s10 ⟨_,H10,I10,_,e10⟩=>?_
    subst e10;obtain⟨b1,b2,b3⟩:=back I10;exact⟨m',hm,i+1,σ7,_,b1,b2,b3,w9⟩
 exact codeAny_compStart_list loop (T.self _ 0 _ _ _ st3 loop)
theorem tQ(hok:dI N js scope X.env.scope X.N=true)(hcalm:X.calm=true)(hi:PI X tg iter wi)
  (hg:∀C s2 H2 fp pn,PG (compCx X scope C N s2 H2 fp pn) tg g) (ht:∀C s2 H2 fp pn,PIf (compCx X scope C N s2 H2 fp pn) ifs tt) (he:∀C s2 H2 fp pn,PE (compCx X scope C N s2 H2 fp pn) elt te)
  (hs:∀x,foldedSetIterable iter X.env x=pure x:=by intro _;rfl):PE X (.ListComp elt [⟨tg,iter,ifs,0⟩] scope pos) (ow js wi g tt te):=fun pins s σ H Q I h=>by
 rw[eval_ListComp];exact lx (use:=none) hok hcalm hi hg ht he hs I h fun D C s5 H4 m5 hn _ key q=>⟨m5,hn,fun h' hs'=>⟨.ref D,H4,key h' hs',rfl,q⟩⟩
theorem jm{spos:Pos}(hN:X.N.Nodup)(hy:X.N[i]?=some y)(hl:X.env.scope.names.lookup y=some .local)(hok:dI N js scope X.env.scope X.N=true)(hcalm:X.calm=true)(hi:PI X tg iter wi)
  (hg:∀C s2 H2 fp pn,PG (compCx X scope C N s2 H2 fp pn) tg g) (ht:∀C s2 H2 fp pn,PIf (compCx X scope C N s2 H2 fp pn) ifs tt) (he:∀C s2 H2 fp pn,PE (compCx X scope C N s2 H2 fp pn) elt te)
  (hs:∀x,foldedSetIterable iter X.env x=pure x) (hsw:swapsWith (.ListComp elt [⟨tg,iter,ifs,0⟩] scope pos) (some (.Name y py)) spos.line X.env=pure true) :
  PS X (.Assign [.Name y py] (.ListComp elt [⟨tg,iter,ifs,0⟩] scope pos) spos) (wB (ow js wi g tt te) (nH i)):=by
 intro pins s σ H D I h;rw[exec_Assign_Name_used _ _ _ _ hsw];refine wpAny_bind (wpAny_standAt (wpAny_bind ?_));show wpAny _ _ (do let _<-comprehension (.ListComp elt [⟨tg,iter,ifs,0⟩] scope pos) scope X.env _ (newList []) false (eval iter X.env) (some (assign (.Name y py) X.env))) _ _ s
 refine wpAny_bind (wpAny_mono (lx (use:=some (assign (.Name y py) X.env)) (Qf:=fun _ s'=>SP X pins D .next s') hok hcalm hi hg ht he hs I h fun Da C s5 H4 m5 hn fp key q=>?_) (fun _ s' hq=>wpAny_pure (wpAny_pure hq)) fun _ _ z=>z)
 show wpAny _ _ (assign (.Name y py) X.env (.ref Da)) _ _ _;have J:Inv X pins σ H4 s5:=key s5.heap (Heap.SameBut.refl _ _);obtain⟨oC,es,ep,eC,rC⟩:=id hn;obtain⟨f0,f1,f2,f3,f4,f5⟩:=id fp;have JC:Inv X (pins++[(C,oC)]) σ H4 s5:=J.pins_of fun p hp=>by
  rcases List.mem_append.mp hp with z|z
  ·exact J.pin p (List.mem_append_right _ z)
  ·have e:p=(C,oC):=by simpa using z
   subst e;exact⟨eC,f0,f1,f2,fun v hv=>by
    have z:=rC.1;rw[show oC.data=.cell v from hv]at z;cases z⟩
 refine thn ((hU (pos:=py) hN hy (.inl hl) (.inr hl)) _ s5 σ H4 (.ref Da) (.ref Da) (fun σ' H'=>H'=H4/\D.nx σ' H') JC rfl ⟨rfl,q⟩) fun _ s6 ⟨σ6,H6,I6,e6,q6⟩=>?_
 subst e6;have eC6:s6.heap.get? C=some oC:=(I6.pin (C,oC) (List.mem_append_right _ (List.mem_append_right _ (by simp)))).1
 refine⟨m5,hn.at' fun o e=>?_,fun h' hsame=>⟨σ6,H6,?_,q6⟩⟩
 ·rw[eC]at e;cases e;exact eC6
 ·exact (Inv.unpinned I6).turned (t':=s6.toks) (it:=C) (fun b o hb e=>(hsame.2 b hb).trans e) f0 f1 f3 f4 f5
end
end L2
namespace L2
open PySem PySem.Spec PySem.Calls PyProof.Rows PySem.W PySem.Builtin PySem.Builtin.ObjectAttr PySem.Builtin.Getset_descriptor
section
variable {h:Heap}{os:OsState}{o:Obj}{K:PySem.W.Frag}
theorem tS(X:K.In h)(hx:h.get? a=some o)(hc:o.cls=.ref C)(hm:PySem.W.mroIn K C (.type "object")=some true)(hq:R (.ok (.ret (.ref C))) ⟨h,g,d,t,os⟩) :
  codeAny (model prog w) A (.call (.builtin "getset_descriptor.__get__") ⟨[.builtin "object.__class__",.ref a,tp],[]⟩) R ⟨h,g,d,t,os⟩:=by
 have L0:PySem.W.Looks (model prog w) h (typeOf (.ref a)) (.ref C):=hc▸(PySem.W.Looks.ld hx).andThen .now;have L1:=PySem.W.looks_mroIn (M:=model prog w) X hm;refine codeAny_call_builtin KF.slot_gs.plain KF.entry_gs (KF.slot_gs.check _ _ _ _ _ _ _ _ KF.type_class (KF.args_gs _ _ _) ?_);unfold Builtin.«getset_descriptor.__get__» descrGet;rw[dga_obj];refine wpAny_bind (wpAny_pure ?_);unfold descrGetter descrCheckInstance descrNameAndClass isInstance;simp only[KF.owner_class]
 repeat lk
 refine⟨Code.quiet_builtin _ (by decide +kernel),codeAny_builtin KF.entry_class ?_⟩
 unfold Builtin.«object.__class__» shownTypeOf
 repeat lk
 exact hq
theorem l4(X:K.In h)(ha:findIn K (.ref C) name=some (some b))(hg:specialIn K b "__get__"=some (some gg))(ht:takesIn K b=some true):Looks M h (find (.ref a) (.ref C) name) (.bind gg b):=by
 have L1:=looks_findIn (M:=M) X ha;have L2:Looks M h (getOf (some b)) (some gg):=looks_specialIn X hg;have L3:=looks_takesIn (M:=M) X ht;refine L1.andThen (L2.andThen ?_);exact (show Looks M h (dataDescriptor? (some b) (some gg)) (some (gg,b)) from L3.andThen .now).andThen (Looks.tag .now)
variable (hga:findIn K (.ref C) "__getattribute__"=some (some (.builtin "BaseException.__getattribute__"))) (hgn:findIn K (.ref C) "__getattr__"=some none) (hcl:findIn K (.ref C) "__class__"=some (some (.builtin "object.__class__")))
 (hn:specialIn K (.builtin "object.__class__") "__get__"=some (some (.builtin "getset_descriptor.__get__"))) (htk:takesIn K (.builtin "object.__class__")=some true) (hm:mroIn K C (.type "object")=some true) (hmB:mroIn K C (.type "BaseException")=some true)
include hcl hn htk hm in
theorem oQ(X:K.In h)(hx:h.get? a=some o)(hc:o.cls=.ref C)(hq:Q (.done (.ret (.ref C))) ⟨h,g,d,t,os⟩) :
  wpAny (model prog w) A (Builtin.«object.__getattribute__» ⟨[.ref a,.str "__class__" tk],[]⟩) Q E ⟨h,g,d,t,os⟩:=by
 have L0:Looks (model prog w) h (typeOf (.ref a)) (.ref C):=hc▸(Looks.ld hx).andThen .now;have L1:=l4 (M:=model prog w) (a:=a) X hcl hn htk;refine wpAny_bind (wpAny_pure (wpAny_bind (wpAny_pure (wpAny_bind (L0.at (wpAny_bind (L1.at ?_)))))));show wpAny _ _ (bindTo _ _ _ _) _ _ _;refine wpAny_bind (wpAny_holding (wpAny_call (tS X hx hc hm ?_)));exact wpAny_pure hq
include hmB in
theorem kl(X:K.In h)(hx:h.get? a=some o)(hc:o.cls=.ref C)(hq:Q () ⟨h,g,d,t,os⟩):wpAny M A (checkBuiltinCall "BaseException.__getattribute__" ⟨[.ref a,nameV],[]⟩) Q E ⟨h,g,d,t,os⟩:=by
 have hk:builtinKind "BaseException.__getattribute__"=some .slot:=by decide +kernel
 have hsplit:splitId "BaseException.__getattribute__"=some ("BaseException","__getattribute__"):=by decide +kernel
 have L0:Looks M h (typeOf (.ref a)) (.ref C):=hc▸(Looks.ld hx).andThen .now;have L1:=looks_mroIn (M:=M) X hmB;have ha:=F.args_bexc_ga (.ref a) nameV;simp only[checkBuiltinCall,hk,hsplit];refine wpAny_bind ?_
 ·unfold isInstance;refine wpAny_bind (L0.at (L1.at ?_))
  repeat (first|assumption|wp_step)
include hga hgn hcl hn htk hm hmB in
theorem sj(X:K.In h)(hx:h.get? a=some o)(hc:o.cls=.ref C)(hq:Q (some (.ref C)) ⟨h,g,d,t+1,os⟩):wpAny (model prog w) A (getAttr? (.ref a) "__class__") Q E ⟨h,g,d,t,os⟩:=by
 have L0:Looks (model prog w) h (typeOf (.ref a)) (.ref C):=hc▸(Looks.ld hx).andThen .now;have L1:=looks_findIn (M:=model prog w) X hga;have L2:=looks_findIn (M:=model prog w) X hgn;have FB:Slot "ValueError" "__getattribute__" "BaseException.__getattribute__":=F.excAttr_ValueError.ga;have f3:=FB.bind (.ref a);unfold getAttr? getAttrBy? getAttrBy;refine wpAny_bind (wpAny_mkText (wpAny_bind (wpAny_attempt (wpAny_holding (wpAny_bind (L0.at (wpAny_bind (L1.at ?_))))))));show wpAny _ _ (getAttrByItsOwn _ _ _ _ _ _) _ _ _;refine wpAny_bind (L2.at (wpAny_bind (wpAny_attempt (wpAny_holding ?_))));unfold callGetattribute;show wpAny _ _ (boundAndCalled _ _ _) _ _ _;unfold boundAndCalled;rw[f3];refine wpAny_bind (wpAny_pure ?_);refine wpAny_call (codeAny_call_builtin FB.plain F.entry_bexc_ga (kl hmB X hx hc (oQ hcl hn htk hm X hx hc ?_)));exact wpAny_pure (wpAny_pure hq)
end
structure ExcI (K:PySem.W.Frag)(C:Addr):Prop where
 hd:PySem.W.hasDictIn K C=true
 ga:findIn K (.ref C) "__getattribute__"=some (some (.builtin "BaseException.__getattribute__"))
 gn:findIn K (.ref C) "__getattr__"=some none
 cl:findIn K (.ref C) "__class__"=some (some (.builtin "object.__class__"))
 n:specialIn K (.builtin "object.__class__") "__get__"=some (some (.builtin "getset_descriptor.__get__"))
 tk:takesIn K (.builtin "object.__class__")=some true
 m:mroIn K C (.type "object")=some true
 mB:mroIn K C (.type "BaseException")=some true
theorem qI{K:PySem.W.Frag}(X:ExcI K C):KitX K (.ref a) (.ref C) (fun h=>∃o,h.get? a=some o/\o.cls=.ref C) where
 ty:=fun M h _ ⟨o,hx,hc⟩=>hc▸(Looks.ld hx).andThen .now
 it:=fun _ _ Y _=>by
  obtain⟨cdD,hcD,_⟩:=any_some X.hd;unfold clsIn at hcD;split at hcD
  ·rename_i c' d' cd' sl' ho;intro A' Q' E' s' k q;unfold isType loadHead;exact wpAny_bind (wpAny_loadPart (k _ _ (Y _ _ ho)) (wpAny_pure q))
  ·cases hcD
 ne:=fun h tp dd its n sl Y htp=>by
  obtain⟨cdD,hcD,_⟩:=any_some X.hd;refine Bool.eq_false_iff.mpr fun q=>?_
  have e:C=tp:=Value.ref.inj (beq_iff_eq.mp q);subst e;unfold clsIn at hcD;split at hcD
  ·rename_i c' d' cd' sl' ho;have z:=(Y _ _ ho).symm.trans htp;cases z
  ·cases hcD
 ca:=fun {prog w A E Q s} Y ⟨o,hx,hc⟩ k=>sj X.ga X.gn X.cl X.n X.tk X.m X.mB Y hx hc k
end L2
namespace L2
open PySem PySem.Spec PySem.Calls PyProof.Rows PySem.W PySem.Builtin PySem.Builtin.ObjectAttr
section
variable {h:Heap}{os:OsState}{o:Obj}{K:PySem.W.Frag}
theorem rj(X:K.In h)(x:ExcI K C)(hx:h.get? a=some o)(hc:o.cls=.ref C)(LF:Looks (model prog w) h (find (.ref a) (.ref C) name) (.value u))(hu:handedOut u=pure u)(hq:Q u ⟨h,g,d,t+1,os⟩) :
  wpAny (model prog w) A (getAttr (.ref a) name b) Q E ⟨h,g,d,t,os⟩:=by
 have L0:Looks (model prog w) h (typeOf (.ref a)) (.ref C):=hc▸(Looks.ld hx).andThen .now;have L1:=looks_findIn (M:=model prog w) X x.ga;have L2:=looks_findIn (M:=model prog w) X x.gn;have FB:Slot "ValueError" "__getattribute__" "BaseException.__getattribute__":=F.excAttr_ValueError.ga;have f3:=FB.bind (.ref a);unfold getAttr getAttrBy;refine wpAny_bind (wpAny_mkText (wpAny_holding (wpAny_bind (L0.at (wpAny_bind (L1.at ?_))))));show wpAny _ _ (getAttrByItsOwn _ _ _ _ _ _) _ _ _;refine wpAny_bind (L2.at (wpAny_bind (wpAny_attempt (wpAny_holding ?_))));unfold callGetattribute;rw[if_neg (by rw[show onTheHeap (.builtin "BaseException.__getattribute__")=false from rfl,Bool.and_false];exact Bool.false_ne_true)]
 unfold boundAndCalled;rw[f3];refine wpAny_bind (wpAny_pure (wpAny_call (codeAny_call_builtin FB.plain F.entry_bexc_ga (kl x.mB X hx hc ?_))));refine wpAny_bind (wpAny_pure (wpAny_bind (wpAny_pure (wpAny_bind (L0.at (wpAny_bind (LF.at ?_)))))));refine wpAny_pure ?_;show wpAny _ _ (handedOut u) _ _ _;rw[hu];exact wpAny_pure hq
end
noncomputable def tXG(K:PySem.W.Frag)(ta:TE)(f:Str):TE:=fun σ H Q=>ta σ H fun x H1=>∃a C dx ob fs v,x=.ref a/\H1 a=some (qe a (.ref C) (some dx))/\ExcI K C/\NoAttr K C f/\H1 dx=some (.frz ob (.xd fs))/\fs.lookup f=some v/\Q v H1
theorem tG{X:Cx}(he:PE X e ta)(hb:attributeBase e f X.env (eval e X.env)=eval e X.env):PE X (.Attribute e f pos) (tXG X.K ta f):=by
 intro pins s σ H Q I h;refine on hb (thn (he pins s σ H _ I h) fun u s1 ⟨x,H1,I1,rx,a,C,dx,ob,fs,v,ex,ea,xi,na,ed,l,q⟩=>?_)
 subst ex;obtain rfl:u=Value.ref a:=rx;obtain⟨⟨o,vs,go,hc,hd,hdx⟩,_,_⟩:=I1.hok a _ ea;obtain⟨gd,mA,hN,r⟩:=I1.hok dx _ ed;obtain⟨u,hu,ru⟩:=RelO.some_of (v:=v) (o:=mA f) (by rw[<-l];exact r f)
 obtain⟨od,god,lk⟩:=j4 hN;have IA:InstAt s1.heap a o C (some od):=⟨go,hc,by unfold notCls;rw[hd],by rw[hdx];exact god⟩
 obtain⟨cd,hcd,hdt⟩:=any_some xi.hd;have LF:Looks (model X.prog X.w) s1.heap (find (.ref a) (.ref C) f) (.value u):=looks_find I1.kIn IA (by
  unfold findObj;rw[hcd,Option.bind_some,show findIn X.K (.ref C) f=some none from na,Option.bind_some];dsimp only[Option.bind_some];unfold PySem.W.ownOf;rw[if_pos hdt];dsimp only;rw[lk f,hu];rfl)
 obtain⟨h1,g1,d1,t1,os1⟩:=s1;exact rj I1.kIn xi go hc LF (handedOut_of (jS ru)) ⟨v,H1,I1.tok _,ru,q⟩
end L2
namespace L2
open PySem PySem.Spec PySem.Calls PyProof.Rows PySem.W
section
variable {s:Shared}
end
end L2
namespace L2
open PySem PySem.Spec PySem.Calls PyProof.Rows PySem.W
open AutoSeq1 (wpAny_loadPart')
open MeetsSeq MeetsSeq2 MeetsSeq3
section
variable {A:Around}{s:Shared}
end
end L2
namespace L2
open PySem PySem.Spec PyProof.Rows
section
variable {A:Around}{s:Shared}{St:Nat->Heap->Prop}{xs:Array (Int×Tok)}
end
end L2
namespace L2
open PySem PySem.Spec PyProof.Rows
inductive D where
 |non|bl (b:Bool)|int (i:Int)|str (x:Str)|tup (ds:List D)|rol (ds:List D)|ref (a:Addr)
 |obj (i:Nat) (C:Addr) (ns:List Nat) (ds:List D)|dik (ks:List Key) (ds:List D)|dit (ks:List (List Int)) (ds:List D)
noncomputable def mX:Nat->Nat->List Nat
 |0,_=>[]
 |k+1,n=>if n=0 then [] else (n % 128)::mX k (n / 128)
noncomputable def fnm(n:Nat):Str:=⟨(mX n n).toArray⟩
noncomputable def tq:List Nat->Nat
 |[]=>0
 |d::r=>d+128 * tq r
theorem iZ:∀(k n:Nat),n<=k->tq (mX k n)=n
 |0,n,h=>by have:n=0:=Nat.le_zero.mp h;subst this;rfl
 |k+1,n,h=>by
  unfold mX;by_cases z:n=0
  ·rw[if_pos z];exact z.symm
  ·rw[if_neg z];show n % 128+128 * tq (mX k (n / 128))=n;rw[iZ k (n / 128) (by omega)]
   omega
theorem kN(h:fnm a=fnm b):a=b:=by
 have e:mX a a=mX b b:=by
  have:=congrArg (fun x:Str=>x.cps.toList) h
  simpa [fnm] using this
 have:=congrArg tq e
 rwa [iZ a a (Nat.le_refl _),iZ b b (Nat.le_refl _)]at this
noncomputable def tH(k:List Int):Int:=reduceHash (Builtin.Tuple.tupleHashOf (k.map hashInt))
noncomputable def cL(a:Addr)(xs:List (List Int×Addr×Value)):Heap->Prop:=fun h=>∃o es ep,h.get? a=some o/\o.ExactDict/\o.data=.dict es ep/\es.toList=xs.map fun x=>(⟨tH x.1,.ref x.2.1,x.2.2⟩:DictEntry)
structure TabOk (K:PySem.W.Frag)(H:Hp)(a:Addr) (ks:List (List Int)) (xs:List (List Int×Addr×Value)) (vs:List V):Prop where
 kx:xs.map (·.1)=ks
 nd:ks.Nodup
 sz:ks.length<=sizeLine
 no:(a == sysModules)=false
 vx:Vals vs (xs.map (·.2.2))
 at_:∀x∈xs,SqT K H x.2.1 (x.1.map V.int)
noncomputable def SqM(K:PySem.W.Frag)(a:Addr)(xs:List V):Prop:=∃(its:List Value) (n:Nat),K.lookup a=some {cls:=.type "list",data:=.seq its.toArray n}/\its.length<=sizeLine/\Vals xs its
noncomputable def SqF(K:PySem.W.Frag)(H:Hp)(a:Addr)(xs:List V):Prop:=(∃o,H a=some (.frz o (.lst xs)))\/SqM K a xs
theorem SqM.sq{K:PySem.W.Frag}(h:SqM K a xs):SqL K H a xs:=by
 obtain⟨its,n,e,z,r⟩:=h;exact .inr ⟨_,its.toArray,n,e,rfl,rfl,rfl,by simpa using z,by simpa using r⟩
theorem SqF.sq{K:PySem.W.Frag}(h:SqF K H a xs):SqL K H a xs:=by
 rcases h with h|h
 ·exact .inl (.inr h)
 ·exact h.sq
mutual
noncomputable def Den(K:PySem.W.Frag)(H:Hp):D->V->Prop
 |.non,v=>v=.non
 |.bl b,v=>v=.bl b
 |.int i,v=>v=.int i
 |.str x,v=>v=.str x
 |.tup ds,v=>∃p vs,v=.ref p/\SqT K H p vs/\DenL K H ds vs
 |.rol ds,v=>∃p vs,v=.ref p/\SqF K H p vs/\DenL K H ds vs
 |.ref a,v=>v=.ref a
 |.obj _ C ns ds,v=>∃p vs o dx,v=.ref p/\H p=some (.frz o (.ins C dx ((ns.map fnm).zip vs)))/\ns.length=vs.length/\DenL K H ds vs
 |.dik ks ds,v=>∃p vs o,v=.ref p/\H p=some (.frz o (.dK (ks.zip vs)))/\ks.length=vs.length/\DenL K H ds vs
 |.dit ks ds,v=>∃p vs o xs,v=.ref p/\H p=some (.frz o (.ext (cL p xs)))/\TabOk K H p ks xs vs/\DenL K H ds vs
noncomputable def DenL(K:PySem.W.Frag)(H:Hp):List D->List V->Prop
 |[],vs=>vs=[]
 |d::ds,vs=>∃v r,vs=v::r/\Den K H d v/\DenL K H ds r
end
structure TM (K:PySem.W.Frag)(H H':Hp):Prop where
 t:∀p xs,SqT K H p xs->SqT K H' p xs
 f:∀p xs,SqF K H p xs->SqF K H' p xs
 g:∀p o u,H p=some (.frz o u)->H' p=some (.frz o u)
theorem TM.refl{K:PySem.W.Frag}(H:Hp):TM K H H:=⟨fun _ _ h=>h,fun _ _ h=>h,fun _ _ _ h=>h⟩
theorem TM.trans{K:PySem.W.Frag}(a:TM K H H1)(b:TM K H1 H2):TM K H H2:=⟨fun p xs h=>b.t p xs (a.t p xs h),fun p xs h=>b.f p xs (a.f p xs h),fun p o u h=>b.g p o u (a.g p o u h)⟩
theorem TM.un{K:PySem.W.Frag}(t:∀b xs,H b=some (.tup xs)->H' b=some (.tup xs))(f:∀b o u,H b=some (.frz o u)->H' b=some (.frz o u)):TM K H H':=⟨fun q xs h=>by
 rcases h with (h|⟨ob,h⟩)|h
 ·exact .inl (.inl (t _ _ h))
 ·exact .inl (.inr ⟨ob,f _ _ _ h⟩)
 ·exact .inr h,fun q xs h=>by
 rcases h with ⟨ob,h⟩|h
 ·exact .inl ⟨ob,f _ _ _ h⟩
 ·exact .inr h,f⟩
theorem TM.new{K:PySem.W.Frag}(hp:H p=none):TM K H (upd H p o):=
 .un (fun b xs h=>by rw[ae (aC h hp)];exact h) fun b ob u h=>by rw[ae (aC h hp)];exact h
theorem TM.put{K:PySem.W.Frag}(hp:H p=some u)(h1:∀xs,u≠.tup xs)(h2:∀ob v,u≠.frz ob v):TM K H (upd H p o):=
 .un (fun b xs h=>by rw[ae (cY h hp fun z=>h1 _ z.symm)];exact h) fun b ob u h=>by rw[ae (cY h hp fun z=>h2 _ _ z.symm)];exact h
section
variable {K:PySem.W.Frag}
mutual
theorem Den.mono(t:TM K H H'):∀{d:D}{v:V},Den K H d v->Den K H' d v
 |.non,_,h=>h
 |.bl _,_,h=>h
 |.int _,_,h=>h
 |.str _,_,h=>h
 |.ref _,_,h=>h
 |.tup ds,v,h=>by
  obtain⟨p,vs,e,s,l⟩:=h;exact⟨p,vs,e,t.t _ _ s,DenL.mono t l⟩
 |.rol ds,v,h=>by
  obtain⟨p,vs,e,s,l⟩:=h;exact⟨p,vs,e,t.f _ _ s,DenL.mono t l⟩
 |.obj i C ns ds,v,h=>by
  obtain⟨p,vs,o,dx,e,s,z,l⟩:=h;exact⟨p,vs,o,dx,e,t.g _ _ _ s,z,DenL.mono t l⟩
 |.dik ks ds,v,h=>by
  obtain⟨p,vs,o,e,s,z,l⟩:=h;exact⟨p,vs,o,e,t.g _ _ _ s,z,DenL.mono t l⟩
 |.dit ks ds,v,h=>by
  obtain⟨p,vs,o,xs,e,s,z,l⟩:=h;exact⟨p,vs,o,xs,e,t.g _ _ _ s,⟨z.kx,z.nd,z.sz,z.no,z.vx,fun x hx=>t.t _ _ (z.at_ x hx)⟩,DenL.mono t l⟩
theorem DenL.mono(t:TM K H H'):∀{ds:List D}{vs:List V},DenL K H ds vs->DenL K H' ds vs
 |[],_,h=>h
 |d::ds,vs,h=>by
  obtain⟨v,r,e,a,b⟩:=h;exact⟨v,r,e,Den.mono t a,DenL.mono t b⟩
end
theorem DenL.length:∀{ds:List D}{vs:List V},DenL K H ds vs->ds.length=vs.length
 |[],_,h=>by cases h;rfl
 |d::ds,vs,h=>by
  obtain⟨v,r,rfl,_,b⟩:=h;rw[List.length_cons,List.length_cons,DenL.length b]
theorem DenL.get:∀{ds:List D}{vs:List V}{i:Nat}{d:D},DenL K H ds vs->ds[i]?=some d->∃v,vs[i]?=some v/\Den K H d v
 |[],_,_,_,_,e=>by simp at e
 |d::ds,vs,0,d',h,e=>by
  obtain⟨v,r,rfl,a,b⟩:=h;simp at e;subst e;exact⟨v,rfl,a⟩
 |d::ds,vs,i+1,d',h,e=>by
  obtain⟨v,r,rfl,a,b⟩:=h;obtain⟨u,e1,e2⟩:=DenL.get (i:=i) b (by simpa using e)
  exact⟨u,by simpa using e1,e2⟩
theorem DenL.get':∀{ds:List D}{vs:List V}{i:Nat}{v:V},DenL K H ds vs->vs[i]?=some v->∃d,ds[i]?=some d/\Den K H d v
 |[],_,_,_,h,e=>by cases h;simp at e
 |d::ds,vs,0,v',h,e=>by
  obtain⟨v,r,rfl,a,b⟩:=h;simp at e;subst e;exact⟨d,rfl,a⟩
 |d::ds,vs,i+1,v',h,e=>by
  obtain⟨v,r,rfl,a,b⟩:=h;obtain⟨u,e1,e2⟩:=DenL.get' (i:=i) b (by simpa using e)
  exact⟨u,by simpa using e1,e2⟩
theorem DenL.append:∀{ds es:List D}{vs ws:List V},DenL K H ds vs->DenL K H es ws->DenL K H (ds++es) (vs++ws)
 |[],_,_,_,h,g=>by cases h;exact g
 |d::ds,_,_,_,h,g=>by
  obtain⟨v,r,rfl,a,b⟩:=h;exact⟨v,r++_,rfl,a,DenL.append b g⟩
theorem DenL.nil:DenL K H [] []:=rfl
theorem DenL.cons(a:Den K H d v)(b:DenL K H ds vs):DenL K H (d::ds) (v::vs):=⟨v,vs,rfl,a,b⟩
theorem DenL.one(a:Den K H d v):DenL K H [d] [v]:=.cons a .nil
theorem DenL.take:∀{ds:List D}{vs:List V} (n:Nat),DenL K H ds vs->DenL K H (ds.take n) (vs.take n)
 |_,_,0,_=>rfl
 |[],_,n+1,h=>by cases h;rfl
 |d::ds,_,n+1,h=>by
  obtain⟨v,r,rfl,a,b⟩:=h;exact⟨v,r.take n,rfl,a,DenL.take n b⟩
theorem DenL.drop:∀{ds:List D}{vs:List V} (n:Nat),DenL K H ds vs->DenL K H (ds.drop n) (vs.drop n)
 |_,_,0,h=>h
 |[],_,n+1,h=>by cases h;rfl
 |d::ds,_,n+1,h=>by
  obtain⟨v,r,rfl,a,b⟩:=h;exact DenL.drop n b
theorem DenL.set(a:Den K H d v):∀{ds:List D}{vs:List V} (i:Nat),DenL K H ds vs->DenL K H (ds.set i d) (vs.set i v)
 |[],_,_,h=>by cases h;rfl
 |_::ds,_,0,h=>by
  obtain⟨_,r,rfl,_,b⟩:=h;exact⟨v,r,rfl,a,b⟩
 |e::ds,_,i+1,h=>by
  obtain⟨u,r,rfl,c,b⟩:=h;exact⟨u,_,rfl,c,DenL.set a i b⟩
theorem DenL.of_int:∀{ns:List Int},DenL K H (ns.map D.int) (ns.map V.int)
 |[]=>rfl
 |n::ns=>⟨.int n,ns.map V.int,rfl,rfl,DenL.of_int⟩
end
structure XE where
 c:Nat
 pl:Option (Nat×D)
noncomputable def XD(K:PySem.W.Frag)(H:Hp)(i:XE)(dx:Option Addr):Prop:=match i.pl with
 |none=>dx=none
 |some (f,y)=>∃p o v,dx=some p/\H p=some (.frz o (.xd [(fnm f,v)]))/\Den K H y v
theorem XD.mono{K:PySem.W.Frag}(t:TM K H H')(h:XD K H i dx):XD K H' i dx:=by
 obtain⟨c,pl⟩:=i;cases pl with
 |none=>exact h
 |some q=>
  obtain⟨p,o,v,e,g,d⟩:=h;exact⟨p,o,v,e,t.g _ _ _ g,d.mono t⟩
inductive DO where
 |lst (ds:List D)
 |dk (ks:List Key) (ds:List D)
 |dt (ks:List (List Int)) (ds:List D)
 |ins (i:Nat) (C:Addr) (ns:List Nat) (ds:List D)
 |exc (i:XE) (cls:Value)
 |stl (φ:Heap->Prop)
noncomputable abbrev MH:=Addr->Option DO
noncomputable def put(M:MH)(a:Addr)(o:DO):MH:=fun b=>if b=a then some o else M b
theorem ai:put M a o a=some o:=if_pos rfl
theorem ak(h:b≠a):put M a o b=M b:=if_neg h
theorem dm:put (put M a o) a u=put M a u:=by
 funext b;unfold put;split<;>rfl
noncomputable def OD(K:PySem.W.Frag)(H:Hp)(a:Addr):DO->Prop
 |.lst ds=>∃vs,H a=some (.lst vs)/\DenL K H ds vs
 |.dk ks ds=>∃vs,H a=some (.dK (ks.zip vs))/\ks.length=vs.length/\DenL K H ds vs
 |.dt ks ds=>∃vs xs,H a=some (.ext (cL a xs))/\TabOk K H a ks xs vs/\DenL K H ds vs
 |.ins _ C ns ds=>∃dx vs,H a=some (.ins C dx ((ns.map fnm).zip vs))/\ns.length=vs.length/\DenL K H ds vs
 |.exc i cls=>∃dx,H a=some (qe a cls dx)/\XD K H i dx
 |.stl φ=>H a=some (.ext φ)
noncomputable def RelM(K:PySem.W.Frag)(M:MH)(H:Hp):Prop:=∀a o,M a=some o->OD K H a o
noncomputable abbrev St3:=List (Option D)
noncomputable def DenS(K:PySem.W.Frag)(H:Hp)(σ3:St3)(σ:St):Prop:=σ3.length=σ.length/\∀(i:Nat)(d:D),σ3[i]?=some (some d)->∃v,σ[i]?=some (some v)/\Den K H d v
section
variable {K:PySem.W.Frag}
theorem OD.tracked(h:OD K H a o):∃u,H a=some u:=by
 cases o with
 |lst ds=>obtain⟨_,e,_⟩:=h;exact⟨_,e⟩
 |dk ks ds=>obtain⟨_,e,_⟩:=h;exact⟨_,e⟩
 |dt ks ds=>obtain⟨_,_,e,_⟩:=h;exact⟨_,e⟩
 |ins i C ns ds=>obtain⟨_,_,e,_⟩:=h;exact⟨_,e⟩
 |exc i cls=>obtain⟨_,e,_⟩:=h;exact⟨_,e⟩
 |stl φ=>exact⟨_,h⟩
theorem RelM.fresh(r:RelM K M H)(hp:H p=none):M p=none:=by
 cases e:M p with
 |none=>rfl
 |some o=>
  obtain⟨u,z⟩:=(r p o e).tracked;rw[hp]at z;cases z
theorem OD.stay(t:TM K H H')(e:H' a=H a)(h:OD K H a o):OD K H' a o:=by
 cases o with
 |lst ds=>obtain⟨vs,q,l⟩:=h;exact⟨vs,e.trans q,l.mono t⟩
 |dk ks ds=>obtain⟨vs,q,n,l⟩:=h;exact⟨vs,e.trans q,n,l.mono t⟩
 |dt ks ds=>obtain⟨vs,xs,q,z,l⟩:=h;exact⟨vs,xs,e.trans q,⟨z.kx,z.nd,z.sz,z.no,z.vx,fun x hx=>t.t _ _ (z.at_ x hx)⟩,l.mono t⟩
 |ins i C ns ds=>obtain⟨dx,vs,q,n,l⟩:=h;exact⟨dx,vs,e.trans q,n,l.mono t⟩
 |exc i cls=>obtain⟨dx,q,x⟩:=h;exact⟨dx,e.trans q,x.mono t⟩
 |stl φ=>exact e.trans h
theorem RelM.grow(r:RelM K M H)(hp:H p=none):RelM K M (upd H p o):=fun a u e=>by
 obtain⟨x,z⟩:=(r a u e).tracked;exact (r a u e).stay (.new hp) (ae (aC z hp))
theorem RelM.lay(r:RelM K M H)(hp:H p=none)(h:OD K (upd H p o) p u):RelM K (put M p u) (upd H p o):=fun a x e=>by
 by_cases ha:a=p
 ·subst ha;rw[ai]at e;cases e;exact h
 ·rw[ak ha]at e;exact r.grow hp a x e
theorem RelM.write(r:RelM K M H)(hp:H p=some w)(h1:∀xs,w≠.tup xs)(h2:∀ob v,w≠.frz ob v)(h:OD K (upd H p o) p u):RelM K (put M p u) (upd H p o):=fun a x e=>by
 by_cases ha:a=p
 ·subst ha;rw[ai]at e;cases e;exact h
 ·rw[ak ha]at e;exact (r a x e).stay (.put hp h1 h2) (ae ha)
noncomputable def Sub(M' M:MH):Prop:=∀a o,M' a=some o->M a=some o
theorem Sub.put(s:Sub M' M)(h:M' p=none):Sub M' (put M p u):=fun a o e=>by
 rw[ak fun z=>by rw[z,h]at e;cases e]
 exact s a o e
theorem RelM.sub(r:RelM K M H)(s:Sub M' M):RelM K M' H:=fun a o e=>r a o (s a o e)
theorem DenS.mono(t:TM K H H')(h:DenS K H σ3 σ):DenS K H' σ3 σ:=⟨h.1,fun i d e=>let ⟨v,e1,e2⟩:=h.2 i d e;⟨v,e1,e2.mono t⟩⟩
theorem DenS.set{σ3:St3}{σ:St}(h:DenS K H σ3 σ)(e:Den K H d v):DenS K H (σ3.set i (some d)) (σ.set i (some v)):=by
 refine⟨by rw[List.length_set,List.length_set];exact h.1,fun j d' q=>?_⟩
 by_cases hj:i=j
 ·subst hj;rw[List.getElem?_set]at q ⊢;rw[if_pos rfl]at q ⊢;rw[<-h.1];split at q
  next hl=>
   cases q;exact⟨v,if_pos hl,e⟩
  next=>cases q
 ·rw[List.getElem?_set_ne hj]at q ⊢;exact h.2 j d' q
theorem DenS.drop{σ3:St3}{σ:St}(h:DenS K H σ3 σ):DenS K H (σ3.set i none) (σ.set i none):=by
 refine⟨by rw[List.length_set,List.length_set];exact h.1,fun j d' q=>?_⟩
 by_cases hj:i=j
 ·subst hj;rw[List.getElem?_set,if_pos rfl]at q;split at q<;>cases q
 ·rw[List.getElem?_set_ne hj]at q ⊢;exact h.2 j d' q
theorem mG{N:List Str}{ds:List D}(h:DenL K H ds vs):DenS K H (ds.map some++List.replicate (N.length - ds.length) none) (dH N vs):=by
 have hl:=h.length;refine⟨by unfold dH;simp[hl],fun i d e=>?_⟩
 by_cases hi:i < ds.length
 ·rw[List.getElem?_append_left (by simpa using hi),List.getElem?_map]at e
  have e':ds[i]?=some d:=by
   cases q:ds[i]? with
   |none=>rw[q]at e;cases e
   |some x=>rw[q]at e;cases e;rfl
  obtain⟨v,e1,e2⟩:=h.get e';refine⟨v,?_,e2⟩;unfold dH;rw[List.getElem?_append_left (by simpa [<-hl] using hi),List.getElem?_map,e1]
  rfl
 ·rw[List.getElem?_append_right (by simpa using hi),List.getElem?_replicate]at e
  split at e<;>cases e
end
noncomputable abbrev VK3:=D->MH->Prop
noncomputable abbrev TE3:=St3->MH->VK3->Prop
noncomputable abbrev TT3:=St3->MH->(Bool->MH->Prop)->Prop
structure Ends3 where
 nx:St3->MH->Prop
 rt:VK3
 bk:St3->MH->Prop:=fun _ _=>False
 ct:St3->MH->Prop:=fun _ _=>False
noncomputable abbrev TS3:=Ends3->St3->MH->Prop
structure ER (K:PySem.W.Frag)(H:Hp)(D3:Ends3)(D2:Ends):Prop where
 nx:∀σ' H' σ3' M',RelM K M' H'->DenS K H' σ3' σ'->TM K H H'->D3.nx σ3' M'->D2.nx σ' H'
 rt:∀v H' d M',Den K H' d v->RelM K M' H'->TM K H H'->D3.rt d M'->D2.rt v H'
 bk:∀σ' H' σ3' M',RelM K M' H'->DenS K H' σ3' σ'->TM K H H'->D3.bk σ3' M'->D2.bk σ' H'
 ct:∀σ' H' σ3' M',RelM K M' H'->DenS K H' σ3' σ'->TM K H H'->D3.ct σ3' M'->D2.ct σ' H'
theorem ER.mono{K:PySem.W.Frag}(r:ER K H D3 D2)(t:TM K H H1):ER K H1 D3 D2:=
 ⟨fun a b c d h1 h2 h3 h4=>r.nx a b c d h1 h2 (t.trans h3) h4,fun a b c d h1 h2 h3 h4=>r.rt a b c d h1 h2 (t.trans h3) h4,fun a b c d h1 h2 h3 h4=>r.bk a b c d h1 h2 (t.trans h3) h4,fun a b c d h1 h2 h3 h4=>r.ct a b c d h1 h2 (t.trans h3) h4⟩
end L2
namespace L2
open PySem PySem.Spec PyProof.Rows
section
variable {K:PySem.W.Frag}
theorem fN:Den K H (.int i) (.int i):=rfl
theorem bn{b:Bool}:Den K H (.bl b) (.bl b):=rfl
theorem g9:Den K H (.str x) (.str x):=rfl
theorem qi:Den K H .non .non:=rfl
theorem fB:Den K H (.ref a) (.ref a):=rfl
theorem nE(h:SqT K H p vs)(l:DenL K H ds vs):Den K H (.tup ds) (.ref p):=⟨p,vs,rfl,h,l⟩
end
noncomputable abbrev R3:=D->D->MH->VK3->Prop
noncomputable abbrev Back(K:PySem.W.Frag)(H:Hp)(Q:VK3)(Q2:VK):Prop:=∀v H' d M',Den K H' d v->RelM K M' H'->TM K H H'->Q d M'->Q2 v H'
noncomputable def Op3(X:Cx)(f:Value->Value->Sem Value)(r3:R3):Prop:=∃r2,OpR X f r2/\∀(H:Hp)(x y:D)(v u:V)(M:MH)(Q:VK3)(Q2:VK),Den X.K H x v->Den X.K H y u->RelM X.K M H->r3 x y M Q->Back X.K H Q Q2->r2 v u H Q2
noncomputable def Un3(X:Cx)(f:Value->Sem Value)(r3:D->MH->VK3->Prop):Prop:=∃r2,UnR X f r2/\∀(H:Hp)(x:D)(v:V)(M:MH)(Q:VK3)(Q2:VK),Den X.K H x v->RelM X.K M H->r3 x M Q->Back X.K H Q Q2->r2 v H Q2
noncomputable def u4(X:Cx)(f:Value)(r3:List D->MH->VK3->Prop):Prop:=∃r2,CallR X f r2/\∀(H:Hp)(xs:List D)(vs:List V)(M:MH)(Q:VK3)(Q2:VK),DenL X.K H xs vs->RelM X.K M H->r3 xs M Q->Back X.K H Q Q2->r2 vs H Q2
noncomputable def rI3(C:Int->Int->Prop)(g:Int->Int->D):R3:=fun x y M Q=>∃i j,x=.int i/\y=.int j/\C i j/\Q (g i j) M
section
variable {X:Cx}{a b c e:Expr}{ta tb tc te:TE3}{pos:Pos}
noncomputable def q3(t:TE3):TT3:=fun σ M Q=>t σ M fun x M1=>∃k,x=.bl k/\Q k M1
variable {tA tB':TT3}{rest:List Expr}
theorem t6{K:PySem.W.Frag}(h:DenL K H ds vs)(e:atI ds i=some d):∃v,atI vs i=some v/\Den K H d v:=by
 unfold atI at e ⊢;rw[<-h.length];cases q:ixN ds.length i with
 |none=>rw[q]at e;cases e
 |some j=>
  rw[q]at e;obtain⟨v,e1,e2⟩:=h.get (show ds[j]?=some d from e);exact⟨v,e1,e2⟩
noncomputable def Is(M:MH)(x:D)(ds:List D):Prop:=x=.rol ds\/∃a,x=.ref a/\M a=some (.lst ds)
theorem RelM.list{K:PySem.W.Frag}(rm:RelM K M H)(h:Is M x ds)(dv:Den K H x v):∃p vs,v=.ref p/\SqL K H p vs/\DenL K H ds vs:=by
 rcases h with rfl|⟨a,rfl,h⟩
 ·obtain⟨p,vs,e,s,l⟩:=dv;exact⟨p,vs,e,s.sq,l⟩
 ·obtain⟨vs,e,l⟩:=rm a _ h;exact⟨a,vs,dv,.of e,l⟩
noncomputable def isIB:V->D->Prop:=fun v d=>(∃i,v=.int i/\d=.int i)\/(∃b,v=.bl b/\d=.bl b)
theorem isIB.den{K:PySem.W.Frag}(h:isIB v d):Den K H d v:=by
 rcases h with ⟨i,rfl,rfl⟩|⟨b,rfl,rfl⟩<;>rfl
theorem iD(h:OpR X f (rI C g))(hg:∀i j,isIB (g i j) (g3 i j)):Op3 X f (rI3 C g3):=
 ⟨_,h,fun H x y v u M Q Q2 dx dy rm ⟨i,j,e1,e2,hc,q⟩ k=>by
  subst e1;subst e2;cases (show v=.int i from dx);cases (show u=.int j from dy);exact⟨i,j,rfl,rfl,hc,k _ H _ M (hg i j).den rm (.refl _) q⟩⟩
noncomputable def kL(g:Int->Int->D):R3:=fun x y M Q=>∃i j,x=.int i/\y=.int j/\Q (g i j) M
theorem c9(h:OpR X f (rI0 g))(hg:∀i j,isIB (g i j) (g3 i j)):Op3 X f (kL g3):=
 ⟨_,h,fun H x y v u M Q Q2 dx dy rm ⟨i,j,e1,e2,q⟩ k=>by
  subst e1;subst e2;cases (show v=.int i from dx);cases (show u=.int j from dy);exact⟨i,j,rfl,rfl,k _ H _ M (hg i j).den rm (.refl _) q⟩⟩
noncomputable def big:Nat:=2 ^ 4096
theorem mS(h:n < 10 ^ 250):n < big:=Nat.lt_of_lt_of_le h (by decide +kernel)
noncomputable def gG(i j:Int):Prop:=(i.natAbs < big/\j.natAbs < big)
theorem gS{k:Int}(h:k.natAbs < big):Builtin.Int.intBits k<=2 ^ 20:=by
 unfold Builtin.Int.intBits;by_cases h0:k.natAbs=0
 ·have:k=0:=by omega
  subst this;decide
 ·have h30:k.natAbs.log2 < 4096:=(Nat.log2_lt h0).mpr h;split<;>omega
theorem ur:OpR X (binaryOp .Mult) (rI gG fun i j=>.int (i * j)):=opI fun _ _ _ _ _ _ _ hc q=>mul_int q (.of_bits (gS hc.1) (gS hc.2))
noncomputable def lA(_ j:Int):Prop:=0 < j/\j.toNat < big
theorem sm:OpR X (binaryOp .FloorDiv) (rI lA fun i j=>.int (i / j)):=opI fun i j _ _ _ _ _ hc q=>by
 have h1:(0:Int) < j:=hc.1;have h2:j.toNat < big:=hc.2;refine floordiv_int (by omega) (by rw[Int.fdiv_eq_ediv_of_nonneg i (by omega)];exact q) (.inl (PyProof.noPylong_of_log2 ?_))
 have h3:j.natAbs < 2 ^ 4096:=by
  have e:j.natAbs=j.toNat:=by omega
  rw[e];exact h2
 have h0:j.natAbs≠0:=by omega
 have:=(Nat.log2_lt h0).mpr h3;omega
theorem A1:Op3 X (binaryOp .Add) (kL fun i j=>.int (i+j)):=c9 yI fun _ _=>.inl ⟨_,rfl,rfl⟩
theorem Dy:Op3 X (binaryOp .Sub) (kL fun i j=>.int (i - j)):=c9 yn fun _ _=>.inl ⟨_,rfl,rfl⟩
theorem C1:Op3 X (binaryOp .Mult) (rI3 gG fun i j=>.int (i * j)):=iD ur fun _ _=>.inl ⟨_,rfl,rfl⟩
theorem Ag:Op3 X (binaryOp .FloorDiv) (rI3 lA fun i j=>.int (i / j)):=iD sm fun _ _=>.inl ⟨_,rfl,rfl⟩
theorem DB:Op3 X (binaryOp .Mod) (rI3 (fun _ j=>0 < j) fun i j=>.int (i % j)):=iD xo fun _ _=>.inl ⟨_,rfl,rfl⟩
theorem Bv:Op3 X (binaryOp .Pow) (rI3 rg fun i j=>.int (i ^ j.toNat)):=iD wl fun _ _=>.inl ⟨_,rfl,rfl⟩
theorem Co:Op3 X (binaryOp .RShift) (rI3 (fun _ j=>0<=j) fun i j=>.int (i / 2 ^ j.toNat)):=iD xM fun _ _=>.inl ⟨_,rfl,rfl⟩
theorem DK:Op3 X (binaryOp .BitAnd) (kL fun i j=>.int (Builtin.bitAnd i j)):=c9 xj fun _ _=>.inl ⟨_,rfl,rfl⟩
theorem GA:Op3 X (compareOp .Lt) (kL fun i j=>.bl (decide (i < j))):=c9 Du fun _ _=>.inr ⟨_,rfl,rfl⟩
theorem G3:Op3 X (compareOp .LtE) (kL fun i j=>.bl (decide (i<=j))):=c9 Dg fun _ _=>.inr ⟨_,rfl,rfl⟩
theorem F7:Op3 X (compareOp .Gt) (kL fun i j=>.bl (decide (j < i))):=c9 Dc fun _ _=>.inr ⟨_,rfl,rfl⟩
theorem FZ:Op3 X (compareOp .GtE) (kL fun i j=>.bl (decide (j<=i))):=c9 Bo fun _ _=>.inr ⟨_,rfl,rfl⟩
noncomputable def rU3(g:Int->Int):D->MH->VK3->Prop:=fun x M Q=>∃i,x=.int i/\Q (.int (g i)) M
theorem Ct:Un3 X (unaryOp .USub) (rU3 fun i=>-i):=⟨_,zz,fun H x v M Q Q2 dx rm ⟨i,e,q⟩ k=>by
 subst e;cases (show v=.int i from dx);exact⟨i,rfl,k _ H _ M fN rm (.refl _) q⟩⟩
noncomputable def D.isN:D->Bool
 |.non=>true
 |_=>false
theorem nU{K:PySem.W.Frag}{d:D}(h:Den K H d v):decide (v=.non)=d.isN:=by
 cases d with
 |non=>cases (show v=.non from h);rfl
 |bl b=>cases (show v=.bl b from h);rfl
 |int i=>cases (show v=.int i from h);rfl
 |str x=>cases (show v=.str x from h);rfl
 |tup ds=>obtain⟨p,vs,rfl,_⟩:=h;rfl
 |rol ds=>obtain⟨p,vs,rfl,_⟩:=h;rfl
 |ref a=>cases (show v=.ref a from h);rfl
 |obj i C ns ds=>obtain⟨p,vs,_,_,rfl,_⟩:=h;rfl
 |dik ks ds=>obtain⟨p,vs,_,rfl,_⟩:=h;rfl
 |dit ks ds=>obtain⟨p,vs,_,_,rfl,_⟩:=h;rfl
noncomputable def rIs3:R3:=fun x y M Q=>y=.non/\Q (.bl x.isN) M
noncomputable def rIsN3:R3:=fun x y M Q=>y=.non/\Q (.bl (!x.isN)) M
theorem GL:Op3 X (compareOp .Is) rIs3:=⟨_,zL,fun H x y v u M Q Q2 dx dy rm ⟨e,q⟩ k=>by
 subst e;refine⟨dy,?_⟩;rw[nU dx];exact k _ H _ M bn rm (.refl _) q⟩
theorem tW:Op3 X (compareOp .IsNot) rIsN3:=⟨_,uP,fun H x y v u M Q Q2 dx dy rm ⟨e,q⟩ k=>by
 subst e;refine⟨dy,?_⟩;rw[nU dx];exact k _ H _ M bn rm (.refl _) q⟩
variable {id:String}
noncomputable def rLen3:List D->MH->VK3->Prop:=fun xs M Q=>∃x ds,xs=[x]/\(Is M x ds\/x=.tup ds)/\Q (.int ds.length) M
theorem B1:u4 X (.builtin "len") rLen3:=⟨_,kP,fun H xs vs M Q Q2 dl rm ⟨x,ds,e,h,q⟩ k=>by
 subst e;obtain⟨v,r,rfl,dv,rfl⟩:=dl;rcases h with h|rfl
 ·obtain⟨a,ys,rfl,sq,l⟩:=rm.list h dv;exact⟨a,ys,rfl,.inl sq,by rw[<-l.length];exact k _ H _ M fN rm (.refl _) q⟩
 ·obtain⟨a,ys,rfl,sq,l⟩:=dv;exact⟨a,ys,rfl,.inr sq,by rw[<-l.length];exact k _ H _ M fN rm (.refl _) q⟩⟩
end
end L2
namespace L2
open PySem PySem.Spec PyProof.Rows
noncomputable abbrev BackS(K:PySem.W.Frag)(H:Hp)(Q:St3->MH->Prop)(Q2:St->Hp->Prop):Prop:=∀σ' H' σ3' M',RelM K M' H'->DenS K H' σ3' σ'->TM K H H'->Q σ3' M'->Q2 σ' H'
section
variable {X:Cx}{st:Stmt}{rest:List Stmt}{t u:TS3}{e:Expr}{te:TE3}{pos:Pos}
structure ItOk (K:PySem.W.Frag)(H0:Hp)(J:It)(ds:List D)(S:MH->Prop):Prop where
 go:∀(i:Nat) H M,TM K H0 H->RelM K M H->S M->i < ds.length->J.go i H
 yld:∀(i:Nat) H M x H',TM K H0 H->RelM K M H->S M->i < ds.length->J.yld i H x H'->TM K H H'/\RelM K M H'/\∃d,ds[i]?=some d/\Den K H' d x
 stop:∀H M,TM K H0 H->RelM K M H->S M->J.stop ds.length H
noncomputable def rng(lo:Int)(n:Nat):List D:=(List.range n).map fun (i:Nat)=>D.int (lo+i)
theorem ko(lo:Int)(n:Nat):(rng lo n).length=n:=by unfold rng;rw[List.length_map,List.length_range]
theorem xl{lo:Int}(h:i < n):(rng lo n)[i]?=some (.int (lo+i)):=by
 unfold rng;rw[List.getElem?_map,List.getElem?_range h];rfl
theorem v5{K:PySem.W.Frag}{lo:Int}:ItOk K H0 (Itr lo n) (rng lo n) (fun _=>True):=by
 refine⟨fun i H M _ _ _ hi=>?_,fun i H M x H' _ rm _ hi y=>?_,fun H M _ _ _=>?_⟩
 ·rw[ko]at hi;exact hi
 ·rw[ko]at hi;obtain⟨e,y⟩:=y;subst e;subst y;exact⟨.refl _,rm,_,xl hi,rfl⟩
 ·rw[ko];exact Nat.le_refl _
end
section
variable {K:PySem.W.Frag}
end
section
variable {X:Cx}
end
end L2
namespace L2
open PySem PySem.Spec PyProof.Rows
noncomputable abbrev XN:=XE->MH->Prop
noncomputable def del(M:MH)(a:Addr):MH:=fun b=>if b=a then none else M b
theorem d9(h:M a=none):del (put M a o) a=M:=by
 funext b;unfold del put;by_cases e:b=a
 ·subst e;rw[if_pos rfl,h]
 ·rw[if_neg e,if_neg e]
theorem hG(h:del M a b=some o):b≠a/\M b=some o:=by
 unfold del at h;split at h
 ·cases h
 ·exact⟨by assumption,h⟩
noncomputable def af(M M':MH):MH:=fun a=>match M a with
 |some _=>M' a
 |none=>none
theorem jM(h:af M M' a=some o):M' a=some o:=by
 unfold af at h;split at h
 ·exact h
 ·cases h
noncomputable def kp(b:Bool)(M M':MH):MH:=if b=true then af M M' else M'
theorem rq(h:kp b M M' a=some o):M' a=some o:=by
 cases b with
 |true=>exact jM h
 |false=>exact h
inductive BI where
 |len  |list (fz:Bool)  |all  |any
inductive BM where
 |get  |insert  |popd
inductive BT where
 |int|bool|str|tuple|list|dict
mutual
inductive IE where
 |var (i:Nat)
 |con (d:D)
 |bin (op:Operator) (a b:IE)
 |neg (a:IE)
 |cat (fz:Bool) (a b:IE)
 |cmp (op:CmpOp) (a b:IE)
 |chain (op op':CmpOp) (a b c:IE)
 |and (a b:IE)
 |or (a b:IE)
 |not (a:IE)
 |ifx (c:IT) (a b:IE)
 |tup (es:IA)
 |lst (fz:Bool) (es:IA)
 |frz (e:IE)
 |ix (a b:IE)
 |sl (fz:Bool) (a:IE) (lo hi:IO)
 |call (f:Nat) (es:IA)
 |bi (b:BI) (es:IA)
 |isB (e:IE) (t:BT)
 |isC (e:IE) (c:Nat)
 |comp (fz:Bool) (N:List Str) (js:List (Option Nat)) (tg:ITg) (it:II) (cond:ITO) (elt:IE)
 |dlg (ps:List (Str×Int)) (es:IA)
 |fld (e:IE) (f:Nat)
 |xfld (e:IE) (f:Nat)
 |make (fz:Bool) (i:Nat) (es:IA)
 |meth (e:IE) (m:Nat) (es:IA)
 |ini (i:Nat) (es:IA)
 |isK (e:IE) (j:Nat)
 |glo (k:Nat)
 |bm (b:BM) (o:IE) (es:IA)
 |rep (fz:Bool) (a b:IE)
 |dnew (tk:Bool)
inductive IT where
 |val (e:IE)|cmp (op:CmpOp) (a b:IE)|chain (op op':CmpOp) (a b c:IE)|chain3 (op op' op'':CmpOp) (a b c d:IE)|and (a b:IT)|or (a b:IT)|not (a:IT)
inductive IA where
 |nil|cons (e:IE) (r:IA)
inductive IO where
 |no|yes (e:IE)
inductive ITO where
 |no|yes (e:IT)
inductive II where
 |seq (e:IE)
 |rng1 (a:IE)
inductive ITg where
 |name (i:Nat)|tup (is:List Nat)
end
mutual
inductive IS where
 |set (i:Nat) (e:IE)
 |unp (is:List Nat) (e:IE)
 |expr (e:IE)
 |ret (e:IE)
 |retN
 |ifs (c:IT) (a b:ISs)
 |for_ (tg:ITg) (it:II) (body:ISs)
 |raise (c:Nat) (es:IA)
 |raiseI (c:Nat) (es:IA)
 |try_ (body:ISs) (hs:IHs)
 |app (o e:IE)
 |del (i:Nat)
 |fset (o:IE) (f:Nat) (e:IE)
 |ixset (o i e:IE)
 |dead
inductive ISs where
 |nil|cons (s:IS) (r:ISs)
inductive IHs where
 |nil|cons (c:Nat) (nm:Option Nat) (body:ISs) (r:IHs)
end
noncomputable def aj(M:MH):D->Option (List D)
 |.rol ds=>some ds
 |.ref a=>match M a with
  |some (.lst ds)=>some ds
  |_=>none
 |_=>none
noncomputable def aD(M:MH):D->Option (List D)
 |.tup ds=>some ds
 |x=>aj M x
noncomputable def res(M:MH)(x:D):D:=match aj M x with
 |some ds=>.rol ds
 |none=>x
noncomputable def cK(fz:Bool)(ds:List D)(M:MH)(Q:VK3):Prop:=ds.length<=sizeLine/\if fz=true then Q (.rol ds) M else ∀p,M p=none->Q (.ref p) (put M p (.lst ds))
noncomputable def plN:Nat->D->Bool
 |_,.ref _=>false
 |n,.tup ds=>match n with
  |0=>false
  |m+1=>ds.all (plN m)
 |n,.rol ds=>match n with
  |0=>false
  |m+1=>ds.all (plN m)
 |_,.obj _ _ _ _=>false
 |_,.dik _ _=>false
 |_,.dit _ _=>false
 |_,_=>true
noncomputable abbrev pl(x:D):Bool:=plN 8 x
noncomputable abbrev pls(ds:List D):Bool:=ds.all (plN 8)
mutual
noncomputable def eqD:D->D->Bool
 |.non,y=>match y with
  |.non=>true
  |_=>false
 |.bl a,y=>match y with
  |.bl b=>a == b
  |.int b=>decide ((if a=true then (1:Int) else 0)=b)
  |_=>false
 |.int a,y=>match y with
  |.int b=>decide (a=b)
  |.bl b=>decide (a=if b=true then (1:Int) else 0)
  |_=>false
 |.str a,y=>match y with
  |.str b=>decide (a=b)
  |_=>false
 |.tup a,y=>match y with
  |.tup b=>cJ a b
  |_=>false
 |.rol a,y=>match y with
  |.rol b=>cJ a b
  |_=>false
 |.ref _,_=>false
 |.obj _ _ _ _,_=>false
 |.dik _ _,_=>false
 |.dit _ _,_=>false
noncomputable def cJ:List D->List D->Bool
 |[],y=>match y with
  |[]=>true
  |_=>false
 |a::r,y=>match y with
  |b::t=>eqD a b&&cJ r t
  |_=>false
end
noncomputable def rII(C:Int->Int->Prop)(g:Int->Int->D)(x y:D)(M:MH)(Q:VK3):Prop:=match x,y with
 |.int i,.int j=>C i j/\Q (g i j) M
 |_,_=>False
noncomputable def rI2(g:Int->Int->D)(x y:D)(M:MH)(Q:VK3):Prop:=match x,y with
 |.int i,.int j=>Q (g i j) M
 |_,_=>False
noncomputable def sg(x y:D)(M:MH)(Q:VK3):Prop:=match x,y with
 |.int i,.int j=>Q (.int (i+j)) M
 |.str a,.str b=>a.length+b.length<=sizeLine/\Q (.str (a++b)) M
 |.tup a,.tup b=>a.length+b.length<=sizeLine/\Q (.tup (a++b)) M
 |_,_=>False
noncomputable def kD(z:Str)(n:Int):Str:=if n < 1 then Str.empty else if (n == 1||z.length == 0)=true then z else⟨(List.replicate n.toNat z.cps).foldl (·++·) #[]⟩
noncomputable def so(x y:D)(M:MH)(Q:VK3):Prop:=match x,y with
 |.int i,.int j=>gG i j/\Q (.int (i * j)) M
 |.str z,.int n=>(0<=n/\n<=100000/\z.length<=10)/\Q (.str (kD z n)) M
 |_,_=>False
noncomputable def jz:Operator->D->D->MH->VK3->Prop
 |.Add=>sg
 |.Sub=>rI2 fun i j=>.int (i - j)
 |.Mult=>so
 |.FloorDiv=>rII lA fun i j=>.int (i / j)
 |.Mod=>rII (fun _ j=>0 < j) fun i j=>.int (i % j)
 |.Pow=>rII rg fun i j=>.int (i ^ j.toNat)
 |.RShift=>rII (fun _ j=>0<=j) fun i j=>.int (i / 2 ^ j.toNat)
 |.BitAnd=>rI2 fun i j=>.int (Builtin.bitAnd i j)
 |_=>fun _ _ _ _=>False
noncomputable def rNeg(x:D)(M:MH)(Q:VK3):Prop:=match x with
 |.int i=>Q (.int (-i)) M
 |_=>False
noncomputable def fF(fz:Bool)(x y:D)(M:MH)(Q:VK3):Prop:=match aj M x,aj M y with
 |some a,some b=>cK fz (a++b) M Q
 |_,_=>match x,y with
  |.tup a,.tup b=>a.length+b.length<=sizeLine/\Q (.tup (a++b)) M
  |_,_=>False
noncomputable def gT(fz:Bool)(x y:D)(M:MH)(Q:VK3):Prop:=match aj M x,y with
 |some a,.int k=>(-(2 ^ 63)<=k/\k < 2 ^ 63/\a.length * k.toNat<=sizeLine)/\cK fz (List.replicate k.toNat a).flatten M Q
 |_,_=>False
noncomputable def rs(M:MH)(x:D):D:=match aj M x with
 |some ds=>.rol (if pls ds=true then ds else ds.map (res M))
 |none=>x
noncomputable def cG(neg:Bool)(x y:D)(M:MH)(Q:VK3):Prop:=pl (rs M x)=true/\pl (rs M y)=true/\Q (.bl (neg ^^ eqD (rs M x) (rs M y))) M
noncomputable def pq(neg:Bool)(x y:D)(M:MH)(Q:VK3):Prop:=match y with
 |.non=>Q (.bl (neg ^^ x.isN)) M
 |.bl b=>match x with
  |.bl a=>Q (.bl (neg ^^ (a == b))) M
  |.non=>Q (.bl neg) M
  |_=>False
 |_=>False
noncomputable def ng:D->Option Key
 |.int i=>some (.inl i)
 |.str s=>some (.inr s)
 |_=>none
noncomputable def eJ:List D->Option (List Int)
 |[]=>some []
 |.int i::r=>match eJ r with
  |some ns=>some (i::ns)
  |none=>none
 |_::_=>none
noncomputable def jt:D->Option (List Int)
 |.tup es=>eJ es
 |_=>none
noncomputable def getD[DecidableEq κ]:List κ->List D->κ->Option D
 |k::ks,d::ds,x=>if k=x then some d else getD ks ds x
 |_,_,_=>none
noncomputable def aq[DecidableEq κ]:List κ->κ->List κ
 |[],x=>[x]
 |k::ks,x=>if k=x then k::ks else k::aq ks x
noncomputable def ax[DecidableEq κ]:List κ->List D->κ->D->List D
 |k::ks,d::ds,x,y=>if k=x then y::ds else d::ax ks ds x y
 |_,_,_,y=>[y]
noncomputable def eZ(M:MH):D->Option (List Key×List D)
 |.dik ks ds=>some (ks,ds)
 |.ref a=>match M a with
  |some (.dk ks ds)=>some (ks,ds)
  |_=>none
 |_=>none
noncomputable def gW(M:MH):D->Option (List (List Int)×List D)
 |.dit ks ds=>some (ks,ds)
 |.ref a=>match M a with
  |some (.dt ks ds)=>some (ks,ds)
  |_=>none
 |_=>none
noncomputable def gu(M:MH)(x y:D):Option (Option D):=match eZ M x with
 |some (ks,ds)=>match ng y with
  |some k=>some (getD ks ds k)
  |none=>none
 |none=>match gW M x with
  |some (ks,ds)=>match jt y with
   |some k=>some (getD ks ds k)
   |none=>none
  |none=>none
noncomputable def Bp(a b:Str):Bool:=!(Builtin.Str.occurrences b a 0 b.length 1).isEmpty
noncomputable def uX(z:Str)(i:Nat):Str:=⟨#[z.cps.getD i 0]⟩
noncomputable def gH(z:Str):List D:=z.cps.toList.map fun c=>.str ⟨#[c]⟩
noncomputable def lZ(neg:Bool)(x y:D)(M:MH)(Q:VK3):Prop:=match aD M y with
 |some ds=>pl (res M x)=true/\pls ds=true/\Q (.bl (neg ^^ ds.any fun d=>eqD d (res M x))) M
 |none=>match gu M y x with
  |some o=>Q (.bl (neg ^^ o.isSome)) M
  |none=>match x,y with
   |.str a,.str b=>Q (.bl (neg ^^ Bp a b)) M
   |_,_=>False
noncomputable def aw:CmpOp->D->D->MH->VK3->Prop
 |.Eq=>cG false
 |.NotEq=>cG true
 |.Lt=>rI2 fun i j=>.bl (decide (i < j))
 |.LtE=>rI2 fun i j=>.bl (decide (i<=j))
 |.Gt=>rI2 fun i j=>.bl (decide (j < i))
 |.GtE=>rI2 fun i j=>.bl (decide (j<=i))
 |.Is=>pq false
 |.IsNot=>pq true
 |.In=>lZ false
 |.NotIn=>lZ true
noncomputable def aE(x y:D)(M:MH)(Q:VK3):Prop:=match aD M x with
 |some ds=>match y with
  |.int i=>match atI ds i with
   |some d=>Q d M
   |none=>False
  |_=>False
 |none=>match gu M x y with
  |some (some d)=>Q d M
  |some none=>False
  |none=>match x,y with
   |.str z,.int i=>(0<=i/\i < z.length/\i < 2 ^ 63)/\Q (.str (uX z i.toNat)) M
   |_,_=>False
noncomputable def ar(xs:List D)(lo hi:Option Int):List D:=(xs.drop (HT.sIx xs.length 0 lo)).take (HT.sIx xs.length xs.length hi - HT.sIx xs.length 0 lo)
noncomputable def whole(n:Nat)(lo hi:Option Int):Bool:=HT.sIx n 0 lo == 0&&HT.sIx n n hi == n
noncomputable def dg(fz:Bool)(x:D)(lo hi:Option Int)(M:MH)(Q:VK3):Prop:=match x with
 |.tup ds=>whole ds.length lo hi=false/\Q (.tup (ar ds lo hi)) M
 |.str z=>z.length<=sizeLine/\Q (.str (Txt.slice z lo hi)) M
 |x=>match aj M x with
  |some ds=>cK fz (ar ds lo hi) M Q
  |none=>False
noncomputable def dP:List D->Option (List Bool)
 |[]=>some []
 |.bl i::r=>match dP r with
  |some ns=>some (i::ns)
  |none=>none
 |_::_=>none
noncomputable def isLstM(x:D)(M:MH):Bool:=match x with
 |.ref a=>match M a with
  |some (.lst _)=>true
  |_=>false
 |_=>false
noncomputable def eL(n:Nat)(i:Int):Nat:=if i < 0 then (i+n).toNat else min i.toNat n
noncomputable def pO(ds:List D)(i:Int)(y:D):List D:=ds.take (eL ds.length i)++y::ds.drop (eL ds.length i)
noncomputable def tyB:BM->D->MH->Bool
 |.get,x,M=>(eZ M x).isSome||(gW M x).isSome
 |.insert,x,M=>isLstM x M
 |.popd,x,M=>(eZ M x).isSome||(gW M x).isSome
noncomputable def aH[DecidableEq κ]:List κ->κ->List κ
 |[],_=>[]
 |q::ks,k=>if q=k then ks else q::aH ks k
noncomputable def aV[DecidableEq κ]:List κ->List D->κ->List D
 |q::ks,d::ds,k=>if q=k then ds else d::aV ks ds k
 |_,ds,_=>ds
noncomputable def rBm:BM->D->List D->MH->VK3->Prop
 |.get,x,ys,M,Q=>match ys with
  |[y]=>match gu M x y with
   |some o=>Q (o.getD .non) M
   |none=>False
  |[y,z]=>match gu M x y with
   |some o=>Q (o.getD z) M
   |none=>False
  |_=>False
 |.insert,x,ys,M,Q=>match x,ys with
  |.ref a,[.int i,y]=>match M a with
   |some (.lst ds)=>(ds.length < sizeLine/\-(2 ^ 62)<=i/\i < 2 ^ 62)/\Q .non (put M a (.lst (pO ds i y)))
   |_=>False
  |_,_=>False
 |.popd,x,ys,M,Q=>match x,ys with
  |.ref a,[y]=>match M a,jt y with
   |some (.dt ks ds),some k=>match getD ks ds k with
    |some d=>Q d (put M a (.dt (aH ks k) (aV ks ds k)))
    |none=>False
   |_,_=>False
  |_,_=>False
noncomputable def Cr(k:List Int):D:=.tup (k.map D.int)
noncomputable def rBi:BI->List D->MH->VK3->Prop
 |.len,xs,M,Q=>match xs with
  |[x]=>match aD M x with
   |some ds=>Q (.int ds.length) M
   |none=>match gW M x with
    |some (ks,_)=>Q (.int ks.length) M
    |none=>match x with
     |.str z=>z.length<=sizeLine/\Q (.int z.length) M
     |_=>False
  |_=>False
 |.list fz,xs,M,Q=>match xs with
  |[x]=>match aD M x with
   |some ds=>cK fz ds M Q
   |none=>match gW M x with
    |some (ks,_)=>cK fz (ks.map Cr) M Q
    |none=>False
  |_=>False
 |.all,xs,M,Q=>match xs with
  |[x]=>match aj M x with
   |some ds=>match dP ds with
    |some bs=>Q (.bl (bs.all id)) M
    |none=>False
   |none=>False
  |_=>False
 |.any,xs,M,Q=>match xs with
  |[x]=>match aj M x with
   |some ds=>match dP ds with
    |some bs=>Q (.bl (bs.any id)) M
    |none=>False
   |none=>False
  |_=>False
noncomputable def kF(t:BT)(x:D)(M:MH)(Q:VK3):Prop:=match x with
 |.non=>Q (.bl false) M
 |.bl _=>Q (.bl (match t with|.int=>true|.bool=>true|_=>false)) M
 |.int _=>Q (.bl (match t with|.int=>true|_=>false)) M
 |.str _=>Q (.bl (match t with|.str=>true|_=>false)) M
 |.tup _=>Q (.bl (match t with|.tuple=>true|_=>false)) M
 |.rol _=>Q (.bl (match t with|.list=>true|_=>false)) M
 |.ref a=>match M a with
  |some (.lst _)=>Q (.bl (match t with|.list=>true|_=>false)) M
  |some (.dk _ _)=>Q (.bl (match t with|.dict=>true|_=>false)) M
  |some (.dt _ _)=>Q (.bl (match t with|.dict=>true|_=>false)) M
  |_=>False
 |.dik _ _=>Q (.bl (match t with|.dict=>true|_=>false)) M
 |.dit _ _=>Q (.bl (match t with|.dict=>true|_=>false)) M
 |.obj _ _ _ _=>False
noncomputable def km(ne:Nat)(cls:Nat->Addr)(r:Nat->Bool)(x:D)(M:MH)(Q:VK3):Prop:=match x with
 |.ref a=>match M a with
  |some (.exc i v)=>i.c < ne/\v=.ref (cls i.c)/\Q (.bl (r i.c)) M
  |_=>False
 |_=>False
noncomputable def rDl(x:D)(ys:List D)(M:MH)(Q:VK3):Prop:=match x,ys with
 |.ref p,[y,z]=>match M p,y with
  |some (.dk ks ds),.str t=>Q ((getD ks ds (.inr t)).getD z) (del M p)
  |some (.dk _ _),.non=>Q z (del M p)
  |_,_=>False
 |_,_=>False
structure WB where
 ne:Nat
 cls:Nat->Addr
 sub:Nat->Nat->Bool
 nk:Nat
 kls:Nat->Addr
 ksub:Nat->Nat->Bool
 fok:Nat->Nat->Bool
 mth:Nat->Nat->Option Nat
 ini:Nat->Option Nat
 xin:Nat->Option Nat
 glo:Nat->D
 fad:Nat->Addr
structure WC extends WB where
 call:Nat->List D->MH->VK3->XN->Prop
noncomputable def b9(f:Nat):List Nat->List D->Option D
 |n::ns,d::ds=>if n=f then some d else b9 f ns ds
 |_,_=>none
noncomputable def cr(f:Nat):List Nat->List Nat
 |n::ns=>if n=f then n::ns else n::cr f ns
 |[]=>[f]
noncomputable def cq(f:Nat)(y:D):List Nat->List D->List D
 |n::ns,d::ds=>if n=f then y::ds else d::cq f y ns ds
 |_,_=>[y]
noncomputable def fS(f:Nat)(ns:List Nat)(ds:List D)(M:MH)(Q:VK3):Prop:=match b9 f ns ds with
 |some d=>Q d M
 |none=>False
noncomputable def cH(B:WB)(f:Nat)(x:D)(M:MH)(Q:VK3):Prop:=match x with
 |.obj i C ns ds=>(C=B.kls i/\i < B.nk/\B.fok i f=true)/\fS f ns ds M Q
 |.ref a=>match M a with
  |some (.ins i C ns ds)=>(C=B.kls i/\i < B.nk/\B.fok i f=true)/\fS f ns ds M Q
  |_=>False
 |_=>False
noncomputable def rXf(B:WB)(f:Nat)(x:D)(M:MH)(Q:VK3):Prop:=match x with
 |.ref a=>match M a with
  |some (.exc i v)=>(v=.ref (B.cls i.c)/\i.c < B.ne/\B.xin i.c=some f)/\(match i.pl with
   |some (g,y)=>g=f/\Q y M
   |none=>False)
  |_=>False
 |_=>False
noncomputable def cW(o:Option Nat)(R:Nat->Prop):Prop:=match o with
 |some f=>R f
 |none=>False
noncomputable def dG(B:WB)(m:Nat)(x:D)(M:MH)(R:Nat->Prop):Prop:=match x with
 |.obj i C ns ds=>(C=B.kls i/\i < B.nk/\b9 m ns ds=none)/\cW (B.mth i m) R
 |.ref a=>match M a with
  |some (.ins i C ns ds)=>(C=B.kls i/\i < B.nk/\b9 m ns ds=none)/\cW (B.mth i m) R
  |_=>False
 |_=>False
noncomputable def nu(B:WB)(j:Nat)(x:D)(M:MH)(Q:VK3):Prop:=match x with
 |.obj i C _ _=>(C=B.kls i/\i < B.nk/\j < B.nk)/\Q (.bl (B.ksub i j)) M
 |.ref a=>match M a with
  |some (.ins i C _ _)=>(C=B.kls i/\i < B.nk/\j < B.nk)/\Q (.bl (B.ksub i j)) M
  |_=>False
 |_=>False
noncomputable def eW(Q:VK3):VK3:=fun x M=>match x with
 |.ref a=>match M a with
  |some (.lst ds)=>Q (.rol ds) (del M a)
  |_=>False
 |_=>False
noncomputable def dE:List D->MH->(List D->MH->Prop)->Prop
 |[],M,R=>R [] M
 |d::ds,M,R=>match d with
  |.ref a=>match M a with
   |some (.lst es)=>dE ds (del M a) fun r M'=>R (.rol es::r) M'
   |some (.dk ks es)=>dE ds (del M a) fun r M'=>R (.dik ks es::r) M'
   |some (.dt ks es)=>dE ds (del M a) fun r M'=>R (.dit ks es::r) M'
   |_=>dE ds M fun r M'=>R (.ref a::r) M'
  |d=>dE ds M fun r M'=>R (d::r) M'
noncomputable def bv(Q:VK3):VK3:=fun x M=>match x with
 |.ref a=>match M a with
  |some (.lst ds)=>Q (.rol ds) (del M a)
  |some (.dk ks ds)=>Q (.dik ks ds) (del M a)
  |some (.dt ks ds)=>Q (.dit ks ds) (del M a)
  |some (.ins i C ns ds)=>dE ds (del M a) fun r M'=>Q (.obj i C ns r) M'
  |_=>False
 |_=>False
noncomputable def wpG:ITg->D->St3->MH->(St3->MH->Prop)->Prop
 |.name i,d,σ,M,Q=>Q (σ.set i (some d)) M
 |.tup is,d,σ,M,Q=>match d with
  |.tup ds=>ds.length=is.length/\Q ((is.zip ds).foldl (fun σ p=>σ.set p.1 (some p.2)) σ) M
  |_=>False
noncomputable def ay(js:List (Option Nat))(σ:St3):St3:=js.map fun o=>o.bind fun j=>(σ[j]?).bind id
noncomputable def c7(g:D->St3->MH->(St3->MH->Prop)->Prop)(tt:St3->MH->(Bool->MH->Prop)->Prop)(te:St3->MH->VK3->Prop)(S:MH->Prop)(p:Addr)(Q:VK3):List D->List D->St3->MH->Prop
 |[],_,_,M=>S M/\Q (.ref p) M
 |d::r,ys,σ,M=>S M/\ys.length < sizeLine/\g d σ M fun σ2 M2=>tt σ2 M2 fun b M3=>if b=true then te σ2 M3 fun y M4=>M4 p=some (.lst ys)/\c7 g tt te S p Q r (ys++[y]) σ2 (put M4 p (.lst (ys++[y]))) else c7 g tt te S p Q r ys σ2 M3
noncomputable def bu(x k y:D)(M:MH)(R:MH->Prop):Prop:=match x with
 |.ref a=>match M a,k with
  |some (.lst ds),.int i=>(match ixN ds.length i with
   |some j=>R (put M a (.lst (ds.set j y)))
   |none=>False)
  |some (.dk ks ds),k=>(match ng k with
   |some q=>ks.length < sizeLine/\R (put M a (.dk (aq ks q) (ax ks ds q y)))
   |none=>False)
  |some (.dt ks ds),k=>(match jt k with
   |some q=>ks.length < sizeLine/\R (put M a (.dt (aq ks q) (ax ks ds q y)))
   |none=>False)
  |_,_=>False
 |_=>False
noncomputable def cpF(f:Nat):Bool:=f == 217822450
noncomputable def rXp(f:Nat)(y:D)(M:MH)(R:D->Prop):Prop:=if cpF f=true then (match aj M y with
 |some ds=>R (.rol ds)
 |none=>False) else R y
section
variable (W:WC)
mutual
noncomputable def wpE:IE->St3->MH->VK3->XN->Prop
 |.var i,σ,M,Q,_=>match σ[i]? with
  |some (some d)=>Q d M
  |_=>False
 |.con d,_,M,Q,_=>Q d M
 |.bin op a b,σ,M,Q,E=>wpE a σ M (fun x M1=>wpE b σ M1 (fun y M2=>jz op x y M2 Q) E) E
 |.neg a,σ,M,Q,E=>wpE a σ M (fun x M1=>rNeg x M1 Q) E
 |.cat fz a b,σ,M,Q,E=>wpE a σ M (fun x M1=>wpE b σ M1 (fun y M2=>fF fz x y M2 Q) E) E
 |.cmp op a b,σ,M,Q,E=>wpE a σ M (fun x M1=>wpE b σ M1 (fun y M2=>aw op x y M2 Q) E) E
 |.chain op op' a b c,σ,M,Q,E=>wpE a σ M (fun x M1=>wpE b σ M1 (fun y M2=>aw op x y M2 fun r M3=>match r with
  |.bl k=>if k=true then wpE c σ M3 (fun z M4=>aw op' y z M4 Q) E else Q (.bl false) M3
  |_=>False) E) E
 |.and a b,σ,M,Q,E=>wpE a σ M (fun x M1=>match x with
  |.bl c=>if c=true then wpE b σ M1 Q E else Q (.bl false) M1
  |_=>False) E
 |.or a b,σ,M,Q,E=>wpE a σ M (fun x M1=>match x with
  |.bl c=>if c=true then Q (.bl true) M1 else wpE b σ M1 Q E
  |_=>False) E
 |.not a,σ,M,Q,E=>wpE a σ M (fun x M1=>match x with
  |.bl c=>Q (.bl (!c)) M1
  |_=>False) E
 |.ifx c a b,σ,M,Q,E=>wpT c σ M (fun k M1=>if k=true then wpE a σ M1 Q E else wpE b σ M1 Q E) E
 |.tup es,σ,M,Q,E=>wpA es σ M (fun xs M1=>xs.length<=sizeLine/\Q (.tup xs) M1) E
 |.lst fz es,σ,M,Q,E=>wpA es σ M (fun xs M1=>cK fz xs M1 Q) E
 |.frz e,σ,M,Q,E=>wpE e σ M (bv Q) E
 |.ix a b,σ,M,Q,E=>wpE a σ M (fun x M1=>wpE b σ M1 (fun y M2=>aE x y M2 Q) E) E
 |.sl fz a lo hi,σ,M,Q,E=>wpE a σ M (fun x M1=>wpO lo σ M1 (fun l M2=>wpO hi σ M2 (fun h M3=>dg fz x l h M3 Q) E) E) E
 |.call f es,σ,M,Q,E=>wpA es σ M (fun xs M1=>W.call f xs M1 Q E) E
 |.bi b es,σ,M,Q,E=>wpA es σ M (fun xs M1=>rBi b xs M1 Q) E
 |.isB e t,σ,M,Q,E=>wpE e σ M (fun x M1=>kF t x M1 Q) E
 |.isC e c,σ,M,Q,E=>wpE e σ M (fun x M1=>km W.ne W.cls (fun i=>W.sub i c) x M1 Q) E
 |.comp fz _ js tg it cond elt,σ,M,Q,E=>wpI it σ M (fun ds S M1=>∀p,M1 p=none->
   c7 (wpG tg) (fun σ M Q=>kS cond σ M Q (fun _ _=>False)) (fun σ M Q=>wpE elt σ M Q (fun _ _=>False)) S p (if fz=true then eW Q else Q) ds [] (ay js σ) (put M1 p (.lst []))) E
 |.dlg ps es,σ,M,Q,E=>∀p,M p=none->wpA es σ (put M p (.dk (ps.map fun q=>.inr q.1) (ps.map fun q=>.int q.2))) (fun xs M1=>rDl (.ref p) xs M1 Q) E
 |.fld e f,σ,M,Q,E=>wpE e σ M (fun x M1=>cH W.toWB f x M1 Q) E
 |.xfld e f,σ,M,Q,E=>wpE e σ M (fun x M1=>rXf W.toWB f x M1 Q) E
 |.make fz i es,σ,M,Q,E=>wpA es σ M (fun xs M1=>i < W.nk/\cW (W.ini i) fun f=>∀p,M1 p=none->
   W.call f (.ref p::xs) (put M1 p (.ins i (W.kls i) [] [])) (fun v M2=>v=.non/\if fz=true then bv Q (.ref p) M2 else Q (.ref p) M2) (fun i M'=>E i (del M' p))) E
 |.meth e m es,σ,M,Q,E=>wpE e σ M (fun x M1=>dG W.toWB m x M1 fun f=>wpA es σ M1 (fun xs M2=>W.call f (x::xs) M2 Q E) E) E
 |.ini i es,σ,M,Q,E=>wpA es σ M (fun xs M1=>i < W.nk/\cW (W.ini i) fun f=>W.call f xs M1 Q E) E
 |.isK e j,σ,M,Q,E=>wpE e σ M (fun x M1=>nu W.toWB j x M1 Q) E
 |.glo k,_,M,Q,_=>Q (W.glo k) M
 |.bm b o es,σ,M,Q,E=>wpE o σ M (fun x M1=>tyB b x M1=true/\wpA es σ M1 (fun xs M2=>rBm b x xs M2 Q) E) E
 |.dnew tk,_,M,Q,_=>∀p,M p=none->Q (.ref p) (put M p (if tk=true then .dt [] [] else .dk [] []))
 |.rep fz a b,σ,M,Q,E=>wpE a σ M (fun x M1=>wpE b σ M1 (fun y M2=>gT fz x y M2 Q) E) E
noncomputable def wpT:IT->St3->MH->(Bool->MH->Prop)->XN->Prop
 |.val e,σ,M,Q,E=>wpE e σ M (fun x M1=>match x with
  |.bl k=>Q k M1
  |_=>False) E
 |.cmp op a b,σ,M,Q,E=>wpE a σ M (fun x M1=>wpE b σ M1 (fun y M2=>aw op x y M2 fun r M3=>match r with
  |.bl k=>Q k M3
  |_=>False) E) E
 |.chain op op' a b c,σ,M,Q,E=>wpE a σ M (fun x M1=>wpE b σ M1 (fun y M2=>aw op x y M2 fun r M3=>match r with
  |.bl k=>if k=true then wpE c σ M3 (fun z M4=>aw op' y z M4 fun r M5=>match r with
   |.bl k=>Q k M5
   |_=>False) E else Q false M3
  |_=>False) E) E
 |.chain3 op op' op'' a b c d,σ,M,Q,E=>wpE a σ M (fun x M1=>wpE b σ M1 (fun y M2=>aw op x y M2 fun r M3=>match r with
  |.bl k=>if k=true then wpE c σ M3 (fun z M4=>aw op' y z M4 fun r M5=>match r with
   |.bl k=>if k=true then wpE d σ M5 (fun u M6=>aw op'' z u M6 fun r M7=>match r with
    |.bl k=>Q k M7
    |_=>False) E else Q false M5
   |_=>False) E else Q false M3
  |_=>False) E) E
 |.and a b,σ,M,Q,E=>wpT a σ M (fun c M1=>if c=true then wpT b σ M1 Q E else Q false M1) E
 |.or a b,σ,M,Q,E=>wpT a σ M (fun c M1=>if c=true then Q true M1 else wpT b σ M1 Q E) E
 |.not a,σ,M,Q,E=>wpT a σ M (fun c M1=>Q (!c) M1) E
noncomputable def wpA:IA->St3->MH->(List D->MH->Prop)->XN->Prop
 |.nil,_,M,Q,_=>Q [] M
 |.cons e r,σ,M,Q,E=>wpE e σ M (fun x M1=>wpA r σ M1 (fun xs M2=>Q (x::xs) M2) E) E
noncomputable def wpO:IO->St3->MH->(Option Int->MH->Prop)->XN->Prop
 |.no,_,M,Q,_=>Q none M
 |.yes e,σ,M,Q,E=>wpE e σ M (fun x M1=>match x with
  |.int i=>Q (some i) M1
  |_=>False) E
noncomputable def kS:ITO->St3->MH->(Bool->MH->Prop)->XN->Prop
 |.no,_,M,Q,_=>Q true M
 |.yes e,σ,M,Q,E=>wpT e σ M Q E
noncomputable def wpI:II->St3->MH->(List D->(MH->Prop)->MH->Prop)->XN->Prop
 |.seq e,σ,M,R,E=>wpE e σ M (fun x M1=>match x with
  |.tup ds=>R ds (fun _=>True) M1
  |.rol ds=>R ds (fun _=>True) M1
  |.ref a=>match M1 a with
   |some (.lst ds)=>R ds (fun M=>M a=some (.lst ds)) M1
   |_=>False
  |.str z=>R (gH z) (fun _=>True) M1
  |_=>False) E
 |.rng1 a,σ,M,R,E=>wpE a σ M (fun x M1=>match x with
  |.int j=>-(2 ^ 62)<=j/\j < 2 ^ 62/\R (rng 0 j.toNat) (fun _=>True) M1
  |_=>False) E
end
noncomputable def i8(g:D->St3->MH->(St3->MH->Prop)->Prop)(tb:Ends3->St3->MH->Prop)(S:MH->Prop)(D:Ends3):List L2.D->St3->MH->Prop
 |[],σ,M=>S M/\D.nx σ M
 |d::r,σ,M=>S M/\g d σ M fun σ2 M2=>tb {D with nx:=i8 g tb S D r,ct:=i8 g tb S D r,bk:=D.nx} σ2 M2
noncomputable def md(D:Ends3)(i:Nat):Ends3:=⟨fun σ M=>D.nx (σ.set i none) M,D.rt,fun σ M=>D.bk (σ.set i none) M,fun σ M=>D.ct (σ.set i none) M⟩
mutual
noncomputable def wpS:IS->Ends3->(St3->XN)->St3->MH->Prop
 |.set i e,D,E,σ,M=>wpE W e σ M (fun x M1=>D.nx (σ.set i (some x)) M1) (E σ)
 |.unp is e,D,E,σ,M=>wpE W e σ M (fun x M1=>match x with
  |.tup ds=>ds.length=is.length/\D.nx ((is.zip ds).foldl (fun σ p=>σ.set p.1 (some p.2)) σ) M1
  |_=>False) (E σ)
 |.expr e,D,E,σ,M=>wpE W e σ M (fun _ M1=>D.nx σ M1) (E σ)
 |.ret e,D,E,σ,M=>wpE W e σ M D.rt (E σ)
 |.retN,D,_,_,M=>D.rt .non M
 |.ifs c a b,D,E,σ,M=>wpT W c σ M (fun k M1=>if k=true then ao a D E σ M1 else ao b D E σ M1) (E σ)
 |.for_ tg it body,D,E,σ,M=>wpI W it σ M (fun ds S M1=>i8 (wpG tg) (fun D σ M=>ao body D E σ M) S D ds σ M1) (E σ)
 |.raise c es,_,E,σ,M=>wpA W es σ M (fun xs M1=>xs.length<=sizeLine/\E σ ⟨c,none⟩ M1) (E σ)
 |.raiseI c es,_,E,σ,M=>wpA W es σ M (fun xs M1=>match xs with
  |[y]=>cW (W.xin c) fun f=>rXp f y M1 fun y'=>E σ ⟨c,some (f,y')⟩ M1
  |_=>False) (E σ)
 |.try_ body hs,D,E,σ,M=>ao body D (fun σ' i M'=>wpH hs i D σ' M') σ M
 |.app o e,D,E,σ,M=>wpE W o σ M (fun x M1=>match x with
  |.ref a=>match M1 a with
   |some (.lst _)=>wpE W e σ M1 (fun y M2=>match M2 a with
    |some (.lst ds)=>ds.length < sizeLine/\D.nx σ (put M2 a (.lst (ds++[y])))
    |_=>False) (E σ)
   |_=>False
  |_=>False) (E σ)
 |.del i,D,_,σ,M=>match σ[i]? with
  |some (some (.ref a))=>D.nx σ (L2.del M a)
  |_=>False
 |.fset o f e,D,E,σ,M=>wpE W e σ M (fun y M1=>wpE W o σ M1 (fun x M2=>match x with
  |.ref a=>match M2 a with
   |some (.ins i C ns ds)=>(C=W.kls i/\i < W.nk/\W.fok i f=true/\ns.length < 1000)/\D.nx σ (put M2 a (.ins i C (cr f ns) (cq f y ns ds)))
   |_=>False
  |_=>False) (E σ)) (E σ)
 |.ixset o i e,D,E,σ,M=>wpE W e σ M (fun y M1=>wpE W o σ M1 (fun x M2=>wpE W i σ M2 (fun k M3=>bu x k y M3 fun M4=>D.nx σ M4) (E σ)) (E σ)) (E σ)
 |.dead,_,_,_,_=>False
noncomputable def ao:ISs->Ends3->(St3->XN)->St3->MH->Prop
 |.nil,D,_,σ,M=>D.nx σ M
 |.cons s r,D,E,σ,M=>wpS s {D with nx:=fun σ' M'=>ao r D E σ' M'} E σ M
noncomputable def wpH:IHs->XE->Ends3->St3->MH->Prop
 |.nil,_,_,_,_=>False
 |.cons c nm body r,i,D,σ,M=>i.c < W.ne/\if W.sub i.c c=true then (match nm with
  |none=>ao body D (fun _ _ _=>False) σ M
  |some j=>∀a,M a=none->ao body (md D j) (fun _ _ _=>False) (σ.set j (some (.ref a))) (put M a (.exc i (.ref (W.cls i.c))))) else wpH r i D σ M
end
end
end L2
namespace L2
open PySem PySem.Spec PyProof.Rows
noncomputable def LkE(K:PySem.W.Frag)(cls:Nat->Addr)(H:Hp)(E3:XN)(E:XK):Prop:=∀i M' H',TM K H H'->RelM K M' H'->E3 i M'->∀dx,XD K H' i dx->E (.ref (cls i.c)) dx H'
noncomputable def LkS(K:PySem.W.Frag)(cls:Nat->Addr)(H:Hp)(E3:St3->XN)(E2:St->XK):Prop:=∀σ3 σ i M' H',TM K H H'->DenS K H' σ3 σ->RelM K M' H'->E3 σ3 i M'->∀dx,XD K H' i dx->E2 σ (.ref (cls i.c)) dx H'
section
variable {K:PySem.W.Frag}
theorem LkE.mono(h:LkE K cls H E3 E)(t:TM K H H1):LkE K cls H1 E3 E:=fun i M' H' t' r q=>h i M' H' (t.trans t') r q
theorem LkS.mono(h:LkS K cls H E3 E2)(t:TM K H H1):LkS K cls H1 E3 E2:=fun σ3 σ i M' H' t' d r q=>h σ3 σ i M' H' (t.trans t') d r q
theorem LkS.at(h:LkS K cls H E3 E2)(ds:DenS K H σ3 σ):LkE K cls H (E3 σ3) (E2 σ):=fun i M' H' t r q=>h σ3 σ i M' H' t (ds.mono t) r q
theorem LkE.no:LkE K cls H (fun _ _=>False) E:=fun _ _ _ _ _ h=>h.elim
theorem Back.mono(h:Back K H Q Q2)(t:TM K H H1):Back K H1 Q Q2:=fun v H' d M' a b c e=>h v H' d M' a b (t.trans c) e
end
section
variable (K:PySem.W.Frag) (cls:Nat->Addr) (E2:St->XK)
noncomputable def low(t:St3->MH->VK3->XN->Prop):TE:=fun σ H Q2=>∃σ3 M Q E3,RelM K M H/\DenS K H σ3 σ/\LkE K cls H E3 (E2 σ)/\t σ3 M Q E3/\Back K H Q Q2
noncomputable def cB(t:St3->MH->(Bool->MH->Prop)->XN->Prop):TT:=fun σ H Q2=>∃σ3 M Q E3,RelM K M H/\DenS K H σ3 σ/\LkE K cls H E3 (E2 σ)/\t σ3 M Q E3/\∀b H' M',RelM K M' H'->TM K H H'->Q b M'->Q2 b H'
noncomputable def cZ(t:St3->MH->(List D->MH->Prop)->XN->Prop):TA:=fun σ H Q2=>∃σ3 M Q E3,RelM K M H/\DenS K H σ3 σ/\LkE K cls H E3 (E2 σ)/\t σ3 M Q E3/\∀vs H' ds M',DenL K H' ds vs->RelM K M' H'->TM K H H'->Q ds M'->Q2 vs H'
noncomputable def ph(t:St3->MH->(Option Int->MH->Prop)->XN->Prop):TO:=fun σ H Q2=>∃σ3 M Q E3,RelM K M H/\DenS K H σ3 σ/\LkE K cls H E3 (E2 σ)/\t σ3 M Q E3/\∀o H' M',RelM K M' H'->TM K H H'->Q o M'->Q2 o H'
noncomputable def oA(t:St3->MH->(List D->(MH->Prop)->MH->Prop)->XN->Prop):TI:=fun σ H R2=>∃σ3 M R E3,RelM K M H/\DenS K H σ3 σ/\LkE K cls H E3 (E2 σ)/\t σ3 M R E3/\∀J H' ds S M',ItOk K H' J ds S->RelM K M' H'->TM K H H'->R ds S M'->R2 J H'
noncomputable def bz(t:Ends3->(St3->XN)->St3->MH->Prop):TS:=fun D2 σ H=>∃σ3 M D3 E3,RelM K M H/\DenS K H σ3 σ/\LkS K cls H E3 E2/\t D3 E3 σ3 M/\ER K H D3 D2
noncomputable def oy(t:D->St3->MH->(St3->MH->Prop)->Prop):TG:=fun v σ H Q2=>∃d σ3 M Q,Den K H d v/\RelM K M H/\DenS K H σ3 σ/\t d σ3 M Q/\BackS K H Q Q2
end
section
variable {X:Cx}{st:Stmt}
theorem PE.imp(h:PE X e t)(f:∀σ H Q,t' σ H Q->t σ H Q):PE X e t':=fun pins s σ H Q I q=>h pins s σ H Q I (f σ H Q q)
theorem PT.imp(h:PT X e t)(f:∀σ H Q,t' σ H Q->t σ H Q):PT X e t':=fun pins s σ H Q I q=>h pins s σ H Q I (f σ H Q q)
theorem PW.imp(h:PW X e t)(f:∀σ H Q,t' σ H Q->t σ H Q):PW X e t':=fun whole pins s σ H Q I q=>h whole pins s σ H Q I (f σ H Q q)
theorem PA.imp(h:PA X es t)(f:∀σ H Q,t' σ H Q->t σ H Q):PA X es t':=fun pos pins s σ H Q I q=>h pos pins s σ H Q I (f σ H Q q)
theorem PO.imp(h:PO X o t)(f:∀σ H Q,t' σ H Q->t σ H Q):PO X o t':=fun pins s σ H Q I q=>h pins s σ H Q I (f σ H Q q)
theorem PI.imp(h:PI X tg e t)(f:∀σ H Q,t' σ H Q->t σ H Q):PI X tg e t':=fun pins s σ H Q I q=>h pins s σ H Q I (f σ H Q q)
theorem PS.imp(h:PS X st t)(f:∀D σ H,t' D σ H->t D σ H):PS X st t':=fun pins s σ H D I q=>h pins s σ H D I (f D σ H q)
theorem PSs.imp(h:PSs X sts t)(f:∀D σ H,t' D σ H->t D σ H):PSs X sts t':=fun pins s σ H D I q=>h pins s σ H D I (f D σ H q)
theorem PG.imp(h:PG X e t)(f:∀v σ H Q,t' v σ H Q->t v σ H Q):PG X e t':=fun pins s σ H v u Q I r q=>h pins s σ H v u Q I r (f v σ H Q q)
end
section
variable {X:Cx}{s:Shared}
theorem HOk.freeze(x:HOk P w H h)(e:H a=some (.lst xs)):∃o,HOk P w (upd H a (.frz o (.lst xs))) h:=by
 obtain⟨o,ho⟩:=(x a _ e).isAt;refine⟨o,fun b u q=>?_⟩
 have own:∀c y,H c=some (.own y)->(upd H a (.frz o (.lst xs))) c=some (.own y):=fun c y z=>by
  rw[ae (cY z e (fun w=>nomatch w))];exact z
 have tup:∀c ys,H c=some (.tup ys)->(upd H a (.frz o (.lst xs))) c=some (.tup ys):=fun c ys z=>by
  rw[ae (cY z e (fun w=>nomatch w))];exact z
 by_cases hb:b=a
 ·subst hb;rw[ah]at q;cases q;exact⟨ho,(x b _ e).stay (fun _ _ _ q=>q) (fun c z=>own c _ z) fun c ys z=>tup c ys z⟩
 ·rw[ae hb]at q;exact (x b u q).stay (fun _ _ _ q=>q) (fun c z=>own c _ z) fun c ys z=>tup c ys z
theorem Inv.freeze(I:Inv X pins σ H s)(e:H a=some (.lst xs)):∃o,Inv X pins σ (upd H a (.frz o (.lst xs))) s:=by
 obtain⟨o,ok⟩:=I.hok.freeze e;have ne:∀b,H b=none->b≠a:=fun b z=>fun q=>by rw[q,e]at z;cases z
 refine⟨o,⟨I.ok,I.os,I.bare,⟨I.base.keep,I.base.slot,fun b ob q n hx=>?_,I.base.there,fun b ys q=>?_,fun b ob u q=>?_,fun b ps q=>?_⟩,I.loc,I.cell,?_,fun x c z=>?_,fun p hp=>?_,ok,I.len⟩⟩
 ·have z:=I.base.free b ob q n hx;rw[ae (ne b z)];exact z
 ·have z:=I.base.tups b ys q;rw[ae (cY z e (fun w=>nomatch w))];exact z
 ·have z:=I.base.frzs b ob u q;rw[ae (cY z e (fun w=>nomatch w))];exact z
 ·obtain⟨more,z⟩:=I.base.tbls b ps q;exact⟨more,by rw[ae (cY z e (fun w=>nomatch w))];exact z⟩
 ·rw[ae (ne _ I.free)];exact I.free
 ·rw[ae (ne _ (I.freeC x c z))];exact I.freeC x c z
 ·obtain⟨p1,p2,p3⟩:=I.pin p hp;exact⟨p1,by rw[ae (ne _ p2)];exact p2,p3⟩
end
section
variable {K:PySem.W.Frag}{xs:List V}
theorem TM.freeze(e:H a=some (.lst xs)):TM K H (upd H a (.frz o (.lst xs))):=
 .put e (fun _=>fun z=>nomatch z) fun _ _=>fun z=>nomatch z
theorem RelM.freeze(r:RelM K M H)(e:H a=some (.lst xs)):RelM K (del M a) (upd H a (.frz o (.lst xs))):=fun b u q=>by
 obtain⟨ne,q⟩:=hG q;exact (r b u q).stay (.freeze e) (ae ne)
theorem e8(h:DenL K H ds xs)(e:H a=some (.lst xs)):Den K (upd H a (.frz o (.lst xs))) (.rol ds) (.ref a):=⟨a,xs,rfl,.inl ⟨o,ah⟩,h.mono (.freeze e)⟩
end
theorem cF{X:Cx}
  (I:Inv X pins σ (upd H p (.lst vs)) s) (hp:H p=none) (dl:DenL X.K H ds vs)(rm:RelM X.K M H)(tm:TM X.K H0 H)(h:cK fz ds M Q)(back:Back X.K H0 Q Q2):EP X pins σ Q2 (.ref p) s:=by
 obtain⟨_,h⟩:=h;cases fz with
 |true=>
  rw[if_pos rfl]at h;obtain⟨o,I2⟩:=I.freeze ah;refine⟨.ref p,_,I2,rfl,back _ _ _ _ (e8 (o:=o) (dl.mono (.new hp)) ah) ?_ (tm.trans ((TM.new hp).trans (.freeze ah))) h⟩;have r2:RelM X.K (put M p (.lst ds)) (upd H p (.lst vs)):=rm.lay hp ⟨vs,ah,dl.mono (.new hp)⟩;have r3:=r2.freeze (o:=o) (xs:=vs) ah;rw[d9 (rm.fresh hp)]at r3;exact r3
 |false=>
  rw[if_neg Bool.false_ne_true]at h;exact⟨.ref p,_,I,rfl,back _ _ _ _ fB (rm.lay (u:=.lst ds) hp ⟨vs,ah,dl.mono (.new hp)⟩) (tm.trans (.new hp)) (h p (rm.fresh hp))⟩
noncomputable def RdL(K:PySem.W.Frag)(H:Hp)(p:Addr)(vs:List V):Prop:=Rd H p (.lst vs)\/SqM K p vs
theorem RdL.sq{K:PySem.W.Frag}(h:RdL K H p vs):SqL K H p vs:=by
 rcases h with h|h
 ·exact .inl h
 ·exact h.sq
theorem SqF.rd{K:PySem.W.Frag}(h:SqF K H p vs):RdL K H p vs:=by
 rcases h with h|h
 ·exact .inl (.inr h)
 ·exact .inr h
theorem bh{K:PySem.W.Frag}(rm:RelM K M H)(h:aj M x=some ds)(dv:Den K H x v):∃p vs,v=.ref p/\RdL K H p vs/\DenL K H ds vs:=by
 cases x with
 |rol es=>
  cases (show es=ds from Option.some.inj h);obtain⟨p,vs,e,s,l⟩:=dv;exact⟨p,vs,e,s.rd,l⟩
 |ref a=>
  have h:(match M a with|some (.lst ds)=>some ds|_=>none)=some ds:=h
  split at h
  next es q=>
   cases h;obtain⟨vs,e,l⟩:=rm a _ q;exact⟨a,vs,dv,.inl (.inl e),l⟩
  next=>cases h
 |_=>cases h
theorem fR{K:PySem.W.Frag}(rm:RelM K M H)(h:aD M x=some ds)(dv:Den K H x v):∃p vs,v=.ref p/\(SqL K H p vs\/SqT K H p vs)/\DenL K H ds vs:=by
 cases x with
 |tup es=>
  cases (show es=ds from Option.some.inj h);obtain⟨p,vs,e,s,l⟩:=dv;exact⟨p,vs,e,.inr s,l⟩
 |rol es=>obtain⟨p,vs,e,s,l⟩:=bh rm (show aj M (.rol es)=some ds from h) dv;exact⟨p,vs,e,.inl s.sq,l⟩
 |ref a=>obtain⟨p,vs,e,s,l⟩:=bh rm (show aj M (.ref a)=some ds from h) dv;exact⟨p,vs,e,.inl s.sq,l⟩
 |_=>cases h
theorem Inv.rdL{X:Cx}{s:Shared}{xs:List V}(I:Inv X pins σ H s)(h:RdL X.K H l xs):xs.length<=sizeLine/\∃(its:List Value) (n:Nat),Vals xs its/\xs.length=its.length/\s.heap.get? l=some {cls:=.type "list",data:=.seq its.toArray n}:=by
 rcases h with h|⟨its,n,e,z,r⟩
 ·obtain⟨z,its,n,r,e⟩:=h.ok I.hok;exact⟨z,its,n,r,r.length,e⟩
 ·exact⟨by rw[r.length];exact z,its,n,r,r.length,I.kIn _ _ e⟩
noncomputable def qg:HO->Bool
 |.lst _=>true
 |.dK _=>true
 |.dT _=>true
 |.ins _ _ _=>true
 |.ext _=>true
 |_=>false
theorem kG(h:qg u=true):(∀y,HO.own y≠u)/\(∀xs,HO.tup xs≠u)/\(∀o v,HO.frz o v≠u)/\∀ps,HO.tbl ps≠u:=by
 cases u<;>first
  |(cases h;done)
  |exact⟨fun _ z=>(by cases z),fun _ z=>(by cases z),fun _ _ z=>(by cases z),fun _ z=>(by cases z)⟩
section
variable {X:Cx}
theorem HOk.frzU(x:HOk P w H h)(e:H a=some u)(hu:qg u=true):∃o,HOk P w (upd H a (.frz o u)) h:=by
 obtain⟨n1,n2,_,_⟩:=kG hu;obtain⟨o,ho⟩:=(x a _ e).isAt;refine⟨o,fun b v q=>?_⟩
 have own:∀c y,H c=some (.own y)->(upd H a (.frz o u)) c=some (.own y):=fun c y z=>by
  rw[ae (cY z e (n1 y))];exact z
 have tup:∀c ys,H c=some (.tup ys)->(upd H a (.frz o u)) c=some (.tup ys):=fun c ys z=>by
  rw[ae (cY z e (n2 ys))];exact z
 by_cases hb:b=a
 ·subst hb;rw[ah]at q;cases q;exact⟨ho,(x b _ e).stay (fun _ _ _ q=>q) (fun c z=>own c _ z) fun c ys z=>tup c ys z⟩
 ·rw[ae hb]at q;exact (x b v q).stay (fun _ _ _ q=>q) (fun c z=>own c _ z) fun c ys z=>tup c ys z
theorem Inv.frzU(I:Inv X pins σ H s)(e:H a=some u)(hu:qg u=true):∃o,Inv X pins σ (upd H a (.frz o u)) s:=by
 obtain⟨n1,n2,n3,n4⟩:=kG hu;obtain⟨o,ok⟩:=I.hok.frzU e hu;have ne:∀b,H b=none->b≠a:=fun b z=>fun q=>by rw[q,e]at z;cases z
 refine⟨o,⟨I.ok,I.os,I.bare,⟨I.base.keep,I.base.slot,fun b ob q n hx=>?_,I.base.there,fun b ys q=>?_,fun b ob u q=>?_,fun b ps q=>?_⟩,I.loc,I.cell,?_,fun x c z=>?_,fun p hp=>?_,ok,I.len⟩⟩
 ·have z:=I.base.free b ob q n hx;rw[ae (ne b z)];exact z
 ·have z:=I.base.tups b ys q;rw[ae (cY z e (n2 _))];exact z
 ·have z:=I.base.frzs b ob u q;rw[ae (cY z e (n3 _ _))];exact z
 ·obtain⟨more,z⟩:=I.base.tbls b ps q;exact⟨more,by rw[ae (cY z e (n4 _))];exact z⟩
 ·rw[ae (ne _ I.free)];exact I.free
 ·rw[ae (ne _ (I.freeC x c z))];exact I.freeC x c z
 ·obtain⟨p1,p2,p3⟩:=I.pin p hp;exact⟨p1,by rw[ae (ne _ p2)];exact p2,p3⟩
end
section
variable {K:PySem.W.Frag}
theorem TM.frzU(e:H a=some u)(hu:qg u=true):TM K H (upd H a (.frz o u)):=by
 obtain⟨_,n2,n3,_⟩:=kG hu;exact .put e (fun xs z=>n2 xs z.symm) fun ob v z=>n3 ob v z.symm
theorem RelM.frzU(r:RelM K M H)(e:H a=some u)(hu:qg u=true):RelM K (del M a) (upd H a (.frz o u)):=fun b v q=>by
 obtain⟨ne,q⟩:=hG q;exact (r b v q).stay (.frzU e hu) (ae ne)
end
noncomputable def fzD:DO->D
 |.lst ds=>.rol ds
 |.dk ks ds=>.dik ks ds
 |.dt ks ds=>.dit ks ds
 |.ins i C ns ds=>.obj i C ns ds
 |.exc _ _=>.non
 |.stl _=>.non
theorem dM{X:Cx}(I:Inv X pins σ H s)(rm:RelM X.K M H)(e:M a=some o)(ho:(∀i c,o≠.exc i c)/\∀φ,o≠.stl φ) :
  ∃H',Inv X pins σ H' s/\TM X.K H H'/\RelM X.K (del M a) H'/\Den X.K H' (fzD o) (.ref a):=by
 cases o with
 |lst ds=>
  obtain⟨vs,e1,dl⟩:=rm a _ e;obtain⟨ob,I2⟩:=I.frzU e1 rfl;exact⟨_,I2,.frzU e1 rfl,rm.frzU e1 rfl,a,vs,rfl,.inl ⟨ob,ah⟩,dl.mono (.frzU e1 rfl)⟩
 |dk ks ds=>
  obtain⟨vs,e1,hl,dl⟩:=rm a _ e;obtain⟨ob,I2⟩:=I.frzU e1 rfl;exact⟨_,I2,.frzU e1 rfl,rm.frzU e1 rfl,a,vs,ob,rfl,ah,hl,dl.mono (.frzU e1 rfl)⟩
 |dt ks ds=>
  obtain⟨vs,xs,e1,z,dl⟩:=rm a _ e;obtain⟨ob,I2⟩:=I.frzU e1 rfl;have t:TM X.K H (upd H a (.frz ob (.ext (cL a xs)))):=.frzU e1 rfl;exact⟨_,I2,t,rm.frzU e1 rfl,a,vs,ob,xs,rfl,ah,⟨z.kx,z.nd,z.sz,z.no,z.vx,fun x hx=>t.t _ _ (z.at_ x hx)⟩,dl.mono t⟩
 |ins i C ns ds=>
  obtain⟨dx,vs,e1,hl,dl⟩:=rm a _ e;obtain⟨ob,I2⟩:=I.frzU e1 rfl;exact⟨_,I2,.frzU e1 rfl,rm.frzU e1 rfl,a,vs,ob,dx,rfl,ah,hl,dl.mono (.frzU e1 rfl)⟩
 |exc i c=>exact absurd rfl (ho.1 i c)
 |stl φ=>exact absurd rfl (ho.2 φ)
theorem eP{X:Cx}:∀{ds:List D}{vs:List V}{H:Hp}{M:MH}{R:List D->MH->Prop},Inv X pins σ H s->RelM X.K M H->DenL X.K H ds vs->dE ds M R->
  ∃H' M' r,Inv X pins σ H' s/\TM X.K H H'/\RelM X.K M' H'/\DenL X.K H' r vs/\R r M'
 |[],vs,H,M,R,I,rm,dl,h=>⟨H,M,[],I,.refl _,rm,dl,h⟩
 |d::ds,_,H,M,R,I,rm,dl,h=>by
  obtain⟨v,r,rfl,dv,dl⟩:=dl;have keep:∀(d:D),Den X.K H d v->dE ds M (fun r M'=>R (d::r) M')->∃H' M' r',Inv X pins σ H' s/\TM X.K H H'/\RelM X.K M' H'/\DenL X.K H' r' (v::r)/\R r' M':=fun d dv h=>by
   obtain⟨H',M',r',I',t,rm',dl',q⟩:=eP I rm dl h;exact⟨H',M',d::r',I',t,rm',.cons (dv.mono t) dl',q⟩
  have fz:∀(a:Addr)(o:DO),v=.ref a->M a=some o->((∀i c,o≠.exc i c)/\∀φ,o≠.stl φ)->dE ds (del M a) (fun r M'=>R (fzD o::r) M')->∃H' M' r',Inv X pins σ H' s/\TM X.K H H'/\RelM X.K M' H'/\DenL X.K H' r' (v::r)/\R r' M':=fun a o e eM ne h=>by
   subst e;obtain⟨H1,I1,t1,rm1,d1⟩:=dM I rm eM ne;obtain⟨H',M',r',I',t,rm',dl',q⟩:=eP I1 rm1 (dl.mono t1) h;exact⟨H',M',_::r',I',t1.trans t,rm',.cons (d1.mono t) dl',q⟩
  cases d with
  |ref a=>
   simp only[dE]at h;have e:v=.ref a:=dv;split at h
   ·rename_i es q;exact fz a (.lst es) e q ⟨(fun _ _ z=>nomatch z),(fun _ z=>nomatch z)⟩ h
   ·rename_i ks es q;exact fz a (.dk ks es) e q ⟨(fun _ _ z=>nomatch z),(fun _ z=>nomatch z)⟩ h
   ·rename_i ks es q;exact fz a (.dt ks es) e q ⟨(fun _ _ z=>nomatch z),(fun _ z=>nomatch z)⟩ h
   ·exact keep _ dv h
  |_=>exact keep _ dv (by simpa only[dE] using h)
theorem kY{X:Cx}(I:Inv X pins σ H s)(rm:RelM X.K M H)(dx:Den X.K H x v)(h:bv Q x M) :
  ∃H' M' d,Inv X pins σ H' s/\TM X.K H H'/\RelM X.K M' H'/\Den X.K H' d v/\Q d M':=by
 unfold bv at h;split at h
 ·rename_i a;cases (show v=.ref a from dx);split at h
  ·rename_i es q;obtain⟨H1,I1,t1,rm1,d1⟩:=dM (o:=.lst es) I rm q ⟨(fun _ _ z=>nomatch z),(fun _ z=>nomatch z)⟩
   exact⟨H1,_,_,I1,t1,rm1,d1,h⟩
  ·rename_i ks es q;obtain⟨H1,I1,t1,rm1,d1⟩:=dM (o:=.dk ks es) I rm q ⟨(fun _ _ z=>nomatch z),(fun _ z=>nomatch z)⟩
   exact⟨H1,_,_,I1,t1,rm1,d1,h⟩
  ·rename_i ks es q;obtain⟨H1,I1,t1,rm1,d1⟩:=dM (o:=.dt ks es) I rm q ⟨(fun _ _ z=>nomatch z),(fun _ z=>nomatch z)⟩
   exact⟨H1,_,_,I1,t1,rm1,d1,h⟩
  ·rename_i i C ns es q;obtain⟨H1,I1,t1,rm1,d1⟩:=dM (o:=.ins i C ns es) I rm q ⟨(fun _ _ z=>nomatch z),(fun _ z=>nomatch z)⟩
   obtain⟨a',vs,ob,dx',e',he,hl,dl⟩:=d1;cases e';obtain⟨H2,M2,r,I2,t2,rm2,dl2,q2⟩:=eP I1 rm1 dl h;refine⟨H2,M2,.obj i C ns r,I2,t1.trans t2,rm2,?_,q2⟩;exact⟨a,vs,ob,dx',rfl,t2.g _ _ _ he,hl,dl2⟩
  ·exact h.elim
 ·exact h.elim
end L2
namespace L2
open PySem PySem.Spec PySem.Calls PyProof.Rows
noncomputable def sM(E:XK)(cp:Bool)(K:PySem.W.Frag)(C:Addr)(f:Str)(t:TA):TS:=fun _ σ H=>t σ H fun vs H1=>∃v,vs=[v]/\(cp=false->∀dx ob,H1 dx=none->E (.ref C) (some dx) (upd H1 dx (.frz ob (.xd [(f,v)]))))/\
 (cp=true->∃p ws,v=.ref p/\SqL K H1 p ws/\∀q o dx ob,H1 q=none->H1 dx=none->dx≠q->E (.ref C) (some dx) (upd (upd H1 q (.frz o (.lst ws))) dx (.frz ob (.xd [(f,.ref q)]))))
theorem SqL.new{K:PySem.W.Frag}(h:SqL K H p ws)(hn:H a=none):SqL K (upd H a o) p ws:=by
 rcases h with (h|⟨ob,h⟩)|h
 ·exact .inl (.inl (by rw[ae (aC h hn)];exact h))
 ·exact .inl (.inr ⟨ob,by rw[ae (aC h hn)];exact h⟩)
 ·exact .inr h
section
variable {X:Cx}{D:Addr}
theorem pp(hx:hV X E)(hc:X.calm=true)(hg:Gl X x)(hm:X.mg x=some (.ref C))(q:XIni X.K C fI f)(F:FnOk X.prog X.w X.K X.mg X.base (CX1 X.prog X.w) k fI fd ps (gD cp X.K C f))(hr:Room (k+1) X.A)(hb:Binds X.K fd ps [])(ha:PA X (e::es) t)
  (hdb:(x == ("__debug__" : Str))=false) (he:starEach (e::es) X.env=(false,eval e X.env)::starEach es X.env) (hpl:(backTo cpos (starEach es X.env)).any (·.1)=false) :
  PS X (.Raise (some (.Call (.Name x np) (e::es) [] cpos)) none pos) (sM E cp X.K C f t):=by
 intro pins s σ H D I h;refine oO (K:=X.K) (I.ok.hd hc) q.cl (wpAny_Call_Name_kw (bB I hg hm (PySem.W.callWith_K (h₀:=X.base) I.ok.mod.kin q.kp (thn (ha cpos pins s σ H _ I h) fun us s1 ⟨vs,H1,I1,r,v,ev,q0,q1⟩=>⟨I1.kIn,?_⟩) he hpl) hdb))
 subst ev;cases r with
 |@cons _ u _ us rv r=>
 cases r with
 |nil=>
 obtain⟨h1,g1,d1,t1,os1⟩:=s1;refine re I1.kIn q.cl q.ini q.fn (by rw[sizeLine_eq];simp) fun h' a hsz hm=>?_
 obtain⟨t0,go,_,_⟩:=hm.there;have I2:=I1.laid (a:=a) (o:=fK a C) (h':=h') (t':=t1) hm.keeps hsz (nB go);have hn:H1 a=none:=I1.hok.fresh hsz;have r2:Vals [V.ref a,v] [Value.ref a,u]:=.cons rfl (.cons rv .nil);have hsp:gD cp X.K C f [V.ref a,v] (upd H1 a (fK a C)) (fun r H'=>r=.non/\((cp=false/\∃dx ob,H1 dx=none/\dx≠a/\H'=upd (upd (upd H1 a (fK a C)) a (fH a C dx)) dx (.frz ob (.xd [(f,v)])))\/
   (cp=true/\∃ws q dx ob,H1 q=none/\q≠a/\H1 dx=none/\dx≠a/\dx≠q/\(∀o,E (.ref C) (some dx) (upd (upd H1 q (.frz o (.lst ws))) dx (.frz ob (.xd [(f,.ref q)]))))/\H'=upd (upd (upd (upd H1 a (fK a C)) q (.lst ws)) a (fH a C dx)) dx (.frz ob (.xd [(f,.ref q)]))))) (fun _ _ _=>False):=by
  refine⟨a,v,rfl,ah,fun z dx ob n ne=>⟨rfl,.inl ⟨z,dx,ob,by rw[ae ne]at n;exact n,ne,rfl⟩⟩,fun z=>?_⟩
  obtain⟨p,ws,ep,sq,qE⟩:=q1 z;refine⟨p,ws,ep,sq.new hn,fun q dx ob nq nd ne nn=>⟨rfl,.inr ⟨z,ws,q,dx,ob,?_⟩⟩⟩
  have hqa:q≠a:=fun w=>by rw[w,ah]at nq;cases nq
  rw[ae hqa]at nq;rw[ae ne]at nd;exact⟨nq,hqa,nd,ne,nn,fun o=>qE q o dx ob nq nd nn,rfl⟩
 have hl:([Value.ref a,u]++([]:List Value)).length=ps.length:=by
  rw[<-F.len _ _ _ _ hsp];rfl
 have hb':=hb _ [Value.ref a,u] I2.kIn hl;rw[List.append_nil]at hb';refine wpAny_call (codeAny_mono (F.run _ X.stack _ _ ⟨[Value.ref a,u],[]⟩ [Value.ref a,u] _ _ _ (hr.make C [u] []) (I2.env0.make C [u] []) hb' r2 hsp) fun r s' hq=>?_)
 match r,hq with
 |.error e,hq=>
  obtain⟨_,_,_,_,_,_,_,_,_,_,_,_,_,z⟩:=hq;exact z.elim
 |.ok (.ret u'),hq=>
  obtain⟨v',H',I3,rv',e1,hh⟩:=I2.after hq;subst e1;rcases hh with ⟨zc,dx,ob,n,ne,eH⟩|⟨zc,ws,q',dx,ob,nq,qa,n,ne,nn,qE,eH⟩
  ·subst eH;have ea:upd (upd (upd H1 a (fK a C)) a (fH a C dx)) dx (.frz ob (.xd [(f,v)])) a=some (fH a C dx):=by rw[ae (Ne.symm ne),ah]
   obtain⟨⟨t1,go1⟩,_,_⟩:=I3.hok a _ ea;have I4:=I3.forget ea;have eF:forget (upd (upd (upd H1 a (fK a C)) a (fH a C dx)) dx (.frz ob (.xd [(f,v)]))) a=upd H1 dx (.frz ob (.xd [(f,v)])):=by
    funext b;by_cases w:b=a
    ·rw[w,cO,ae (Ne.symm ne),hn]
    ·rw[c4 w];by_cases w2:b=dx
     ·rw[w2,ah,ah]
     ·rw[ae w2,ae w2,ae w,ae w]
   rw[eF]at I4;exact⟨rv',a,t1,dx,rfl,I3.kIn,go1,hx pins σ _ s' a _ _ _ I4 (by rw[ae (Ne.symm ne)];exact hn) (Heap.get?_none_of_le (Nat.le_trans I1.sz hsz)) go1 rfl rfl rfl (q0 zc dx ob n)⟩
  ·subst eH;have ea:upd (upd (upd (upd H1 a (fK a C)) q' (.lst ws)) a (fH a C dx)) dx (.frz ob (.xd [(f,.ref q')])) a=some (fH a C dx):=by rw[ae (Ne.symm ne),ah]
   obtain⟨⟨t1,go1⟩,_,_⟩:=I3.hok a _ ea;have I4:=I3.forget ea;have eF:forget (upd (upd (upd (upd H1 a (fK a C)) q' (.lst ws)) a (fH a C dx)) dx (.frz ob (.xd [(f,.ref q')]))) a=upd (upd H1 q' (.lst ws)) dx (.frz ob (.xd [(f,.ref q')])):=by
    funext b;by_cases w:b=a
    ·rw[w,cO,ae (Ne.symm ne),ae (Ne.symm qa),hn]
    ·rw[c4 w];by_cases w2:b=dx
     ·rw[w2,ah,ah]
     ·rw[ae w2,ae w2,ae w];by_cases w3:b=q'
      ·rw[w3,ah,ah]
      ·rw[ae w3,ae w3,ae w]
   rw[eF]at I4;obtain⟨o,I5⟩:=I4.freeze (a:=q') (xs:=ws) (by rw[ae (Ne.symm nn),ah])
   have eG:upd (upd (upd H1 q' (.lst ws)) dx (.frz ob (.xd [(f,.ref q')]))) q' (.frz o (.lst ws))=upd (upd H1 q' (.frz o (.lst ws))) dx (.frz ob (.xd [(f,.ref q')])):=by
    funext b;by_cases w:b=q'
    ·rw[w,ah,ae (Ne.symm nn),ah]
    ·rw[ae w];by_cases w2:b=dx
     ·rw[w2,ah,ah]
     ·rw[ae w2,ae w2,ae w,ae w]
   rw[eG]at I5;exact⟨rv',a,t1,dx,rfl,I3.kIn,go1,hx pins σ _ s' a _ _ _ I5 (by rw[ae (Ne.symm ne),ae (Ne.symm qa)];exact hn) (Heap.get?_none_of_le (Nat.le_trans I1.sz hsz)) go1 rfl rfl rfl (qE o)⟩
 |.ok .next,hq=>exact hq.elim
 |.ok .brk,hq=>exact hq.elim
 |.ok .cont,hq=>exact hq.elim
end
end L2
namespace L2
open PySem PySem.Spec PyProof.Rows
section
variable {X:Cx}
theorem iJ:∀{xs ys:List D},cJ xs ys=true->xs.length=ys.length
 |[],[],_=>rfl
 |[],_::_,h=>by simp[cJ]at h
 |_::_,[],h=>by simp[cJ]at h
 |x::xs,y::ys,h=>by
  simp only[cJ,Bool.and_eq_true]at h;rw[List.length_cons,List.length_cons,iJ h.2]
theorem eX:∀{xs ys:List D},xs.length=ys.length->cJ xs ys=(List.range xs.length).all fun j=>eqD (xs.getD j .non) (ys.getD j .non)
 |[],[],_=>by simp[cJ]
 |[],_::_,h=>by simp at h
 |_::_,[],h=>by simp at h
 |x::xs,y::ys,h=>by
  have ih:=eX (xs:=xs) (ys:=ys) (by simpa using h)
  simp only[cJ,List.length_cons,List.range_succ_eq_map,List.all_cons,List.all_map,ih];rfl
theorem pT{xs ys:List D}:cJ xs ys=((List.range (min xs.length ys.length)).all (fun j=>eqD (xs.getD j .non) (ys.getD j .non))&&(xs.length == ys.length)):=by
 by_cases h:xs.length=ys.length
 ·rw[eX h,h,Nat.min_self,beq_self_eq_true,Bool.and_true]
 ·have e1:(xs.length == ys.length)=false:=beq_eq_false_iff_ne.mpr h;rw[e1,Bool.and_false];cases q:cJ xs ys with
  |false=>rfl
  |true=>exact absurd (iJ q) h
theorem nI{K:PySem.W.Frag}(I:Inv X pins σ H s)(hK:K=X.K):∀(n:Nat) {x y:D}{v:V},plN n x=true->plN n y=true->Den K H x v->Den K H y v->x=y:=by
 subst hK;have lists:∀(n:Nat),(∀{x y:D}{v:V},plN n x=true->plN n y=true->Den X.K H x v->Den X.K H y v->x=y)->∀{xs ys:List D}{vs:List V},xs.all (plN n)=true->ys.all (plN n)=true->DenL X.K H xs vs->DenL X.K H ys vs->xs=ys:=by
  intro n ih xs
  induction xs with
  |nil=>
   intro ys vs _ _ h1 h2;cases (show vs=[] from h1);cases ys with
   |nil=>rfl
   |cons y ys=>obtain⟨_,_,e,_⟩:=h2;cases e
  |cons x xs iht=>
   intro ys vs p1 p2 h1 h2;obtain⟨v,r,rfl,d1,l1⟩:=h1;cases ys with
   |nil=>cases (show v::r=[] from h2)
   |cons y ys=>
    obtain⟨v',r',e,d2,l2⟩:=h2;cases e;simp only[List.all_cons,Bool.and_eq_true]at p1 p2;rw[ih p1.1 p2.1 d1 d2,iht p1.2 p2.2 l1 l2]
 have clash:∀{p:Addr}{vs ws:List V},SqT X.K H p vs->SqF X.K H p ws->False:=fun {p vs ws} h1 h2=>by
  obtain⟨its,_,t1,_⟩:=I.tuple h1;obtain⟨z,its2,n2,_,_,e2⟩:=I.rdL h2.rd;obtain⟨o,e1,c1,_⟩:=(show s.heap.IsTuple p its.toArray from t1);rw[e2]at e1;cases e1;injection c1 with z;exact absurd z (by decide)
 intro n
 induction n with
 |zero=>
  intro x y v p1 p2 d1 d2;cases x with
  |non=>
   cases (show v=.non from d1);cases y with
   |non=>rfl
   |bl b=>cases (show V.non=.bl b from d2)
   |int b=>cases (show V.non=.int b from d2)
   |str b=>cases (show V.non=.str b from d2)
   |tup es=>cases p2
   |rol es=>cases p2
   |ref a=>cases p2
   |obj _ _ _ _=>cases p2
   |dik _ _=>cases p2
   |dit _ _=>cases p2
  |bl a=>
   cases (show v=.bl a from d1);cases y with
   |non=>cases (show V.bl a=.non from d2)
   |bl b=>cases (show V.bl a=.bl b from d2);rfl
   |int b=>cases (show V.bl a=.int b from d2)
   |str b=>cases (show V.bl a=.str b from d2)
   |tup es=>cases p2
   |rol es=>cases p2
   |ref a=>cases p2
   |obj _ _ _ _=>cases p2
   |dik _ _=>cases p2
   |dit _ _=>cases p2
  |int a=>
   cases (show v=.int a from d1);cases y with
   |non=>cases (show V.int a=.non from d2)
   |bl b=>cases (show V.int a=.bl b from d2)
   |int b=>cases (show V.int a=.int b from d2);rfl
   |str b=>cases (show V.int a=.str b from d2)
   |tup es=>cases p2
   |rol es=>cases p2
   |ref a=>cases p2
   |obj _ _ _ _=>cases p2
   |dik _ _=>cases p2
   |dit _ _=>cases p2
  |str a=>
   cases (show v=.str a from d1);cases y with
   |non=>cases (show V.str a=.non from d2)
   |bl b=>cases (show V.str a=.bl b from d2)
   |int b=>cases (show V.str a=.int b from d2)
   |str b=>cases (show V.str a=.str b from d2);rfl
   |tup es=>cases p2
   |rol es=>cases p2
   |ref a=>cases p2
   |obj _ _ _ _=>cases p2
   |dik _ _=>cases p2
   |dit _ _=>cases p2
  |tup es=>cases p1
  |rol es=>cases p1
  |ref a=>cases p1
  |obj _ _ _ _=>cases p1
  |dik _ _=>cases p1
  |dit _ _=>cases p1
 |succ n ih=>
  intro x y v p1 p2 d1 d2;cases x with
  |non=>
   cases (show v=.non from d1);cases y with
   |non=>rfl
   |bl b=>cases (show V.non=.bl b from d2)
   |int b=>cases (show V.non=.int b from d2)
   |str b=>cases (show V.non=.str b from d2)
   |tup es=>obtain⟨p,vs,e,_⟩:=d2;cases e
   |rol es=>obtain⟨p,vs,e,_⟩:=d2;cases e
   |ref a=>cases p2
   |obj _ _ _ _=>cases p2
   |dik _ _=>cases p2
   |dit _ _=>cases p2
  |bl a=>
   cases (show v=.bl a from d1);cases y with
   |non=>cases (show V.bl a=.non from d2)
   |bl b=>cases (show V.bl a=.bl b from d2);rfl
   |int b=>cases (show V.bl a=.int b from d2)
   |str b=>cases (show V.bl a=.str b from d2)
   |tup es=>obtain⟨p,vs,e,_⟩:=d2;cases e
   |rol es=>obtain⟨p,vs,e,_⟩:=d2;cases e
   |ref a=>cases p2
   |obj _ _ _ _=>cases p2
   |dik _ _=>cases p2
   |dit _ _=>cases p2
  |int a=>
   cases (show v=.int a from d1);cases y with
   |non=>cases (show V.int a=.non from d2)
   |bl b=>cases (show V.int a=.bl b from d2)
   |int b=>cases (show V.int a=.int b from d2);rfl
   |str b=>cases (show V.int a=.str b from d2)
   |tup es=>obtain⟨p,vs,e,_⟩:=d2;cases e
   |rol es=>obtain⟨p,vs,e,_⟩:=d2;cases e
   |ref a=>cases p2
   |obj _ _ _ _=>cases p2
   |dik _ _=>cases p2
   |dit _ _=>cases p2
  |str a=>
   cases (show v=.str a from d1);cases y with
   |non=>cases (show V.str a=.non from d2)
   |bl b=>cases (show V.str a=.bl b from d2)
   |int b=>cases (show V.str a=.int b from d2)
   |str b=>cases (show V.str a=.str b from d2);rfl
   |tup es=>obtain⟨p,vs,e,_⟩:=d2;cases e
   |rol es=>obtain⟨p,vs,e,_⟩:=d2;cases e
   |ref a=>cases p2
   |obj _ _ _ _=>cases p2
   |dik _ _=>cases p2
   |dit _ _=>cases p2
  |tup ds=>
   obtain⟨p,vs,rfl,q1,l1⟩:=d1;cases y with
   |tup es=>
    obtain⟨p',vs',e,q2,l2⟩:=d2;cases e;have e:vs=vs':=by
     obtain⟨its,r1,t1,_⟩:=I.tuple q1;obtain⟨its2,r2,t2,_⟩:=I.tuple q2;obtain⟨o1,e1,c1,n1,f1⟩:=(show s.heap.IsTuple p its.toArray from t1);obtain⟨o2,e2,c2,n2,f2⟩:=(show s.heap.IsTuple p its2.toArray from t2);rw[e1]at e2;cases e2;rw[f1]at f2;have:its=its2:=by injection f2 with z;simpa using z
     subst this;exact r1.inj r2
    subst e;rw[lists n ih (by simpa [plN] using p1) (by simpa [plN] using p2) l1 l2]
   |rol es=>obtain⟨p',vs',e,q2,l2⟩:=d2;cases e;exact (clash q1 q2).elim
   |non=>cases (show V.ref p=.non from d2)
   |bl b=>cases (show V.ref p=.bl b from d2)
   |int b=>cases (show V.ref p=.int b from d2)
   |str b=>cases (show V.ref p=.str b from d2)
   |ref a=>cases p2
   |obj _ _ _ _=>cases p2
   |dik _ _=>cases p2
   |dit _ _=>cases p2
  |rol ds=>
   obtain⟨p,vs,rfl,q1,l1⟩:=d1;cases y with
   |rol es=>
    obtain⟨p',vs',e,q2,l2⟩:=d2;cases e;have e:vs=vs':=by
     obtain⟨_,its,n1,r1,_,e1⟩:=I.rdL q1.rd;obtain⟨_,its2,n2,r2,_,e2⟩:=I.rdL q2.rd;rw[e1]at e2;have:its=its2:=by
      have z:=Option.some.inj e2;injection z with z1 z2 z3 z4
      injection z3 with z5 z6
      simpa using z5
     subst this;exact r1.inj r2
    subst e;rw[lists n ih (by simpa [plN] using p1) (by simpa [plN] using p2) l1 l2]
   |tup es=>obtain⟨p',vs',e,q2,l2⟩:=d2;cases e;exact (clash q2 q1).elim
   |non=>cases (show V.ref p=.non from d2)
   |bl b=>cases (show V.ref p=.bl b from d2)
   |int b=>cases (show V.ref p=.int b from d2)
   |str b=>cases (show V.ref p=.str b from d2)
   |ref a=>cases p2
   |obj _ _ _ _=>cases p2
   |dik _ _=>cases p2
   |dit _ _=>cases p2
  |ref a=>cases p1
  |obj _ _ _ _=>cases p1
  |dik _ _=>cases p1
  |dit _ _=>cases p1
theorem iO:∀(n:Nat) {x:D},plN n x=true->eqD x x=true:=by
 have lists:∀(n:Nat),(∀{x:D},plN n x=true->eqD x x=true)->∀{xs:List D},xs.all (plN n)=true->cJ xs xs=true:=by
  intro n ih xs
  induction xs with
  |nil=>intro _;rfl
  |cons x xs iht=>
   intro h;simp only[List.all_cons,Bool.and_eq_true]at h;simp only[cJ,Bool.and_eq_true];exact⟨ih h.1,iht h.2⟩
 intro n
 induction n with
 |zero=>
  intro x h;cases x with
  |tup es=>cases h
  |rol es=>cases h
  |ref a=>cases h
  |obj _ _ _ _=>cases h
  |dik _ _=>cases h
  |dit _ _=>cases h
  |_=>simp[eqD]
 |succ n ih=>
  intro x h;cases x with
  |tup es=>simp only[eqD];exact lists n ih (by simpa [plN] using h)
  |rol es=>simp only[eqD];exact lists n ih (by simpa [plN] using h)
  |ref a=>cases h
  |obj _ _ _ _=>cases h
  |dik _ _=>cases h
  |dit _ _=>cases h
  |_=>simp[eqD]
theorem mh{K:PySem.W.Frag}(I:Inv X pins σ H s)(hK:K=X.K)(n:Nat)(p1:plN n x=true)(p2:plN n y=true)(d1:Den K H x v)(d2:Den K H y v):eqD x y=true:=by
 rw[nI I hK n p1 p2 d1 d2];exact iO n p2
theorem vA(a b:Bool):eqD (.bl a) (.bl b)=(a == b):=by simp[eqD]
theorem wx(a:Bool)(b:Int):eqD (.bl a) (.int b)=((if a then 1 else 0) == b):=by simp[eqD];rfl
theorem v7(a:Int)(b:Bool):eqD (.int a) (.bl b)=(a == (if b then 1 else 0)):=by simp[eqD];rfl
theorem vt(a b:Int):eqD (.int a) (.int b)=(a == b):=by simp[eqD];rfl
theorem yR(a b:Str):eqD (.str a) (.str b)=(a == b):=by simp[eqD];rfl
noncomputable abbrev Eq3(A:Around)(s:Shared)(v u:Value)(k:Bool):Prop:=SeqAt.RcAt A s v u k/\SeqAt.RcNeAt A s v u (!k)/\SeqAt.EqAt A s v u k
inductive Seen (s:Shared):D->Value->Prop where
 |non:Seen s .non .none
 |bl (b:Bool):Seen s (.bl b) (.bool b)
 |int (i:Int) (t:Tok):Seen s (.int i) (.int i t)
 |str (x:Str) (t:Tok):Seen s (.str x) (.str x t)
 |tup {ds:List D}{p:Addr}{its:List Value} (h:s.heap.IsTuple p its.toArray):Seen s (.tup ds) (.ref p)
 |rol {ds:List D}{p:Addr}{its:List Value} (h:s.heap.IsList p its.toArray):Seen s (.rol ds) (.ref p)
theorem hZ{X:Cx}(I:Inv X pins σ H s)(p:plN n x=true)(d:Den X.K H x v)(r:RelV v v2):Seen s x v2:=by
 cases x with
 |non=>cases (show v=.non from d);cases r;exact .non
 |bl b=>cases (show v=.bl b from d);cases r;exact .bl b
 |int i=>cases (show v=.int i from d);obtain⟨t,rfl⟩:=r;exact .int i t
 |str i=>cases (show v=.str i from d);obtain⟨t,rfl⟩:=r;exact .str i t
 |tup ds=>
  obtain⟨q,vs,rfl,sq,_⟩:=d;cases r;obtain⟨its,_,t,_⟩:=I.tuple sq;exact .tup (its:=its) t
 |rol ds=>
  obtain⟨q,vs,rfl,sq,_⟩:=d;cases r;obtain⟨its,_,t,_⟩:=I.list sq.sq;exact .rol (its:=its) t.isList
 |ref a=>simp[plN]at p
 |obj _ _ _ _=>simp[plN]at p
 |dik _ _=>simp[plN]at p
 |dit _ _=>simp[plN]at p
theorem qc{A:Around}(hx:Seen s x v)(hy:Seen s y u)(hu:A.units < cLine)(seq:∀ds es,(x=.tup ds/\y=.tup es)\/(x=.rol ds/\y=.rol es)->Eq3 A s v u (eqD x y)):Eq3 A s v u (eqD x y):=by
 cases hx with
 |non=>
  cases hy with
  |non=>exact⟨.none_none,.none_none,.same _⟩
  |bl b=>rw[show eqD (.non) (.bl b)=false by simp[eqD]];exact⟨.none_bool b,.none_bool b,.none_bool b⟩
  |int b tb=>rw[show eqD (.non) (.int b)=false by simp[eqD]];exact⟨.none_int b tb,.none_int b tb,.none_int b tb⟩
  |str b tb=>rw[show eqD (.non) (.str b)=false by simp[eqD]];exact⟨.none_str b tb,.none_str b tb,.none_str b tb⟩
  |@tup es p2 its2 h2=>rw[show eqD (.non) (.tup es)=false by simp[eqD]];exact⟨.none_tuple h2 hu,.none_tuple h2 hu,.none_tuple h2 hu⟩
  |@rol es p2 its2 h2=>rw[show eqD (.non) (.rol es)=false by simp[eqD]];exact⟨.none_list h2 hu,.none_list h2 hu,.none_list h2 hu⟩
 |bl a=>
  cases hy with
  |non=>rw[show eqD (.bl a) (.non)=false by simp[eqD]];exact⟨.bool_none a,.bool_none a,.bool_none a⟩
  |bl b=>rw[vA];exact⟨.bool_bool a b,.bool_bool a b,.bool_bool a b⟩
  |int b tb=>rw[wx];exact⟨.bool_int a b tb,.bool_int a b tb,.bool_int a b tb⟩
  |str b tb=>rw[show eqD (.bl a) (.str b)=false by simp[eqD]];exact⟨.bool_str a b tb,.bool_str a b tb,.bool_str a b tb⟩
  |@tup es p2 its2 h2=>rw[show eqD (.bl a) (.tup es)=false by simp[eqD]];exact⟨.bool_tuple a h2 hu,.bool_tuple a h2 hu,.bool_tuple a h2 hu⟩
  |@rol es p2 its2 h2=>rw[show eqD (.bl a) (.rol es)=false by simp[eqD]];exact⟨.bool_list a h2 hu,.bool_list a h2 hu,.bool_list a h2 hu⟩
 |int a ta=>
  cases hy with
  |non=>rw[show eqD (.int a) (.non)=false by simp[eqD]];exact⟨.int_none a ta,.int_none a ta,.int_none a ta⟩
  |bl b=>rw[v7];exact⟨.int_bool a ta b,.int_bool a ta b,.int_bool a ta b⟩
  |int b tb=>rw[vt];exact⟨.int_int a ta b tb,.int_int a ta b tb,.int_int a ta b tb⟩
  |str b tb=>rw[show eqD (.int a) (.str b)=false by simp[eqD]];exact⟨.int_str a ta b tb,.int_str a ta b tb,.int_str a ta b tb⟩
  |@tup es p2 its2 h2=>rw[show eqD (.int a) (.tup es)=false by simp[eqD]];exact⟨.int_tuple a ta h2 hu,.int_tuple a ta h2 hu,.int_tuple a ta h2 hu⟩
  |@rol es p2 its2 h2=>rw[show eqD (.int a) (.rol es)=false by simp[eqD]];exact⟨.int_list a ta h2 hu,.int_list a ta h2 hu,.int_list a ta h2 hu⟩
 |str a ta=>
  cases hy with
  |non=>rw[show eqD (.str a) (.non)=false by simp[eqD]];exact⟨.str_none a ta,.str_none a ta,.str_none a ta⟩
  |bl b=>rw[show eqD (.str a) (.bl b)=false by simp[eqD]];exact⟨.str_bool a ta b,.str_bool a ta b,.str_bool a ta b⟩
  |int b tb=>rw[show eqD (.str a) (.int b)=false by simp[eqD]];exact⟨.str_int a ta b tb,.str_int a ta b tb,.str_int a ta b tb⟩
  |str b tb=>rw[yR];exact⟨.str_str a ta b tb,.str_str a ta b tb,.str_str a ta b tb⟩
  |@tup es p2 its2 h2=>rw[show eqD (.str a) (.tup es)=false by simp[eqD]];exact⟨.str_tuple a ta h2 hu,.str_tuple a ta h2 hu,.str_tuple a ta h2 hu⟩
  |@rol es p2 its2 h2=>rw[show eqD (.str a) (.rol es)=false by simp[eqD]];exact⟨.str_list a ta h2 hu,.str_list a ta h2 hu,.str_list a ta h2 hu⟩
 |@tup ds p its h=>
  cases hy with
  |non=>rw[show eqD (.tup ds) (.non)=false by simp[eqD]];exact⟨.tuple_none h hu,.tuple_none h hu,.tuple_none h hu⟩
  |bl b=>rw[show eqD (.tup ds) (.bl b)=false by simp[eqD]];exact⟨.tuple_bool b h hu,.tuple_bool b h hu,.tuple_bool b h hu⟩
  |int b tb=>rw[show eqD (.tup ds) (.int b)=false by simp[eqD]];exact⟨.tuple_int b tb h hu,.tuple_int b tb h hu,.tuple_int b tb h hu⟩
  |str b tb=>rw[show eqD (.tup ds) (.str b)=false by simp[eqD]];exact⟨.tuple_str b tb h hu,.tuple_str b tb h hu,.tuple_str b tb h hu⟩
  |@tup es p2 its2 h2=>exact seq ds es (.inl ⟨rfl,rfl⟩)
  |@rol es p2 its2 h2=>rw[show eqD (.tup ds) (.rol es)=false by simp[eqD]];exact⟨.tuple_list h h2 hu,.tuple_list h h2 hu,.tuple_list h h2 hu⟩
 |@rol ds p its h=>
  cases hy with
  |non=>rw[show eqD (.rol ds) (.non)=false by simp[eqD]];exact⟨.list_none h hu,.list_none h hu,.list_none h hu⟩
  |bl b=>rw[show eqD (.rol ds) (.bl b)=false by simp[eqD]];exact⟨.list_bool b h hu,.list_bool b h hu,.list_bool b h hu⟩
  |int b tb=>rw[show eqD (.rol ds) (.int b)=false by simp[eqD]];exact⟨.list_int b tb h hu,.list_int b tb h hu,.list_int b tb h hu⟩
  |str b tb=>rw[show eqD (.rol ds) (.str b)=false by simp[eqD]];exact⟨.list_str b tb h hu,.list_str b tb h hu,.list_str b tb h hu⟩
  |@tup es p2 its2 h2=>rw[show eqD (.rol ds) (.tup es)=false by simp[eqD]];exact⟨.list_tuple h h2 hu,.list_tuple h h2 hu,.list_tuple h h2 hu⟩
  |@rol es p2 its2 h2=>exact seq ds es (.inr ⟨rfl,rfl⟩)
theorem Ce{K:PySem.W.Frag}(I:Inv X pins σ H s)(hK:K=X.K):∀(n:Nat) {A:Around}{x y:D}{v u:V}{v2 u2:Value},plN n x=true->plN n y=true->Den K H x v->Den K H y u->RelV v v2->RelV u u2->A.units+n < cLine->
  SeqAt.RcAt A s v2 u2 (eqD x y)/\SeqAt.RcNeAt A s v2 u2 (!eqD x y)/\SeqAt.EqAt A s v2 u2 (eqD x y):=by
 subst hK;have items:∀(n:Nat),(∀{A:Around}{x y:D}{v u:V}{v2 u2:Value},plN n x=true->plN n y=true->Den X.K H x v->Den X.K H y u->RelV v v2->RelV u u2->A.units+n < cLine->
   SeqAt.RcAt A s v2 u2 (eqD x y)/\SeqAt.RcNeAt A s v2 u2 (!eqD x y)/\SeqAt.EqAt A s v2 u2 (eqD x y))->∀{A:Around}{xs ys:List D}{vs us:List V}{its its2:List Value},xs.all (plN n)=true->ys.all (plN n)=true->DenL X.K H xs vs->DenL X.K H ys us->Vals vs its->Vals us its2->A.units+(n+1) < cLine->
   ∀j (h1:j < its.toArray.size)(h2:j < its2.toArray.size),SeqAt.EqAt A.in1 s its.toArray[j] its2.toArray[j] (eqD (xs.getD j .non) (ys.getD j .non)):=by
  intro n ih A xs ys vs us its its2 p1 p2 l1 l2 r1 r2 hu j h1 h2;have h1:j < its.length:=by simpa using h1
  have h2:j < its2.length:=by simpa using h2
  have hx:j < xs.length:=by rw[l1.length,r1.length];exact h1
  have hy:j < ys.length:=by rw[l2.length,r2.length];exact h2
  obtain⟨v,e1,d1⟩:=l1.get (i:=j) (d:=xs[j]) (by simp[hx])
  obtain⟨u,e2,d2⟩:=l2.get (i:=j) (d:=ys[j]) (by simp[hy])
  obtain⟨v2,e3,rv⟩:=r1.get e1;obtain⟨u2,e4,ru⟩:=r2.get e2;have f1:its.toArray[j]=v2:=by
   have:=e3;rw[List.getElem?_eq_getElem h1]at this;simpa using this
  have f2:its2.toArray[j]=u2:=by
   have:=e4;rw[List.getElem?_eq_getElem h2]at this;simpa using this
  rw[f1,f2];have g1:xs.getD j .non=xs[j]:=by simp[List.getD,hx]
  have g2:ys.getD j .non=ys[j]:=by simp[List.getD,hy]
  rw[g1,g2];exact (ih (List.all_eq_true.mp p1 _ (List.getElem_mem hx)) (List.all_eq_true.mp p2 _ (List.getElem_mem hy)) d1 d2 rv ru (by show A.units+1+n < cLine;omega)).2.2
 intro n
 induction n with
 |zero=>
  intro A x y v u v2 u2 p1 p2 d1 d2 r1 r2 hu;refine qc (hZ I p1 d1 r1) (hZ I p2 d2 r2) (by omega) fun ds es z=>?_
  rcases z with ⟨rfl,rfl⟩|⟨rfl,rfl⟩<;>cases p1
 |succ n ih=>
  intro A x y v u v2 u2 p1 p2 d1 d2 r1 r2 hu;refine qc (hZ I p1 d1 r1) (hZ I p2 d2 r2) (by omega) fun ds es z=>?_
  rcases z with ⟨rfl,rfl⟩|⟨rfl,rfl⟩
  ·obtain⟨p,vs,rfl,q1,l1⟩:=id d1;obtain⟨p',us,rfl,q2,l2⟩:=id d2;cases r1;cases r2;obtain⟨its,v1,t1,_⟩:=I.tuple q1;obtain⟨its2,v2,t2,_⟩:=I.tuple q2;have he:=items n ih (A:=A) (by simpa [plN] using p1) (by simpa [plN] using p2) l1 l2 v1 v2 hu
   have ee:eqD (.tup ds) (.tup es)=((List.range (min its.toArray.size its2.toArray.size)).all (fun j=>eqD (ds.getD j .non) (es.getD j .non))&&its.toArray.size == its2.toArray.size):=by
    simp only[eqD];rw[pT,l1.length,v1.length,l2.length,v2.length];rfl
   have rc:=SeqAt.RcAt.tuples (A:=A) t1 t2 (by omega) he
   rw[<-ee]at rc;have rn:=SeqAt.RcNeAt.tuples (A:=A) t1 t2 (by omega) he
   rw[<-ee]at rn;refine⟨rc,rn,?_⟩;by_cases hp:p=p'
   ·subst hp;rw[mh I rfl (n+1) p1 p2 d1 d2];exact .same _
   ·exact .of_refs hp rc
  ·obtain⟨p,vs,rfl,q1,l1⟩:=id d1;obtain⟨p',us,rfl,q2,l2⟩:=id d2;cases r1;cases r2;obtain⟨its,v1,t1,_⟩:=I.list q1.sq;obtain⟨its2,v2,t2,_⟩:=I.list q2.sq;have he:=items n ih (A:=A) (by simpa [plN] using p1) (by simpa [plN] using p2) l1 l2 v1 v2 hu
   have rcn:SeqAt.RcAt A s (.ref p) (.ref p') (eqD (.rol ds) (.rol es))/\SeqAt.RcNeAt A s (.ref p) (.ref p') (!eqD (.rol ds) (.rol es)):=by
    by_cases hl:its.toArray.size=its2.toArray.size
    ·have ee:eqD (.rol ds) (.rol es)=(List.range its.toArray.size).all fun j=>eqD (ds.getD j .non) (es.getD j .non):=by
      have e1:ds.length=es.length:=by rw[l1.length,v1.length,l2.length,v2.length];simpa using hl
      simp only[eqD];rw[eX e1,l1.length,v1.length];rfl
     rw[ee];exact⟨.lists t1.isList t2.isList hl (by omega) he,.lists t1.isList t2.isList hl (by omega) he⟩
    ·have ee:eqD (.rol ds) (.rol es)=false:=by
      simp only[eqD];cases q:cJ ds es with
      |false=>rfl
      |true=>
       have:=iJ q;rw[l1.length,v1.length,l2.length,v2.length]at this;exact absurd (by simpa using this) hl
     rw[ee];exact⟨.lists_lengths t1.isList t2.isList (by simpa using hl) (by omega),.lists_lengths t1.isList t2.isList (by simpa using hl) (by omega)⟩
   refine⟨rcn.1,rcn.2,?_⟩;by_cases hp:p=p'
   ·subst hp;rw[mh I rfl (n+1) p1 p2 d1 d2];exact .same _
   ·exact .of_refs hp rcn.1
end
end L2
namespace L2
open PySem PySem.Spec PyProof.Rows
noncomputable def VO(X:Cx)(f:Value->Value->Sem Value)(r:D->D->MH->VK3->Prop):Prop:=
 ∀(pins:List (Addr×Obj)) (s:Shared)(σ:St)(H:Hp)(x y:D)(v u:V)(v2 u2:Value)(M:MH)(Q:VK3)(Q2:VK),Inv X pins σ H s->RelV v v2->RelV u u2->Den X.K H x v->Den X.K H y u->RelM X.K M H->r x y M Q->Back X.K H Q Q2->
  wpAny (model X.prog X.w) X.A (f v2 u2) (EP X pins σ Q2) X.xe s
noncomputable def VU(X:Cx)(f:Value->Sem Value)(r:D->MH->VK3->Prop):Prop:=
 ∀(pins:List (Addr×Obj)) (s:Shared)(σ:St)(H:Hp)(x:D)(v:V)(v2:Value)(M:MH)(Q:VK3)(Q2:VK),Inv X pins σ H s->RelV v v2->Den X.K H x v->RelM X.K M H->r x M Q->Back X.K H Q Q2->
  wpAny (model X.prog X.w) X.A (f v2) (EP X pins σ Q2) X.xe s
noncomputable def VC(X:Cx)(f:Value)(r:List D->MH->VK3->Prop):Prop:=
 ∀(pins:List (Addr×Obj)) (s:Shared)(σ:St)(H:Hp)(xs:List D)(vs:List V)(us:List Value)(M:MH)(Q:VK3)(Q2:VK),Inv X pins σ H s->Vals vs us->DenL X.K H xs vs->RelM X.K M H->r xs M Q->Back X.K H Q Q2->
  wpAny (model X.prog X.w) X.A (call f us) (EP X pins σ Q2) X.xe s
section
variable {X:Cx}
theorem VO.of3(h:Op3 X f r):VO X f r:=by
 obtain⟨r2,h2,hl⟩:=h;exact fun pins s σ H x y v u v2 u2 M Q Q2 I rv ru dx dy rm q back=>h2 pins s σ H v u v2 u2 Q2 I rv ru (hl H x y v u M Q Q2 dx dy rm q back)
theorem VU.of3(h:Un3 X f r):VU X f r:=by
 obtain⟨r2,h2,hl⟩:=h;exact fun pins s σ H x v v2 M Q Q2 I rv dx rm q back=>h2 pins s σ H v v2 Q2 I rv (hl H x v M Q Q2 dx rm q back)
theorem VC.of3(h:u4 X f r):VC X f r:=by
 obtain⟨r2,h2,hl⟩:=h;exact fun pins s σ H xs vs us M Q Q2 I rv dx rm q back=>h2 pins s σ H vs us Q2 I rv (hl H xs vs M Q Q2 dx rm q back)
theorem VO.imp(h:VO X f r)(g:∀x y M Q,r' x y M Q->r x y M Q):VO X f r':=
 fun pins s σ H x y v u v2 u2 M Q Q2 I rv ru dx dy rm q back=>h pins s σ H x y v u v2 u2 M Q Q2 I rv ru dx dy rm (g x y M Q q) back
theorem VU.imp(h:VU X f r)(g:∀x M Q,r' x M Q->r x M Q):VU X f r':=
 fun pins s σ H x v v2 M Q Q2 I rv dx rm q back=>h pins s σ H x v v2 M Q Q2 I rv dx rm (g x M Q q) back
theorem VC.imp(h:VC X f r)(g:∀x M Q,r' x M Q->r x M Q):VC X f r':=
 fun pins s σ H x v v2 M Q Q2 I rv dx rm q back=>h pins s σ H x v v2 M Q Q2 I rv dx rm (g x M Q q) back
theorem gh(h:rI2 g x y M Q):kL g x y M Q:=by
 unfold rI2 at h;split at h
 ·exact⟨_,_,rfl,rfl,h⟩
 ·exact h.elim
theorem lb(h:rII C g x y M Q):rI3 C g x y M Q:=by
 unfold rII at h;split at h
 ·exact⟨_,_,rfl,rfl,h⟩
 ·exact h.elim
theorem sF{s:Shared}{ws:List Value}(ht:IsTup s.heap t #[])(hb:IsTup s.heap b ws.toArray)(h:Q (.ref b) s):wpAny (model prog w) A (binaryOp .Add (.ref t) (.ref b)) Q E s:=by
 obtain⟨⟨cls,dd,data,sl⟩,ho,hc,n,hd⟩:=id ht;obtain⟨⟨cls2,dd2,data2,sl2⟩,ho2,hc2,n2,hd2⟩:=id hb;simp only at hc hd hc2 hd2;subst hc hd hc2 hd2;exact concat_meets ⟨_,ho,rfl⟩ ⟨_,ho2,rfl⟩ noFill_tuple_add seq_tuple_add PySem.F.slot_tuple_add PySem.F.entry_tuple_add (PySem.F.args_tuple_add_2 _ _) (tuple_addW0 t b #[] ws.toArray n n2 dd dd2 sl sl2 rfl) ⟨ho,ho2,h⟩
theorem nF{a b:List D}(I:Inv X pins σ H s)(rv:RelV v v2)(ru:RelV u u2)(dx:Den X.K H (.tup a) v)(dy:Den X.K H (.tup b) u)(rm:RelM X.K M H)
  (q:a.length+b.length<=sizeLine/\Q (.tup (a++b)) M) (back:Back X.K H Q Q2):wpAny (model X.prog X.w) X.A (binaryOp .Add v2 u2) (EP X pins σ Q2) X.xe s:=by
 obtain⟨p1,vs,rfl,sq1,dl1⟩:=dx;obtain⟨p2,us,rfl,sq2,dl2⟩:=dy;obtain⟨h2,q⟩:=q;by_cases h1:a=[]
 ·subst h1;cases (show vs=[] from dl1);cases rv;cases ru;obtain⟨its,r1,p1',_⟩:=I.tuple sq1;obtain⟨its2,r2,p2',_⟩:=I.tuple sq2;cases r1;exact sF p1' p2' ⟨.ref p2,H,I,rfl,back _ _ (.tup b) _ ⟨p2,us,rfl,sq2,dl2⟩ rm (.refl _) q⟩
 refine uK pins s σ H _ _ v2 u2 Q2 I rv ru ⟨p1,p2,vs,us,rfl,rfl,sq1,sq2,fun z=>?_,by rw[<-dl1.length,<-dl2.length];exact h2,fun z=>?_,fun _ p hp=>?_⟩
 ·have:=dl1.length;rw[z]at this;cases a with
  |nil=>exact h1 rfl
  |cons _ _=>cases this
 ·have hb:b=[]:=List.length_eq_zero_iff.mp (by rw[dl2.length,z];rfl)
  subst hb;rw[List.append_nil]at q;exact back _ _ (.tup a) _ ⟨p1,vs,rfl,sq1,dl1⟩ rm (.refl _) q
 ·exact back _ _ (.tup (a++b)) _ ⟨p,_,rfl,.of ah,(dl1.append dl2).mono (.new hp)⟩ (rm.grow hp) (.new hp) q
theorem lB(a:Array α):∀(k:Nat)(b:Array α),((List.replicate k a).foldl (·++·) b).size=b.size+k * a.size
 |0,b=>by simp
 |k+1,b=>by
  rw[List.replicate_succ,List.foldl_cons,lB a k,Array.size_append,Nat.succ_mul];omega
theorem qQ{z:Str}(n0:0<=n)(n1:n<=100000)(hz:z.length<=10)
  (h:∀t' tk,Q (.str (kD z n) t') {s with toks:=tk}):wpAny (model prog w) A (binaryOp .Mult (.str z t) (.int n u)) Q E s:=by
 have e1:decide (n < -(2 ^ 63:Int))=false:=decide_eq_false (by omega)
 have e2:decide (n>=2 ^ 63)=false:=decide_eq_false (by omega)
 refine PySem.P.mul_str (by rw[e1,e2];rfl) (fun h1 h2=>?_) (fun h1 h2=>?_) ?_
 ·have:(2 ^ 63 - 1) / n>=10:=by
   rw[ge_iff_le,Int.le_ediv_iff_mul_le (by omega)]
   omega
  omega
 ·have hl:z.length * n.toNat<=10 * 100000:=Nat.mul_le_mul hz (by omega)
  unfold Builtin.Str.tooLong;exact decide_eq_false (by rw[sizeLine_eq];omega)
 ·unfold kD at h;split
  ·rename_i hn;rw[if_pos hn]at h;exact⟨by decide,h _ _⟩
  ·rename_i hn;rw[if_neg hn]at h;split
   ·rename_i hb;rw[if_pos hb]at h;exact h _ _
   ·rename_i hb;rw[if_neg hb]at h;refine⟨?_,h _ _⟩;show ((List.replicate n.toNat z.cps).foldl (·++·) #[]).size<=sizeLine;rw[lB];have hl:n.toNat * z.cps.size<=100000 * 10:=Nat.mul_le_mul (by omega) hz
    rw[sizeLine_eq];simp;omega
theorem zr(op:Operator):VO X (binaryOp op) (jz op):=by
 cases op with
 |Add=>
  intro pins s σ H x y v u v2 u2 M Q Q2 I rv ru dx dy rm q back;have q':sg x y M Q:=q;clear q;unfold sg at q';split at q'
  ·exact VO.of3 A1 pins s σ H _ _ v u v2 u2 M Q Q2 I rv ru dx dy rm ⟨_,_,rfl,rfl,q'⟩ back
  ·rename_i a b;cases (show v=.str a from dx);cases (show u=.str b from dy);exact ny pins s σ H _ _ v2 u2 Q2 I rv ru ⟨a,b,rfl,rfl,q'.1,back _ _ _ _ g9 rm (.refl _) q'.2⟩
  ·exact nF I rv ru dx dy rm q' back
  ·exact q'.elim
 |Sub=>exact (VO.of3 Dy).imp fun _ _ _ _ h=>gh h
 |Mult=>
  intro pins s σ H x y v u v2 u2 M Q Q2 I rv ru dx dy rm q back;have q':so x y M Q:=q;clear q;unfold so at q';split at q'
  ·exact VO.of3 C1 pins s σ H _ _ v u v2 u2 M Q Q2 I rv ru dx dy rm ⟨_,_,rfl,rfl,q'⟩ back
  ·rename_i z n;cases (show v=.str z from dx);cases (show u=.int n from dy);obtain⟨t,rfl⟩:=rv;obtain⟨t',rfl⟩:=ru;obtain⟨⟨n0,n1,hz⟩,q'⟩:=q';exact qQ n0 n1 hz fun t2 tk=>⟨.str (kD z n),H,I.tok _,⟨_,rfl⟩,back _ _ _ _ g9 rm (.refl _) q'⟩
  ·exact q'.elim
 |FloorDiv=>exact (VO.of3 Ag).imp fun _ _ _ _ h=>lb h
 |Mod=>exact (VO.of3 DB).imp fun _ _ _ _ h=>lb h
 |Pow=>exact (VO.of3 Bv).imp fun _ _ _ _ h=>lb h
 |RShift=>exact (VO.of3 Co).imp fun _ _ _ _ h=>lb h
 |BitAnd=>exact (VO.of3 DK).imp fun _ _ _ _ h=>gh h
 |_=>exact fun pins s σ H x y v u v2 u2 M Q Q2 I rv ru dx dy rm q back=>False.elim q
theorem AN:VU X (unaryOp .USub) rNeg:=(VU.of3 Ct).imp fun x M Q h=>by
 unfold rNeg at h;split at h
 ·exact⟨_,rfl,h⟩
 ·exact h.elim
theorem xK(fz:Bool):VO X (binaryOp .Add) (fF fz):=by
 intro pins s σ H x y v u v2 u2 M Q Q2 I rv ru dx dy rm q back;unfold fF at q;split at q
 next a b ea eb=>
  obtain⟨l,xs,rfl,hH,dl⟩:=bh rm ea dx;obtain⟨b',zs,rfl,hB,dl2⟩:=bh rm eb dy;cases rv;cases ru;obtain⟨z,its,n,r,hl,e⟩:=I.rdL hH;obtain⟨z2,its2,n2,r2,hl2,e2⟩:=I.rdL hB;have hlen:xs.length+zs.length<=sizeLine:=by
   have:=q.1;rw[List.length_append,dl.length,dl2.length]at this;exact this
  refine PySem.P.add_list e e2 ?_ (by rw[List.size_toArray,List.size_toArray];omega)
  have ea:its.toArray++its2.toArray=(its++its2).toArray:=by simp
  rw[ea];exact cF (I.lnew (t':=s.toks) (r.append r2) (by rw[List.length_append];omega)) I.fresh (dl.append dl2) rm (.refl _) q back
 next=>
  split at q
  ·exact nF I rv ru dx dy rm q back
  ·exact q.elim
theorem sZ{K:PySem.W.Frag}(rm:RelM K M H)(dx:Den K H x v)(hp:pl (res M x)=true) :
  (∃a ds,x=.ref a/\M a=some (.lst ds)/\res M x=.rol ds)\/(res M x=x):=by
 cases x with
 |ref a=>
  cases e:M a with
  |none=>
   have:res M (.ref a)=.ref a:=by simp[res,aj,e]
   rw[this]at hp;simp[plN]at hp
  |some o=>
   cases o with
   |lst ds=>exact .inl ⟨a,ds,rfl,e,by simp[res,aj,e]⟩
   |_=>
    have:res M (.ref a)=.ref a:=by simp[res,aj,e]
    rw[this]at hp;simp[plN]at hp
 |rol ds=>exact .inr rfl
 |_=>exact .inr rfl
theorem qR(I:Inv X pins σ H s)(rm:RelM X.K M H)(dx:Den X.K H x v)(hp:pl (res M x)=true) :
  ∃H',Inv X pins σ H' s/\TM X.K H H'/\Den X.K H' (res M x) v:=by
 rcases sZ rm dx hp with ⟨a,ds,rfl,q,e⟩|e
 ·obtain⟨vs,e1,l⟩:=rm a _ q;obtain⟨o,I2⟩:=I.freeze e1;refine⟨_,I2,.freeze e1,?_⟩;rw[e];cases (show v=.ref a from dx);exact e8 l e1
 ·rw[e];exact⟨H,I,.refl _,dx⟩
theorem TM.rd{K:PySem.W.Frag}(t:TM K H H')(h:Den K H d v):Den K H' d v:=h.mono t
noncomputable def kU(K:PySem.W.Frag)(M:MH)(H:Hp):Prop:=∀a ds,M a=some (.lst ds)->∃vs,(H a=some (.lst vs)\/∃o,H a=some (.frz o (.lst vs)))/\DenL K H ds vs
theorem RelM.z{K:PySem.W.Frag}(rm:RelM K M H):kU K M H:=fun a ds q=>by
 obtain⟨vs,e,l⟩:=rm a _ q;exact⟨vs,.inl e,l⟩
theorem Ck(I:Inv X pins σ H s)(rz:kU X.K M H)(q:M a=some (.lst ds)) :
  ∃H',Inv X pins σ H' s/\TM X.K H H'/\kU X.K M H'/\∃vs,SqF X.K H' a vs/\DenL X.K H' ds vs/\DenL X.K H ds vs:=by
 obtain⟨vs,e|⟨o,e⟩,l⟩:=rz a ds q
 ·obtain⟨o,I2⟩:=I.freeze e;have t:TM X.K H (upd H a (.frz o (.lst vs))):=.freeze e;refine⟨_,I2,t,fun b es qb=>?_,vs,.inl ⟨o,ah⟩,l.mono t,l⟩
  obtain⟨us,e2,l2⟩:=rz b es qb;by_cases hb:b=a
  ·subst hb;rw[q]at qb;cases qb;exact⟨vs,.inr ⟨o,ah⟩,l.mono t⟩
  ·refine⟨us,?_,l2.mono t⟩;rw[ae hb];exact e2
 ·exact⟨H,I,.refl _,rz,vs,.inl ⟨o,e⟩,l,l⟩
theorem BD(I:Inv X pins σ H s)(rz:kU X.K M H)(dx:Den X.K H x v) :
  ∃H',Inv X pins σ H' s/\TM X.K H H'/\kU X.K M H'/\Den X.K H' (res M x) v:=by
 cases x with
 |ref a=>
  cases e:M a with
  |none=>
   have:res M (.ref a)=.ref a:=by simp[res,aj,e]
   rw[this];exact⟨H,I,.refl _,rz,dx⟩
  |some o=>
   cases o with
   |lst ds=>
    obtain⟨H',I2,t,rz2,vs,sq,l,_⟩:=Ck I rz e;have:res M (.ref a)=.rol ds:=by simp[res,aj,e]
    rw[this];exact⟨H',I2,t,rz2,a,vs,dx,sq,l⟩
   |_=>
    have:res M (.ref a)=.ref a:=by simp[res,aj,e]
    rw[this];exact⟨H,I,.refl _,rz,dx⟩
 |rol ds=>exact⟨H,I,.refl _,rz,dx⟩
 |_=>exact⟨H,I,.refl _,rz,dx⟩
theorem r8:∀{ds:List D}{vs:List V}{H:Hp},Inv X pins σ H s->kU X.K M H->DenL X.K H ds vs->
  ∃H',Inv X pins σ H' s/\TM X.K H H'/\kU X.K M H'/\DenL X.K H' (ds.map (res M)) vs
 |[],vs,H,I,rz,dl=>⟨H,I,.refl _,rz,dl⟩
 |d::ds,vs,H,I,rz,dl=>by
  obtain⟨v,r,rfl,dv,dr⟩:=dl;obtain⟨H1,I1,t1,rz1,d1⟩:=BD I rz dv;obtain⟨H2,I2,t2,rz2,d2⟩:=r8 I1 rz1 (dr.mono t1);exact⟨H2,I2,t1.trans t2,rz2,v,r,rfl,d1.mono t2,d2⟩
theorem uY(I:Inv X pins σ H s)(rz:kU X.K M H)(dx:Den X.K H x v) :
  ∃H',Inv X pins σ H' s/\TM X.K H H'/\kU X.K M H'/\Den X.K H' (rs M x) v:=by
 cases x with
 |ref a=>
  cases e:M a with
  |none=>
   have:rs M (.ref a)=.ref a:=by simp[rs,aj,e]
   rw[this];exact⟨H,I,.refl _,rz,dx⟩
  |some o=>
   cases o with
   |lst ds=>
    have:rs M (.ref a)=.rol (if pls ds=true then ds else ds.map (res M)):=by simp[rs,aj,e]
    rw[this];obtain⟨H',I2,t,rz2,vs,sq,l,_⟩:=Ck I rz e;split
    ·exact⟨H',I2,t,rz2,a,vs,dx,sq,l⟩
    ·obtain⟨H3,I3,t3,rz3,l3⟩:=r8 I2 rz2 l;exact⟨H3,I3,t.trans t3,rz3,a,vs,dx,t3.f _ _ sq,l3⟩
   |_=>
    have:rs M (.ref a)=.ref a:=by simp[rs,aj,e]
    rw[this];exact⟨H,I,.refl _,rz,dx⟩
 |rol ds=>
  have:rs M (.rol ds)=.rol (if pls ds=true then ds else ds.map (res M)):=by simp[rs,aj]
  rw[this];split
  ·exact⟨H,I,.refl _,rz,dx⟩
  ·obtain⟨p,vs,e,sq,l⟩:=dx;obtain⟨H3,I3,t3,rz3,l3⟩:=r8 I rz l;exact⟨H3,I3,t3,rz3,p,vs,e,t3.f _ _ sq,l3⟩
 |_=>exact⟨H,I,.refl _,rz,dx⟩
theorem B9(I:Inv X pins σ H s)(rm:RelM X.K M H)(dx:Den X.K H x v)(dy:Den X.K H y u) :
  ∃H',Inv X pins σ H' s/\Den X.K H' (rs M x) v/\Den X.K H' (rs M y) u:=by
 obtain⟨H1,I1,t1,rz1,d1⟩:=uY I rm.z dx;obtain⟨H2,I2,t2,rz2,d2⟩:=uY I1 rz1 (dy.mono t1);exact⟨H2,I2,d1.mono t2,d2⟩
theorem uW(hu:X.A.units+64 < cLine)(neg:Bool):VO X (compareOp (if neg=true then .NotEq else .Eq)) (cG neg):=by
 intro pins s σ H x y v u v2 u2 M Q Q2 I rv ru dx dy rm q back;obtain⟨h1,h2,q⟩:=q;obtain⟨H',I',d1,d2⟩:=B9 I rm dx dy;obtain⟨rc,rn,_⟩:=Ce I' rfl 8 (A:=X.A) h1 h2 d1 d2 rv ru (by omega)
 have fin:=back _ _ _ _ (bn (K:=X.K) (H:=H)) rm (.refl _) q;cases neg with
 |true=>
  refine rn _ _ _ _ ⟨.bl _,H,I,rfl,?_⟩;rw[Bool.true_xor]at fin;exact fin
 |false=>
  refine rc _ _ _ _ ⟨.bl _,H,I,rfl,?_⟩;rw[Bool.false_xor]at fin;exact fin
end
end L2
namespace L2
open PySem PySem.Spec PyProof.Rows
section
variable {K:PySem.W.Frag}
theorem iX[DecidableEq κ]:∀{ks:List κ}{ds:List D}{vs:List V}{k:κ},DenL K H ds vs->ks.length=vs.length->
  (∀d,getD ks ds k=some d->∃v,dF (ks.zip vs) k=some v/\Den K H d v)/\(getD ks ds k=none->dF (ks.zip vs) k=none)
 |[],_,vs,k,_,_=>⟨fun d e=>by simp[getD]at e,fun _=>by simp[dF]⟩
 |q::ks,[],vs,k,dl,hl=>by cases (show vs=[] from dl);cases hl
 |q::ks,d0::ds,_,k,dl,hl=>by
  obtain⟨v,r,rfl,dv,dl⟩:=dl;have ih:=iX (ks:=ks) (k:=k) dl (by simpa using hl)
  by_cases z:q=k
  ·refine⟨fun d e=>?_,fun e=>?_⟩
   ·simp only[getD,if_pos z]at e;cases e;exact⟨v,dW (p:=(q,v)) z,dv⟩
   ·simp only[getD,if_pos z]at e;cases e
  ·refine⟨fun d e=>?_,fun e=>?_⟩
   ·simp only[getD,if_neg z]at e;obtain⟨w,h1,h2⟩:=ih.1 d e;exact⟨w,(c3 (p:=(q,v)) z).trans h1,h2⟩
   ·simp only[getD,if_neg z]at e;exact (c3 (p:=(q,v)) z).trans (ih.2 e)
theorem l9(h:ng y=some k)(d:Den K H y u):u=kV k:=by
 cases y with
 |int i=>cases (show some (Sum.inl i)=some k from h);exact d
 |str x=>cases (show some (Sum.inr x)=some k from h);exact d
 |_=>cases h
theorem j9:∀{es:List D}{vs:List V}{k:List Int},eJ es=some k->DenL K H es vs->vs=k.map V.int
 |[],vs,k,h,dl=>by cases (show some []=some k from h);exact dl
 |d::es,_,k,h,dl=>by
  obtain⟨v,r,rfl,dv,dl⟩:=dl;cases d with
  |int i=>
   simp only[eJ]at h;split at h
   ·rename_i ns q;cases h;rw[j9 q dl];cases (show v=.int i from dv);rfl
   ·cases h
  |_=>cases h
theorem iU{k:List Int}(h:jt y=some k)(d:Den K H y u):∃b,u=.ref b/\SqT K H b (k.map V.int):=by
 cases y with
 |tup es=>
  obtain⟨b,vs,e,sq,dl⟩:=d;refine⟨b,e,?_⟩;rw[<-j9 h dl];exact sq
 |_=>cases h
theorem lE{ks:List Key}(h:eZ M x=some (ks,ds))(rm:RelM K M H)(d:Den K H x v):∃p vs,v=.ref p/\Rd H p (.dK (ks.zip vs))/\ks.length=vs.length/\DenL K H ds vs:=by
 cases x with
 |dik ks' ds'=>
  cases h;obtain⟨p,vs,o,rfl,e,hl,dl⟩:=d;exact⟨p,vs,rfl,.inr ⟨o,e⟩,hl,dl⟩
 |ref a=>
  simp only[eZ]at h;split at h
  ·rename_i q;cases h;obtain⟨vs,e,hl,dl⟩:=rm a _ q;exact⟨a,vs,d,.inl e,hl,dl⟩
  ·cases h
 |_=>cases h
theorem fv(h:gW M x=some (ks,ds))(rm:RelM K M H)(d:Den K H x v):∃p vs xs,v=.ref p/\Rd H p (.ext (cL p xs))/\TabOk K H p ks xs vs/\DenL K H ds vs:=by
 cases x with
 |dit ks' ds'=>
  cases h;obtain⟨p,vs,o,xs,rfl,e,z,dl⟩:=d;exact⟨p,vs,xs,rfl,.inr ⟨o,e⟩,z,dl⟩
 |ref a=>
  simp only[gW]at h;split at h
  ·rename_i q;cases h;obtain⟨vs,xs,e,z,dl⟩:=rm a _ q;exact⟨a,vs,xs,d,.inl e,z,dl⟩
  ·cases h
 |_=>cases h
theorem TabOk.len{ks:List (List Int)}{vs:List V}(z:TabOk K H a ks xs vs):ks.length=vs.length:=by
 rw[<-z.kx,List.length_map,z.vx.length,List.length_map]
theorem TabOk.mono(z:TabOk K H a ks xs vs)(t:TM K H H'):TabOk K H' a ks xs vs:=⟨z.kx,z.nd,z.sz,z.no,z.vx,fun x hx=>t.t _ _ (z.at_ x hx)⟩
theorem c6:∀{xs:List (List Int×Addr×Value)}{vs:List V} (k:List Int),Vals vs (xs.map (·.2.2))->RelO (dF ((xs.map (·.1)).zip vs) k) ((atKey xs k).map (·.2))
 |[],vs,k,r=>by cases r;exact True.intro
 |x::xs,vs,k,r=>by
  rw[List.map_cons]at r;cases r with
  |@cons v _ vs _ h t=>
   have ih:=c6 k t;by_cases e:x.1=k
   ·have b:atKey (x::xs) k=some x.2:=by simp[atKey,List.find?_cons,e]
    rw[List.map_cons,List.zip_cons_cons,dW (p:=(x.1,v)) e,b];exact h
   ·have b:atKey (x::xs) k=atKey xs k:=by simp[atKey,List.find?_cons,e]
    rw[List.map_cons,List.zip_cons_cons,c3 (p:=(x.1,v)) e,b];exact ih
end
inductive DRd (X:Cx) (H:Hp) (a:Addr) (u:V):Option V->Prop where
 |k {kvs:List (Key×V)}{k:Key} (e:Rd H a (.dK kvs)) (hu:u=kV k):DRd X H a u (dF kvs k)
 |t {ks:List (List Int)}{xs:List (List Int×Addr×Value)}{vs:List V}{k:List Int}{b:Addr} (e:Rd H a (.ext (cL a xs))) (z:TabOk X.K H a ks xs vs) (hu:u=.ref b) (sq:SqT X.K H b (k.map V.int)):DRd X H a u (dF (ks.zip vs) k)
noncomputable def OptDen(K:PySem.W.Frag)(H:Hp):Option D->Option V->Prop
 |some d,some v=>Den K H d v
 |none,none=>True
 |_,_=>False
theorem dJ{X:Cx}(h:gu M x y=some o)(rm:RelM X.K M H)(dx:Den X.K H x v)(dy:Den X.K H y u):∃a ov,v=.ref a/\DRd X H a u ov/\OptDen X.K H o ov:=by
 unfold gu at h;split at h
 ·rename_i ks ds e;split at h
  ·rename_i k ek;cases h;obtain⟨p,vs,rfl,rd,hl,dl⟩:=lE e rm dx;refine⟨p,_,rfl,.k rd (l9 ek dy),?_⟩;have g:=iX (k:=k) dl hl;cases q:getD ks ds k with
   |none=>rw[g.2 q];exact True.intro
   |some d=>obtain⟨w,h1,h2⟩:=g.1 d q;rw[h1];exact h2
  ·cases h
 ·split at h
  ·rename_i ks ds e;split at h
   ·rename_i k ek;cases h;obtain⟨p,vs,xs,rfl,rd,z,dl⟩:=fv e rm dx;obtain⟨b,hb,sq⟩:=iU ek dy;refine⟨p,_,rfl,.t rd z hb sq,?_⟩;have g:=iX (k:=k) dl z.len;cases q:getD ks ds k with
    |none=>rw[g.2 q];exact True.intro
    |some d=>obtain⟨w,h1,h2⟩:=g.1 d q;rw[h1];exact h2
   ·cases h
  ·cases h
section
variable {X:Cx}{s:Shared}{o:Option V}{A:Around}
theorem jb:∀{ks:List Int}{us:List Value},Vals (ks.map V.int) us->ItemsAre (intKind P w) ks us
 |[],_,r=>by rw[List.map_nil]at r;cases r;exact .nil
 |k::ks,_,r=>by
  rw[List.map_cons]at r;cases r with
  |cons h t=>
   obtain⟨tk,rfl⟩:=h;exact .cons (by show Value.isInt k (.int k tk)=true;simp[Value.isInt]) (jb t)
theorem dQ{k:List Int}(I:Inv X pins σ H s)(sq:SqT X.K H b (k.map V.int)):(tupleKind (intKind X.prog X.w)).is s.heap k b:=by
 obtain⟨its,r,⟨o,e,c,n,d⟩,_⟩:=I.tuple sq;exact⟨o,its.toArray,n,e,c,d,by simpa using jb r⟩
theorem cb(I:Inv X pins σ H s)(e:Rd H a (.ext (cL a xs)))(z:TabOk X.K H a ks xs vs):s.heap.DictOfH (tupleKind (intKind X.prog X.w)) a xs:=by
 obtain⟨⟨ob,es,ep,h1,h2,h3,h4⟩,_⟩:=(show ObjOk X.prog X.w H s.heap a (.ext (cL a xs)) from e.ok I.hok);exact⟨ob,es,ep,h1,h2,h3,h4,fun x hx=>dQ I (z.at_ x hx),by rw[z.kx];exact z.nd⟩
theorem DRd.isDict(I:Inv X pins σ H s)(g:DRd X H a y o):s.TypeIs (.ref a) "dict":=by
 cases g with
 |k e _=>obtain⟨_,_,vs,_,dd⟩:=gP I.hok e;exact dd.typeIs
 |t e z _ _=>exact (cb I e z).typeIs
theorem oF(hu:A.units+1 < cLine)(I:Inv X pins σ H s)(g:DRd X H a y o)(ho:o=some v)(ry:RelV y u)(h:∀w' s',Inv X pins σ H s'->RelV v w'->Q w' s') :
  wpAny (model X.prog X.w) A (getItem (.ref a) u) Q E s:=by
 cases g with
 |k e hk=>exact oW hu I (.inl ⟨_,_,e,hk,ho.symm⟩) ry h
 |@t ks xs vs k b e z hb sq=>
  subst hb;cases (show u=Value.ref b from ry);have dd:=cb I e z;have rel:=c6 (vs:=vs) k z.vx;rw[z.kx]at rel;obtain⟨w',hw,rw'⟩:=RelO.some_of (v:=v) (o:=(atKey xs k).map (·.2)) (by rw[<-ho];exact rel)
  obtain⟨p,hp,hp2⟩:=Option.map_eq_some_iff.mp hw;refine wpAny_getItem_heap (tupleKind_room_in1 hu) (dQ I sq) dd hp ?_;rw[hp2];exact h w' _ (I.tok _) rw'
theorem GS(neg:Bool)(hu:A.units+1 < cLine)(I:Inv X pins σ H s)(g:DRd X H a y o)(ry:RelV y u)(h:∀s',Inv X pins σ H s'->Q (.bool (neg ^^ o.isSome)) s') :
  wpAny (model X.prog X.w) A (compareOp (if neg=true then .NotIn else .In) u (.ref a)) Q E s:=by
 cases g with
 |k e hk=>
  cases neg with
  |true=>exact uk hu I (.inl ⟨_,_,e,hk,rfl⟩) ry fun s' I'=>by have:=h s' I';rw[Bool.true_xor]at this;exact this
  |false=>exact Gq hu I (.inl ⟨_,_,e,hk,rfl⟩) ry fun s' I'=>by have:=h s' I';rw[Bool.false_xor]at this;exact this
 |@t ks xs vs k b e z hb sq=>
  subst hb;cases (show u=Value.ref b from ry);have dd:=cb I e z;have rel:=c6 (vs:=vs) k z.vx;rw[z.kx]at rel;have q:=rel.isSome_eq;rw[Option.isSome_map]at q;rw[q]at h;cases neg with
  |true=>
   refine wpAny_notIn_heap (tupleKind_room_in1 hu) (dQ I sq) z.no dd ?_;have:=h _ (I.tok (s.toks+(tupleKind (intKind X.prog X.w)).draws k));rw[Bool.true_xor]at this;exact this
  |false=>
   refine wpAny_in_heap (tupleKind_room_in1 hu) (dQ I sq) z.no dd ?_;have:=h _ (I.tok (s.toks+(tupleKind (intKind X.prog X.w)).draws k));rw[Bool.false_xor]at this;exact this
theorem yC(hu:A.units+1 < cLine)(I:Inv X pins σ H s)(g:DRd X H a y o)(ry:RelV y u)(h:∀w' s',Inv X pins σ H s'->RelV (o.getD .non) w'->Q w' s') :
  wpAny (model X.prog X.w) A (call (.builtin "dict.get") [.ref a,u]) Q E s:=by
 cases g with
 |k e hk=>exact we hu I (.inl ⟨_,_,e,hk,rfl⟩) ry h
 |@t ks xs vs k b e z hb sq=>
  subst hb;cases (show u=Value.ref b from ry);have dd:=cb I e z;have rel:=c6 (vs:=vs) k z.vx;rw[z.kx]at rel;exact call_meetsIn PySem.F.slot_dict_get dd.typeIs PySem.F.entry_dict_get (PySem.F.args_dict_get_2 _ _) (meetsH_dict_get (tupleKind (intKind X.prog X.w)) a b z.no) ⟨tupleKind_room_in1 hu,k,xs,dQ I sq,dd,h _ _ (I.tok _) (rel.getD rfl)⟩
theorem rQ(hu:A.units+1 < cLine)(I:Inv X pins σ H s)(g:DRd X H a y o)(ry:RelV y u)(rd:RelV d r)(h:∀w' s',Inv X pins σ H s'->RelV (o.getD d) w'->Q w' s') :
  wpAny (model X.prog X.w) A (call (.builtin "dict.get") [.ref a,u,r]) Q E s:=by
 cases g with
 |k e hk=>exact yE hu I (.inl ⟨_,_,e,hk,rfl⟩) ry rd h
 |@t ks xs vs k b e z hb sq=>
  subst hb;cases (show u=Value.ref b from ry);have dd:=cb I e z;have rel:=c6 (vs:=vs) k z.vx;rw[z.kx]at rel;exact call_meetsIn PySem.F.slot_dict_get dd.typeIs PySem.F.entry_dict_get (PySem.F.args_dict_get_3 _ _ _) (meetsH_dict_get_default (tupleKind (intKind X.prog X.w)) a b z.no r) ⟨tupleKind_room_in1 hu,k,xs,dQ I sq,dd,h _ _ (I.tok _) (rel.getD rd)⟩
end
section
variable {K:PySem.W.Frag}
theorem oP[DecidableEq κ]{l:List (κ×V)}:dO ((q,w)::l) k v=if q=k then (q,v)::l.map (fun kv=>if kv.1=k then (kv.1,v) else kv) else (q,w)::dO l k v:=by
 unfold dO;by_cases e:q=k
 ·simp[e]
 ·by_cases g:(l.any fun kv=>decide (kv.1=k))=true
  ·simp[e,g]
  ·simp[e,g]
theorem ml[DecidableEq κ]:∀{ks:List κ}{vs:List V},¬ k∈ks->(ks.zip vs).map (fun kv=>if kv.1=k then (kv.1,v) else kv)=ks.zip vs
 |[],_,_=>by simp
 |q::ks,[],_=>by simp
 |q::ks,w::vs,h=>by
  have hq:¬ q=k:=fun z=>h (by simp[z])
  have ih:=ml (k:=k) (v:=v) (ks:=ks) (vs:=vs) fun m=>h (List.mem_cons_of_mem _ m)
  simp only[List.zip_cons_cons,List.map_cons,if_neg hq,ih]
theorem lj[DecidableEq κ]:∀{ks:List κ}{ds:List D}{vs:List V}{k:κ}{y:D}{v:V},ks.Nodup->DenL K H ds vs->ks.length=vs.length->Den K H y v->
  ∃vs',dO (ks.zip vs) k v=(aq ks k).zip vs'/\(aq ks k).length=vs'.length/\DenL K H (ax ks ds k y) vs'
 |[],ds,vs,k,y,v,_,dl,hl,dy=>by
  cases vs with
  |nil=>exact⟨[v],rfl,rfl,by unfold ax;exact .one dy⟩
  |cons _ _=>cases hl
 |q::ks,[],vs,k,y,v,_,dl,hl,dy=>by cases (show vs=[] from dl);cases hl
 |q::ks,d::ds,_,k,y,v,nd,dl,hl,dy=>by
  obtain⟨w,r,rfl,dw,dl⟩:=dl;obtain⟨n1,n2⟩:=List.nodup_cons.mp nd;rw[List.zip_cons_cons,oP];by_cases e:q=k
  ·subst e;rw[if_pos rfl,ml n1];refine⟨v::r,?_,?_,?_⟩
   ·simp[aq]
   ·simpa [aq] using hl
   ·simp only[ax,if_pos];exact .cons dy dl
  ·rw[if_neg e];obtain⟨vs',h1,h2,h3⟩:=lj (k:=k) (v:=v) n2 dl (by simpa using hl) dy
   refine⟨w::vs',?_,?_,?_⟩
   ·simp[aq,if_neg e,h1]
   ·simp[aq,if_neg e,h2]
   ·simp only[ax,if_neg e];exact .cons dw h3
theorem lY{x:List Int×Addr×Value}{xs:List (List Int×Addr×Value)}:storedH (x::xs) k b r=if x.1=k then (x.1,x.2.1,r)::xs.map (putAt k r) else x::storedH xs k b r:=by
 unfold storedH;by_cases e:x.1=k
 ·have b':atKey (x::xs) k=some x.2:=by simp[atKey,List.find?_cons,e]
  rw[b',if_pos e];simp[putAt,e]
 ·have b':atKey (x::xs) k=atKey xs k:=by simp[atKey,List.find?_cons,e]
  rw[b',if_neg e];by_cases g:(atKey xs k).isSome=true
  ·rw[if_pos g,if_pos g];simp[putAt,e]
  ·rw[if_neg g,if_neg g];rfl
theorem jf:∀{xs:List (List Int×Addr×Value)},¬ k∈xs.map (·.1)->xs.map (putAt k r)=xs
 |[],_=>rfl
 |x::xs,h=>by
  have hq:¬ x.1=k:=fun z=>h (by simp[z])
  rw[List.map_cons,jf fun m=>h (List.mem_cons_of_mem _ m)]
  simp[putAt,hq]
theorem iN:∀{xs:List (List Int×Addr×Value)}{ds:List D}{vs:List V}{k:List Int}{b:Addr}{r:Value}{y:D}{v:V},(xs.map (·.1)).Nodup->Vals vs (xs.map (·.2.2))->RelV v r->DenL K H ds vs->Den K H y v->
  ∃vs',(storedH xs k b r).map (·.1)=aq (xs.map (·.1)) k/\Vals vs' ((storedH xs k b r).map (·.2.2))/\DenL K H (ax (xs.map (·.1)) ds k y) vs'/\∀x∈storedH xs k b r,(x.1=k/\x.2.1=b)\/∃x'∈xs,x'.1=x.1/\x'.2.1=x.2.1
 |[],ds,vs,k,b,r,y,v,_,vr,rv,dl,dy=>by
  cases vr;cases ds with
  |cons _ _=>obtain⟨_,_,z,_⟩:=dl;cases z
  |nil=>exact⟨[v],rfl,.cons rv .nil,by unfold ax;exact .one dy,fun x hx=>.inl (by simp[storedH,atKey]at hx;simp[hx])⟩
 |x::xs,ds,vs,k,b,r,y,v,nd,vr,rv,dl,dy=>by
  rw[List.map_cons]at vr nd;cases vr with
  |@cons w _ vs _ h t=>
   cases ds with
   |nil=>cases (show w::vs=[] from dl)
   |cons d ds=>
    obtain⟨w',r',e',dw,dl⟩:=dl;cases e';obtain⟨n1,n2⟩:=List.nodup_cons.mp nd;rw[lY];by_cases e:x.1=k
    ·rw[if_pos e,jf (by rw[<-e];exact n1)]
     refine⟨v::vs,?_,.cons rv t,?_,fun z hz=>?_⟩
     ·simp[aq,e]
     ·simp only[List.map_cons,ax,if_pos e];exact .cons dy dl
     ·rcases List.mem_cons.mp hz with rfl|hz
      ·exact .inr ⟨x,List.mem_cons_self,rfl,rfl⟩
      ·exact .inr ⟨z,List.mem_cons_of_mem _ hz,rfl,rfl⟩
    ·rw[if_neg e];obtain⟨vs',h1,h2,h3,h4⟩:=iN (k:=k) (b:=b) n2 t rv dl dy;refine⟨w::vs',?_,.cons h h2,?_,fun z hz=>?_⟩
     ·simp only[List.map_cons,aq,if_neg e,h1]
     ·simp only[List.map_cons,ax,if_neg e];exact .cons dw h3
     ·rcases List.mem_cons.mp hz with rfl|hz
      ·exact .inr ⟨z,List.mem_cons_self,rfl,rfl⟩
      ·rcases h4 z hz with q|⟨x',hx',q⟩
       ·exact .inl q
       ·exact .inr ⟨x',List.mem_cons_of_mem _ hx',q⟩
theorem cT[DecidableEq κ]:∀{ks:List κ}{k:κ},(aq ks k).length<=ks.length+1
 |[],_=>by simp[aq]
 |q::ks,k=>by
  unfold aq;split
  ·simp
  ·have:=cT (ks:=ks) (k:=k);simp only[List.length_cons];omega
theorem putD1_mem[DecidableEq κ]:∀{ks:List κ}{k x:κ},x∈aq ks k<->x∈ks\/x=k
 |[],k,x=>by simp[aq]
 |q::ks,k,x=>by
  unfold aq;split
  ·rename_i e;subst e;simp;intro z;exact .inl z
  ·rw[List.mem_cons,putD1_mem,List.mem_cons,or_assoc]
theorem gK[DecidableEq κ]:∀{ks:List κ}{k:κ},ks.Nodup->(aq ks k).Nodup
 |[],k,_=>by simp[aq]
 |q::ks,k,h=>by
  obtain⟨n1,n2⟩:=List.nodup_cons.mp h;unfold aq;split
  ·exact h
  ·rename_i e;refine List.nodup_cons.mpr ⟨fun m=>?_,gK n2⟩
   rcases putD1_mem.mp m with z|z
   ·exact n1 z
   ·exact e z
end
section
variable {X:Cx}{A:Around}{ks:List Key}
theorem lN:∀{ks:List κ}{vs:List V},ks.length=vs.length->(ks.zip vs).map (·.1)=ks
 |[],_,_=>by simp
 |q::ks,[],h=>by cases h
 |q::ks,v::vs,h=>by simp[lN (ks:=ks) (vs:=vs) (by simpa using h)]
theorem rE{vs:List V}(I:Inv X pins σ H s)(e:H a=some (.dK (ks.zip vs)))(hl:ks.length=vs.length):ks.Nodup:=by
 obtain⟨_,_,ws,rel,_,_,_,_,_,_,_,_,nd⟩:=qA I.hok e;rw[<-rel.keys,lN hl]at nd;exact nd
theorem vp{k:Key}{y:D}{v w:V}{R:MH->Prop}{R2:Hp->Prop}(hu:A.units+1 < cLine)(I:Inv X pins σ H s)(rm:RelM X.K M H)(q:M a=some (.dk ks ds))(hk:w=kV k)(rw':RelV w u)(dy:Den X.K H y v)(rv:RelV v r)(hz:ks.length < sizeLine)
  (h:R (put M a (.dk (aq ks k) (ax ks ds k y)))) (back:∀H' M',RelM X.K M' H'->TM X.K H H'->R M'->R2 H'):wpAny (model X.prog X.w) A (setItem (.ref a) u r) (fun _ s'=>∃H',Inv X pins σ H' s'/\R2 H') E s:=by
 obtain⟨vs,e,hl,dl⟩:=rm a _ q;subst hk;obtain⟨vs',h1,h2,h3⟩:=lj (k:=k) (v:=v) (rE I e hl) dl hl dy;refine pB hu I (.inl ⟨_,k,e,rfl,?_,rfl⟩) rw' rv fun s' I'=>⟨_,I',?_⟩
 ·rw[List.length_zip,hl,Nat.min_self,<-hl];exact hz
 ·have tw:TM X.K H (upd H a (.dK (dO (ks.zip vs) k v))):=.put e (fun _ z=>by cases z) fun _ _ z=>by cases z
  exact back _ _ (rm.write (u:=.dk (aq ks k) (ax ks ds k y)) e (fun _ z=>by cases z) (fun _ _ z=>by cases z) ⟨vs',by rw[ah,h1],h2,h3.mono tw⟩) tw h
theorem AB{kt:List (List Int)}{k:List Int}{y:D}{v:V}{b:Addr}{R:MH->Prop}{R2:Hp->Prop}(hu:A.units+1 < cLine)(I:Inv X pins σ H s)(rm:RelM X.K M H)(q:M a=some (.dt kt ds))(sq:SqT X.K H b (k.map V.int))(dy:Den X.K H y v)(rv:RelV v r)(hz:kt.length < sizeLine)
  (h:R (put M a (.dt (aq kt k) (ax kt ds k y)))) (back:∀H' M',RelM X.K M' H'->TM X.K H H'->R M'->R2 H'):wpAny (model X.prog X.w) A (setItem (.ref a) (.ref b) r) (fun _ s'=>∃H',Inv X pins σ H' s'/\R2 H') E s:=by
 obtain⟨vs,xs,e,z,dl⟩:=rm a _ q;have dd:=cb I (.inl e) z;have nd:(xs.map (·.1)).Nodup:=by rw[z.kx];exact z.nd
 obtain⟨vs',h1,h2,h3,h4⟩:=iN (k:=k) (b:=b) nd z.vx rv dl dy;rw[z.kx]at h1 h3;have hsz:xs.length<=sizeLine:=by
  have:=congrArg List.length z.kx;rw[List.length_map]at this;omega
 refine wpAny_setItem_heap (hsz:=hsz) (tupleKind_room_in1 hu) (dQ I sq) dd fun h' dd' hs=>?_
 obtain⟨ob,es,ep,hq,hx,hd,he,_,_⟩:=dd';have tw:TM X.K H (upd H a (.ext (cL a (storedH xs k b r)))):=.put e (fun _ z=>by cases z) fun _ _ z=>by cases z
 have tb:cL a (storedH xs k b r) h':=⟨ob,es,ep,hq,hx,hd,he⟩;have I':Inv X pins σ (upd H a (.ext (cL a (storedH xs k b r)))) {s with heap:=h',toks:=s.toks+(tupleKind (intKind X.prog X.w)).draws k}:=
  g7 I (by rw[e];exact True.intro) hs ⟨ob,hq⟩ ⟨tb,⟨ob,hq⟩,fun g1 g2 ⟨o1,es1,ep1,a1,a2,a3,a4⟩ kk=>⟨o1,es1,ep1,kk _ a1,a2,a3,a4⟩⟩
 refine⟨_,I',back _ _ (rm.write (u:=.dt (aq kt k) (ax kt ds k y)) e (fun _ z=>by cases z) (fun _ _ z=>by cases z) ⟨vs',_,ah,⟨h1,gK z.nd,Nat.le_trans cT hz,z.no,h2,fun x hx'=>?_⟩,h3.mono tw⟩) tw h⟩
 rcases h4 x hx' with ⟨q1,q2⟩|⟨x',m,q1,q2⟩
 ·rw[q1,q2];exact tw.t _ _ sq
 ·rw[<-q1,<-q2];exact tw.t _ _ (z.at_ x' m)
end
end L2
namespace L2
open PySem PySem.Spec PyProof.Rows PySem.W
section
variable {A:Around}{s:Shared}{ob:Obj}{es:Array DictEntry}{e:DictEntry}
theorem oJ(hn:(d == sysModules)=false):MeetsIn prog w (Builtin.«dict.__len__» ⟨[.ref d],[]⟩) (fun _ R s=>∃ob es ep,s.heap.get? d=some ob/\ob.data=.dict es ep/\R (.ok (.ret (.int es.size s.toks))) {s with toks:=s.toks+1}):=
 .of_wp fun A R s ⟨ob,es,ep,ho,hd,q⟩=>by
  show wpAny _ _ (dictSize d >>=_) _ _ s;unfold dictSize;refine wpAny_bind (wpAny_bind (wpAny_dictEntries ho hd (wpAny_pure ?_)));show wpAny _ _ (Builtin.Dict.pendingCount d >>=_) _ _ s;exact wpAny_bind (wpAny_pendingCount_other hn (wpAny_ret_mkInt q))
theorem GT(hn:(d == sysModules)=false)(ho:s.heap.get? d=some ob)(hx:ob.ExactDict)(hd:ob.data=.dict es ep)(hz:(es.size:Int) < 2 ^ 63)(q:Q (.int es.size (s.toks+1)) {s with toks:=s.toks+1+1}) :
  wpAny (model prog w) A (call (.builtin "len") [.ref d]) Q E s:=by
 have hT:s.TypeIs (.ref d) "dict":=⟨_,ho,hx.1⟩;refine Calls.call_function_entry kind_len plain_len entry_len (args_len1 _) ?_;unfold Builtin.«len»;refine wpAny_bind (m:=oneArg "len" _) (wpAny_pure ?_);refine wpAny_bind (m:=callSpecial? (.ref d) (Str.ofString "__len__")) (wpAny_callSpecial?_slot (name:=Str.ofString "__len__") hT F.slot_dict_len
  (call_meetsIn F.slot_dict_len hT F.entry_dict_len (F.args_dict_len_1 _) (oJ hn) ⟨ob,es,ep,ho,hd,?_⟩))
 show wpAny _ _ _ _ _ {s with toks:=s.toks+1}
 refine wpAny_bind (wpAny_holding (wpAny_pure ?_));refine wpAny_bind (wpAny_letGo ?_);show wpAny _ _ (if ((es.size:Nat):Int) < 0 then _ else _) _ _ _
 rw[if_neg (by omega)]
 show wpAny _ _ (if ((es.size:Nat):Int)>=2 ^ 63 then _ else _) _ _ _
 rw[if_neg (by omega)]
 exact wpAny_bind (wpAny_mkInt (wpAny_pure ⟨_,rfl,q⟩))
theorem A8(hn:(d == sysModules)=false)(ho:s.heap.get? d=some ob)(hx:ob.ExactDict)(hd:ob.data=.dict es ep)
  (hQ:Q (.ref s.heap.objs.size) {s with heap:=s.heap.push {cls:=.type "dict_keyiterator",data:=.fields #[.ref d,.int 0 0,.int es.size 0,.int ep 0]}}):wpAny (model prog w) A (pyIter (.ref d)) Q E s:=by
 have hT:s.TypeIs (.ref d) "dict":=⟨_,ho,hx.1⟩;refine wpAny_pyIter_slot hT F.slot_dict_iter (wpAny_call_entry F.slot_dict_iter hT F.entry_dict_iter ?_ (F.args_dict_iter_1 _));unfold Builtin.«dict.__iter__»;refine wpAny_bind ?_;unfold Builtin.Dict.dictSlotNone;refine wpAny_bind (wpAny_notOrdered_dict hT ?_);show wpAny _ _ (pure (Value.ref d)) _ _ s;refine wpAny_pure ?_;show wpAny _ _ (Builtin.Dict.showsAll d >>=_) _ _ s;unfold Builtin.Dict.showsAll;rw[if_neg (by rw[hn];exact Bool.false_ne_true)]
 refine wpAny_bind (wpAny_pure (wpAny_bind (wpAny_dictEntries ho hd (wpAny_bind (wpAny_dictEpoch ho hd ?_)))));refine wpAny_bind (wpAny_newObj_type (wpAny_pure ⟨_,rfl,"dict_keyiterator",_,⟨_,Heap.get?_push_size _ rfl,rfl⟩,F.slot_dict_keyiterator_next.lookup,?_⟩));simpa [rawInt] using hQ
theorem pX(hit:s.heap.IsKeyIter it d i es.size ep)(hod:s.heap.get? d=some ob)(hdd:ob.data=.dict es ep)(he:es[i]?=some e)
  (hQ:∀h',h'.IsKeyIter it d (i+1) es.size ep->Heap.SameBut it s.heap h'->Q (some e.key) {s with heap:=h'}):wpAny (model prog w) A (pyNext (.ref it)) Q E s:=by
 obtain⟨o,ho,hc,hd⟩:=id hit;unfold pyNext;refine wpAny_bind (wpAny_attempt (wpAny_callSpecial?_slot (name:=Str.ofString "__next__") hit.typeIs F.slot_dict_keyiterator_next
  (wpAny_call_entry F.slot_dict_keyiterator_next hit.typeIs F.entry_dict_keyiterator_next ?_ (F.args_dict_keyiterator_next_1 _))))
 refine wpAny_bind (wpAny_pure (wpAny_bind (wpAny_bind ?_)))
 first|refine wpAny_bind (wpAny_typeNameOfWhole_keyiter hit.typeIs (wpAny_pure ?_))|refine wpAny_bind (wpAny_typeNameOf_keyiter hit.typeIs (wpAny_pure ?_))
 refine wpAny_bind (wpAny_fieldsOf ho hd ?_);simp only[show Builtin.Dict_items.ownsTuple "dict_keyiterator"=false by decide,Bool.false_eq_true,if_false]
 show wpAny _ _ (if (Value.ref d == Value.none)=true then _ else _) _ _ s
 rw[if_neg (show ¬ ((Value.ref d == Value.none)=true) from Bool.false_ne_true)];refine wpAny_bind (wpAny_pure (wpAny_bind (wpAny_dictEntries hod hdd ?_)));rw[if_neg (by simp)]
 refine wpAny_bind (wpAny_pure (wpAny_bind (wpAny_dictEpoch hod hdd ?_)));rw[if_neg (by simp)]
 refine wpAny_pure ?_;simp only[show ¬ ((i:Int) < 0) from by omega,if_false,Int.toNat_natCast,he]
 refine wpAny_bind ?_
 first|refine wpAny_bind (wpAny_typeNameOfWhole_keyiter hit.typeIs (wpAny_pure ?_))|refine wpAny_bind (wpAny_typeNameOf_keyiter hit.typeIs (wpAny_pure ?_))
 refine wpAny_bind (wpAny_isOneOf_keyiter hit.typeIs ?_);show wpAny _ _ (setField (.ref it) 1 (rawInt ((i:Int)+1)) >>=_) _ _ s;refine wpAny_bind (wpAny_setField ho hd (by simp) ?_)
 have hit':(s.heap.update it (Obj.mapFields (·.setIfInBounds 1 (rawInt ((i:Int)+1))))).IsKeyIter it d (i+1) es.size ep:=
  ⟨_,Heap.get?_update_self _ ho (Obj.isFreed_of_fields (Obj.data_mapFields hd _)),(Obj.cls_mapFields ..).trans hc,by rw[Obj.data_mapFields hd];simp[rawInt]⟩
 refine wpAny_bind (wpAny_holding ?_);refine wpAny_bind (wpAny_isOneOf_keyiter (s:={s with heap:=s.heap.update it (Obj.mapFields (·.setIfInBounds 1 (rawInt ((i:Int)+1))))}) hit'.typeIs ?_)
 show wpAny _ _ (pure e.key) _ _ _;exact wpAny_pure (wpAny_pure ⟨_,rfl,wpAny_pure (hQ _ hit' (Heap.SameBut.update ..))⟩)
theorem pP(hh:A.handled=none)(hit:s.heap.IsKeyIter it d i es.size ep)(hod:s.heap.get? d=some ob)(hdd:ob.data=.dict es ep)(he:es.size<=i)
  (hQ:∀h',Heap.ExtBut it s.heap h'->Q none {s with heap:=h'}):wpAny (model prog w) A (pyNext (.ref it)) Q E s:=by
 obtain⟨o,ho,hc,hd⟩:=id hit;unfold pyNext;refine wpAny_bind (wpAny_attempt (wpAny_callSpecial?_slot (name:=Str.ofString "__next__") hit.typeIs F.slot_dict_keyiterator_next
  (wpAny_call_entry F.slot_dict_keyiterator_next hit.typeIs F.entry_dict_keyiterator_next ?_ (F.args_dict_keyiterator_next_1 _))))
 refine wpAny_bind (wpAny_pure (wpAny_bind (wpAny_bind ?_)))
 first|refine wpAny_bind (wpAny_typeNameOfWhole_keyiter hit.typeIs (wpAny_pure ?_))|refine wpAny_bind (wpAny_typeNameOf_keyiter hit.typeIs (wpAny_pure ?_))
 refine wpAny_bind (wpAny_fieldsOf ho hd ?_);simp only[show Builtin.Dict_items.ownsTuple "dict_keyiterator"=false by decide,Bool.false_eq_true,if_false]
 show wpAny _ _ (if (Value.ref d == Value.none)=true then _ else _) _ _ s
 rw[if_neg (show ¬ ((Value.ref d == Value.none)=true) from Bool.false_ne_true)];refine wpAny_bind (wpAny_pure (wpAny_bind (wpAny_dictEntries hod hdd ?_)));rw[if_neg (by simp)]
 refine wpAny_bind (wpAny_pure (wpAny_bind (wpAny_dictEpoch hod hdd ?_)));rw[if_neg (by simp)]
 refine wpAny_pure ?_;simp only[show ¬ ((i:Int) < 0) from by omega,if_false,Int.toNat_natCast,Array.getElem?_eq_none he]
 refine wpAny_bind ?_
 first|refine wpAny_bind (wpAny_typeNameOfWhole_keyiter hit.typeIs (wpAny_pure ?_))|refine wpAny_bind (wpAny_typeNameOf_keyiter hit.typeIs (wpAny_pure ?_))
 show wpAny _ _ (setField (.ref it) 0 .none >>=_) _ _ s;refine wpAny_bind (wpAny_setField ho hd (by simp) ?_)
 show wpAny _ _ (newExc (.type "StopIteration") [] >>=_) _ _ _;refine wpAny_bind ?_;simp only[newExc,newTuple];refine wpAny_bind (wpAny_newObj_type ?_ (by size_fits))
 refine wpAny_bind (m:=firstArgMember _ _) (wpAny_of_eq (a:=Value.none) (by first|rfl|(simp only[firstArgMember];rfl)) ?_)
 refine wpAny_newObj_type ?_ (by size_fits)
 simp only[raiseNew];refine wpAny_bind (wpAny_handled ?_);rw[show A.in1.handled=none from hh];refine wpAny_bind (wpAny_pure (wpAny_throw ?_));refine wpAny_bind (wpAny_isInstance (T:="StopIteration") (b:=true) ⟨_,Heap.get?_push_size _ rfl,rfl⟩ isSubtype_stop ?_);exact wpAny_pure (hQ _ (((Heap.SameBut.update ..).extBut.push _).push _))
theorem pC(hh:A.handled=none)(I d:Addr)(hne:d≠I)(hd:ob.data=.dict es ep) :
  Walks prog w A I [I,d] [I] es.size (fun i v=>∃e,es[i]?=some e/\v=e.key) (fun i h=>h.IsKeyIter I d i es.size ep/\h.get? d=some ob) where
 sub:=fun b hb=>by simp at hb;simp[hb]
 frame:=fun _ _ _ st hk=>⟨st.1.at fun o e=>hk I (by simp) o e,hk d (by simp) _ st.2⟩
 item:=fun i s Q E hi st hQ=>by
  have he:es[i]?=some es[i]:=by simp[hi]
  refine pX st.1 st.2 hd he fun h' hit' hs'=>?_
  exact hQ _ h' s.toks ⟨_,he,rfl⟩ ⟨hit',hs'.extBut d ob hne st.2⟩ fun b o hb e=>hs'.extBut b o (fun h=>hb (by simp[h])) e
 done:=fun s Q E st hQ=>pP hh st.1 st.2 hd (Nat.le_refl _) fun h' he'=>hQ h' s.toks fun b o hb e=>he' b o (fun h=>hb (by simp[h])) e
 self:=fun _ _ _ _ st hQ=>wpAny_pyIter_keyiter st.1 hQ
theorem qT(lo:(d == sysModules)=false)(hx:ob.ExactDict)(hd:ob.data=.dict es ep):KdlSrc prog w "dict" d d es.size (fun i v=>∃e,es[i]?=some e/\v=e.key) (fun h=>h.get? d=some ob) where
 type:=fun _ hm=>⟨_,hm,hx.1⟩
 there:=fun _ hm=>⟨Heap.lt_size hm,Heap.lt_size hm⟩
 keep:=fun _ _ hm hk=>hk d (.inl rfl) _ hm
 notList:=by decide
 notTuple:=by decide
 hint:=fun _ _ _ _ hm hq=>kdl_hint_dict ⟨_,hm,hx.1⟩ hq
 iter:=fun _ _ hh hm=>⟨_,_,(fun _ _ hq=>A8 lo hm hx hd hq),pC hh _ d (Nat.ne_of_lt (Heap.lt_size hm)) hd,⟨⟨_,Heap.get?_push_size _ rfl,rfl,rfl⟩,Heap.get?_push_of_some _ hm⟩⟩
end
end L2
namespace L2
open PySem PySem.Spec PyProof.Rows
section
variable {X:Cx}
theorem vd(neg:Bool):VO X (compareOp (if neg=true then .IsNot else .Is)) (pq neg):=by
 intro pins s σ H x y v u v2 u2 M Q Q2 I rv ru dx dy rm q back;unfold pq at q;split at q
 ·cases (show u=.non from dy);cases neg with
  |true=>exact VO.of3 tW pins s σ H x .non v .non v2 u2 M Q Q2 I rv ru dx dy rm ⟨rfl,by rw[Bool.true_xor]at q;exact q⟩ back
  |false=>exact VO.of3 GL pins s σ H x .non v .non v2 u2 M Q Q2 I rv ru dx dy rm ⟨rfl,by rw[Bool.false_xor]at q;exact q⟩ back
 ·rename_i b;cases (show u=.bl b from dy);cases ru;have fin:∀k,Q (.bl k) M->EP X pins σ Q2 (.bool k) s:=fun k q=>⟨.bl k,H,I,rfl,back _ _ _ _ bn rm (.refl _) q⟩
  split at q
  ·rename_i a;cases (show v=.bl a from dx);cases rv;have e:((Value.bool a == Value.bool b):Bool)=(a == b):=by cases a<;>cases b<;>rfl
   cases neg with
   |true=>exact wpAny_isNot_plain rfl (by rw[e];rw[Bool.true_xor]at q;exact fin _ q)
   |false=>exact wpAny_is_plain rfl (by rw[e];rw[Bool.false_xor]at q;exact fin _ q)
  ·cases (show v=.non from dx);cases rv;cases neg with
   |true=>exact wpAny_isNot_other rfl (fun z=>nomatch z) (fin _ q)
   |false=>exact wpAny_is_other rfl (fun z=>nomatch z) (fin _ q)
  ·exact q.elim
 ·exact q.elim
theorem qh:∀{ds:List D}{us:List β},Paired R ds us->(∀d u,d∈ds->R d u->e u=f d)->us.any e=ds.any f
 |_,_,.nil,_=>rfl
 |d::ds,u::us,.cons r t,h=>by
  rw[List.any_cons,List.any_cons,h d u List.mem_cons_self r,qh t fun d u hd=>h d u (List.mem_cons_of_mem _ hd)]
theorem jJ{K:PySem.W.Frag}:∀{ds:List D}{vs:List V}{us:List Value},DenL K H ds vs->Vals vs us->Paired (fun d u=>∃v,Den K H d v/\RelV v u) ds us
 |[],_,_,h,r=>by cases (show _=[] from h);cases r;exact .nil
 |d::ds,_,_,h,r=>by
  obtain⟨v,r',rfl,dv,dl⟩:=h;cases r with
  |cons r1 r2=>exact .cons ⟨v,dv,r1⟩ (jJ dl r2)
theorem Paired.mem_right:∀{l:List α}{m:List β},Paired R l m->∀b∈m,∃a∈l,R a b
 |_,_,.nil,b,hb=>by cases hb
 |a::l,c::m,.cons r t,b,hb=>by
  rcases List.mem_cons.mp hb with rfl|hb
  ·exact⟨a,List.mem_cons_self,r⟩
  ·obtain⟨a',h1,h2⟩:=Paired.mem_right t b hb;exact⟨a',List.mem_cons_of_mem _ h1,h2⟩
theorem vb(hu:X.A.units+64 < cLine)(neg:Bool):VO X (compareOp (if neg=true then .NotIn else .In)) (lZ neg):=by
 intro pins s σ H x y v u v2 u2 M Q Q2 I rv ru dx dy rm q back;unfold lZ at q;split at q
 ·rename_i ds eds;obtain⟨p1,p2,q⟩:=q;obtain⟨p,vs,rfl,hq,dl⟩:=fR rm eds dy;cases ru;obtain⟨H',I',t',d1⟩:=qR I rm dx p1;have dl':=dl.mono t';have fin:EP X pins σ Q2 (.bool (neg ^^ ds.any fun d=>eqD d (res M x))) s:=⟨.bl _,H,I,rfl,back _ _ _ _ bn rm (.refl _) q⟩
  classical
  have key:∀{its:List Value},Vals vs its->∃e:Value->Bool,its.any e=(ds.any fun d=>eqD d (res M x))/\∀w∈its,SeqAt.EqAt X.A.in1 s w v2 (e w):=fun {its} r=>by
   have pd:=jJ dl' r
   let e:Value->Bool:=fun w=>if h:∃d∈ds,∃v,Den X.K H' d v/\RelV v w then eqD h.choose (res M x) else false
   have he:∀d w,d∈ds->(∃v,Den X.K H' d v/\RelV v w)->e w=eqD d (res M x):=fun d w hd ⟨v',dv,rw'⟩=>by
    have h:∃d∈ds,∃v,Den X.K H' d v/\RelV v w:=⟨d,hd,v',dv,rw'⟩;obtain⟨hm,v'',dv2,rw2⟩:=h.choose_spec;have:v''=v':=rw2.inj rw';subst this;have e1:h.choose=d:=nI I' rfl 8 (List.all_eq_true.mp p2 _ hm) (List.all_eq_true.mp p2 _ hd) dv2 dv;show (if h:∃d∈ds,∃v,Den X.K H' d v/\RelV v w then eqD h.choose (res M x) else false)=_
    rw[dif_pos h,e1]
   refine⟨e,qh pd he,fun w hw=>?_⟩
   obtain⟨d,hd,v',dv,rw'⟩:=Paired.mem_right pd w hw;rw[he d w hd ⟨v',dv,rw'⟩];exact (Ce I' rfl 8 (A:=X.A.in1) (List.all_eq_true.mp p2 _ hd) p1 dv d1 rw' rv (by show X.A.units+1+8 < cLine;omega)).2.2
  rcases hq with hq|hq
  ·obtain⟨its,r,pl',hz⟩:=I.list hq;obtain⟨e,e1,e2⟩:=key r;have ea:its.toArray.any e=ds.any fun d=>eqD d (res M x):=by rw[<-e1];simp
   cases neg with
   |true=>exact SeqAt.notIn_listAt e pl'.isList (fun w hw=>e2 w (by simpa using hw)) (by rw[ea];rw[Bool.true_xor]at fin;exact fin)
   |false=>exact SeqAt.in_listAt e pl'.isList (fun w hw=>e2 w (by simpa using hw)) (by rw[ea];rw[Bool.false_xor]at fin;exact fin)
  ·obtain⟨its,r,pl',hz⟩:=I.tuple hq;obtain⟨e,e1,e2⟩:=key r;have ea:its.toArray.any e=ds.any fun d=>eqD d (res M x):=by rw[<-e1];simp
   cases neg with
   |true=>exact SeqAt.notIn_tupleAt e pl' (fun w hw=>e2 w (by simpa using hw)) (by rw[ea];rw[Bool.true_xor]at fin;exact fin)
   |false=>exact SeqAt.in_tupleAt e pl' (fun w hw=>e2 w (by simpa using hw)) (by rw[ea];rw[Bool.false_xor]at fin;exact fin)
 ·split at q
  ·rename_i o e;obtain⟨a,ov,rfl,g,od⟩:=dJ (X:=X) e rm dy dx;cases ru;refine GS neg (by omega) I g rv fun s' I'=>⟨.bl (neg ^^ ov.isSome),H,I',rfl,back _ _ (.bl _) _ bn rm (.refl _) ?_⟩
   have:o.isSome=ov.isSome:=by
    cases o<;>cases ov<;>first|rfl|exact od.elim
   rw[<-this];exact q
  ·split at q
   ·rename_i i j _ _;cases (show v=.str i from dx);cases (show u=.str j from dy);cases neg with
    |false=>exact oR pins s σ H _ _ v2 u2 Q2 I rv ru ⟨i,j,rfl,rfl,back _ _ (.bl _) _ bn rm (.refl _) (by rw[Bool.false_xor]at q;exact q)⟩
    |true=>exact k9 pins s σ H _ _ v2 u2 Q2 I rv ru ⟨i,j,rfl,rfl,back _ _ (.bl _) _ bn rm (.refl _) (by rw[Bool.true_xor]at q;exact q)⟩
   ·exact q.elim
theorem da(hu:X.A.units+64 < cLine)(op:CmpOp):VO X (compareOp op) (aw op):=by
 cases op with
 |Eq=>exact uW hu false
 |NotEq=>exact uW hu true
 |Lt=>exact (VO.of3 GA).imp fun _ _ _ _ h=>gh h
 |LtE=>exact (VO.of3 G3).imp fun _ _ _ _ h=>gh h
 |Gt=>exact (VO.of3 F7).imp fun _ _ _ _ h=>gh h
 |GtE=>exact (VO.of3 FZ).imp fun _ _ _ _ h=>gh h
 |Is=>exact vd false
 |IsNot=>exact vd true
 |In=>exact vb hu false
 |NotIn=>exact vb hu true
theorem dL{K:PySem.W.Frag}(h:DenL K H [d] vs):∃v,vs=[v]/\Den K H d v:=by
 obtain⟨v,r,rfl,dv,rfl⟩:=h;exact⟨v,rfl,dv⟩
noncomputable def rLen0(xs:List D)(M:MH)(Q:VK3):Prop:=match xs with
  |[x]=>match aD M x with
   |some ds=>Q (.int ds.length) M
   |none=>False
  |_=>False
theorem uf:VC X (.builtin "len") rLen0:=(VC.of3 B1).imp fun xs M Q h=>by
 simp only[rLen0]at h;split at h
 ·rename_i x;split at h
  ·rename_i ds e;refine⟨x,ds,rfl,?_,h⟩;cases x with
   |tup es=>exact .inr (by rw[show es=ds from Option.some.inj e])
   |rol es=>exact .inl (.inl (by rw[show es=ds from Option.some.inj e]))
   |ref a=>
    cases q:M a with
    |none=>simp[aD,aj,q]at e
    |some o=>
     cases o with
     |lst es=>exact .inl (.inr ⟨a,rfl,by rw[q];simp[aD,aj,q]at e;rw[e]⟩)
     |_=>simp[aD,aj,q]at e
   |_=>cases e
  ·exact h.elim
 ·exact h.elim
theorem oo{s:Shared}{ks:List (List Int)}{xs:List (List Int×Addr×Value)}(I:Inv X pins σ H s)(e:Rd H p (.ext (cL p xs)))(z:TabOk X.K H p ks xs vs) :
  ∃ob es ep,s.heap.get? p=some ob/\ob.ExactDict/\ob.data=.dict es ep/\es.toList=(xs.map fun x=>(⟨tH x.1,.ref x.2.1,x.2.2⟩:DictEntry))/\es.size=ks.length:=by
 obtain⟨⟨ob,es,ep,h1,h2,h3,h4⟩,_⟩:=(show ObjOk X.prog X.w H s.heap p (.ext (cL p xs)) from e.ok I.hok);refine⟨ob,es,ep,h1,h2,h3,h4,?_⟩;have:=congrArg List.length h4;have l3:xs.length=ks.length:=by rw[<-z.kx];simp
 simp at this;omega
theorem vg:VC X (.builtin "len") (rBi .len):=by
 intro pins s σ H xs vs us M Q Q2 I rs dl rm q back;by_cases h:rLen0 xs M Q
 ·exact uf pins s σ H xs vs us M Q Q2 I rs dl rm h back
 ·simp only[rBi]at q;split at q
  ·rename_i x;split at q
   ·rename_i ds e;exact absurd (by simp only[rLen0,e];exact q) h
   ·split at q
    ·rename_i ks ds e;obtain⟨v,rfl,dv⟩:=dL dl;obtain⟨p,ws,ts,rfl,rd,z,_⟩:=fv e rm dv;obtain⟨ob,es,ep,h1,h2,h3,h4,h5⟩:=oo I rd z;obtain⟨u,rfl,rx⟩:=j3 rs;cases rx;refine GT z.no h1 h2 h3 (by have:=z.sz;have:=sizeLine_eq;omega) ⟨.int es.size,H,I.tok _,⟨_,rfl⟩,?_⟩
     rw[h5];exact back _ _ _ _ fN rm (.refl _) q
    ·split at q
     ·rename_i z _ _;obtain⟨v,rfl,dv⟩:=dL dl;cases (show v=.str z from dv);exact kK pins s σ H _ us Q2 I rs ⟨z,rfl,q.1,back _ _ _ _ fN rm (.refl _) q.2⟩
     ·exact q.elim
  ·exact q.elim
theorem jN{K:PySem.W.Frag}:∀ks:List Int,DenL K H (ks.map D.int) (ks.map V.int)
 |[]=>rfl
 |k::r=>⟨_,_,rfl,rfl,jN r⟩
theorem lU{K:PySem.W.Frag}:∀{ts:List (List Int×Addr×Value)},(∀x∈ts,SqT K H x.2.1 (x.1.map V.int))->DenL K H ((ts.map (·.1)).map Cr) (ts.map fun x=>V.ref x.2.1)
 |[],_=>rfl
 |x::r,h=>⟨_,_,rfl,nE (h x List.mem_cons_self) (jN _),lU fun y hy=>h y (List.mem_cons_of_mem _ hy)⟩
theorem kd:∀ts:List (List Int×Addr×Value),Vals (ts.map fun x=>V.ref x.2.1) (ts.map fun x=>Value.ref x.2.1)
 |[]=>.nil
 |x::r=>.cons rfl (kd r)
theorem uz(fz:Bool)(hc:X.calm=true):VC X (.type "list") (rBi (.list fz)):=by
 intro pins s σ H xs vs us M Q Q2 I r dl rm q back;simp only[rBi]at q;split at q
 ·rename_i x;split at q
  ·rename_i ds e;obtain⟨v,rfl,dv⟩:=dL dl;obtain⟨p,vs,rfl,hq,dl2⟩:=fR rm e dv;refine thn (kQ pins s σ H _ us (fun w H'=>∃l,w=.ref l/\H l=none/\H'=upd H l (.lst vs)) I r ⟨p,vs,rfl,hq,fun l hl=>⟨l,rfl,hl,rfl⟩⟩) fun u s1 ⟨w,H1,I1,r1,l,e1,hl,e2⟩=>?_
   subst e1;subst e2;cases r1;exact cF I1 hl dl2 rm (.refl _) q back
  ·split at q
   ·rename_i ks ds e;obtain⟨v,rfl,dv⟩:=dL dl;obtain⟨p,ws,ts,rfl,rd,z,_⟩:=fv e rm dv;obtain⟨ob,es,ep,h1,h2,h3,h4,h5⟩:=oo I rd z;obtain⟨u,rfl,rx⟩:=j3 r;cases rx;have hz:es.size<=sizeLine:=by have:=z.sz;omega
    refine PySem.W.kdl_call (qT z.no h2 h3) (I.ok.hd hc) h1 hz fun h' tk acc' c' kp e hi=>?_
    have hp:H s.heap.objs.size=none:=I.hok.fresh (Nat.le_refl _);have ea:acc'.toList=ts.map fun x=>Value.ref x.2.1:=by
     refine List.ext_getElem? fun j=>?_
     by_cases hj:j < acc'.size
     ·have e1:acc'[j]?=some acc'[j]:=by simp[hj]
      obtain⟨en,e2,e3⟩:=hi.2 j _ e1;have e4:es.toList[j]?=some en:=by simpa using e2
      rw[h4,List.getElem?_map]at e4;cases hx:ts[j]? with
      |none=>rw[hx]at e4;cases e4
      |some x=>
       rw[hx]at e4;cases e4;rw[Array.getElem?_toList,e1,e3,List.getElem?_map,hx];rfl
     ·have h6:=hi.1;have h7:ts.length=es.size:=by
       have:=congrArg List.length h4;simpa using this.symm
      rw[List.getElem?_eq_none (by simpa using hj),List.getElem?_eq_none (by rw[List.length_map];omega)]
    have hv:Vals (ts.map fun x=>V.ref x.2.1) acc'.toList:=by rw[ea];exact kd ts
    have I1:=I.laid (a:=s.heap.objs.size) (o:=.lst (ts.map fun x=>V.ref x.2.1)) (t':=tk) kp (Nat.le_refl _) ⟨by rw[hv.length,ea,List.length_map];have:=z.sz;rw[<-z.kx,List.length_map]at this;exact this,acc'.toList,c',hv,by simpa using e⟩
    exact cF I1 hp (by rw[<-z.kx];exact lU z.at_) rm (.refl _) q back
   ·exact q.elim
 ·exact q.elim
end
end L2
namespace L2
open PySem PySem.Spec PyProof.Rows PySem.W
end L2
namespace L2
open PySem PySem.Spec PyProof.Rows
theorem ex9{α β γ δ:Sort _}{P1 P2 P3 P4 P5:α->β->γ->δ->Prop}{R:Prop}(h:∃a b c d,P1 a b c d/\P2 a b c d/\P3 a b c d/\P4 a b c d/\P5 a b c d)(k:∀a b c d,P1 a b c d->P2 a b c d->P3 a b c d->P4 a b c d->P5 a b c d->R):R:=
 h.elim fun a h=>h.elim fun b h=>h.elim fun c h=>h.elim fun d h=>k a b c d h.1 h.2.1 h.2.2.1 h.2.2.2.1 h.2.2.2.2
noncomputable def F4(K:PySem.W.Frag)(r:D->D->MH->VK3->Prop):R2:=fun v u H Q2=>∃x y M Q,Den K H x v/\Den K H y u/\RelM K M H/\r x y M Q/\Back K H Q Q2
noncomputable def Gs(K:PySem.W.Frag)(r:D->MH->VK3->Prop):V->Hp->VK->Prop:=fun v H Q2=>∃x M Q,Den K H x v/\RelM K M H/\r x M Q/\Back K H Q Q2
noncomputable def GX(K:PySem.W.Frag)(r:List D->MH->VK3->Prop):List V->Hp->VK->Prop:=fun vs H Q2=>∃xs M Q,DenL K H xs vs/\RelM K M H/\r xs M Q/\Back K H Q Q2
section
variable {X:Cx}
theorem VO.op{f:Value->Value->Sem Value}{r:D->D->MH->VK3->Prop}(h:VO X f r):OpR X f (F4 X.K r):=fun pins s σ H v u v2 u2 Q2 I rv ru ⟨x,y,M,Q,dx,dy,rm,q,back⟩=>h pins s σ H x y v u v2 u2 M Q Q2 I rv ru dx dy rm q back
theorem VU.op{f:Value->Sem Value}{r:D->MH->VK3->Prop}(h:VU X f r):UnR X f (Gs X.K r):=fun pins s σ H v v2 Q2 I rv ⟨x,M,Q,dx,rm,q,back⟩=>h pins s σ H x v v2 M Q Q2 I rv dx rm q back
theorem VC.op{f:Value}{r:List D->MH->VK3->Prop}(h:VC X f r):CallR X f (GX X.K r):=fun pins s σ H vs us Q2 I rv ⟨xs,M,Q,dx,rm,q,back⟩=>h pins s σ H xs vs us M Q Q2 I rv dx rm q back
end
section
variable {K:PySem.W.Frag}
theorem mw{ta tb:St3->MH->VK3->XN->Prop}{R3:D->D->MH->Prop}{R2:V->V->Hp->Prop}(rm:RelM K M H)(ds:DenS K H σ3 σ)(lk:LkE K cls H E3 (E2 σ))
  (h:ta σ3 M (fun x M1=>tb σ3 M1 (fun y M2=>R3 x y M2) E3) E3) (k:∀v u H' x y M',Den K H' x v->Den K H' y u->RelM K M' H'->TM K H H'->R3 x y M'->R2 v u H') :
  low K cls E2 ta σ H fun v H1=>low K cls E2 tb σ H1 fun u H2=>R2 v u H2:=
 ⟨σ3,M,_,E3,rm,ds,lk,h,fun v H1 x M1 dv rm1 t1 h1=>⟨σ3,M1,_,E3,rm1,ds.mono t1,lk.mono t1,h1,fun u H2 y M2 du rm2 t2 h2=>k v u H2 x y M2 (dv.mono t2) du rm2 (t1.trans t2) h2⟩⟩
theorem bb{ta:St3->MH->VK3->XN->Prop}{R3:VK3}{R2:VK}(rm:RelM K M H)(ds:DenS K H σ3 σ)(lk:LkE K cls H E3 (E2 σ))(h:ta σ3 M R3 E3)(k:∀v H' x M',Den K H' x v->RelM K M' H'->TM K H H'->R3 x M'->R2 v H') :
  low K cls E2 ta σ H R2:=⟨σ3,M,R3,E3,rm,ds,lk,h,k⟩
end
section
variable {X:Cx}{cls:Nat->Addr}{E2:St->XK}{a b c e:Expr}{ta tb tc te:St3->MH->VK3->XN->Prop}{pos:Pos}
theorem A6{i:Nat}{x:Str}(hN:X.N[i]?=some x)(hv:Vis X.env.scope x)(hd:(x == ("__debug__" : Str))=false)(hcd:(x == ("__classdict__" : Str))=false) :
  PE X (.Name x pos) (low X.K cls E2 fun σ M Q _=>match σ[i]? with|some (some d)=>Q d M|_=>False):=
 (kI hN hv hd hcd).imp fun σ H Q2 hl_=>ex9 hl_ fun σ3 M Q E3 rm ds lk h back=>by
  try dsimp only at h
  split at h
  ·rename_i d e;obtain⟨v,e1,e2⟩:=ds.2 i d e;exact⟨v,e1,back _ _ _ _ e2 rm (.refl _) h⟩
  ·exact h.elim
theorem lR{v:V}{d:D}(h:PE X e (tC v))(hd:∀H,Den X.K H d v):PE X e (low X.K cls E2 fun _ M Q _=>Q d M):=
 h.imp fun σ H Q2 hl_=>ex9 hl_ fun σ3 M Q E3 rm ds lk h back=>back _ _ _ _ (hd H) rm (.refl _) h
theorem zD{op:Operator}{r:D->D->MH->VK3->Prop}(ho:VO X (binaryOp op) r)(ha:PE X a (low X.K cls E2 ta))(hb:PE X b (low X.K cls E2 tb)) :
  PE X (.BinOp a op b pos) (low X.K cls E2 fun σ M Q E=>ta σ M (fun x M1=>tb σ M1 (fun y M2=>r x y M2 Q) E) E):=
 (DI ho.op ha hb).imp fun σ H Q2 hl_=>ex9 hl_ fun σ3 M Q E3 rm ds lk h back=>mw rm ds lk h fun v u H' x y M' dx dy rm' t q=>⟨x,y,M',Q,dx,dy,rm',q,back.mono t⟩
theorem Gr{op:UnaryOp}{r:D->MH->VK3->Prop}(ho:VU X (unaryOp op) r)(ha:PE X a (low X.K cls E2 ta)) :
  PE X (.UnaryOp op a pos) (low X.K cls E2 fun σ M Q E=>ta σ M (fun x M1=>r x M1 Q) E):=
 (Em ho.op ha).imp fun σ H Q2 hl_=>ex9 hl_ fun σ3 M Q E3 rm ds lk h back=>bb rm ds lk h fun v H' x M' dx rm' t q=>⟨x,M',Q,dx,rm',q,back.mono t⟩
theorem DH{op:CmpOp}{r:D->D->MH->VK3->Prop}(ho:VO X (compareOp op) r)(ha:PE X a (low X.K cls E2 ta))(hb:PE X b (low X.K cls E2 tb))(hm:behindInMarks op b=false) :
  PE X (.Compare a [op] [b] pos) (low X.K cls E2 fun σ M Q E=>ta σ M (fun x M1=>tb σ M1 (fun y M2=>r x y M2 Q) E) E):=
 (tZ ho.op ha hb hm).imp fun σ H Q2 hl_=>ex9 hl_ fun σ3 M Q E3 rm ds lk h back=>mw rm ds lk h fun v u H' x y M' dx dy rm' t q=>⟨x,y,M',Q,dx,dy,rm',q,back.mono t⟩
noncomputable abbrev boolQ(Q:Bool->MH->Prop):VK3:=fun r M=>match r with
 |.bl k=>Q k M
 |_=>False
theorem dZ{K:PySem.W.Frag}{H:Hp}{Q:Bool->MH->Prop}{Q2:Bool->Hp->Prop}(k:∀b H' M',RelM K M' H'->TM K H H'->Q b M'->Q2 b H'):Back K H (boolQ Q) fun x H1=>∃k,x=.bl k/\Q2 k H1:=fun v H' d M' dv rm t q=>by
 unfold boolQ at q;split at q
 ·exact⟨_,dv,k _ _ _ rm t q⟩
 ·exact q.elim
theorem Dq{op:CmpOp}{r:D->D->MH->VK3->Prop}(ho:VO X (compareOp op) r)(ha:PE X a (low X.K cls E2 ta))(hb:PE X b (low X.K cls E2 tb))(hm:behindInMarks op b=false) :
  PT X (.Compare a [op] [b] pos) (cB X.K cls E2 fun σ M Q E=>ta σ M (fun x M1=>tb σ M1 (fun y M2=>r x y M2 (boolQ Q)) E) E):=
 (uD ho.op ha hb hm).imp fun σ H Q2 hl_=>ex9 hl_ fun σ3 M Q E3 rm ds lk h back=>mw rm ds lk h fun v u H' x y M' dx dy rm' t q=>⟨x,y,M',_,dx,dy,rm',q,(dZ back).mono t⟩
theorem Bs(ha:PE X a (low X.K cls E2 ta))(he:∀whole,isTrue a X.env whole=(do let v<-whole;standAt a.pos;holding [v] (truthy v))):PT X a (cB X.K cls E2 fun σ M Q E=>ta σ M (boolQ Q) E):=
 (vJ ha he).imp fun σ H Q2 hl_=>ex9 hl_ fun σ3 M Q E3 rm ds lk h back=>bb rm ds lk h fun v H' x M' dx rm' t q=>dZ back v H' x M' dx rm' t q
variable {tA tB:St3->MH->(Bool->MH->Prop)->XN->Prop}{rest:List Expr}
theorem jk{K:PySem.W.Frag}{σ:St}{H:Hp}{σ3:St3}{M:MH}{E3:XN}{R3:Bool->MH->Prop}{R2:Bool->Hp->Prop}(rm:RelM K M H)(ds:DenS K H σ3 σ)(lk:LkE K cls H E3 (E2 σ))(h:tA σ3 M R3 E3)(k:∀b H' M',RelM K M' H'->TM K H H'->R3 b M'->R2 b H') :
  cB K cls E2 tA σ H R2:=⟨σ3,M,R3,E3,rm,ds,lk,h,k⟩
theorem nG(ha:PT X a (cB X.K cls E2 tA)):PW X (.BoolOp .And [a] pos) (cB X.K cls E2 tA):=uC ha
theorem rZ(ha:PT X a (cB X.K cls E2 tA)):PW X (.BoolOp .Or [a] pos) (cB X.K cls E2 tA):=Aa ha
theorem nO(ha:PT X a (cB X.K cls E2 tA))(hb:PW X (.BoolOp .And (b::rest) pos) (cB X.K cls E2 tB)) :
  PW X (.BoolOp .And (a::b::rest) pos) (cB X.K cls E2 fun σ M Q E=>tA σ M (fun c M1=>if c=true then tB σ M1 Q E else Q false M1) E):=
 (zt ha hb).imp fun σ H Q2 hl_=>ex9 hl_ fun σ3 M Q E3 rm ds lk h back=>jk rm ds lk h fun c H' M' rm' t q=>by
  cases c with
  |true=>rw[if_pos rfl]at q ⊢;exact jk rm' (ds.mono t) (lk.mono t) q fun b H2 M2 r2 t2 q2=>back b H2 M2 r2 (t.trans t2) q2
  |false=>rw[if_neg Bool.false_ne_true]at q ⊢;exact back _ _ _ rm' t q
theorem tK(ha:PT X a (cB X.K cls E2 tA))(hb:PW X (.BoolOp .Or (b::rest) pos) (cB X.K cls E2 tB)) :
  PW X (.BoolOp .Or (a::b::rest) pos) (cB X.K cls E2 fun σ M Q E=>tA σ M (fun c M1=>if c=true then Q true M1 else tB σ M1 Q E) E):=
 (Ch ha hb).imp fun σ H Q2 hl_=>ex9 hl_ fun σ3 M Q E3 rm ds lk h back=>jk rm ds lk h fun c H' M' rm' t q=>by
  cases c with
  |true=>rw[if_pos rfl]at q ⊢;exact back _ _ _ rm' t q
  |false=>rw[if_neg Bool.false_ne_true]at q ⊢;exact jk rm' (ds.mono t) (lk.mono t) q fun b H2 M2 r2 t2 q2=>back b H2 M2 r2 (t.trans t2) q2
theorem A5(ha:PT X a (cB X.K cls E2 tA)):PT X (.UnaryOp .Not a pos) (cB X.K cls E2 fun σ M Q E=>tA σ M (fun c M1=>Q (!c) M1) E):=
 (yH ha).imp fun σ H Q2 hl_=>ex9 hl_ fun σ3 M Q E3 rm ds lk h back=>jk rm ds lk h fun c H' M' rm' t q=>back _ _ _ rm' t q
theorem u9(ha:PE X a (low X.K cls E2 ta))(hb:PE X (.BoolOp .And (b::rest) pos) (low X.K cls E2 tb)) :
  PE X (.BoolOp .And (a::b::rest) pos) (low X.K cls E2 fun σ M Q E=>ta σ M (fun x M1=>match x with|.bl c=>if c=true then tb σ M1 Q E else Q (.bl false) M1|_=>False) E):=
 (xt ha hb).imp fun σ H Q2 hl_=>ex9 hl_ fun σ3 M Q E3 rm ds lk h back=>bb rm ds lk h fun v H' x M' dx rm' t q=>by
  split at q
  ·rename_i c;cases (show v=.bl c from dx);refine⟨c,rfl,?_⟩;cases c with
   |true=>rw[if_pos rfl]at q ⊢;exact bb rm' (ds.mono t) (lk.mono t) q fun v2 H2 x2 M2 d2 r2 t2 q2=>back v2 H2 x2 M2 d2 r2 (t.trans t2) q2
   |false=>rw[if_neg Bool.false_ne_true]at q ⊢;exact back _ _ _ _ bn rm' t q
  ·exact q.elim
theorem CI(ha:PE X a (low X.K cls E2 ta))(hb:PE X (.BoolOp .Or (b::rest) pos) (low X.K cls E2 tb)) :
  PE X (.BoolOp .Or (a::b::rest) pos) (low X.K cls E2 fun σ M Q E=>ta σ M (fun x M1=>match x with|.bl c=>if c=true then Q (.bl true) M1 else tb σ M1 Q E|_=>False) E):=
 (By ha hb).imp fun σ H Q2 hl_=>ex9 hl_ fun σ3 M Q E3 rm ds lk h back=>bb rm ds lk h fun v H' x M' dx rm' t q=>by
  split at q
  ·rename_i c;cases (show v=.bl c from dx);refine⟨c,rfl,?_⟩;cases c with
   |true=>rw[if_pos rfl]at q ⊢;exact back _ _ _ _ bn rm' t q
   |false=>rw[if_neg Bool.false_ne_true]at q ⊢;exact bb rm' (ds.mono t) (lk.mono t) q fun v2 H2 x2 M2 d2 r2 t2 q2=>back v2 H2 x2 M2 d2 r2 (t.trans t2) q2
  ·exact q.elim
theorem DG(ha:PE X a (low X.K cls E2 ta)):PE X (.UnaryOp .Not a pos) (low X.K cls E2 fun σ M Q E=>ta σ M (fun x M1=>match x with|.bl c=>Q (.bl (!c)) M1|_=>False) E):=
 (Au ha).imp fun σ H Q2 hl_=>ex9 hl_ fun σ3 M Q E3 rm ds lk h back=>bb rm ds lk h fun v H' x M' dx rm' t q=>by
  split at q
  ·rename_i c;cases (show v=.bl c from dx);exact⟨c,rfl,back _ _ _ _ bn rm' t q⟩
  ·exact q.elim
theorem Gv(hc:PT X c (cB X.K cls E2 tA))(ha:PE X a (low X.K cls E2 ta))(hb:PE X b (low X.K cls E2 tb)) :
  PE X (.IfExp c a b pos) (low X.K cls E2 fun σ M Q E=>tA σ M (fun k M1=>if k=true then ta σ M1 Q E else tb σ M1 Q E) E):=
 (qr hc ha hb).imp fun σ H Q2 hl_=>ex9 hl_ fun σ3 M Q E3 rm ds lk h back=>jk rm ds lk h fun k H' M' rm' t q=>by
  cases k with
  |true=>rw[if_pos rfl]at q ⊢;exact bb rm' (ds.mono t) (lk.mono t) q fun v2 H2 x2 M2 d2 r2 t2 q2=>back v2 H2 x2 M2 d2 r2 (t.trans t2) q2
  |false=>rw[if_neg Bool.false_ne_true]at q ⊢;exact bb rm' (ds.mono t) (lk.mono t) q fun v2 H2 x2 M2 d2 r2 t2 q2=>back v2 H2 x2 M2 d2 r2 (t.trans t2) q2
theorem ut{op op':CmpOp}{r r':D->D->MH->VK3->Prop}(ho:VO X (compareOp op) r)(ho':VO X (compareOp op') r')(ha:PE X a (low X.K cls E2 ta))(hb:PE X b (low X.K cls E2 tb))(hc:PE X c (low X.K cls E2 tc))(hm:lastMarks [op,op'] [b,c]=false) :
  PE X (.Compare a [op,op'] [b,c] pos) (low X.K cls E2 fun σ M Q E=>ta σ M (fun x M1=>tb σ M1 (fun y M2=>r x y M2 fun z M3=>match z with
   |.bl k=>if k=true then tc σ M3 (fun z M4=>r' y z M4 Q) E else Q (.bl false) M3
   |_=>False) E) E):=
 (qK ho.op ho'.op ha hb hc hm).imp fun σ H Q2 hl_=>ex9 hl_ fun σ3 M Q E3 rm ds lk h back=>mw rm ds lk h fun v u H' x y M' dx dy rm' t q=>⟨x,y,M',_,dx,dy,rm',q,fun w H1 z M1 dz rm1 t1 q1=>by
  split at q1
  ·rename_i k;refine⟨k,dz,?_⟩;cases k with
   |true=>rw[if_pos rfl]at q1 ⊢;exact bb rm1 ((ds.mono t).mono t1) ((lk.mono t).mono t1) q1 fun v2 H2 x2 M2 d2 r2 t2 q2=>⟨y,x2,M2,Q,(dy.mono t1).mono t2,d2,r2,q2,(back.mono t).mono (t1.trans t2)⟩
   |false=>rw[if_neg Bool.false_ne_true]at q1 ⊢;exact back _ _ _ _ bn rm1 (t.trans t1) q1
  ·exact q1.elim⟩
theorem tV{op op':CmpOp}{r r':D->D->MH->VK3->Prop}(ho:VO X (compareOp op) r)(ho':VO X (compareOp op') r')(ha:PE X a (low X.K cls E2 ta))(hb:PE X b (low X.K cls E2 tb))(hc:PE X c (low X.K cls E2 tc))(hm:lastMarks [op,op'] [b,c]=false) :
  PT X (.Compare a [op,op'] [b,c] pos) (cB X.K cls E2 fun σ M Q E=>ta σ M (fun x M1=>tb σ M1 (fun y M2=>r x y M2 fun z M3=>match z with
   |.bl k=>if k=true then tc σ M3 (fun z M4=>r' y z M4 (boolQ Q)) E else Q false M3
   |_=>False) E) E):=
 (rX ho.op ho'.op ha hb hc hm).imp fun σ H Q2 hl_=>ex9 hl_ fun σ3 M Q E3 rm ds lk h back=>mw rm ds lk h fun v u H' x y M' dx dy rm' t q=>⟨x,y,M',_,dx,dy,rm',q,fun w H1 z M1 dz rm1 t1 q1=>by
  split at q1
  ·rename_i k;refine⟨k,dz,?_⟩;cases k with
   |true=>rw[if_pos rfl]at q1 ⊢;exact bb rm1 ((ds.mono t).mono t1) ((lk.mono t).mono t1) q1 fun v2 H2 x2 M2 d2 r2 t2 q2=>⟨y,x2,M2,_,(dy.mono t1).mono t2,d2,r2,q2,((dZ back).mono t).mono (t1.trans t2)⟩
   |false=>rw[if_neg Bool.false_ne_true]at q1 ⊢;exact⟨false,rfl,back _ _ _ rm1 (t.trans t1) q1⟩
  ·exact q1.elim⟩
noncomputable def uR(r r' r'':R2)(ta tb tc td:TE):TE:=fun σ H Q=>ta σ H fun x H1=>tb σ H1 fun y H2=>r x y H2 fun z H3=>∃k,z=.bl k/\
 (if k=true then tc σ H3 (fun w H4=>r' y w H4 fun z2 H5=>∃k2,z2=.bl k2/\(if k2=true then td σ H5 fun u H6=>r'' w u H6 Q else Q (.bl false) H5)) else Q (.bl false) H3)
theorem oU{a b c d:Expr}{ta tb tc td:TE}{op op' op'':CmpOp}{r r' r'':R2}(ho:OpR X (compareOp op) r)(ho':OpR X (compareOp op') r')(ho'':OpR X (compareOp op'') r'')(ha:PE X a ta)(hb:PE X b tb)(hc:PE X c tc)(hd:PE X d td)
  (hm:lastMarks [op,op',op''] [b,c,d]=false):PT X (.Compare a [op,op',op''] [b,c,d] pos) (rB (uR r r' r'' ta tb tc td)):=by
 intro pins s σ H Q I h;refine isTrue_chain (thn (ha pins s σ H _ I h) fun v s1 ⟨x,H1,I1,r1,q1⟩=>test_link (thn (hb pins s1 σ H1 _ I1 q1) fun u s2 ⟨y,H2,I2,r2,q2⟩=>
  thn (ho pins s2 σ H2 x y v u _ I2 r1 r2 q2) fun d s3 ⟨z,H3,I3,r3,k,e,q3⟩=>?_)) hm
 subst e;cases r3;refine wpAny_truthy_bool ?_;cases k with
 |false=>
  obtain⟨k',e',q'⟩:=q3;cases e';exact ite_ff ⟨H3,I3,q'⟩
 |true=>
  refine ite_tt (test_link (thn (hc pins s3 σ H3 _ I3 q3) fun w' s4 ⟨z',H4,I4,r4,q4⟩=>thn (ho' pins s4 σ H4 y z' u w' _ I4 r2 r4 q4) fun d' s5 ⟨z2,H5,I5,r5,k2,e2,q5⟩=>?_))
  subst e2;cases r5;refine wpAny_truthy_bool ?_;cases k2 with
  |false=>
   obtain⟨k',e',q'⟩:=q5;cases e';exact ite_ff ⟨H5,I5,q'⟩
  |true=>
   refine ite_tt (test_last (thn (hd pins s5 σ H5 _ I5 q5) fun w2 s6 ⟨z3,H6,I6,r6,q6⟩=>thn (ho'' pins s6 σ H6 z' z3 w' w2 _ I6 r4 r6 q6) fun d2 s7 ⟨z4,H7,I7,r7,k3,e3,q7⟩=>?_))
   subst e3;cases r7;exact wpAny_truthy_bool ⟨H7,I7,q7⟩
theorem qC{d:Expr}{td:St3->MH->VK3->XN->Prop}{op op' op'':CmpOp}{r r' r'':D->D->MH->VK3->Prop}(ho:VO X (compareOp op) r)(ho':VO X (compareOp op') r')(ho'':VO X (compareOp op'') r'')(ha:PE X a (low X.K cls E2 ta))(hb:PE X b (low X.K cls E2 tb))(hc:PE X c (low X.K cls E2 tc))(hd:PE X d (low X.K cls E2 td))(hm:lastMarks [op,op',op''] [b,c,d]=false) :
  PT X (.Compare a [op,op',op''] [b,c,d] pos) (cB X.K cls E2 fun σ M Q E=>ta σ M (fun x M1=>tb σ M1 (fun y M2=>r x y M2 fun z M3=>match z with
   |.bl k=>if k=true then tc σ M3 (fun z M4=>r' y z M4 fun o M5=>match o with
    |.bl k=>if k=true then td σ M5 (fun u M6=>r'' z u M6 (boolQ Q)) E else Q false M5
    |_=>False) E else Q false M3
   |_=>False) E) E):=
 (oU ho.op ho'.op ho''.op ha hb hc hd hm).imp fun σ H Q2 hl_=>ex9 hl_ fun σ3 M Q E3 rm ds lk h back=>mw rm ds lk h fun v u H' x y M' dx dy rm' t q=>⟨x,y,M',_,dx,dy,rm',q,fun w H1 z M1 dz rm1 t1 q1=>by
  split at q1
  ·rename_i k;refine⟨k,dz,?_⟩;cases k with
   |true=>
    rw[if_pos rfl]at q1 ⊢;refine bb rm1 ((ds.mono t).mono t1) ((lk.mono t).mono t1) q1 fun v2 H2 x2 M2 d2 r2 t2 q2=>⟨y,x2,M2,_,(dy.mono t1).mono t2,d2,r2,q2,fun w3 H3 z3 M3 dz3 rm3 t3 q3=>?_⟩
    split at q3
    ·rename_i k;refine⟨k,dz3,?_⟩;cases k with
     |true=>
      rw[if_pos rfl]at q3 ⊢;exact bb rm3 ((((ds.mono t).mono t1).mono t2).mono t3) ((((lk.mono t).mono t1).mono t2).mono t3) q3 fun v4 H4 x4 M4 d4 r4 t4 q4=>⟨x2,x4,M4,_,(d2.mono t3).mono t4,d4,r4,q4,(((dZ back).mono t).mono (t1.trans t2)).mono (t3.trans t4)⟩
     |false=>rw[if_neg Bool.false_ne_true]at q3 ⊢;exact⟨false,rfl,back _ _ _ rm3 (((t.trans t1).trans t2).trans t3) q3⟩
    ·exact q3.elim
   |false=>rw[if_neg Bool.false_ne_true]at q1 ⊢;exact⟨false,rfl,back _ _ _ rm1 (t.trans t1) q1⟩
  ·exact q1.elim⟩
variable {es:List Expr}{tr:St3->MH->(List D->MH->Prop)->XN->Prop}
theorem dD{K:PySem.W.Frag}{σ:St}{H:Hp}{σ3:St3}{M:MH}{E3:XN}{R3:List D->MH->Prop}{R2:List V->Hp->Prop}(rm:RelM K M H)(ds:DenS K H σ3 σ)(lk:LkE K cls H E3 (E2 σ))(h:tr σ3 M R3 E3)(k:∀vs H' xs M',DenL K H' xs vs->RelM K M' H'->TM K H H'->R3 xs M'->R2 vs H') :
  cZ K cls E2 tr σ H R2:=⟨σ3,M,R3,E3,rm,ds,lk,h,k⟩
theorem DZ:PA X [] (cZ X.K cls E2 fun _ M Q _=>Q [] M):=pa_nil.imp fun σ H Q2 hl_=>ex9 hl_ fun σ3 M Q E3 rm ds lk h back=>back _ _ _ _ .nil rm (.refl _) h
theorem wb(ha:PE X e (low X.K cls E2 te))(hr:PA X es (cZ X.K cls E2 tr))(hs:starEach (e::es) X.env=(false,eval e X.env)::starEach es X.env) :
  PA X (e::es) (cZ X.K cls E2 fun σ M Q E=>te σ M (fun x M1=>tr σ M1 (fun xs M2=>Q (x::xs) M2) E) E):=
 (bD ha hr hs).imp fun σ H Q2 hl_=>ex9 hl_ fun σ3 M Q E3 rm ds lk h back=>bb rm ds lk h fun v H1 x M1 dx rm1 t1 q1=>dD rm1 (ds.mono t1) (lk.mono t1) q1 fun vs H2 xs M2 dl rm2 t2 q2=>back _ _ _ _ (.cons (dx.mono t2) dl) rm2 (t1.trans t2) q2
theorem Df{x1}(h:PA X es (cZ X.K cls E2 tr)):PE X (.Tuple es x1 pos) (low X.K cls E2 fun σ M Q E=>tr σ M (fun xs M1=>xs.length<=sizeLine/\Q (.tup xs) M1) E):=
 (yb h).imp fun σ H Q2 hl_=>ex9 hl_ fun σ3 M Q E3 rm ds lk h back=>dD rm ds lk h fun vs H' xs M' dl rm' t ⟨z,q⟩=>⟨by rw[<-dl.length];exact z,fun p hp=>
  back _ _ _ _ (nE (.of ah) (dl.mono (.new hp))) (rm'.grow hp) (t.trans (.new hp)) q⟩
theorem BZ{t2:TE}(h:PE X e t2){t:St3->MH->VK3->XN->Prop}{fz:Bool}
  (f:∀σ H σ3 M Q E3 (R2:VK),RelM X.K M H->DenS X.K H σ3 σ->LkE X.K cls H E3 (E2 σ)->t σ3 M Q E3->(∀H' vs ds M' p,H' p=none->DenL X.K H' ds vs->RelM X.K M' H'->TM X.K H H'->cK fz ds M' Q->R2 (.ref p) (upd H' p (.lst vs)))->t2 σ H R2):PE X e (low X.K cls E2 t):=by
 refine fun pins s σ H Q2 I hl_=>ex9 hl_ fun σ3 M Q E3 rm ds lk q back=>?_
 refine thn (h pins s σ H (fun v H1=>∃p H' vs ds M',v=.ref p/\H1=upd H' p (.lst vs)/\H' p=none/\DenL X.K H' ds vs/\RelM X.K M' H'/\TM X.K H H'/\cK fz ds M' Q) I
  (f σ H σ3 M Q E3 _ rm ds lk q fun H' vs ds M' p hp dl rm' t' n=>⟨p,H',vs,ds,M',rfl,rfl,hp,dl,rm',t',n⟩)) fun u s1 ⟨v,H1,I1,r1,p,H',vs,ds',M',e1,e2,hp,dl,rm',t',n⟩=>?_
 subst e1;subst e2;cases r1;exact cF I1 hp dl rm' t' n back
theorem BL(h:PA X es (cZ X.K cls E2 tr)):PE X (.List es pos) (low X.K cls E2 fun σ M Q E=>tr σ M (fun xs M1=>cK fz xs M1 Q) E):=
 BZ (fz:=fz) (vH h) fun σ H σ3 M Q E3 R2 rm ds lk q k=>dD rm ds lk q fun vs H' xs M' dl rm' t n=>⟨by rw[<-dl.length];exact n.1,fun p hp=>k H' vs xs M' p hp dl rm' t n⟩
theorem wc(hu:X.A.units+64 < cLine):IxR X (fun v u H Q2=>∃x y M Q,Den X.K H x v/\Den X.K H y u/\RelM X.K M H/\aE x y M Q/\Back X.K H Q Q2):=by
 intro value slice pins s σ H v u v2 u2 Q2 I rv ru ⟨x,y,M,Q,dx,dy,rm,q,back⟩ hs;unfold aE at q;split at q
 ·rename_i es e;split at q
  ·rename_i i;cases (show u=.int i from dy);split at q
   ·rename_i d e2;obtain⟨p,vs,rfl,hq,dl⟩:=fR rm e dx;obtain⟨w,e4,e5⟩:=t6 dl e2;refine xy value slice pins s σ H _ _ v2 u2 Q2 I rv ru ?_ hs;rcases hq with hq|hq
    ·exact .inl ⟨p,vs,i,w,rfl,rfl,hq,e4,back _ _ _ _ e5 rm (.refl _) q⟩
    ·exact .inr (.inl ⟨p,vs,i,w,rfl,rfl,hq,e4,back _ _ _ _ e5 rm (.refl _) q⟩)
   ·exact q.elim
  ·exact q.elim
 ·split at q
  ·rename_i d e;obtain⟨a,ov,rfl,g,od⟩:=dJ (X:=X) e rm dx dy;cases rv;cases ov with
   |none=>exact od.elim
   |some w=>exact tail_any (g.isDict I) PySem.F.slot_dict_getitem.lookup (oF (by omega) I g rfl ru fun w' s' I' rw'=>⟨w,H,I',rw',back _ _ _ _ od rm (.refl _) q⟩) hs
  ·exact q.elim
  ·split at q
   ·rename_i z i _ _;cases (show v=.str z from dx);cases (show u=.int i from dy);obtain⟨t,rfl⟩:=rv;obtain⟨t',rfl⟩:=ru;obtain⟨⟨h0,h1,h63⟩,q⟩:=q;have e:seqIndex? i z.length=some i.toNat:=PySem.StrLaws.seqIndex_nonneg h0 h1;have hz:i.toNat < z.cps.size:=by
     have:(i:Int) < (z.cps.size:Int):=h1;omega
    have hc:z.cps[i.toNat]?=some (z.cps.getD i.toNat 0):=by simp[hz]
    exact tail_any (typeIs_str s z t) slot_str_getitem.lookup (getItem_str (c:=z.cps.getD i.toNat 0) (by
     rw[decide_eq_false (by omega:¬ i < -(2 ^ 63:Int)),decide_eq_false (by omega:¬ i>=2 ^ 63)];rfl) (by rw[e];exact hc) ⟨.str (uX z i.toNat),H,I.tok _,⟨_,rfl⟩,back _ _ _ _ g9 rm (.refl _) q⟩) hs
   ·exact q.elim
theorem Gg(hu:X.A.units+64 < cLine)(ha:PE X a (low X.K cls E2 ta))(hb:PE X b (low X.K cls E2 tb))(hs:kz b):PE X (.Subscript a b pos) (low X.K cls E2 fun σ M Q E=>ta σ M (fun x M1=>tb σ M1 (fun y M2=>aE x y M2 Q) E) E):=
 (Dw (wc hu) ha hb hs).imp fun σ H Q2 hl_=>ex9 hl_ fun σ3 M Q E3 rm ds lk h back=>mw rm ds lk h fun v u H' x y M' dx dy rm' t q=>⟨x,y,M',Q,dx,dy,rm',q,back.mono t⟩
variable {lo hi:Option Expr}{tl th:St3->MH->(Option Int->MH->Prop)->XN->Prop}{p2:Pos}
theorem Gm:PO X none (ph X.K cls E2 fun _ M Q _=>Q none M):=po_none.imp fun σ H Q2 hl_=>ex9 hl_ fun σ3 M Q E3 rm ds lk h back=>back _ _ _ rm (.refl _) h
theorem BH(h:PE X e (low X.K cls E2 te)):PO X (some e) (ph X.K cls E2 fun σ M Q E=>te σ M (fun x M1=>match x with|.int i=>Q (some i) M1|_=>False) E):=
 (sN h).imp fun σ H Q2 hl_=>ex9 hl_ fun σ3 M Q E3 rm ds lk h back=>bb rm ds lk h fun v H1 x M1 dx rm1 t1 q1=>by
  split at q1
  ·exact⟨_,dx,back _ _ _ rm1 t1 q1⟩
  ·exact q1.elim
theorem uU{t:St3->MH->(Option Int->MH->Prop)->XN->Prop}{K:PySem.W.Frag}{σ:St}{H:Hp}{σ3:St3}{M:MH}{E3:XN}{R3:Option Int->MH->Prop}{R2:Option Int->Hp->Prop}(rm:RelM K M H)(ds:DenS K H σ3 σ)(lk:LkE K cls H E3 (E2 σ))(h:t σ3 M R3 E3)(k:∀o H' M',RelM K M' H'->TM K H H'->R3 o M'->R2 o H') :
  ph K cls E2 t σ H R2:=⟨σ3,M,R3,E3,rm,ds,lk,h,k⟩
theorem Ds(ha:PE X a (low X.K cls E2 ta))(hb:PE X b (low X.K cls E2 tb)) :
  PE X (.BinOp a .Add b pos) (low X.K cls E2 fun σ M Q E=>ta σ M (fun x M1=>tb σ M1 (fun y M2=>fF fz x y M2 Q) E) E):=zD (xK fz) ha hb
theorem BY(h:PE X e (low X.K cls E2 te)):PE X e (low X.K cls E2 fun σ M Q E=>te σ M (bv Q) E):=by
 refine fun pins s σ H Q2 I hl_=>ex9 hl_ fun σ3 M Q E3 rm ds lk q back=>?_
 refine thn (h pins s σ H (fun v H1=>∃d M1,Den X.K H1 d v/\RelM X.K M1 H1/\TM X.K H H1/\bv Q d M1) I ⟨σ3,M,_,E3,rm,ds,lk,q,fun v H' d M' a b c e=>⟨d,M',a,b,c,e⟩⟩) fun u s1 ⟨v,H1,I1,r1,d,M1,dv,rm1,t1,q1⟩=>?_
 obtain⟨H2,M2,d2,I2,t2,rm2,dv2,q2⟩:=kY I1 rm1 dv q1;exact⟨v,H2,I2,r1,back _ _ _ _ dv2 rm2 (t1.trans t2) q2⟩
theorem wo(h:PE X e (low X.K cls E2 te)):PE X e (low X.K cls E2 fun σ M Q E=>te σ M (eW Q) E):=by
 refine fun pins s σ H Q2 I hl_=>ex9 hl_ fun σ3 M Q E3 rm ds lk q back=>?_
 refine thn (h pins s σ H (fun v H1=>∃d M1,Den X.K H1 d v/\RelM X.K M1 H1/\TM X.K H H1/\eW Q d M1) I ⟨σ3,M,_,E3,rm,ds,lk,q,fun v H' d M' a b c e=>⟨d,M',a,b,c,e⟩⟩) fun u s1 ⟨v,H1,I1,r1,d,M1,dv,rm1,t1,q1⟩=>?_
 have q1:bv Q d M1:=by
  unfold eW at q1;split at q1
  ·split at q1
   ·rename_i a ds' e;simp only[bv,e];exact q1
   ·exact q1.elim
  ·exact q1.elim
 obtain⟨H2,M2,d2,I2,t2,rm2,dv2,q2⟩:=kY I1 rm1 dv q1;exact⟨v,H2,I2,r1,back _ _ _ _ dv2 rm2 (t1.trans t2) q2⟩
end
end L2
namespace L2
open PySem PySem.Spec PyProof.Rows
theorem rF{K:PySem.W.Frag}(h:CX1 P w outer H s (fun c d H'=>TM K H H'->E c d H') e s'):CX1 P w outer H s E e s':=by
 obtain⟨a,cls,B,H',dx,h1,h2,h3,un,hok,fl,ha,inc,he⟩:=h;exact⟨a,cls,B,H',dx,h1,h2,h3,un,hok,fl,ha,inc,he (.un un.tups un.frzs)⟩
section
variable {X:Cx}{cls:Nat->Addr}{E2:St->XK}{k:Nat}{f:Addr}{fd:FuncData}{ps:List Str}{x:Str}{p pos:Pos}{e:Expr}{es:List Expr}{tr:St3->MH->(List D->MH->Prop)->XN->Prop}{t3:List D->MH->VK3->XN->Prop}
noncomputable def spX(K:PySem.W.Frag)(cls:Nat->Addr)(t3:List D->MH->VK3->XN->Prop):Sp:=fun vs H Q E=>∃ds M Q3 E3,DenL K H ds vs/\RelM K M H/\t3 ds M Q3 E3/\Back K H Q3 Q/\LkE K cls H E3 E
noncomputable def BdT(K:PySem.W.Frag)(cls:Nat->Addr)(fd:FuncData)(ps:List Str)(t3:List D->MH->VK3->XN->Prop)(sp:Sp):Prop:=∀vs H Q E,spX K cls t3 vs H Q E->∃dvs ds,Vals dvs ds/\Binds K fd ps ds/\sp (vs++dvs) H Q E
theorem fg(F:FnOk X.prog X.w X.K X.mg X.base (CX1 X.prog X.w) k f fd ps sp)(hr:Room k X.A)(hb:BdT X.K cls fd ps t3 sp)(hx:aS (CX1 X.prog X.w) X E2)
  (I:Inv X pins σ H s)(r:Vals vs us) (h:spX X.K cls t3 vs H Q (fun c d H'=>TM X.K H H'->E2 σ c d H')):wpAny (model X.prog X.w) X.A (call (.ref f) us) (EP X pins σ Q) X.xe s:=by
 obtain⟨dvs,dsv,hv,bd,h'⟩:=hb _ _ _ _ h;have r2:Vals (vs++dvs) (us++dsv):=r.append hv;have hl:(us++dsv).length=ps.length:=by rw[<-r2.length];exact F.len _ _ _ _ h'
 refine wpAny_call (codeAny_mono (F.run X.A X.stack s H ⟨us,[]⟩ (us++dsv) (vs++dvs) Q _ hr I.env0 (bd s us I.kIn hl) r2 h') fun z s' hq=>?_)
 match z,hq with
 |.error e,hq=>exact hx pins σ H s e s' I (rF hq)
 |.ok (.ret u),hq=>exact I.after hq
 |.ok .next,hq=>exact hq.elim
 |.ok .brk,hq=>exact hq.elim
 |.ok .cont,hq=>exact hq.elim
theorem ig{σ:St}{H:Hp}{xs:List D}{vs:List V}{M:MH}{Q:VK3}{Q2:VK}{E3:XN}(dl:DenL X.K H xs vs)(rm:RelM X.K M H)(lk:LkE X.K cls H E3 (E2 σ))(q:t3 xs M Q E3)(back:Back X.K H Q Q2) :
  spX X.K cls t3 vs H Q2 (fun c d H'=>TM X.K H H'->E2 σ c d H'):=
 ⟨xs,M,Q,E3,dl,rm,q,back,fun i M' H' t rm' q dx xd _=>lk i M' H' t rm' q dx xd⟩
theorem w5(F:FnOk X.prog X.w X.K X.mg X.base (CX1 X.prog X.w) k f fd ps sp)(hr:Room k X.A)(hg:Gl X x)(hm:X.mg x=some (.ref f))(hk:PySem.W.keepIn X.K (.ref f)=true)(hb:BdT X.K cls fd ps t3 sp)(hx:aS (CX1 X.prog X.w) X E2)
  (ha:PA X (e::es) (cZ X.K cls E2 tr)) (hdb:(x == ("__debug__" : Str))=false) (he:starEach (e::es) X.env=(false,eval e X.env)::starEach es X.env) (hpl:(backTo pos (starEach es X.env)).any (·.1)=false) :
  PE X (.Call (.Name x p) (e::es) [] pos) (low X.K cls E2 fun σ M Q E=>tr σ M (fun xs M1=>t3 xs M1 Q E) E):=fun pins s σ H Q2 I hl_=>ex9 hl_ fun σ3 M Q E3 rm ds lk h back=>
 wpAny_Call_Name_kw (bB I hg hm (PySem.W.callWith_K (h₀:=X.base) I.ok.mod.kin hk (thn (ha pos pins s σ H _ I (dD (R2:=fun vs H1=>spX X.K cls t3 vs H1 Q2 (fun c d H'=>TM X.K H1 H'->E2 σ c d H')) rm ds lk h
  fun vs H1 xs M1 dl rm1 t1 q1=>ig dl rm1 (lk.mono t1) q1 (back.mono t1))) fun us s1 ⟨vs,H1,I1,r,q⟩=>⟨I1.kIn,fg F hr hb hx I1 r q⟩) he hpl) hdb)
theorem ua(F:FnOk X.prog X.w X.K X.mg X.base (CX1 X.prog X.w) k f fd ps sp)(hr:Room k X.A)(hg:Gl X x)(hm:X.mg x=some (.ref f))(hk:PySem.W.keepIn X.K (.ref f)=true)(hb:BdT X.K cls fd ps t3 sp)(hx:aS (CX1 X.prog X.w) X E2)(hdb:(x == ("__debug__" : Str))=false) :
  PE X (.Call (.Name x p) [] [] pos) (low X.K cls E2 fun σ M Q E=>t3 [] M Q E):=fun pins s σ H Q2 I hl_=>ex9 hl_ fun σ3 M Q E3 rm ds lk h back=>
 wpAny_Call_Name_kw (bB I hg hm (PySem.W.callWith_K0 I.kIn hk (fg (us:=[]) F hr hb hx I .nil (ig (xs:=[]) .nil rm lk h back))) hdb)
theorem kT{id:String}(hc:VC X (.builtin id) r)(hg:Gl X x)(hm:X.mg x=none)(hv:bootBuiltins x=some (.builtin id))(ha:PA X (e::es) (cZ X.K cls E2 tr))(hn:x≠"__name__")(hdb:(x == ("__debug__" : Str))=false)
  (he:starEach (e::es) X.env=(false,eval e X.env)::starEach es X.env) (hpl:(backTo pos (starEach es X.env)).any (·.1)=false):PE X (.Call (.Name x p) (e::es) [] pos) (low X.K cls E2 fun σ M Q E=>tr σ M (fun xs M1=>r xs M1 Q) E):=
 (fJ hc.op hg hm hv ha hn hdb he hpl).imp fun σ H Q2 hl_=>ex9 hl_ fun σ3 M Q E3 rm ds lk h back=>dD rm ds lk h fun vs H1 xs M1 dl rm1 t1 q1=>⟨xs,M1,Q,dl,rm1,q1,back.mono t1⟩
theorem t9(hc:VC X (.type T) r)(hg:Gl X x)(hm:X.mg x=none)(hv:bootBuiltins x=some (.type T))(ha:PA X (e::es) (cZ X.K cls E2 tr))(hn:x≠"__name__")(hdb:(x == ("__debug__" : Str))=false)
  (he:starEach (e::es) X.env=(false,eval e X.env)::starEach es X.env) (hpl:(backTo pos (starEach es X.env)).any (·.1)=false):PE X (.Call (.Name x p) (e::es) [] pos) (low X.K cls E2 fun σ M Q E=>tr σ M (fun xs M1=>r xs M1 Q) E):=
 (pi hc.op hg hm hv ha hn hdb he hpl).imp fun σ H Q2 hl_=>ex9 hl_ fun σ3 M Q E3 rm ds lk h back=>dD rm ds lk h fun vs H1 xs M1 dl rm1 t1 q1=>⟨xs,M1,Q,dl,rm1,q1,back.mono t1⟩
noncomputable def cj:BT->String
 |.int=>"int"|.bool=>"bool"|.str=>"str"|.tuple=>"tuple"|.list=>"list"|.dict=>"dict"
theorem vN{pins:List (Addr×Obj)}{σ:St}{H:Hp}{s:Shared}{A:Around}{Ex:Value->Shared->Prop}{t:BT}{x:D}{v:V}{v2:Value}{M:MH}{Q:VK3}{Q2:VK}(I:Inv X pins σ H s)(rv:RelV v v2)(dx:Den X.K H x v)(rm:RelM X.K M H)(q:kF t x M Q)(back:Back X.K H Q Q2) :
  wpAny (model X.prog X.w) A (call (.builtin "isinstance") [v2,.type (cj t)]) (EP X pins σ Q2) Ex s:=by
 have fin:∀b,Q (.bl b) M->∀tk,EP X pins σ Q2 (.bool b) {s with toks:=tk}:=fun b q tk=>⟨.bl b,H,I.tok _,rfl,back _ _ _ _ bn rm (.refl _) q⟩
 cases x with
 |non=>cases (show v=.non from dx);cases rv;cases t<;>exact PySem.W.kia_one PySem.W.kitx_none I.kIn True.intro rfl (fun z=>nomatch z) (fin _ q)
 |bl b=>cases (show v=.bl b from dx);cases rv;cases t<;>exact PySem.W.kia_one PySem.W.kitx_bool I.kIn True.intro rfl (fun z=>nomatch z) (fin _ q)
 |int i=>cases (show v=.int i from dx);obtain⟨tk,rfl⟩:=rv;cases t<;>exact PySem.W.kia_one PySem.W.kitx_int I.kIn True.intro rfl (fun z=>nomatch z) (fin _ q)
 |str i=>cases (show v=.str i from dx);obtain⟨tk,rfl⟩:=rv;cases t<;>exact PySem.W.kia_one PySem.W.kitx_str I.kIn True.intro rfl (fun z=>nomatch z) (fin _ q)
 |tup ds=>
  obtain⟨a,vs,rfl,sq,_⟩:=dx;cases rv;obtain⟨its,_,tt,_⟩:=I.tuple sq;obtain⟨o,h1,h2,_⟩:=(show s.heap.IsTuple a its.toArray from tt);cases t<;>exact PySem.W.kia_one PySem.W.kitx_tuple I.kIn ⟨o,h1,h2⟩ rfl (fun z=>nomatch z) (fin _ q)
 |rol ds=>
  obtain⟨a,vs,rfl,sq,_⟩:=dx;cases rv;obtain⟨_,its,n,_,_,h1⟩:=I.rdL sq.rd;cases t<;>exact PySem.W.kia_one PySem.W.kitx_list I.kIn ⟨_,h1,rfl⟩ rfl (fun z=>nomatch z) (fin _ q)
 |ref a=>
  cases (show v=.ref a from dx);cases rv;simp only[kF]at q;split at q
  ·rename_i ds e;obtain⟨vs,e1,_⟩:=rm a _ e;obtain⟨_,its,n,_,_,h1⟩:=I.rdL (.inl (.inl e1));cases t<;>exact PySem.W.kia_one PySem.W.kitx_list I.kIn ⟨_,h1,rfl⟩ rfl (fun z=>nomatch z) (fin _ q)
  ·rename_i ks ds e;obtain⟨vs,e1,_,_⟩:=rm a _ e;obtain⟨_,_,_,_,o,_,_,h1,h2,_⟩:=I.hok a _ e1;cases t<;>exact PySem.W.kia_one PySem.W.kitx_dict I.kIn ⟨o,h1,h2.1⟩ rfl (fun z=>nomatch z) (fin _ q)
  ·rename_i ks ds e;obtain⟨vs,xs,e1,_⟩:=rm a _ e;obtain⟨⟨o,es,ep,h1,h2,_⟩,_⟩:=(show ObjOk X.prog X.w H s.heap a (.ext (cL a xs)) from I.hok a _ e1);cases t<;>exact PySem.W.kia_one PySem.W.kitx_dict I.kIn ⟨o,h1,h2.1⟩ rfl (fun z=>nomatch z) (fin _ q)
  ·exact q.elim
 |dik ks ds=>
  obtain⟨a,vs,ob,rfl,e1,_⟩:=dx;cases rv;obtain⟨_,_,_,ws,_,p⟩:=(show ObjOk X.prog X.w H s.heap a (.frz ob (.dK (ks.zip vs))) from I.hok a _ e1);obtain⟨o,es,ep,h1,h2,_⟩:=p;cases t<;>exact PySem.W.kia_one PySem.W.kitx_dict I.kIn ⟨o,h1,h2.1⟩ rfl (fun z=>nomatch z) (fin _ q)
 |dit ks ds=>
  obtain⟨a,vs,ob,xs,rfl,e1,_⟩:=dx;cases rv;obtain⟨_,⟨o,es,ep,h1,h2,_⟩,_⟩:=(show ObjOk X.prog X.w H s.heap a (.frz ob (.ext (cL a xs))) from I.hok a _ e1);cases t<;>exact PySem.W.kia_one PySem.W.kitx_dict I.kIn ⟨o,h1,h2.1⟩ rfl (fun z=>nomatch z) (fin _ q)
 |obj i C ns ds=>exact (show False from q).elim
theorem AU(ha:PE X e (low X.K cls E2 te))(hg:Gl X "isinstance")(hm:X.mg "isinstance"=none)(hg2:Gl X (cj t))(hm2:X.mg (cj t)=none)(hs:starEach (e::[.Name (cj t) p2]) X.env=(false,eval e X.env)::starEach [.Name (cj t) p2] X.env) :
  PE X (.Call (.Name "isinstance" p) [e,.Name (cj t) p2] [] pos) (low X.K cls E2 fun σ M Q E=>te σ M (fun x M1=>kF t x M1 Q) E):=by
 have hT:PE X (.Name (cj t) p2) (tC (.ty (cj t))):=by
  cases t<;>exact tE hg2 hm2 (by decide +kernel) rfl
 have hc:CallR X (.builtin "isinstance") (fun vs H Q2=>∃x v M Q,vs=[v,.ty (cj t)]/\Den X.K H x v/\RelM X.K M H/\kF t x M Q/\Back X.K H Q Q2):=by
  refine fun pins s σ H vs us Q2 I r hl_=>ex9 hl_ fun x v M Q e dx rm q back=>?_
  subst e;obtain⟨u,w,rfl,ru,rw⟩:=Vals.two r;cases (show w=Value.type (cj t) from rw);exact vN I ru dx rm q back
 refine (fJ hc hg hm (by decide +kernel) (bD ha (bD hT pa_nil (by rfl)) hs) (by decide +kernel) (by decide +kernel) hs (by rfl)).imp fun σ H Q2 hl_=>ex9 hl_ fun σ3 M Q E3 rm ds lk h back=>?_
 exact bb rm ds lk h fun v H1 x M1 dx rm1 t1 q1=>⟨x,v,M1,Q,rfl,dx,rm1,q1,back.mono t1⟩
end
section
variable {X:Cx}
theorem Aw{K:PySem.W.Frag}(sq:SqT K H0 p vs)(dl:DenL K H0 ds vs):ItOk K H0 (Itt K p) ds (fun _=>True):=by
 refine⟨fun i H M t rm s hi=>?_,fun i H M x H' t rm s hi y=>?_,fun H M t rm s=>?_⟩
 ·have hi':i < vs.length:=by rw[<-dl.length];exact hi
  exact⟨vs,vs[i],t.t _ _ sq,by simp[hi']⟩
 ·obtain⟨e,y⟩:=y;subst e;obtain⟨d,e1,e2⟩:=(dl.mono t).get' (y vs (t.t _ _ sq));exact⟨.refl _,rm,d,e1,e2⟩
 ·exact⟨vs,t.t _ _ sq,by rw[dl.length];exact Nat.le_refl _⟩
theorem vK{K:PySem.W.Frag}(sq:SqF K H0 p vs)(dl:DenL K H0 ds vs):ItOk K H0 (Itl K p) ds (fun _=>True):=by
 refine⟨fun i H M t rm s hi=>?_,fun i H M x H' t rm s hi y=>?_,fun H M t rm s=>?_⟩
 ·have hi':i < vs.length:=by rw[<-dl.length];exact hi
  exact⟨vs,vs[i],(t.f _ _ sq).sq,by simp[hi']⟩
 ·obtain⟨e,y⟩:=y;subst e;obtain⟨d,e1,e2⟩:=(dl.mono t).get' (y vs (t.f _ _ sq).sq);exact⟨.refl _,rm,d,e1,e2⟩
 ·exact⟨vs,(t.f _ _ sq).sq,by rw[dl.length];exact Nat.le_refl _⟩
theorem wM{K:PySem.W.Frag}:ItOk K H0 (Itl K p) ds (fun M=>M p=some (.lst ds)):=by
 refine⟨fun i H M t rm s hi=>?_,fun i H M x H' t rm s hi y=>?_,fun H M t rm s=>?_⟩
 ·obtain⟨vs,e,dl⟩:=rm p _ s;have hi':i < vs.length:=by rw[<-dl.length];exact hi
  exact⟨vs,vs[i],.of e,by simp[hi']⟩
 ·obtain⟨vs,e,dl⟩:=rm p _ s;obtain⟨e',y⟩:=y;subst e';obtain⟨d,e1,e2⟩:=dl.get' (y vs (.of e));exact⟨.refl _,rm,d,e1,e2⟩
 ·obtain⟨vs,e,dl⟩:=rm p _ s;exact⟨vs,.of e,by rw[dl.length];exact Nat.le_refl _⟩
theorem jY(I:Inv X pins σ H s)(hq:SqL X.K H a xs)(q:R (Itl X.K a) H):wpAny (model X.prog X.w) X.A (pyIter (.ref a)) (PIE X pins σ tg R) Ex s:=by
 obtain⟨its,rv,p,hz⟩:=I.list hq;refine wpAny_pyIter_list p.isList ?_;refine⟨s.heap.objs.size,[s.heap.objs.size],_,_,H,rfl,I.kept (t':=s.toks) fun b o e=>Heap.get?_push_of_some _ e,ox a _,⟨_,Heap.get?_push_size _ rfl,rfl,rfl⟩,fun b hb=>?_,q⟩
 have e:b=s.heap.objs.size:=by simpa using hb
 subst e;exact I.fpOk (Nat.le_refl _) (I.hok.fresh (Nat.le_refl _))
theorem rG(I:Inv X pins σ H s)(hq:SqT X.K H a xs)(q:R (Itt X.K a) H):wpAny (model X.prog X.w) X.A (pyIter (.ref a)) (PIE X pins σ tg R) Ex s:=by
 obtain⟨its,rv,p,hz⟩:=I.tuple hq;refine wpAny_pyIter_tuple (show s.heap.IsTuple a its.toArray from p) ?_;refine⟨s.heap.objs.size,[s.heap.objs.size],_,_,H,rfl,I.kept (t':=s.toks) fun b o e=>Heap.get?_push_of_some _ e,mO a _,⟨_,Heap.get?_push_size _ rfl,rfl,rfl⟩,fun b hb=>?_,q⟩
 have e:b=s.heap.objs.size:=by simpa using hb
 subst e;exact I.fpOk (Nat.le_refl _) (I.hok.fresh (Nat.le_refl _))
noncomputable def uB(z:Str):It:=⟨fun i _=>i < z.cps.size,fun i H x H'=>H'=H/\∃c,z.cps[i]?=some c/\x=.str ⟨#[c]⟩,fun i _=>z.cps.size<=i⟩
theorem qp{K:PySem.W.Frag}(it:Addr)(z:Str)(t:Tok)(ty:String)(hty:ty = "str_ascii_iterator"\/ty = "str_iterator"):Turn P w K tg (uB z) [it] it (fun i h=>h.IsStrIter it ty z t i) where
 mem:=by simp
 obj:=fun i h st b hb=>by
  have e:b=it:=by simpa using hb
  subst e;obtain⟨o,e,c,d⟩:=st;exact⟨o,e,fun v z=>by rw[d]at z;cases z⟩
 keep:=fun i h h' st k=>let ⟨o,e,r⟩:=st;⟨o,k it (by simp) o e,r⟩
 item:=by
  intro X hP hw hK hc i pins s σ H E I hf st hg;subst hP hw hK;have hi:i < z.cps.size:=hg;obtain⟨f0,f1,f2,f3,f4,f5⟩:=hf it (by simp)
  have hx:z.cps[i]?=some z.cps[i]:=by simp[hi]
  have fin:∀h':Heap,h'.IsStrIter it ty z t (i+1)->Heap.SameBut it s.heap h'->∃u,some (Value.str ⟨#[z.cps[i]]⟩ s.toks)=some u/\wpAny (model X.prog X.w) X.A (letOwnedTupleGo tg (.ref it) u) (fun _ s2=>∃x H',Inv X pins σ H' s2/\RelV x u/\(uB z).yld i H x H'/\s2.heap.IsStrIter it ty z t (i+1)/\∀b∈[it],H' b=none) E {s with heap:=h',toks:=s.toks+1}:=fun h' st' sb=>by
   have I1:Inv X pins σ H {s with heap:=h',toks:=s.toks+1}:=I.turned (t':=s.toks+1) (fun b o hb e=>(sb.2 b hb).trans e) f0 f1 f3 f4 f5
   obtain⟨o,e,c,d⟩:=id st';exact⟨_,rfl,nM (s:={s with heap:=h',toks:=s.toks+1}) e c d (by rcases hty with rfl|rfl<;>decide) ⟨.str ⟨#[z.cps[i]]⟩,H,I1,⟨_,rfl⟩,⟨rfl,_,hx,rfl⟩,st',fun b hb=>(hf b hb).1⟩⟩
  rcases hty with rfl|rfl
  ·exact wpAny_pyNext_ascii_item st hx fin
  ·exact wpAny_pyNext_wide_item st hx fin
 done:=by
  intro X hP hw hK hc i pins s σ H E I hf st hg;subst hP hw hK;obtain⟨f0,f1,f2,f3,f4,f5⟩:=hf it (by simp)
  have hx:z.cps[i]?=none:=by simpa using (show z.cps.size<=i from hg)
  rcases hty with rfl|rfl
  ·exact wpAny_pyNext_ascii_end (I.ok.hd hc) st hx fun h' eb=>⟨rfl,I.turned (t':=s.toks) (fun b o hb e=>eb b o hb e) f0 f1 f3 f4 f5⟩
  ·exact wpAny_pyNext_wide_end (I.ok.hd hc) st hx fun h' eb=>⟨rfl,I.turned (t':=s.toks) (fun b o hb e=>eb b o hb e) f0 f1 f3 f4 f5⟩
 self:=fun _ _ _ _ _ st h=>by
  rcases hty with rfl|rfl
  ·exact wpAny_pyIter_striter_ascii st h
  ·exact wpAny_pyIter_striter_wide st h
theorem Ap{K:PySem.W.Frag}:ItOk K H0 (uB z) (gH z) (fun _=>True):=by
 have hl:(gH z).length=z.cps.size:=by simp[gH]
 refine⟨fun i H M t rm s hi=>by rw[hl]at hi;exact hi,fun i H M x H' t rm s hi y=>?_,fun H M t rm s=>by show z.cps.size<=_;rw[hl];exact Nat.le_refl _⟩
 obtain⟨rfl,c,hc,rfl⟩:=y;exact⟨.refl _,rm,.str ⟨#[c]⟩,by simp[gH,hc],rfl⟩
theorem qu{X:Cx}(I:Inv X pins σ H s)(q:R (uB z) H):wpAny (model X.prog X.w) X.A (pyIter (.str z t)) (PIE X pins σ tg R) X.xe s:=by
 have go:∀ty:String,(ty = "str_ascii_iterator"\/ty = "str_iterator")->PIE X pins σ tg R (.ref s.heap.objs.size) {s with heap:=s.heap.push {cls:=.type ty,data:=.fields #[.str z t,.int 0 0]}}:=fun ty hty=>
  ⟨s.heap.objs.size,[s.heap.objs.size],_,_,H,rfl,I.kept (t':=s.toks) (fun b o e=>Heap.get?_push_of_some _ e),qp s.heap.objs.size z t ty hty,⟨_,Heap.get?_push_size _ rfl,rfl,rfl⟩,fun b hb=>by
   have e':b=s.heap.objs.size:=by simpa using hb
   subst e';exact I.fpOk (Nat.le_refl _) (I.hok.fresh (Nat.le_refl _)),q⟩
 cases ha:z.cps.all (· < 128)
 ·exact wpAny_pyIter_wide ha (go _ (.inr rfl))
 ·exact wpAny_pyIter_ascii ha (go _ (.inl rfl))
theorem CA(hl:PE X l (low X.K cls E2 te)):PI X tg l (oA X.K cls E2 fun σ M R E=>te σ M (fun x M1=>match x with
  |.tup ds=>R ds (fun _=>True) M1
  |.rol ds=>R ds (fun _=>True) M1
  |.ref a=>match M1 a with
   |some (.lst ds)=>R ds (fun M=>M a=some (.lst ds)) M1
   |_=>False
  |.str z=>R (gH z) (fun _=>True) M1
  |_=>False) E):=by
 refine fun pins s σ H R2 I hl_=>ex9 hl_ fun σ3 M R E3 rm ds lk h k=>?_
 refine thn (hl pins s σ H _ I ⟨σ3,M,_,E3,rm,ds,lk,h,fun v H' d M' a b c e=>(⟨d,M',a,b,c,e⟩:(fun v H'=>∃d M',Den X.K H' d v/\RelM X.K M' H'/\TM X.K H H'/\(match d with
  |.tup ds=>R ds (fun _=>True) M'
  |.rol ds=>R ds (fun _=>True) M'
  |.ref a=>match M' a with
   |some (.lst ds)=>R ds (fun M=>M a=some (.lst ds)) M'
   |_=>False
  |.str z=>R (gH z) (fun _=>True) M'
  |_=>False)) v H')⟩) fun u s1 ⟨v,H1,I1,r1,d,M1,dv,rm1,t1,q1⟩=>?_
 split at q1
 ·obtain⟨p,vs,rfl,sq,dl⟩:=dv;cases r1;exact rG I1 sq (k _ _ _ _ _ (Aw sq dl) rm1 t1 q1)
 ·obtain⟨p,vs,rfl,sq,dl⟩:=dv;cases r1;exact jY I1 sq.sq (k _ _ _ _ _ (vK sq dl) rm1 t1 q1)
 ·rename_i a;cases (show v=.ref a from dv);cases r1;split at q1
  ·rename_i ds' e;obtain⟨vs,e1,dl⟩:=rm1 a _ e;exact jY I1 (.of e1) (k _ _ _ _ _ wM rm1 t1 q1)
  ·exact q1.elim
 ·rename_i z;cases (show v=.str z from dv);obtain⟨tt,rfl⟩:=r1;exact qu I1 (k _ _ _ _ _ Ap rm1 t1 q1)
 ·exact q1.elim
theorem FX(hg:Gl X "range")(hm:X.mg "range"=none)(ha:PE X a (low X.K cls E2 ta))(hs:starEach [a] X.env=[(false,eval a X.env)]):PI X tg (.Call (.Name "range" p) [a] [] pos) (oA X.K cls E2 fun σ M R E=>ta σ M (fun x M1=>match x with
  |.int j=>-(2 ^ 62)<=j/\j < 2 ^ 62/\R (rng 0 j.toNat) (fun _=>True) M1
  |_=>False) E):=
 (pv hg hm (bD ha pa_nil hs) hs).imp fun σ H R2 hl_=>ex9 hl_ fun σ3 M R E3 rm ds lk h k=>bb rm ds lk h fun v H1 x M1 dx rm1 t1 q1=>by
  split at q1
  ·rename_i j;cases (show v=.int j from dx);exact⟨j,rfl,q1.1,q1.2.1,k _ _ _ _ _ v5 rm1 t1 q1.2.2⟩
  ·exact q1.elim
end
end L2
namespace L2
open PySem PySem.Spec PyProof.Rows
section
variable {X:Cx}
theorem yS(hX:∀i,i < ne->ExcI X.K (cls i)/\PySem.W.kitOne X.K (.ref (cls i)) cv=some (r i))
  (I:Inv X pins σ H s)(rv:RelV v v2)(dx:Den X.K H x v)(rm:RelM X.K M H)(q:km ne cls r x M Q)(back:Back X.K H Q Q2) :
  wpAny (model X.prog X.w) A (call (.builtin "isinstance") [v2,cv]) (EP X pins σ Q2) Ex s:=by
 unfold km at q;split at q
 ·rename_i a;cases (show v=.ref a from dx);cases rv;split at q
  ·rename_i i w e;obtain⟨hi,rfl,q⟩:=q;obtain⟨h1,h2⟩:=hX i.c hi;obtain⟨dx0,e0,_⟩:=rm a _ e;have ho:=I.hok _ _ e0;obtain⟨⟨o,vs,g1,g2,_⟩,_,_⟩:=ho;exact PySem.W.kia_one (qI h1) I.kIn ⟨o,g1,g2⟩ h2 (fun z=>nomatch z) fun tk=>⟨.bl _,H,I.tok _,rfl,back _ _ _ _ bn rm (.refl _) q⟩
  ·exact q.elim
 ·exact q.elim
theorem DP(ha:PE X e (low X.K cls E2 te))(hg:Gl X "isinstance")(hm:X.mg "isinstance"=none)(hg2:Gl X x)(hm2:X.mg x=some (.ref (cls j)))(hdb:(x == ("__debug__" : Str))=false)
  (hX:∀i,i < ne->ExcI X.K (cls i)/\PySem.W.kitOne X.K (.ref (cls i)) (.ref (cls j))=some (r i)) (hs:starEach (e::[.Name x p2]) X.env=(false,eval e X.env)::starEach [.Name x p2] X.env) :
  PE X (.Call (.Name "isinstance" p) [e,.Name x p2] [] pos) (low X.K cls E2 fun σ M Q E=>te σ M (fun x M1=>km ne cls r x M1 Q) E):=by
 have hT:PE X (.Name x p2) (tC (.ref (cls j))):=fq hg2 hm2 rfl hdb;have hc:CallR X (.builtin "isinstance") (fun vs H Q2=>∃x v M Q,vs=[v,.ref (cls j)]/\Den X.K H x v/\RelM X.K M H/\km ne cls r x M Q/\Back X.K H Q Q2):=by
  intro pins s σ H vs us Q2 I r ⟨x,v,M,Q,e,dx,rm,q,back⟩;subst e;obtain⟨u,w,rfl,ru,rw⟩:=Vals.two r;cases (show w=Value.ref (cls j) from rw);exact yS hX I ru dx rm q back
 refine (fJ hc hg hm (by decide +kernel) (bD ha (bD hT pa_nil (by rfl)) hs) (by decide +kernel) (by decide +kernel) hs (by rfl)).imp fun σ H Q2 hl_=>ex9 hl_ fun σ3 M Q E3 rm ds lk h back=>?_
 exact bb rm ds lk h fun v H1 x M1 dx rm1 t1 q1=>⟨x,v,M1,Q,rfl,dx,rm1,q1,back.mono t1⟩
end
end L2
namespace L2
open PySem PySem.Spec PyProof.Rows
section
variable {K:PySem.W.Frag}
theorem eS:∀{ns:List Nat}{ds:List D}{vs:List V}{f:Nat}{d:D},DenL K H ds vs->b9 f ns ds=some d->∃v,((ns.map fnm).zip vs).lookup (fnm f)=some v/\Den K H d v
 |[],_,_,_,_,_,e=>by simp[b9]at e
 |n::ns,[],_,_,_,_,e=>by simp[b9]at e
 |n::ns,d0::ds,_,f,d,dl,e=>by
  obtain⟨v,r,rfl,dv,dl⟩:=dl;simp only[b9]at e;by_cases z:n=f
  ·rw[if_pos z]at e;cases e;subst z;exact⟨v,by simp[List.lookup],dv⟩
  ·rw[if_neg z]at e;obtain⟨u,h1,h2⟩:=eS dl e;refine⟨u,?_,h2⟩;have nb:(fnm f == fnm n)=false:=beq_eq_false_iff_ne.mpr fun q=>z (kN q).symm
   simp[List.lookup,nb,h1]
theorem eY:∀{ns:List Nat}{ds:List D}{vs:List V}{f:Nat},DenL K H ds vs->ns.length=vs.length->b9 f ns ds=none->((ns.map fnm).zip vs).lookup (fnm f)=none
 |[],_,_,_,_,_,_=>by simp
 |n::ns,[],vs,_,dl,hl,_=>by cases (show vs=[] from dl);cases hl
 |n::ns,d0::ds,_,f,dl,hl,e=>by
  obtain⟨v,r,rfl,dv,dl⟩:=dl;simp only[b9]at e;by_cases z:n=f
  ·rw[if_pos z]at e;cases e
  ·rw[if_neg z]at e;have h1:=eY dl (by simpa using hl) e
   have nb:(fnm f == fnm n)=false:=beq_eq_false_iff_ne.mpr fun q=>z (kN q).symm
   simp[List.lookup,nb,h1]
theorem ll:∀{ns:List Nat}{ds:List D}{vs:List V}{f:Nat}{y:D}{u:V},DenL K H ds vs->ns.length=vs.length->Den K H y u->
  ∃ws,cR (fnm f) u ((ns.map fnm).zip vs)=((cr f ns).map fnm).zip ws/\(cr f ns).length=ws.length/\DenL K H (cq f y ns ds) ws
 |[],ds,vs,f,y,u,dl,hl,dy=>by
  cases vs with
  |nil=>exact⟨[u],rfl,rfl,by unfold cq;exact .one dy⟩
  |cons _ _=>cases hl
 |n::ns,[],vs,f,y,u,dl,hl,dy=>by cases (show vs=[] from dl);cases hl
 |n::ns,d::ds,_,f,y,u,dl,hl,dy=>by
  obtain⟨v,r,rfl,dv,dl⟩:=dl;have hl':ns.length=r.length:=by simpa using hl
  by_cases z:n=f
  ·subst z;refine⟨u::r,?_,?_,?_⟩
   ·simp[cR,cr]
   ·simp[cr,hl']
   ·simp only[cq,if_pos];exact .cons dy dl
  ·obtain⟨ws,h1,h2,h3⟩:=ll (f:=f) (u:=u) dl hl' dy;have nf:¬ fnm n=fnm f:=fun q=>z (kN q)
   refine⟨v::ws,?_,?_,?_⟩
   ·simp only[List.map_cons,List.zip_cons_cons,cR,if_neg nf,cr,if_neg z];rw[h1]
   ·simp[cr,if_neg z,h2]
   ·simp only[cq,if_neg z];exact .cons dv h3
end
theorem mL{fs:List (Str×V)}(hok:HOk P w H h)(e:Rd H a (.ins C dx fs)):∃mA,ObjM h a dx C mA/\(∀f,RelO (fs.lookup f) (mA f))/\H dx=some (.own a):=by
 obtain⟨d,z,ne,ob,mA,n,r,q⟩:=(show ObjOk P w H h a (.ins C dx fs) from e.ok hok);exact⟨mA,⟨ob,n,ne⟩,r,d⟩
section
variable {X:Cx}{fs:List (Str×V)}
theorem rM(I:Inv X pins σ H s)(e:Rd H a (.ins C dx fs))(c:Cls X.K C)(n:NoAttr X.K C f)(l:fs.lookup f=some v)
  (h:∀u s',Inv X pins σ H s'->RelV v u->Q u s'):wpAny (model X.prog X.w) A (getAttr (.ref a) f b) Q E s:=by
 obtain⟨mA,O,r,_⟩:=mL I.hok e;obtain⟨u,hu,ru⟩:=RelO.some_of (v:=v) (o:=mA f) (by rw[<-l];exact r f)
 exact uo I.kIn O (c.get f) c.hd n hu (jS ru) (h u _ (I.tok _) ru)
theorem mr{m:Str}{g:Addr}{pl:Sem Bool}{Q:Value×List Value->Shared->Prop}(I:Inv X pins σ H s)(e:Rd H a (.ins C dx fs))(c:Cls X.K C)(k:Meth X.K C m g)(l:fs.lookup m=none)
  (h:Q (.ref g,[.ref a]) s):wpAny (model X.prog X.w) A (getMethod (.ref a) m pl) Q E s:=by
 obtain⟨mA,O,r,_⟩:=mL I.hok e;have hn:mA m=none:=RelO.none_of (by rw[<-l];exact r m)
 exact rP I.kIn O (c.get m) k.at_ k.fn hn h
end
structure ClsI (K:PySem.W.Frag)(C f:Addr):Prop where
 ga:PySem.W.specialIn K (.ref C) "__getattribute__"=some (some (.builtin "type.__getattribute__"))
 rd:PySem.W.readsIn K C (.type "type")=true
 at_:PySem.W.findCls K (.ref C) (.type "type") "__init__"=some (.val (.ref f))
structure TyI (K:PySem.W.Frag)(C:Addr):Prop where
 ha:PySem.W.findIn K (.ref C) "__class__"=some (some (.builtin "object.__class__"))
 hn:PySem.W.specialIn K (.builtin "object.__class__") "__get__"=some (some (.builtin "getset_descriptor.__get__"))
 htk:PySem.W.takesIn K (.builtin "object.__class__")=some true
 hm:PySem.W.mroIn K C (.type "object")=some true
structure KOk (K:PySem.W.Frag)(B:WB)(fad:Nat->Addr)(i:Nat):Prop where
 cl:Cls K (B.kls i)
 na:∀f,B.fok i f=true->NoAttr K (B.kls i) (fnm f)
 mt:∀m f,B.mth i m=some f->Meth K (B.kls i) (fnm m) (fad f)
 mkr:∀f,B.ini i=some f->Mk K (B.kls i) (fad f)
 ci:∀f,B.ini i=some f->ClsI K (B.kls i) (fad f)
 ty:TyI K (B.kls i)
 is:∀j,j < B.nk->PySem.W.kitOne K (.ref (B.kls i)) (.ref (B.kls j))=some (B.ksub i j)
section
variable {X:Cx}{B:WB}
theorem tN{K:PySem.W.Frag}(hk:∀i,i < B.nk->KOk K B fad i)(dx:Den K H x v)(rm:RelM K M H)(h:cH B f x M Q) :
  ∃a C dx fs u d,v=.ref a/\Rd H a (.ins C dx fs)/\Cls K C/\NoAttr K C (fnm f)/\fs.lookup (fnm f)=some u/\Den K H d u/\Q d M:=by
 unfold cH at h;split at h
 ·rename_i i C ns ds;obtain⟨p,vs,ob,dx',rfl,e,hl,dl⟩:=dx;obtain⟨⟨rfl,hi,hf⟩,h⟩:=h;unfold fS at h;split at h
  ·rename_i d q;obtain⟨u,h1,h2⟩:=eS dl q;exact⟨p,_,dx',_,u,d,rfl,.inr ⟨ob,e⟩,(hk i hi).cl,(hk i hi).na f hf,h1,h2,h⟩
  ·exact h.elim
 ·rename_i a;split at h
  ·rename_i i C ns ds q;obtain⟨dx',vs,e,hl,dl⟩:=rm a _ q;obtain⟨⟨rfl,hi,hf⟩,h⟩:=h;unfold fS at h;split at h
   ·rename_i d q;obtain⟨u,h1,h2⟩:=eS dl q;exact⟨a,_,dx',_,u,d,dx,.inl e,(hk i hi).cl,(hk i hi).na f hf,h1,h2,h⟩
   ·exact h.elim
  ·exact h.elim
 ·exact h.elim
theorem Do(hk:∀i,i < B.nk->KOk X.K B fad i)(he:PE X e (low X.K cls E2 te))(hb:attributeBase e (fnm f) X.env (eval e X.env)=eval e X.env):PE X (.Attribute e (fnm f) pos) (low X.K cls E2 fun σ M Q E=>te σ M (fun x M1=>cH B f x M1 Q) E):=by
 refine fun pins s σ H Q2 I hl_=>ex9 hl_ fun σ3 M Q E3 rm ds lk h back=>?_
 refine on hb (thn (he pins s σ H (fun v H1=>∃x M1,Den X.K H1 x v/\RelM X.K M1 H1/\TM X.K H H1/\cH B f x M1 Q) I ⟨σ3,M,_,E3,rm,ds,lk,h,fun v H' d M' a b c e=>⟨d,M',a,b,c,e⟩⟩) fun u s1 ⟨v,H1,I1,r1,x,M1,dx,rm1,t1,q1⟩=>?_)
 obtain⟨a,C,dx',fs,u',d,rfl,rd,c,n,l,du,q⟩:=tN hk dx rm1 q1;obtain rfl:u=Value.ref a:=r1;exact rM I1 rd c n l fun u'' s2 I2 ru=>⟨u',H1,I2,ru,back _ _ _ _ du rm1 t1 q⟩
theorem yK(hX:∀i,i < B.ne->ExcI X.K (B.cls i))(hn:∀i f,i < B.ne->B.xin i=some f->NoAttr X.K (B.cls i) (fnm f))(he:PE X e (low X.K cls E2 te))(hb:attributeBase e (fnm f) X.env (eval e X.env)=eval e X.env):PE X (.Attribute e (fnm f) pos) (low X.K cls E2 fun σ M Q E=>te σ M (fun x M1=>rXf B f x M1 Q) E):=by
 refine (tG he hb).imp fun σ H Q2 hl_=>ex9 hl_ fun σ3 M Q E3 rm ds lk h back=>bb rm ds lk h fun v H1 x M1 dx rm1 t1 q=>?_
 unfold rXf at q;split at q
 ·rename_i a;cases (show v=.ref a from dx);split at q
  ·rename_i i w e;obtain⟨⟨rfl,hi,hxi⟩,q⟩:=q;obtain⟨d0,e0,xd⟩:=rm1 a _ e;obtain⟨c,pl⟩:=i;cases pl with
   |none=>exact q.elim
   |some gy=>
    obtain⟨g,y⟩:=gy;have qq:g=f/\Q y M1:=q;obtain⟨eg,q2⟩:=qq;subst eg;obtain⟨p,ob,u,rfl,ep,dy⟩:=xd;exact⟨a,_,p,ob,_,u,rfl,e0,hX _ hi,hn _ _ hi hxi,ep,by rw[List.lookup_cons,beq_self_eq_true],back _ _ _ _ dy rm1 t1 q2⟩
  ·exact q.elim
 ·exact q.elim
theorem xY{K:PySem.W.Frag}(dx:Den K H x v)(rm:RelM K M H)(h:nu B j x M Q) :
  ∃a i dx fs,v=.ref a/\i < B.nk/\j < B.nk/\Rd H a (.ins (B.kls i) dx fs)/\Q (.bl (B.ksub i j)) M:=by
 unfold nu at h;split at h
 ·rename_i i C ns ds;obtain⟨p,vs,ob,dx',rfl,e,hl,dl⟩:=dx;obtain⟨⟨rfl,hi,hj⟩,h⟩:=h;exact⟨p,i,dx',_,rfl,hi,hj,.inr ⟨ob,e⟩,h⟩
 ·rename_i a;split at h
  ·rename_i i C ns ds q;obtain⟨dx',vs,e,hl,dl⟩:=rm a _ q;obtain⟨⟨rfl,hi,hj⟩,h⟩:=h;exact⟨a,i,dx',_,dx,hi,hj,.inl e,h⟩
  ·exact h.elim
 ·exact h.elim
theorem C3(hk:∀i,i < B.nk->KOk X.K B fad i)(ha:PE X e (low X.K cls E2 te))(hg:Gl X "isinstance")(hm:X.mg "isinstance"=none)(hg2:Gl X x)(hm2:X.mg x=some (.ref (B.kls j)))(hdb:(x == ("__debug__" : Str))=false)
  (hs:starEach (e::[.Name x p2]) X.env=(false,eval e X.env)::starEach [.Name x p2] X.env) :
  PE X (.Call (.Name "isinstance" p) [e,.Name x p2] [] pos) (low X.K cls E2 fun σ M Q E=>te σ M (fun x M1=>nu B j x M1 Q) E):=by
 have hT:PE X (.Name x p2) (tC (.ref (B.kls j))):=fq hg2 hm2 rfl hdb;have hc:CallR X (.builtin "isinstance") (fun vs H Q2=>∃x v M Q,vs=[v,.ref (B.kls j)]/\Den X.K H x v/\RelM X.K M H/\nu B j x M Q/\Back X.K H Q Q2):=by
  refine fun pins s σ H vs us Q2 I r hl_=>ex9 hl_ fun x v M Q e dx rm q back=>?_
  subst e;obtain⟨u,w,rfl,ru,rw⟩:=Vals.two r;cases (show w=Value.ref (B.kls j) from rw);obtain⟨a,i,dx',fs,rfl,hi,hj,rd,q⟩:=xY dx rm q;cases (show u=Value.ref a from ru);obtain⟨mA,O,_⟩:=mL I.hok rd;obtain⟨od,J,_⟩:=O.look;have k:=hk i hi;exact PySem.W.kia_one (PySem.W.kitx_own (k.cl.get _) k.cl.hd k.ty.ha k.ty.hn k.ty.htk k.ty.hm) I.kIn J (k.is j hj) (fun z=>nomatch z) fun tk=>⟨.bl _,H,I.tok _,rfl,back _ _ _ _ bn rm (.refl _) q⟩
 refine (fJ hc hg hm (by decide +kernel) (bD ha (bD hT pa_nil (by rfl)) hs) (by decide +kernel) (by decide +kernel) hs (by rfl)).imp fun σ H Q2 hl_=>ex9 hl_ fun σ3 M Q E3 rm ds lk h back=>?_
 exact bb rm ds lk h fun v H1 x M1 dx rm1 t1 q1=>⟨x,v,M1,Q,rfl,dx,rm1,q1,back.mono t1⟩
end
end L2
namespace L2
open PySem PySem.Spec PyProof.Rows
noncomputable def pF(X:Cx)(cls:Nat->Addr)(k:Nat)(a:Addr)(t3:List D->MH->VK3->XN->Prop):Prop:=∃fd ps sp,PySem.W.keepIn X.K (.ref a)=true/\BdT X.K cls fd ps t3 sp/\FnOk X.prog X.w X.K X.mg X.base (CX1 X.prog X.w) k a fd ps sp
section
variable {X:Cx}{B:WB}{fad:Nat->Addr}{cls:Nat->Addr}{E2:St->XK}{o e:Expr}{es:List Expr}{to te:St3->MH->VK3->XN->Prop}{tr:St3->MH->(List D->MH->Prop)->XN->Prop}{pos apos p:Pos}{m k:Nat}
 {cl3:Nat->List D->MH->VK3->XN->Prop}
theorem ot{K:PySem.W.Frag}{H:Hp}{x:D}{v:V}{M:MH}{R:Nat->Prop}(hk:∀i,i < B.nk->KOk K B fad i)(dx:Den K H x v)(rm:RelM K M H)(h:dG B m x M R) :
  ∃a C dx fs f,v=.ref a/\Rd H a (.ins C dx fs)/\Cls K C/\Meth K C (fnm m) (fad f)/\fs.lookup (fnm m)=none/\(∃i,i < B.nk/\B.mth i m=some f)/\R f:=by
 unfold dG at h;split at h
 ·rename_i i C ns ds;obtain⟨p,vs,ob,dx',rfl,e,hl,dl⟩:=dx;obtain⟨⟨rfl,hi,hf⟩,h⟩:=h;unfold cW at h;split at h
  ·rename_i f q;exact⟨p,_,dx',_,f,rfl,.inr ⟨ob,e⟩,(hk i hi).cl,(hk i hi).mt m f q,eY dl hl hf,⟨i,hi,q⟩,h⟩
  ·exact h.elim
 ·rename_i a;split at h
  ·rename_i i C ns ds q;obtain⟨dx',vs,e,hl,dl⟩:=rm a _ q;obtain⟨⟨rfl,hi,hf⟩,h⟩:=h;unfold cW at h;split at h
   ·rename_i f q;exact⟨a,_,dx',_,f,dx,.inl e,(hk i hi).cl,(hk i hi).mt m f q,eY dl hl hf,⟨i,hi,q⟩,h⟩
   ·exact h.elim
  ·exact h.elim
 ·exact h.elim
theorem wk(hk:∀i,i < B.nk->KOk X.K B fad i)(hf:∀i m f,i < B.nk->B.mth i m=some f->pF X cls k (fad f) (cl3 f))(hr:Room k X.A)(hx:aS (CX1 X.prog X.w) X E2)
  (ho:PE X o (low X.K cls E2 to)) (ha:PA X (e::es) (cZ X.K cls E2 tr)) (hb:attributeBase o (fnm m) X.env (eval o X.env)=eval o X.env) (hl:(apos.endLine == pos.line)=true) (hn:(e::es).length < 30)
  (he:starEach (e::es) X.env=(false,eval e X.env)::starEach es X.env) (hpl:(backTo pos (starEach es X.env)).any (·.1)=false) :
  PE X (.Call (.Attribute o (fnm m) apos) (e::es) [] pos) (low X.K cls E2 fun σ M Q E=>to σ M (fun x M1=>dG B m x M1 fun f=>tr σ M1 (fun xs M2=>cl3 f (x::xs) M2 Q E) E) E):=by
 refine fun pins s σ H Q2 I hl_=>ex9 hl_ fun σ3 M Q E3 rm ds lk h back=>?_
 have hst:(backTo pos (starEach (e::es) X.env)).any (·.1)=false:=by
  rw[he];show ((false,_)::backTo pos (starEach es X.env)).any (·.1)=false;rw[List.any_cons,hpl];rfl
 refine PySem.W.methodCall_KW (thn (ho pins s σ H (fun v H1=>∃x M1,Den X.K H1 x v/\RelM X.K M1 H1/\TM X.K H H1/\dG B m x M1 fun f=>tr σ3 M1 (fun xs M2=>cl3 f (x::xs) M2 Q E3) E3) I ⟨σ3,M,_,E3,rm,ds,lk,h,fun v H' d M' a b c e=>⟨d,M',a,b,c,e⟩⟩) fun u s1 ⟨v,H1,I1,r1,x,M1,dx,rm1,t1,q1⟩=>?_) (eh hb (fi hst hn) hl)
 obtain⟨a,C,dx',fs,f,rfl,rd,c,mt,l,⟨i,hi,hfi⟩,q⟩:=ot hk dx rm1 q1;obtain rfl:u=Value.ref a:=r1;obtain⟨fd,ps,sp,kp,bd,F⟩:=hf i m f hi hfi;refine mr I1 rd c mt l ?_;refine PySem.W.callWith_K (first:=[.ref a]) (h₀:=X.base) I.ok.mod.kin mt.kp (thn (ha pos pins s1 σ H1 _ I1 (dD (R2:=fun vs H2=>spX X.K cls (cl3 f) (.ref a::vs) H2 Q2 (fun c d H'=>TM X.K H2 H'->E2 σ c d H')) rm1 (ds.mono t1) (lk.mono t1) q
  fun vs H2 xs M2 dl rm2 t2 q2=>ig (.cons (dx.mono t2) dl) rm2 (lk.mono (t1.trans t2)) q2 (back.mono (t1.trans t2)))) fun us s2 ⟨vs,H2,I2,r,q2⟩=>⟨I2.kIn,?_⟩) he hpl
 exact fg (us:=.ref a::us) (vs:=.ref a::vs) F hr bd hx I2 (.cons rfl r) q2
theorem uT(hk:∀i,i < B.nk->KOk X.K B fad i)(hf:∀i m f,i < B.nk->B.mth i m=some f->pF X cls k (fad f) (cl3 f))(hr:Room k X.A)(hx:aS (CX1 X.prog X.w) X E2)
  (ho:PE X o (low X.K cls E2 to)) (hb:attributeBase o (fnm m) X.env (eval o X.env)=eval o X.env) (hl:(apos.endLine == pos.line)=true) :
  PE X (.Call (.Attribute o (fnm m) apos) [] [] pos) (low X.K cls E2 fun σ M Q E=>to σ M (fun x M1=>dG B m x M1 fun f=>cl3 f [x] M1 Q E) E):=by
 refine fun pins s σ H Q2 I hl_=>ex9 hl_ fun σ3 M Q E3 rm ds lk h back=>?_
 refine PySem.W.methodCall_KW (thn (ho pins s σ H (fun v H1=>∃x M1,Den X.K H1 x v/\RelM X.K M1 H1/\TM X.K H H1/\dG B m x M1 fun f=>cl3 f [x] M1 Q E3) I ⟨σ3,M,_,E3,rm,ds,lk,h,fun v H' d M' a b c e=>⟨d,M',a,b,c,e⟩⟩) fun u s1 ⟨v,H1,I1,r1,x,M1,dx,rm1,t1,q1⟩=>?_) (eh hb (fi (by rfl) (by decide)) hl)
 obtain⟨a,C,dx',fs,f,rfl,rd,c,mt,l,⟨i,hi,hfi⟩,q⟩:=ot hk dx rm1 q1;obtain rfl:u=Value.ref a:=r1;obtain⟨fd,ps,sp,kp,bd,F⟩:=hf i m f hi hfi;refine mr I1 rd c mt l ?_;exact PySem.W.callWith_K0 (first:=[.ref a]) I1.kIn mt.kp (fg (us:=[.ref a]) (vs:=[.ref a]) F hr bd hx I1 (.cons rfl .nil) (ig (.one dx) rm1 (lk.mono t1) q (back.mono t1)))
theorem DJ{i f:Nat}{x:Str}{px:Pos}(hg:Gl X x)(hm:X.mg x=some (.ref (B.kls i)))(hdb:(x == ("__debug__" : Str))=false)(ci:ClsI X.K (B.kls i) (fad f))(hf:pF X cls k (fad f) (cl3 f))(hr:Room k X.A)(hx:aS (CX1 X.prog X.w) X E2)
  (ha:PA X (e::es) (cZ X.K cls E2 tr)) (hl:(apos.endLine == pos.line)=true) (hn:(e::es).length < 30)
  (he:starEach (e::es) X.env=(false,eval e X.env)::starEach es X.env) (hpl:(backTo pos (starEach es X.env)).any (·.1)=false) :
  PE X (.Call (.Attribute (.Name x px) "__init__" apos) (e::es) [] pos) (low X.K cls E2 fun σ M Q E=>tr σ M (fun xs M1=>cl3 f xs M1 Q E) E):=by
 refine fun pins s σ H Q2 I hl_=>ex9 hl_ fun σ3 M Q E3 rm ds lk h back=>?_
 have hst:(backTo pos (starEach (e::es) X.env)).any (·.1)=false:=by
  rw[he];show ((false,_)::backTo pos (starEach es X.env)).any (·.1)=false;rw[List.any_cons,hpl];rfl
 obtain⟨fd,ps,sp,kp,bd,F⟩:=hf;have hT:PE X (.Name x px) (tC (.ref (B.kls i))):=fq hg hm rfl hdb;refine PySem.W.methodCall_KW (thn (hT pins s σ H (fun v H1=>v=.ref (B.kls i)/\H1=H) I ⟨rfl,rfl⟩) fun u s1 ⟨v,H1,I1,r1,e1,e2⟩=>?_) (eh (by rfl) (fi hst hn) hl)
 subst e1 e2;obtain rfl:u=Value.ref (B.kls i):=r1;refine PySem.W.method_cls I1.kIn ci.ga (PySem.W.cls_value I1.kIn ci.rd ci.at_ rfl ?_);have I2:=I1.tok (s1.toks+1);refine PySem.W.callWith_K (first:=[]) (h₀:=X.base) I.ok.mod.kin kp (thn (ha pos pins _ σ H1 _ I2 (dD (R2:=fun vs H2=>spX X.K cls (cl3 f) vs H2 Q2 (fun c d H'=>TM X.K H2 H'->E2 σ c d H')) rm ds lk h
  fun vs H2 xs M2 dl rm2 t2 q2=>ig dl rm2 (lk.mono t2) q2 (back.mono t2))) fun us s2 ⟨vs,H2,I3,r,q2⟩=>⟨I3.kIn,?_⟩) he hpl
 exact fg F hr bd hx I3 r q2
theorem jO(M:Mk X.K C f)(F:FnOk X.prog X.w X.K X.mg X.base (CX1 X.prog X.w) k f fd ps sp)(hr:Room (k+1) X.A)(hb:BdT X.K cls fd ps t3 sp)
  (hx:aS (CX1 X.prog X.w) X E2) (I:Inv X pins σ H s)(r:Vals vs us)
  (h:∀x dx,H x=none->H dx=none->dx≠x->spX X.K cls t3 (.ref x::vs) (upd (upd H dx (.own x)) x (.ins C dx [])) (fun v H2=>v=.non/\Q (.ref x) H2) (fun c d H'=>TM X.K (upd (upd H dx (.own x)) x (.ins C dx [])) H'->E2 σ c d H')) :
  wpAny (model X.prog X.w) X.A (call (.ref C) us) (EP X pins σ Q) X.xe s:=by
 have hq:=h (s.heap.objs.size+1) s.heap.objs.size (I.hok.fresh (Nat.le_succ _)) (I.hok.fresh (Nat.le_refl _)) (Nat.ne_of_lt (Nat.lt_succ_self _));have I2:=Inv.made (C:=C) I;have r2:Vals (V.ref (s.heap.objs.size+1)::vs) (Value.ref (s.heap.objs.size+1)::us):=.cons rfl r;obtain⟨dvs,dsv,hv,bd,hq⟩:=hb _ _ _ _ hq;have r2:Vals ((V.ref (s.heap.objs.size+1)::vs)++dvs) ((Value.ref (s.heap.objs.size+1)::us)++dsv):=r2.append hv;have hl:(Value.ref (s.heap.objs.size+1)::us++dsv).length=ps.length:=by rw[<-r2.length];exact F.len _ _ _ _ hq
 have hb':=bd _ (Value.ref (s.heap.objs.size+1)::us) I2.kIn hl;refine wpAny_call (rW (f:=f) I.kIn M.makes M.init (beq_iff_eq.mp M.fn) (codeAny_mono (F.run _ X.stack _ _ ⟨Value.ref (s.heap.objs.size+1)::us,[]⟩ (Value.ref (s.heap.objs.size+1)::us++dsv) _ _ _ (hr.make C us [])
  (I2.env0.make C us []) hb' r2 hq) fun r s' hq'=>?_))
 match r,hq' with
 |.error e,hq'=>exact hx pins σ _ _ e s' I2 (rF hq')
 |.ok (.ret u),hq'=>
  obtain⟨v,H',I3,rv,ev,q3⟩:=I2.after hq';subst ev;exact⟨rv,⟨V.ref (s.heap.objs.size+1),H',I3,rfl,q3⟩⟩
 |.ok .next,hq'=>exact hq'.elim
 |.ok .brk,hq'=>exact hq'.elim
 |.ok .cont,hq'=>exact hq'.elim
theorem TM.made{K:PySem.W.Frag}(hx:H x=none)(hd:H dx=none)(ne:dx≠x):TM K H (upd (upd H dx (.own x)) x (.ins C dx [])):=
 (TM.new hd).trans (.new (by rw[ae (Ne.symm ne)];exact hx))
theorem nJ{σ:St}{H:Hp}{xs:List D}{vs:List V}{M:MH}{Q:VK3}{Q2:VK}{E3:XN}{i:Nat}{fz:Bool}{t3:List D->MH->VK3->XN->Prop}(dl:DenL X.K H xs vs)(rm:RelM X.K M H)(lk:LkE X.K cls H E3 (E2 σ))
  (q:∀p,M p=none->t3 (.ref p::xs) (put M p (.ins i (B.kls i) [] [])) (fun v M2=>v=.non/\if fz=true then bv Q (.ref p) M2 else Q (.ref p) M2) (fun j M'=>E3 j (del M' p))) :
  ∀x dx,H x=none->H dx=none->dx≠x->spX X.K cls t3 (.ref x::vs) (upd (upd H dx (.own x)) x (.ins (B.kls i) dx [])) (fun v H2=>v=.non/\∃M2,RelM X.K M2 H2/\TM X.K H H2/\if fz=true then bv Q (.ref x) M2 else Q (.ref x) M2)
   (fun c d H'=>TM X.K (upd (upd H dx (.own x)) x (.ins (B.kls i) dx [])) H'->E2 σ c d H'):=fun x dx hx hd ne=>by
 have t:=TM.made (K:=X.K) (C:=B.kls i) hx hd ne;have hx':(upd H dx (.own x)) x=none:=by rw[ae (Ne.symm ne)];exact hx
 have rm2:RelM X.K (put M x (.ins i (B.kls i) [] [])) (upd (upd H dx (.own x)) x (.ins (B.kls i) dx [])):=(rm.grow hd).lay hx' ⟨dx,[],ah,rfl,rfl⟩;refine⟨.ref x::xs,_,_,_,.cons rfl (dl.mono t),rm2,q x (rm.fresh hx),fun v H' d M' dv rm' t' ⟨e,q'⟩=>?_,fun j M' H' t' rm' q' dy xd _=>lk j (del M' x) H' (t.trans t') (rm'.sub fun b o z=>(hG z).2) q' dy xd⟩
 subst e;exact⟨dv,M',rm',t.trans t',q'⟩
theorem mq(back:Back X.K H Q Q2)
  (h:EP X pins σ (fun v H2=>∃x,v=.ref x/\∃M2,RelM X.K M2 H2/\TM X.K H H2/\if fz=true then bv Q (.ref x) M2 else Q (.ref x) M2) u s'):EP X pins σ Q2 u s':=by
 obtain⟨v,H2,I2,r,x,rfl,M2,rm2,t2,q⟩:=h;cases fz with
 |true=>
  obtain⟨H3,M3,d,I3,t3,rm3,dv,q3⟩:=kY I2 rm2 fB (show bv Q (.ref x) M2 from q);exact⟨.ref x,H3,I3,r,back _ _ _ _ dv rm3 (t2.trans t3) q3⟩
 |false=>exact⟨.ref x,H2,I2,r,back _ _ _ _ fB rm2 t2 q⟩
theorem zI{i f:Nat}{fz:Bool}{x:Str}(hg:Gl X x)(hm:X.mg x=some (.ref (B.kls i)))(hdb:(x == ("__debug__" : Str))=false)(mk:Mk X.K (B.kls i) (fad f))(hf:pF X cls k (fad f) (cl3 f))(hr:Room (k+1) X.A)(hx:aS (CX1 X.prog X.w) X E2)
  (ha:PA X (e::es) (cZ X.K cls E2 tr)) (he:starEach (e::es) X.env=(false,eval e X.env)::starEach es X.env) (hpl:(backTo pos (starEach es X.env)).any (·.1)=false) :
  PE X (.Call (.Name x p) (e::es) [] pos) (low X.K cls E2 fun σ M Q E=>tr σ M (fun xs M1=>∀p,M1 p=none->cl3 f (.ref p::xs) (put M1 p (.ins i (B.kls i) [] [])) (fun v M2=>v=.non/\if fz=true then bv Q (.ref p) M2 else Q (.ref p) M2) (fun i M'=>E i (del M' p))) E):=by
 refine fun pins s σ H Q2 I hl_=>ex9 hl_ fun σ3 M Q E3 rm ds lk h back=>?_
 obtain⟨fd,ps,sp,kp,bd,F⟩:=hf;refine wpAny_Call_Name_kw (bB I hg hm ?_ hdb);refine PySem.W.callWith_K (h₀:=X.base) I.ok.mod.kin mk.kp (thn (ha pos pins s σ H (fun vs H1=>TM X.K H H1/\∃xs M1,DenL X.K H1 xs vs/\RelM X.K M1 H1/\∀p,M1 p=none->cl3 f (.ref p::xs) (put M1 p (.ins i (B.kls i) [] [])) (fun v M2=>v=.non/\if fz=true then bv Q (.ref p) M2 else Q (.ref p) M2) (fun i M'=>E3 i (del M' p))) I
  (dD rm ds lk h fun vs H1 xs M1 dl rm1 t1 q1=>⟨t1,xs,M1,dl,rm1,q1⟩)) fun us s1 ⟨vs,H1,I1,r,t1,xs,M1,dl,rm1,q1⟩=>⟨I1.kIn,?_⟩) he hpl
 refine thn (jO (Q:=fun v H2=>∃x,v=.ref x/\∃M2,RelM X.K M2 H2/\TM X.K H1 H2/\if fz=true then bv Q (.ref x) M2 else Q (.ref x) M2) mk F hr bd hx I1 r fun x dx n1 n2 n3=>?_) fun u s2 q2=>mq (fz:=fz) (back.mono t1) q2
 obtain⟨a1,a2,a3,a4,b1,b2,b3,b4,b5⟩:=nJ (fz:=fz) (i:=i) (t3:=cl3 f) (Q2:=Q2) dl rm1 (lk.mono t1) q1 x dx n1 n2 n3;exact⟨a1,a2,a3,a4,b1,b2,b3,fun v H' d M' dv rm' t' q'=>by
  obtain⟨e,w⟩:=b4 v H' d M' dv rm' t' q';exact⟨e,x,rfl,w⟩,b5⟩
theorem tX{i f:Nat}{fz:Bool}{x:Str}(hg:Gl X x)(hm:X.mg x=some (.ref (B.kls i)))(hdb:(x == ("__debug__" : Str))=false)(mk:Mk X.K (B.kls i) (fad f))(hf:pF X cls k (fad f) (cl3 f))(hr:Room (k+1) X.A)(hx:aS (CX1 X.prog X.w) X E2) :
  PE X (.Call (.Name x p) [] [] pos) (low X.K cls E2 fun σ M Q E=>∀p,M p=none->cl3 f [.ref p] (put M p (.ins i (B.kls i) [] [])) (fun v M2=>v=.non/\if fz=true then bv Q (.ref p) M2 else Q (.ref p) M2) (fun i M'=>E i (del M' p))):=by
 refine fun pins s σ H Q2 I hl_=>ex9 hl_ fun σ3 M Q E3 rm ds lk h back=>?_
 obtain⟨fd,ps,sp,kp,bd,F⟩:=hf;refine wpAny_Call_Name_kw (bB I hg hm ?_ hdb);refine PySem.W.callWith_K0 I.kIn mk.kp ?_;refine thn (jO (us:=[]) (vs:=[]) (Q:=fun v H2=>∃x,v=.ref x/\∃M2,RelM X.K M2 H2/\TM X.K H H2/\if fz=true then bv Q (.ref x) M2 else Q (.ref x) M2) mk F hr bd hx I .nil fun x dx n1 n2 n3=>?_) fun u s2 q2=>mq (fz:=fz) back q2
 obtain⟨a1,a2,a3,a4,b1,b2,b3,b4,b5⟩:=nJ (fz:=fz) (i:=i) (t3:=cl3 f) (xs:=[]) (vs:=[]) (Q2:=Q2) .nil rm lk h x dx n1 n2 n3;exact⟨a1,a2,a3,a4,b1,b2,b3,fun v H' d M' dv rm' t' q'=>by
  obtain⟨e,w⟩:=b4 v H' d M' dv rm' t' q';exact⟨e,x,rfl,w⟩,b5⟩
theorem zN(hk:∀i,i < B.nk->KOk X.K B fad i)(ho:PE X o (low X.K cls E2 to))(hv:PE X value (low X.K cls E2 tv))(hs:swapsWith value (some (.Attribute o (fnm f) pos')) pos.line X.env=pure false) :
  PS X (.Assign [.Attribute o (fnm f) pos'] value pos) (bz X.K cls E2 fun D E σ M=>tv σ M (fun y M1=>to σ M1 (fun x M2=>match x with
  |.ref a=>match M2 a with
   |some (.ins i C ns ds)=>(C=B.kls i/\i < B.nk/\B.fok i f=true/\ns.length < 1000)/\D.nx σ (put M2 a (.ins i C (cr f ns) (cq f y ns ds)))
   |_=>False
  |_=>False) (E σ)) (E σ)):=
 (yf ho hv hs).imp fun D2 σ H hl_=>ex9 hl_ fun σ3 M D3 E3 rm ds lk h er=>bb rm ds (lk.at ds) h fun v H1 y M1 dy rm1 t1 q1=>bb rm1 (ds.mono t1) ((lk.at ds).mono t1) q1 fun w H2 x M2 dx rm2 t2 q2=>by
  split at q2
  ·rename_i a;split at q2
   ·rename_i i C ns es q;obtain⟨dx',vs,e,hl,dl⟩:=rm2 a _ q;obtain⟨⟨rfl,hi,hf,hz⟩,q2⟩:=q2;obtain⟨ws,h1,h2,h3⟩:=ll (f:=f) (u:=v) dl hl (dy.mono t2);refine⟨a,_,dx',_,dx,e,(hk i hi).cl,(hk i hi).na f hf,?_,?_⟩
    ·rw[List.length_zip,List.length_map,hl,Nat.min_self,<-hl];exact hz
    ·have tw:TM X.K H2 (upd H2 a (.ins (B.kls i) dx' (cR (fnm f) v ((ns.map fnm).zip vs)))):=.put e (fun _ z=>by cases z) fun _ _ z=>by cases z
     refine er.nx _ _ σ3 _ (rm2.write (u:=.ins i (B.kls i) (cr f ns) (cq f y ns es)) e (fun _ z=>by cases z) (fun _ _ z=>by cases z) ⟨dx',ws,by rw[ah,h1],h2,h3.mono tw⟩) (((ds.mono t1).mono t2).mono tw) ((t1.trans t2).trans tw) q2
   ·exact q2.elim
  ·exact q2.elim
theorem BQ(hg:Gl X x)(hm:X.mg x=some u)(r:RelV v u)(hdb:(x == ("__debug__" : Str))=false)(hd:∀H,Den X.K H d v):PE X (.Name x pos) (low X.K cls E2 fun _ M Q _=>Q d M):=lR (fq hg hm r hdb) hd
end
end L2
namespace L2
open PySem PySem.Spec PyProof.Rows
noncomputable def VS(X:Cx)(r:D->Option Int->Option Int->MH->VK3->Prop):Prop:=
 ∀(pins:List (Addr×Obj)) (s:Shared)(σ:St)(H:Hp)(x:D)(v:V)(v2 vl vu:Value)(lo hi:Option Int)(sl:Addr)(M:MH)(Q:VK3)(Q2:VK),Inv X pins σ H s->RelV v v2->Den X.K H x v->RelM X.K M H->s.heap.IsSliceOf sl vl vu .none->IsPart vl lo->IsPart vu hi->r x lo hi M Q->Back X.K H Q Q2->
  ∃T id,typeLookup (.type T) "__getitem__"=pure (some (.builtin id))/\s.TypeIs v2 T/\wpAny (model X.prog X.w) X.A (getItem v2 (.ref sl)) (EP X pins σ Q2) X.xe s
section
variable {X:Cx}{lo:Option Expr}
theorem VS.op(h:VS X r):SlR X (fun v lo hi H Q2=>∃x M Q,Den X.K H x v/\RelM X.K M H/\r x lo hi M Q/\Back X.K H Q Q2):=by
 intro pins s σ H v v2 vl vu lo hi sl Q2 I rv hs pl pu ⟨x,M,Q,dx,rm,q,back⟩;exact h pins s σ H x v v2 vl vu lo hi sl M Q Q2 I rv dx rm hs pl pu q back
theorem lu{K:PySem.W.Frag}{lo:Option Int}(dl:DenL K H ds vs):DenL K H (ar ds lo hi) (mW vs lo hi):=by
 unfold ar mW;rw[dl.length];exact (dl.drop _).take _
theorem D1(fz:Bool):VS X (dg fz):=by
 intro pins s σ H x v v2 vl vu lo hi sl M Q Q2 I rv dx rm hs pl pu q back;unfold dg at q;split at q
 ·rename_i ds;obtain⟨p,vs,rfl,sq,dl⟩:=dx;obtain⟨hw,q⟩:=q;refine zq pins s σ H _ v2 vl vu lo hi sl Q2 I rv hs pl pu ⟨p,vs,rfl,sq,fun z=>?_,fun p' hp=>?_⟩
  ·unfold whole at hw;rw[dl.length,z.1,z.2]at hw;simp at hw
  ·exact back _ _ (.tup (ar ds lo hi)) _ ⟨p',_,rfl,.of ah,(lu dl).mono (.new hp)⟩ (rm.grow hp) (.new hp) q
 ·rename_i z;cases (show v=.str z from dx);obtain⟨t,rfl⟩:=rv;obtain⟨hz,q⟩:=q;have fin:∀t' k,EP X pins σ Q2 (.str (Txt.slice z lo hi) t') {s with toks:=k}:=fun t' k=>⟨.str _,H,I.tok _,⟨_,rfl⟩,back _ _ _ _ g9 rm (.refl _) q⟩
  refine⟨"str",_,PySem.F.slot_str_getitem.lookup,typeIs_str _ _ _,?_⟩;cases pl with
  |none=>
   cases pu with
   |none=>exact wpAny_getItem_str_slice (l:=none) (u:=none) (st:=none) hs rfl (post_val_or_str ⟨Nat.le_trans (Txt.slice_le z _ _) hz,fin⟩)
   |int j u=>exact wpAny_getItem_str_slice (l:=none) (u:=some (j,u)) (st:=none) hs rfl (post_val_or_str ⟨Nat.le_trans (Txt.slice_le z _ _) hz,fin⟩)
  |int i u'=>
   cases pu with
   |none=>exact wpAny_getItem_str_slice (l:=some (i,u')) (u:=none) (st:=none) hs rfl (post_val_or_str ⟨Nat.le_trans (Txt.slice_le z _ _) hz,fin⟩)
   |int j u=>exact wpAny_getItem_str_slice (l:=some (i,u')) (u:=some (j,u)) (st:=none) hs rfl (post_val_or_str ⟨Nat.le_trans (Txt.slice_le z _ _) hz,fin⟩)
 ·split at q
  ·rename_i ds e;obtain⟨p,vs,rfl,hq,dl⟩:=bh rm e dx;cases rv;obtain⟨its,r,ht,hz⟩:=I.list hq.sq;have hlen:=r.length;refine⟨"list",_,slot_list_getitem.lookup,ht.isList.typeIs,?_⟩;refine wpAny_getItem_list_slice ht.isList hs pl pu .none (by simp) ?_ (by rw[List.size_toArray]<;>omega)
   rw[jw,<-hlen];have I2:=I.laid (t':=s.toks) (o:=.lst (mW vs lo hi)) (h':=s.heap.push {cls:=.type "list",data:=.seq ((its.drop (HT.sIx vs.length 0 lo)).take (HT.sIx vs.length vs.length hi - HT.sIx vs.length 0 lo)).toArray 0}) (fun b ob q=>Heap.get?_push_of_some _ q) (Nat.le_refl _)
    ⟨Nat.le_trans (gR vs lo hi) hz,_,0,(r.drop (HT.sIx vs.length 0 lo)).take (HT.sIx vs.length vs.length hi - HT.sIx vs.length 0 lo),Heap.get?_push_size _ rfl⟩
   exact cF I2 (I.hok.fresh (Nat.le_refl _)) (lu dl) rm (.refl _) q back
  ·exact q.elim
theorem Ge(ha:PE X a (low X.K cls E2 ta))(hl:PO X lo (ph X.K cls E2 tl))(hh:PO X hi (ph X.K cls E2 th)) :
  PE X (.Subscript a (.Slice lo hi none p2) pos) (low X.K cls E2 fun σ M Q E=>ta σ M (fun x M1=>tl σ M1 (fun l M2=>th σ M2 (fun h M3=>dg fz x l h M3 Q) E) E) E):=
 (se (D1 fz).op ha hl hh).imp fun σ H Q2 hl_=>ex9 hl_ fun σ3 M Q E3 rm ds lk h back=>bb rm ds lk h fun v H1 x M1 dx rm1 t1 q1=>uU rm1 (ds.mono t1) (lk.mono t1) q1 fun l H2 M2 rm2 t2 q2=>uU rm2 ((ds.mono t1).mono t2) ((lk.mono t1).mono t2) q2 fun h H3 M3 rm3 t3 q3=>
  ⟨x,M3,Q,(dx.mono t2).mono t3,rm3,q3,back.mono ((t1.trans t2).trans t3)⟩
theorem nY{K:PySem.W.Frag}(dl:DenL K H ds vs):∀n:Nat,DenL K H (List.replicate n ds).flatten (List.replicate n vs).flatten
 |0=>rfl
 |n+1=>by
  rw[List.replicate_succ,List.replicate_succ,List.flatten_cons,List.flatten_cons];exact dl.append (nY dl n)
theorem wQ(fz:Bool):VO X (binaryOp .Mult) (gT fz):=by
 intro pins s σ H x y v u v2 u2 M Q Q2 I rv ru dx dy rm q back;unfold gT at q;split at q
 ·rename_i ds k e;obtain⟨⟨h1,h2,hz⟩,q⟩:=q;obtain⟨p,vs,rfl,hq,dl⟩:=bh rm e dx;cases (show u=.int k from dy);obtain⟨t,rfl⟩:=ru;cases rv;obtain⟨z,its,n,r,hl,e⟩:=I.rdL hq;have hlen:its.toArray.size * k.toNat<=sizeLine:=by rw[List.size_toArray,<-hl,<-dl.length];exact hz
  have hcap:¬ its.toArray.size * k.toNat > (2 ^ 63 - 1) / 8:=by
   have:(sizeLine:Nat)<=(2 ^ 63 - 1) / 8:=by decide
   omega
  have hfit:¬ (!Builtin.List.listFitsIndex k)=true:=by
   rw[fitsIndex_both h1 h2];exact Bool.false_ne_true
  have hlong:¬ Builtin.List.listTooLong (its.toArray.size * k.toNat)=true:=by
   rw[qN hlen];exact Bool.false_ne_true
  have hnew:List.foldl (fun x1 x2=>x1++x2) #[] (List.replicate (if its.toArray.isEmpty=true then 0 else k.toNat) its.toArray)=(List.replicate k.toNat its).flatten.toArray:=by
   have f0:∀m:Nat,List.foldl (fun x1 x2=>x1++x2) #[] (List.replicate m its.toArray)=(List.replicate m its).flatten.toArray:=fun m=>by
    have:=kg its m [];rw[List.nil_append]at this;exact this
   rw[f0];cases its with
   |nil=>simp
   |cons a r'=>rw[if_neg (by simp)]
  refine wpAny_binaryOp_repeat_ref (T:="list") (U:="int") (by decide) ⟨_,e,rfl⟩ (fun s'=>typeIs_int s' k t) noFill_list_mul PySem.F.fills_int_mul PySem.F.slot_int_rmul repeat_list PySem.F.slot_int_index.lookup
   (call_meets PySem.F.slot_int_rmul (typeIs_int s k t) PySem.F.entry_int_rmul (PySem.F.args_int_rmul_2 _ _) (int___rmul___int_list k t p its.toArray n)
    ⟨e,rfl,⟨_,e,rfl⟩,call_meets PySem.F.slot_list_mul ⟨_,e,rfl⟩ PySem.F.entry_list_mul (PySem.F.args_list_mul_2 _ _) (AutoListH.list___mul___list_int_3 p its.toArray n k t hfit hcap hlong) ⟨e,?_⟩⟩)
  rw[hnew];exact cF (I.lnew (t':=s.toks) (r.rep k.toNat) (by rw[tJ,Nat.mul_comm,<-dl.length];exact hz)) I.fresh (nY dl _) rm (.refl _) q back
 ·exact q.elim
theorem DF(ha:PE X a (low X.K cls E2 ta))(hb:PE X b (low X.K cls E2 tb)) :
  PE X (.BinOp a .Mult b pos) (low X.K cls E2 fun σ M Q E=>ta σ M (fun x M1=>tb σ M1 (fun y M2=>gT fz x y M2 Q) E) E):=zD (wQ fz) ha hb
theorem jQ{K:PySem.W.Frag}:∀{ds:List D}{bs:List Bool}{vs:List V}{us:List Value},dP ds=some bs->DenL K H ds vs->Vals vs us->LSm.BoolsAre us bs
 |[],bs,vs,us,e,dl,r=>by
  cases (show vs=[] from dl);cases r;cases (show some []=some bs from e);exact .nil
 |d::ds,bs,_,us,e,dl,r=>by
  obtain⟨v,vs,rfl,dv,dl⟩:=dl;cases r with
  |cons ru rt=>
   cases d with
   |bl b=>
    simp only[dP]at e;split at e
    ·rename_i ns q;cases e;cases (show v=.bl b from dv);cases ru;exact .cons b (jQ q dl rt)
    ·cases e
   |_=>cases e
theorem u5(al:Bool)(hc:X.calm=true):VC X (.builtin (if al=true then "all" else "any")) (rBi (if al=true then .all else .any)):=by
 intro pins s σ H xs vs us M Q Q2 I r dl rm q back;have hh:X.A.handled=none:=I.ok.hd hc;have key:∃x ds bs,xs=[x]/\aj M x=some ds/\dP ds=some bs/\Q (.bl (if al=true then bs.all id else bs.any id)) M:=by
  cases al with
  |true=>
   simp only[if_true,rBi]at q;split at q
   ·split at q
    ·split at q
     ·exact⟨_,_,_,rfl,by assumption,by assumption,q⟩
     ·exact q.elim
    ·exact q.elim
   ·exact q.elim
  |false=>
   simp only[Bool.false_eq_true,if_false,rBi]at q;split at q
   ·split at q
    ·split at q
     ·exact⟨_,_,_,rfl,by assumption,by assumption,q⟩
     ·exact q.elim
    ·exact q.elim
   ·exact q.elim
 obtain⟨x,ds,bs,rfl,e1,e2,q⟩:=key;obtain⟨v,rfl,dv⟩:=dL dl;obtain⟨u,rfl,ru⟩:=j3 r;obtain⟨p,ws,rfl,hq,dl2⟩:=bh rm e1 dv;cases ru;obtain⟨its,r2,pl',hz⟩:=I.list hq.sq;have hb:=jQ e2 dl2 r2;have hl:=pl'.isList;have hlt:p < s.heap.objs.size:=by obtain⟨_,e,_⟩:=hl;exact Heap.lt_size e
 have fin:∀h' tk,(∀b o,s.heap.get? b=some o->h'.get? b=some o)->EP X pins σ Q2 (.bool (if al=true then bs.all id else bs.any id)) {s with heap:=h',toks:=tk}:=fun h' tk hk=>
  ⟨.bl _,H,I.kept (t':=tk) hk,rfl,back _ _ _ _ bn rm (.refl _) q⟩
 cases al with
 |true=>
  refine call_all_walk (wpAny_pyIter_list hl ?_);refine⟨s.heap.objs.size,[s.heap.objs.size,p],[s.heap.objs.size],its.toArray.size,_,_,fun i=>(bs[i]?).getD true,rfl,Walks.list (A:=X.A.in1) hh _ p (Nat.ne_of_lt hlt) its.toArray,
   ⟨⟨_,Heap.get?_push_size _ rfl,rfl,rfl⟩,hl.push _⟩,fun i v s' Q' E' hP hQ=>?_,fun h' tk hk=>?_⟩
  ·obtain⟨b,e,rfl⟩:=hb.get i v (by simpa using hP)
   simp only[e,Option.getD_some]at hQ;exact wpAny_truthy_bool hQ
  ·have e:((List.range its.toArray.size).all fun i=>(bs[i]?).getD true)=bs.all id:=by
    rw[List.size_toArray,hb.length];exact LSm.range_all bs
   rw[e];exact fin h' tk (LSm.kept_iter hk)
 |false=>
  refine call_any_walk (wpAny_pyIter_list hl ?_);refine⟨s.heap.objs.size,[s.heap.objs.size,p],[s.heap.objs.size],its.toArray.size,_,_,fun i=>(bs[i]?).getD false,rfl,Walks.list (A:=X.A.in1) hh _ p (Nat.ne_of_lt hlt) its.toArray,
   ⟨⟨_,Heap.get?_push_size _ rfl,rfl,rfl⟩,hl.push _⟩,fun i v s' Q' E' hP hQ=>?_,fun h' tk hk=>?_⟩
  ·obtain⟨b,e,rfl⟩:=hb.get i v (by simpa using hP)
   simp only[e,Option.getD_some]at hQ;exact wpAny_truthy_bool hQ
  ·have e:((List.range its.toArray.size).any fun i=>(bs[i]?).getD false)=bs.any id:=by
    rw[List.size_toArray,hb.length];exact LSm.range_any bs
   rw[e];exact fin h' tk (LSm.kept_iter hk)
end
end L2
namespace L2
open PySem PySem.Spec PyProof.Rows
noncomputable def TyV(X:Cx)(T:String)(x:V)(H:Hp):Prop:=∀(pins:List (Addr×Obj)) (σ:St)(s:Shared)(v:Value),Inv X pins σ H s->RelV x v->s.TypeIs v T/\∀a,v=.ref a->∃ob,s.heap.get? a=some ob/\ob.dict=none
section
variable {X:Cx}{o:Expr}{apos cpos pos:Pos}{id:String}
theorem zQ(pa:PlainAttrs T)(slot:Slot T name id)(hty:typeOf (.builtin id)=pure (.type "method_descriptor"))(hm:MtR X id r)(ho:PE X o t2)(ha:PA X (e::es) ta)
  (hbase:attributeBase o name X.env (eval o X.env)=eval o X.env)
  (hfew:((backTo cpos (starEach (e::es) X.env)).all (fun x=>!x.1)&&(backToKw cpos (keywordEach [] X.env)).all (fun x=>x.1.isSome)
   &&decide ((e::es).length+([]:List Keyword).length+(if ([]:List Keyword).isEmpty then 0 else 1) < 30))=true)
  (hline:(apos.endLine == cpos.line)=true) (hs:starEach (e::es) X.env=(false,eval e X.env)::starEach es X.env) (hplain:(backTo cpos (starEach es X.env)).any (·.1)=false) :
  PE X (.Call (.Attribute o name apos) (e::es) [] cpos) (fun σ H Q=>t2 σ H fun x H1=>TyV X T x H1/\ta σ H1 fun xs H2=>r x xs H2 Q):=by
 intro pins s σ H Q I h;refine wpAny_Call_method_late hbase hfew hline rfl (thn (ho pins s σ H _ I h) fun v s1 ⟨x,H1,I1,r1,ty,q1⟩=>?_)
 obtain⟨h1,h2⟩:=ty pins σ s1 v I1 r1;refine⟨T,id,pa,slot,hty,h1,h2,?_⟩;have hA:=ha cpos pins s1 σ H1 _ I1 q1;rw[hs]at hA ⊢;refine Calls.callWith_builtin (by show (false||(backTo cpos (starEach es X.env)).any (·.1))=false;rw[hplain]<;>rfl) (Calls.evalArgs_plain ?_)
 exact thn hA fun us s2 ⟨vs,H2,I2,r2,q2⟩=>hm pins s2 σ H2 x vs v us Q I2 r1 r2 q2
theorem tz(pa:PlainAttrs T)(slot:Slot T name id)(hty:typeOf (.builtin id)=pure (.type "method_descriptor"))(hm:MtR X id r)(ho:PE X o t2)
  (hbase:attributeBase o name X.env (eval o X.env)=eval o X.env) (hline:(apos.endLine == cpos.line)=true):PE X (.Call (.Attribute o name apos) [] [] cpos) (fun σ H Q=>t2 σ H fun x H1=>TyV X T x H1/\r x [] H1 Q):=by
 intro pins s σ H Q I h;refine wpAny_Call_method0_late hbase hline (thn (ho pins s σ H _ I h) fun v s1 ⟨x,H1,I1,r1,ty,q1⟩=>?_)
 obtain⟨h1,h2⟩:=ty pins σ s1 v I1 r1;exact⟨T,id,pa,slot,hty,h1,h2,Calls.callWith_builtin rfl (PySem.evalArgs_none (hm pins s1 σ H1 x [] v [] Q I1 r1 .nil q1))⟩
noncomputable def VM(X:Cx)(id:String)(r:D->List D->MH->VK3->Prop):Prop:=
 ∀(pins:List (Addr×Obj)) (s:Shared)(σ:St)(H:Hp)(x:D)(xs:List D)(v:V)(vs:List V)(v2:Value)(us:List Value)(M:MH)(Q:VK3)(Q2:VK),Inv X pins σ H s->RelV v v2->Vals vs us->Den X.K H x v->DenL X.K H xs vs->RelM X.K M H->r x xs M Q->Back X.K H Q Q2->
  wpAny (model X.prog X.w) X.A (call (.builtin id) (v2::us)) (EP X pins σ Q2) X.xe s
theorem VM.op(h:VM X id r):MtR X id (fun v vs H Q2=>∃x xs M Q,Den X.K H x v/\DenL X.K H xs vs/\RelM X.K M H/\r x xs M Q/\Back X.K H Q Q2):=by
 intro pins s σ H v vs v2 us Q2 I rv rs ⟨x,xs,M,Q,dx,dl,rm,q,back⟩;exact h pins s σ H x xs v vs v2 us M Q Q2 I rv rs dx dl rm q back
noncomputable def TyD(X:Cx)(T:String)(tb:D->MH->Bool):Prop:=∀(x:D)(v:V)(M:MH)(H:Hp),Den X.K H x v->RelM X.K M H->tb x M=true->TyV X T v H
theorem tO(pa:PlainAttrs T)(slot:Slot T name id)(hty:typeOf (.builtin id)=pure (.type "method_descriptor"))(hm:VM X id r)(ht:TyD X T tb)(ho:PE X o (low X.K cls E2 to))(ha:PA X (e::es) (cZ X.K cls E2 tr))
  (hbase:attributeBase o name X.env (eval o X.env)=eval o X.env) (hn:(e::es).length < 30)
  (hline:(apos.endLine == cpos.line)=true) (hs:starEach (e::es) X.env=(false,eval e X.env)::starEach es X.env) (hplain:(backTo cpos (starEach es X.env)).any (·.1)=false) :
  PE X (.Call (.Attribute o name apos) (e::es) [] cpos) (low X.K cls E2 fun σ M Q E=>to σ M (fun x M1=>tb x M1=true/\tr σ M1 (fun xs M2=>r x xs M2 Q) E) E):=by
 have hst:(backTo cpos (starEach (e::es) X.env)).any (·.1)=false:=by
  rw[hs];show ((false,_)::backTo cpos (starEach es X.env)).any (·.1)=false;rw[List.any_cons,hplain];rfl
 refine (zQ pa slot hty hm.op ho ha hbase (fi hst hn) hline hs hplain).imp fun σ H Q2 hl_=>ex9 hl_ fun σ3 M Q E3 rm ds lk h back=>bb rm ds lk h fun v H1 x M1 dx rm1 t1 q1=>?_
 exact⟨ht x v M1 H1 dx rm1 q1.1,dD rm1 (ds.mono t1) (lk.mono t1) q1.2 fun vs H2 xs M2 dl rm2 t2 q2=>⟨x,xs,M2,Q,dx.mono t2,dl,rm2,q2,back.mono (t1.trans t2)⟩⟩
theorem rV(pa:PlainAttrs T)(slot:Slot T name id)(hty:typeOf (.builtin id)=pure (.type "method_descriptor"))(hm:VM X id r)(ht:TyD X T tb)(ho:PE X o (low X.K cls E2 to))
  (hbase:attributeBase o name X.env (eval o X.env)=eval o X.env) (hline:(apos.endLine == cpos.line)=true) :
  PE X (.Call (.Attribute o name apos) [] [] cpos) (low X.K cls E2 fun σ M Q E=>to σ M (fun x M1=>tb x M1=true/\r x [] M1 Q) E):=
 (tz pa slot hty hm.op ho hbase hline).imp fun σ H Q2 hl_=>ex9 hl_ fun σ3 M Q E3 rm ds lk h back=>bb rm ds lk h fun v H1 x M1 dx rm1 t1 q1=>⟨ht x v M1 H1 dx rm1 q1.1,x,[],M1,Q,dx,.nil,rm1,q1.2,back.mono t1⟩
theorem sX(hb:∀x M,tb x M=true->(aj M x).isSome=true):TyD X "list" tb:=fun x v M H dx rm h pins σ s v2 I rv=>by
 obtain⟨ds,e⟩:=Option.isSome_iff_exists.mp (hb x M h);obtain⟨p,vs,rfl,hq,dl⟩:=bh rm e dx;cases rv;obtain⟨its,_,pl,_⟩:=I.list hq.sq;refine⟨pl.isList.typeIs,fun a e=>?_⟩
 cases e;obtain⟨o,n,e,c,hd,_⟩:=pl;exact⟨o,e,hd⟩
theorem fM:TyD X "dict" (tyB .get):=fun x v M H dx rm h pins σ s v2 I rv=>by
 simp only[tyB,Bool.or_eq_true]at h;rcases h with h|h
 ·obtain⟨⟨ks,ds⟩,e⟩:=Option.isSome_iff_exists.mp h;obtain⟨p,vs,rfl,rd,_⟩:=lE e rm dx;cases rv;obtain⟨_,_,ws,_,dd⟩:=gP I.hok rd;refine⟨dd.typeIs,fun b q=>?_⟩
  cases q;obtain⟨ob,_,_,h1,h2,_⟩:=dd;exact⟨ob,h1,h2.2.1⟩
 ·obtain⟨⟨ks,ds⟩,e⟩:=Option.isSome_iff_exists.mp h;obtain⟨p,vs,xs,rfl,rd,z,_⟩:=fv e rm dx;cases rv;have dd:=cb I rd z;refine⟨dd.typeIs,fun b q=>?_⟩
  cases q;obtain⟨ob,_,_,h1,h2,_⟩:=dd;exact⟨ob,h1,h2.2.1⟩
theorem OptDen.getD{K:PySem.W.Frag}{o:Option D}{ov:Option V}(h:OptDen K H o ov)(dv:Den K H d v):Den K H (o.getD d) (ov.getD v):=by
 cases o with
 |none=>cases ov with
  |none=>exact dv
  |some _=>exact h.elim
 |some d'=>cases ov with
  |none=>exact h.elim
  |some v'=>exact h
theorem cU{K:PySem.W.Frag}(h:DenL K H (d::ds) vs):∃v ws,vs=v::ws/\Den K H d v/\DenL K H ds ws:=by
 obtain⟨v,r,e,dv,dl⟩:=h;exact⟨v,r,e,dv,dl⟩
theorem qY(hu:X.A.units+64 < cLine):VM X "dict.get" (rBm .get):=by
 intro pins s σ H x xs v vs v2 us M Q Q2 I rv rs dx dl rm q back;simp only[rBm]at q;split at q
 ·rename_i y;split at q
  ·rename_i o e;obtain⟨yv,rfl,dy⟩:=dL dl;obtain⟨u,rfl,ru⟩:=rs.one;obtain⟨a,ov,rfl,g,od⟩:=dJ e rm dx dy;cases rv;exact yC (by omega) I g ru fun w' s' I' rw'=>⟨_,H,I',rw',back _ _ _ _ (od.getD (show Den X.K H .non .non from rfl)) rm (.refl _) q⟩
  ·exact q.elim
 ·rename_i y z;split at q
  ·rename_i o e;obtain⟨yv,wv,rfl,dy,dw⟩:=cU dl;obtain⟨zv,rfl,dz⟩:=dL dw;obtain⟨u,w,rfl,ru,rw'⟩:=rs.two;obtain⟨a,ov,rfl,g,od⟩:=dJ e rm dx dy;cases rv;exact rQ (by omega) I g ru rw' fun w' s' I' rw'=>⟨_,H,I',rw',back _ _ _ _ (od.getD dz) rm (.refl _) q⟩
  ·exact q.elim
 ·exact q.elim
theorem wA(hu:X.A.units+64 < cLine):zn X (fun o i v H R2=>∃x k y M R,Den X.K H x o/\Den X.K H k i/\Den X.K H y v/\RelM X.K M H/\bu x k y M R/\∀H' M',RelM X.K M' H'->TM X.K H H'->R M'->R2 H'):=by
 intro pins s σ H o i v ov iv u R2 I ro ri rv ⟨x,k,y,M,R,dx,dk,dy,rm,q,back⟩;unfold bu at q;split at q
 ·rename_i a;cases (show o=.ref a from dx);split at q
  ·rename_i ds n e;split at q
   ·rename_i j ej;cases (show i=.int n from dk);obtain⟨vs,e1,dl⟩:=rm a _ e;have tw:TM X.K H (upd H a (.lst (vs.set j v))):=.put e1 (fun _ z=>by cases z) fun _ _ z=>by cases z
    refine rL pins s σ H _ _ v ov iv u R2 I ro ri rv ⟨a,vs,n,j,rfl,rfl,e1,by rw[<-dl.length];exact ej,?_⟩
    exact back _ _ (rm.write (u:=.lst (ds.set j y)) e1 (fun _ z=>by cases z) (fun _ _ z=>by cases z) ⟨_,ah,(dl.set dy j).mono tw⟩) tw q
   ·exact q.elim
  ·rename_i ks ds e;split at q
   ·rename_i k' ek;cases ro;exact vp (by omega) I rm e (l9 ek dk) ri dy rv q.1 q.2 back
   ·exact q.elim
  ·rename_i ks ds e;split at q
   ·rename_i k' ek;cases ro;obtain⟨b,rfl,sq⟩:=iU ek dk;cases ri;exact AB (by omega) I rm e sq dy rv q.1 q.2 back
   ·exact q.elim
  ·exact q.elim
 ·exact q.elim
theorem sP(hu:X.A.units+64 < cLine)(ho:PE X o (low X.K cls E2 to))(hi:PE X ixe (low X.K cls E2 ti))(hv:PE X value (low X.K cls E2 tv))
  (ha:∀v,assign (.Subscript o ixe pos') X.env v=(do
   let ov<-holding [v] (eval o X.env)
   let iv<-holding [v,ov] (eval ixe X.env)
   standAt pos'
   holding [v,ov,iv] (setItem ov iv v)
   release [v,ov,iv] [])) (hs:swapsWithSole [.Subscript o ixe pos'] value pos.line X.env=pure false) (hw:swappedStores [.Subscript o ixe pos'] value X.env=pure none) (h1:(assignEach [.Subscript o ixe pos'] X.env).map (·.2)=[assign (.Subscript o ixe pos') X.env]) :
  PS X (.Assign [.Subscript o ixe pos'] value pos) (bz X.K cls E2 fun D E σ M=>tv σ M (fun y M1=>to σ M1 (fun x M2=>ti σ M2 (fun k M3=>bu x k y M3 fun M4=>D.nx σ M4) (E σ)) (E σ)) (E σ)):=
 (rY hv (yD ho hi (wA hu) ha) hs hw h1).imp fun D2 σ H hl_=>ex9 hl_ fun σ3 M D3 E3 rm ds lk h er=>bb rm ds (lk.at ds) h fun v H1 y M1 dy rm1 t1 q1=>
  bb rm1 (ds.mono t1) ((lk.at ds).mono t1) q1 fun w H2 x M2 dx rm2 t2 q2=>bb rm2 ((ds.mono t1).mono t2) (((lk.at ds).mono t1).mono t2) q2 fun z H3 k M3 dk rm3 t3 q3=>
   ⟨x,k,y,M3,_,dx.mono t3,dk,(dy.mono t2).mono t3,rm3,q3,fun H' M' rm' t' q'=>er.nx _ _ σ3 M' rm' ((((ds.mono t1).mono t2).mono t3).mono t') (((t1.trans t2).trans t3).trans t') q'⟩
end
end L2
namespace L2
open PySem PySem.Spec PyProof.Rows PySem.W
theorem g5(f:α->β):∀(l:List α)(i:Nat),(l.eraseIdx i).map f=(l.map f).eraseIdx i
 |[],_=>rfl
 |_::_,0=>rfl
 |x::l,i+1=>by simp[g5 f l i]
section
variable {A:Around}{s:Shared} [DecidableEq κ] {knd:HeapKind prog w κ}{xs:List (κ×Addr×Value)}{p:Addr×Value}
theorem kR(hu:knd.room A)(hkey:knd.is s.heap k a)(hm:s.heap.DictOfH knd d xs)(hj:xs[j]?=some (k,p))(hsz:xs.length<=sizeLine)
  (hQ:∀h',h'.DictOfH knd d (xs.eraseIdx j)->Heap.SameBut d s.heap h'->Q (some (entryOfKey knd (k,p))) {s with heap:=h',toks:=s.toks+knd.draws k}) :
  wpAny (model prog w) A (Builtin.Dict.takeOut d (.ref a)) Q E s:=by
 obtain⟨o,es,ep,ho,hc,hd,he,his,hn⟩:=hm;unfold Builtin.Dict.takeOut
 try with_reducible refine wpAny_holding ?_
 refine wpAny_bind (knd.pyHash hu hkey ?_);refine wpAny_bind (wpAny_dictFind_heap (s:={s with toks:=s.toks+knd.draws k}) hu hkey ho hd he his hn ?_ ?_)
 ·intro hno;exact absurd hj (hno j p)
 ·intro i q hi;obtain rfl:i=j:=idxH_unique hn hi hj;refine wpAny_bind (wpAny_dictEntries (s:={s with toks:=s.toks+knd.draws k}) ho hd ?_)
  rw[entry_at he i,hj];refine wpAny_bind (wpAny_updateDictKeys (hz:=by have e:=size_of_entries he;omega) (s:={s with toks:=s.toks+knd.draws k}) ho hd (wpAny_pure (hQ _ ⟨_,_,ep+1,Heap.get?_update_self _ ho (Obj.isFreed_of_dict (Obj.data_mapDictKeys hd _)),
   hc.mapDictKeys _,Obj.data_mapDictKeys hd _,?_,?_,?_⟩ (Heap.SameBut.update ..))))
  ·have e1:(es.eraseIdxIfInBounds i).toList=es.toList.eraseIdx i:=by simp
   rw[e1,he,g5]
  ·intro x hx;exact knd.keeps (his x (List.mem_of_mem_eraseIdx hx)) ho hd (Heap.SameBut.update ..)
  ·rw[g5];exact hn.sublist (List.eraseIdx_sublist _ _)
theorem pY:MeetsIn prog w (Builtin.«dict.pop» ⟨[.ref d,.ref a],[]⟩) (fun A R s=>∃(k:κ) (xs:List (κ×Addr×Value)) (j:Nat) (p:Addr×Value),knd.room A.in1/\knd.is s.heap k a/\s.heap.DictOfH knd d xs/\xs.length<=sizeLine/\xs[j]?=some (k,p)/\
  ∀h',h'.DictOfH knd d (xs.eraseIdx j)->Heap.SameBut d s.heap h'->R (.ok (.ret p.2)) {s with heap:=h',toks:=s.toks+knd.draws k}):=
 .of_wp fun A R s ⟨k,xs,j,p,hu,hkey,hm,hsz,hj,h⟩=>by
  obtain⟨o,es,ep,ho,hc,hd,he,his,hn⟩:=id hm;unfold Builtin.«dict.pop»;refine wpAny_bind ?_;unfold Builtin.Dict.keyAndDefault;refine wpAny_bind (wpAny_notOrdered_dict hm.typeIs ?_);show wpAny _ _ (pure (d,Value.ref a,none)) _ _ s;refine wpAny_pure ?_;have kp:(keyPart (Value.ref a)).isSome=false:=rfl;simp only[kp,Bool.false_eq_true,if_false];have ne:es.isEmpty=false:=by
   have:=size_of_entries he;have hl:j < xs.length:=(List.getElem?_eq_some_iff.mp hj).1;rw[Array.isEmpty_eq_false_iff];intro z;rw[z]at this;simp at this;omega
  refine wpAny_bind (wpAny_dictEntries ho hd (wpAny_bind (wpAny_pure ?_)));simp only[ne,Bool.false_eq_true,if_false];refine wpAny_bind (kR hu hkey hm hj hsz fun h' hm' hs'=>?_)
  simp only[Option.isNone_some,Bool.false_eq_true,if_false];exact wpAny_bind (wpAny_letGo (wpAny_pure ⟨p.2,rfl,h h' hm' hs'⟩))
end
theorem nX{K:PySem.W.Frag}:∀{xs:List (List Int×Addr×Value)}{ds:List D}{vs:List V},DenL K H ds vs->Vals vs (xs.map (·.2.2))->getD (xs.map (·.1)) ds k=some y->
  ∃j p v,xs[j]?=some (k,p)/\Den K H y v/\RelV v p.2/\(xs.eraseIdx j).map (·.1)=aH (xs.map (·.1)) k/\DenL K H (aV (xs.map (·.1)) ds k) (vs.eraseIdx j)/\Vals (vs.eraseIdx j) ((xs.eraseIdx j).map (·.2.2))
 |[],ds,vs,dl,rl,h=>by simp[getD]at h
 |x::xs,[],vs,dl,rl,h=>by simp[getD]at h
 |x::xs,d::ds,_,dl,rl,h=>by
  obtain⟨v,vs,rfl,dv,dl⟩:=dl;rw[List.map_cons]at rl;cases rl with
  |cons h1 h2=>
   by_cases z:x.1=k
   ·simp only[List.map_cons,getD,if_pos z]at h;cases h;refine⟨0,x.2,v,by simp[<-z],dv,h1,?_,?_,?_⟩
    ·simp[aH,z]
    ·simp only[List.map_cons,aV,if_pos z];exact dl
    ·exact h2
   ·simp only[List.map_cons,getD,if_neg z]at h;obtain⟨j,p,v',a1,a2,a3,a4,a5,a6⟩:=nX dl h2 h;refine⟨j+1,p,v',by simpa using a1,a2,a3,?_,?_,?_⟩
    ·simp[aH,z,a4]
    ·simp only[List.map_cons,aV,if_neg z,List.eraseIdx_cons_succ];exact⟨v,_,rfl,dv,a5⟩
    ·exact .cons h1 a6
section
variable {X:Cx}
theorem n9(hu:X.A.units+64 < cLine):VM X "dict.pop" (rBm .popd):=by
 intro pins s σ H x xs v vs v2 us M Q Q2 I rv rs dx dl rm q back;simp only[rBm]at q;split at q
 ·rename_i a y;split at q
  ·rename_i ks ds k e ek;split at q
   ·rename_i d0 hg;obtain⟨yv,rfl,dy⟩:=dL dl;obtain⟨u,rfl,ru⟩:=rs.one;cases (show v=.ref a from dx);cases rv;obtain⟨b,rfl,sq⟩:=iU ek dy;cases (show u=Value.ref b from ru);obtain⟨vs,xs,e0,z,dl0⟩:=rm a _ e;have dd:=cb I (.inl e0) z;rw[<-z.kx]at hg;obtain⟨j,p,v0,a1,a2,a3,a4,a5,a6⟩:=nX dl0 z.vx hg;have hsz:xs.length<=sizeLine:=by
     have:=congrArg List.length z.kx;rw[List.length_map]at this;rw[this];exact z.sz
    refine call_meetsIn PySem.F.slot_dict_pop dd.typeIs PySem.F.entry_dict_pop (PySem.F.args_dict_pop_2 _ _) (pY (knd:=tupleKind (intKind X.prog X.w))) ⟨k,xs,j,p,tupleKind_room_in1 (by omega),dQ I sq,dd,hsz,a1,fun h' dd' hs=>?_⟩
    obtain⟨ob,es,ep,hq,hx,hd,he,_,_⟩:=dd';have tw:TM X.K H (upd H a (.ext (cL a (xs.eraseIdx j)))):=.put e0 (fun _ z=>by cases z) fun _ _ z=>by cases z
    have tb:cL a (xs.eraseIdx j) h':=⟨ob,es,ep,hq,hx,hd,he⟩;have I':Inv X pins σ (upd H a (.ext (cL a (xs.eraseIdx j)))) {s with heap:=h',toks:=s.toks+(tupleKind (intKind X.prog X.w)).draws k}:=
     g7 I (by rw[e0];exact True.intro) hs ⟨ob,hq⟩ ⟨tb,⟨ob,hq⟩,fun g1 g2 ⟨o1,es1,ep1,a1,a2,a3,a4⟩ kk=>⟨o1,es1,ep1,kk _ a1,a2,a3,a4⟩⟩
    have nd:(aH ks k).Nodup:=by
     rw[<-z.kx,<-a4];have:=z.nd;rw[<-z.kx]at this;rw[g5];exact this.sublist (List.eraseIdx_sublist _ _)
    have sz:(aH ks k).length<=sizeLine:=by
     rw[<-z.kx,<-a4,List.length_map];exact Nat.le_trans (List.length_eraseIdx_le _ _) hsz
    rw[z.kx]at a4 a5;exact⟨v0,_,I',a3,back _ _ _ _ (a2.mono tw) (rm.write (u:=.dt (aH ks k) (aV ks ds k)) e0 (fun _ z=>by cases z) (fun _ _ z=>by cases z) ⟨vs.eraseIdx j,_,ah,⟨a4,nd,sz,z.no,a6,fun x hx'=>tw.t _ _ (z.at_ x (List.mem_of_mem_eraseIdx hx'))⟩,a5.mono tw⟩) tw q⟩
   ·exact q.elim
  ·exact q.elim
 ·exact q.elim
end
end L2
namespace L2
open PySem PySem.Spec PyProof.Rows
section
variable {X:Cx}
theorem VM.of{id:String}{r3:D->List D->MH->VK3->Prop}{r:V->List V->Hp->VK->Prop}(h:MtM X id r)
  (hr:∀(H:Hp)(x:D)(xs:List D)(v:V)(vs:List V)(M:MH)(Q:VK3)(Q2:VK),Den X.K H x v->DenL X.K H xs vs->RelM X.K M H->r3 x xs M Q->Back X.K H Q Q2->r v vs H Q2):VM X id r3:=
 fun pins s σ H x xs v vs v2 us M Q Q2 I rv rs dx dl rm q back=>h pins s σ H v vs v2 us Q2 I rv rs (hr H x xs v vs M Q Q2 dx dl rm q back)
theorem lm:TyD X "list" isLstM:=sX fun x M h=>by
 unfold isLstM at h;split at h
 ·split at h
  ·rename_i e;simp[aj,e]
  ·cases h
 ·cases h
theorem DenL.app{K:PySem.W.Frag}:∀{ds es:List D}{vs ws:List V},DenL K H ds vs->DenL K H es ws->DenL K H (ds++es) (vs++ws)
 |[],es,vs,ws,h,g=>by cases (show vs=[] from h);exact g
 |d::ds,es,vs,ws,h,g=>by
  obtain⟨v,us,rfl,dv,dw⟩:=cU h;exact .cons dv (DenL.app dw g)
noncomputable def rp(xs:List V)(i:Int)(y:V):List V:=xs.take (eL xs.length i)++y::xs.drop (eL xs.length i)
noncomputable def rInsert:V->List V->Hp->VK->Prop:=fun x vs H Q=>∃l xs i y,x=.ref l/\vs=[.int i,y]/\H l=some (.lst xs)/\xs.length < sizeLine/\-(2 ^ 62)<=i/\i < 2 ^ 62/\Q .non (upd H l (.lst (rp xs i y)))
theorem pJ:MtM X "list.insert" rInsert:=by
 intro pins s σ H x vs v us Q I rx rv h;obtain⟨l,xs,i,y,rfl,rfl,hH,hz,hi1,hi2,q⟩:=h;cases rx;obtain⟨u,w,rfl,ru,rw'⟩:=rv.two;obtain⟨t,rfl⟩:=ru;obtain⟨z,its,n,r,hl,e⟩:=I.lstM hH;refine call_meets F.slot_list_insert ⟨_,e,rfl⟩ F.entry_list_insert (F.args_list_insert_3 _ _ _) (PySem.AutoSeq1.list_insert_list_int_val_1 l its.toArray n i t w (by
  unfold Builtin.List.listFitsIndex;simp;omega) (by rw[List.size_toArray];omega)) ⟨e,?_⟩
 refine⟨.non,_,I.lset (its':=its.take (eL its.length i)++w::its.drop (eL its.length i)) hH e ?_ ?_ ?_,rfl,q⟩
 ·simp[eL];exact List.take_of_length_le (by rw[List.length_drop];exact Nat.le_refl _)
 ·unfold rp;rw[hl];exact (r.take _).append (.cons rw' (r.drop _))
 ·unfold rp;simp[eL];omega
theorem sL{K:PySem.W.Frag}{H:Hp}{ds:List D}{vs:List V}{i:Int}{y:D}{v:V}(h:DenL K H ds vs)(d:Den K H y v):DenL K H (pO ds i y) (rp vs i v):=by
 unfold pO rp;rw[h.length];exact (h.take _).app (.cons d (h.drop _))
theorem uh{K:PySem.W.Frag}{H:Hp}{M:MH}{a:Addr}{ds es:List D}{vs:List V}(rm:RelM K M H)(e:H a=some (.lst vs))(ws:List V)(h:DenL K H es ws):RelM K (put M a (.lst es)) (upd H a (.lst ws))/\TM K H (upd H a (.lst ws)):=by
 have tw:TM K H (upd H a (.lst ws)):=.put e (fun _ z=>by cases z) fun _ _ z=>by cases z
 exact⟨rm.write (u:=.lst es) e (fun _ z=>by cases z) (fun _ _ z=>by cases z) ⟨_,ah,h.mono tw⟩,tw⟩
theorem j7:VM X "list.insert" (rBm .insert):=VM.of pJ fun H x xs v vs M Q Q2 dx dl rm q back=>by
 simp only[rBm]at q;split at q
 ·rename_i a i y;split at q
  ·rename_i ds e;obtain⟨ws,e1,dw⟩:=rm a _ e;cases (show v=.ref a from dx);obtain⟨iv,us,rfl,di,du⟩:=cU dl;obtain⟨yv,rfl,dy⟩:=dL du;cases (show iv=.int i from di);obtain⟨r1,t1⟩:=uh (ds:=ds) rm e1 _ (sL (i:=i) dw dy);exact⟨a,ws,i,yv,rfl,rfl,e1,by rw[<-dw.length];exact q.1.1,q.1.2.1,q.1.2.2,back _ _ .non _ rfl r1 t1 q.2⟩
  ·exact q.elim
 ·exact q.elim
theorem DenL.at{K:PySem.W.Frag}{H:Hp}{ds:List D}{vs:List V}{k:Nat}{d:D}(h:DenL K H ds vs)(e:ds[k]?=some d):∃v,vs[k]?=some v/\Den K H d v:=h.get e
end
end L2
namespace L2
open PySem PySem.Spec PyProof.Rows PySem.Calls PySem.NumText PySem.W.KIN
end L2
namespace L2
open PySem PySem.Spec PyProof.Rows
noncomputable def AH(K:PySem.W.Frag):Prop:=PySem.W.nsIn K cStatics "sys.int_max_str_digits"=some none
section
variable {X:Cx}
end
end L2
namespace L2
open PySem PySem.Spec PyProof.Rows
section
variable {X:Cx}{s:Shared}{h':Heap}
end
end L2
namespace L2
open PySem PySem.Spec PyProof.Rows
section
variable {X:Cx}{s:Shared}{h':Heap}
end
end L2
namespace L2
open PySem PySem.Spec PyProof.Rows
section
variable {A:Around}{s:Shared}
end
section
variable {prog:Program}{w:World}{A:Around}{E:Value->Shared->Prop}{s:Shared}{z TI TO i1 i2 l1 l2 S:Addr}{xs ys:Array Value}{i:Nat}
end
section
variable {prog:Program}{w:World}{A:Around}{s:Shared}{R:Result->Shared->Prop}{z TI TO i1 i2 l1 l2 S lo:Addr}{xs ys:Array Value}
end
section
variable {prog:Program}{w:World}{A:Around}{E:Value->Shared->Prop}{s:Shared}{R:Result->Shared->Prop}{z TI TO i1 i2 l1 l2 S lo:Addr}{xs ys:Array Value}
end
section
variable {X:Cx}{s:Shared}{h':Heap}
end
end L2
namespace L2
open PySem PySem.Spec PyProof.Rows
section
variable {X:Cx}
end
end L2
namespace L2
open PySem PySem.Spec PyProof.Rows
section
variable {A:Around}{s:Shared}{items:Array Value}
end
end L2
namespace L2
open PySem PySem.Spec PyProof.Rows
end L2
namespace L2
open PySem PySem.Spec PyProof.Rows
section
variable {X:Cx}
theorem qv{s:Shared}(I:Inv X pins σ H s):(s.heap.objs.size == sysModules)=false:=by
 have h:mainGlobals < s.heap.objs.size:=(I.mod.glob.keeps I.bk).lt;have h2:sysModules < mainGlobals:=by decide
 exact beq_eq_false_iff_ne.mpr (Nat.ne_of_gt (Nat.lt_trans h2 h))
theorem yF(tk:Bool):PE X (.Dict [] [] pos) (low X.K cls E2 fun σ M Q E=>∀p,M p=none->Q (.ref p) (put M p (if tk=true then .dt [] [] else .dk [] []))):=by
 refine fun pins s σ H Q2 I hl_=>ex9 hl_ fun σ3 M Q E3 rm ds lk q back=>?_
 have hp:H s.heap.objs.size=none:=I.hok.fresh (Nat.le_refl _);have hb:=qv I;have q0:=q s.heap.objs.size (rm.fresh hp);cases tk with
 |false=>
  have ok0:ObjOk X.prog X.w (upd H s.heap.objs.size (.dK [])) (s.heap.push {cls:=.type "dict",data:=.dict #[]}) s.heap.objs.size (.dK []):=⟨Nat.zero_le _,hb,[],.nil,Heap.DictOf.new s.heap⟩;have I1:=I.laid (a:=s.heap.objs.size) (o:=.dK []) (h':=s.heap.push {cls:=.type "dict",data:=.dict #[]}) (t':=s.toks) (fun _ _ q=>Heap.get?_push_of_some _ q) (Nat.le_refl _) ok0
  have rm1:RelM X.K (put M s.heap.objs.size (.dk [] [])) (upd H s.heap.objs.size (.dK [])):=rm.lay hp ⟨[],ah,rfl,rfl⟩;exact wpAny_Dict_empty ⟨.ref s.heap.objs.size,_,I1,rfl,back _ _ (.ref s.heap.objs.size) _ rfl rm1 (.new hp) q0⟩
 |true=>
  obtain⟨ob,es,ep,hq,hx,hd,he,_,_⟩:=(Heap.DictOfH.new (knd:=tupleKind (intKind X.prog X.w)) s.heap);have tb:cL s.heap.objs.size [] (s.heap.push {cls:=.type "dict",data:=.dict #[]}):=⟨ob,es,ep,hq,hx,hd,he⟩;have ok0:ObjOk X.prog X.w (upd H s.heap.objs.size (.ext (cL s.heap.objs.size []))) (s.heap.push {cls:=.type "dict",data:=.dict #[]}) s.heap.objs.size (.ext (cL s.heap.objs.size [])):=
   ⟨tb,⟨ob,hq⟩,fun g1 g2 ⟨o1,es1,ep1,a1,a2,a3,a4⟩ kk=>⟨o1,es1,ep1,kk _ a1,a2,a3,a4⟩⟩
  have I1:=I.laid (a:=s.heap.objs.size) (o:=.ext (cL s.heap.objs.size [])) (h':=s.heap.push {cls:=.type "dict",data:=.dict #[]}) (t':=s.toks) (fun _ _ q=>Heap.get?_push_of_some _ q) (Nat.le_refl _) ok0
  have rm1:RelM X.K (put M s.heap.objs.size (.dt [] [])) (upd H s.heap.objs.size (.ext (cL s.heap.objs.size []))):=rm.lay hp ⟨[],[],ah,⟨rfl,.nil,Nat.zero_le _,hb,.nil,fun x hx=>nomatch hx⟩,rfl⟩
  exact wpAny_Dict_empty ⟨.ref s.heap.objs.size,_,I1,rfl,back _ _ (.ref s.heap.objs.size) _ rfl rm1 (.new hp) q0⟩
end
end L2
namespace L2
open PySem PySem.Spec PyProof.Rows
section
variable {X:Cx}
end
end L2
namespace L2
open PySem PySem.Spec PyProof.Rows
noncomputable def qw:Option Key->Value->Bool
 |some k,v=>fe k v
 |none,.none=>true
 |none,_=>false
theorem aZ(h:qw none v=true):v=.none:=by cases v<;>first|rfl|cases h
theorem eV(h:fe k .none=true):False:=by
 rcases az h with ⟨i,t,_,e⟩|⟨x,t,_,e⟩<;>cases e
noncomputable def Bi(prog:Program)(w:World):PySem.KeyKind prog w (Option Key) where
 is:=qw
 hash:=fun o=>match o with
  |some k=>D4 w k
  |none=>PySem.W.hashW w.params .none
 inj:=fun v a b ha hb=>by
  cases a with
  |some a=>
   cases b with
   |some b=>exact congrArg some ((au prog w).inj v a b ha hb)
   |none=>cases aZ hb;exact (eV ha).elim
  |none=>
   cases aZ ha;cases b with
   |some b=>exact (eV hb).elim
   |none=>rfl
 byValue:=fun k v h=>by
  cases k with
  |some k=>exact (au prog w).byValue k v h
  |none=>cases aZ h;rfl
 pyHash:=fun {A E s k v Q} hv h=>by
  cases k with
  |some k=>exact (au prog w).pyHash (k:=k) hv h
  |none=>
   cases aZ hv;exact PySem.W.pyHash_slot (T:="NoneType") rfl PySem.F.slot_NoneType_hash PySem.F.entry_NoneType_hash (PySem.F.args_NoneType_hash_1 _) (beq_builtin_none _) (.inl rfl) (wpAny_bind (wpAny_pure (wpAny_bind (wpAny_mkInt (wpAny_pure ⟨_,_,rfl,h⟩)))))
 eqBool:=fun {A E s a b u v Q} hu hv h=>by
  cases a with
  |some a=>
   cases b with
   |some b=>
    have e:decide (some a=some b)=decide (a=b):=by by_cases z:a=b<;>simp[z]
    rw[e]at h;exact (au prog w).eqBool (a:=a) (b:=b) hu hv h
   |none=>
    cases aZ hv;have h:Q false s:=h;rcases az hu with ⟨i,t,rfl,rfl⟩|⟨x,t,rfl,rfl⟩
    ·exact SeqAt.EqAt.int_none i t _ _ _ _ h
    ·exact SeqAt.EqAt.str_none x t _ _ _ _ h
  |none=>
   cases aZ hu;cases b with
   |some b=>
    have h:Q false s:=h;rcases az hv with ⟨i,t,rfl,rfl⟩|⟨x,t,rfl,rfl⟩
    ·exact SeqAt.EqAt.none_int i t _ _ _ _ h
    ·exact SeqAt.EqAt.none_str x t _ _ _ _ h
   |none=>
    cases aZ hv;have h:Q true s:=h;exact SeqAt.EqAt.same .none _ _ _ _ h
 «strs»:=fun k x t v h=>by
  cases k with
  |some k=>exact (au prog w).strs k x t v h
  |none=>cases h
theorem um{h:Heap}(dd:h.DictOf (au P w) a kvs):h.MapOf (Bi P w) a (fun o=>o.bind (valueAt kvs)):=by
 obtain⟨o,es,ep,ho,hc,hd,hk,hf⟩:=dd.mapOf;refine⟨o,es,ep,ho,hc,hd,fun e he=>?_,fun k=>?_⟩
 ·obtain⟨k,h1,h2⟩:=hk e he;exact⟨some k,h1,h2⟩
 ·cases k with
  |some k=>exact hf k
  |none=>
   show (es.find? fun e=>qw none e.key).map (·.val)=none
   rw[Array.find?_eq_none.mpr fun e he z=>?_]
   ·rfl
   ·obtain⟨k,h1,_⟩:=hk e he;have h1:fe k e.key=true:=h1;rw[aZ z]at h1;exact eV h1
noncomputable def isS(x:Str):Option Expr->Bool
 |some (.Constant k _ _)=>match k with
  |.str y=>decide (y=x)
  |_=>false
 |_=>false
noncomputable def isN(i:Int):Expr->Bool
 |.Constant k _ _=>match k with
  |.int j=>decide (j=i)
  |_=>false
 |_=>false
theorem qU(h:isS x o=true):∃a b,o=some (.Constant (.str x) a b):=by
 unfold isS at h;split at h
 ·split at h
  ·cases of_decide_eq_true h;exact⟨_,_,rfl⟩
  ·cases h
 ·cases h
theorem yl(h:isN i e=true):∃a b,e=.Constant (.int i) a b:=by
 unfold isN at h;split at h
 ·split at h
  ·cases of_decide_eq_true h;exact⟨_,_,rfl⟩
  ·cases h
 ·cases h
noncomputable def iM:List (Str×Int)->List (Option Expr)->List Expr->Bool
 |[],[],[]=>true
 |p::ps,k::ks,v::vs=>isS p.1 k&&isN p.2 v&&iM ps ks vs
 |_,_,_=>false
noncomputable def xb:List (Str×Int)->List (Value×Value)->Prop
 |[],[]=>True
 |p::ps,u::us=>(∃t,u.1=.str p.1 t)/\(∃t,u.2=.int p.2 t)/\xb ps us
 |_,_=>False
section
variable {X:Cx}
theorem ms:∀{ps:List (Str×Int)}{ks:List (Option Expr)}{vs:List Expr},iM ps ks vs=true->ks.all (·.isSome)=true/\ks.length=vs.length/\ks.length=ps.length
 |[],[],[],_=>⟨rfl,rfl,rfl⟩
 |p::ps,k::ks,v::vs,h=>by
  simp only[iM,Bool.and_eq_true]at h;obtain⟨a,b,c⟩:=ms h.2;obtain⟨_,_,rfl⟩:=qU h.1.1;exact⟨by simp[a],by simp[b],by simp[c]⟩
 |[],[],_::_,h=>by cases h
 |[],_::_,_,h=>by cases h
 |_::_,[],_,h=>by cases h
 |_::_,_::_,[],h=>by cases h
theorem lI:∀(ps:List (Str×Int)) (ks:List (Option Expr)) (vs:List Expr)(s:Shared) (Q:List (Value×Value)->Shared->Prop),iM ps ks vs=true->Inv X pins σ H s->(∀us s',Inv X pins σ H s'->xb ps us->Q us s')->
  wpAny (model X.prog X.w) X.A (evalPairs (pairTrees ks vs X.env pos)) Q X.xe s
 |[],[],[],s,Q,_,I,h=>pairTrees_nil_walk (h [] s I True.intro)
 |p::ps,k::ks,v::vs,s,Q,hk,I,h=>by
  simp only[iM,Bool.and_eq_true]at hk;obtain⟨⟨h1,h2⟩,h3⟩:=hk;obtain⟨_,_,rfl⟩:=qU h1;obtain⟨_,_,rfl⟩:=yl h2;refine pairTrees_cons_walk ?_;refine thn (m8 pins s σ H (fun y H'=>y=V.str p.1/\H'=H) I ⟨rfl,rfl⟩) fun u s1 ⟨y,H1,I1,r1,e1,e2⟩=>?_
  rw[e1]at r1;rw[e2]at I1;obtain⟨t,rfl⟩:=r1;refine thn (q9 pins s1 σ H (fun y H'=>y=V.int p.2/\H'=H) I1 ⟨rfl,rfl⟩) fun u s2 ⟨y,H2,I2,r2,e1,e2⟩=>?_
  rw[e1]at r2;rw[e2]at I2;obtain⟨t2,rfl⟩:=r2;exact lI ps ks vs s2 (fun r s3=>Q ((.str p.1 t,.int p.2 t2)::r) s3) h3 I2 fun us s' I' l=>h _ s' I' ⟨⟨t,rfl⟩,⟨t2,rfl⟩,l⟩
 |[],[],_::_,_,_,h,_,_=>by cases h
 |[],_::_,_,_,_,h,_,_=>by cases h
 |_::_,[],_,_,_,h,_,_=>by cases h
 |_::_,_::_,[],_,_,h,_,_=>by cases h
theorem mv:∀{ps:List (Str×Int)}{us:List (Value×Value)},xb ps us->∃kvs:List (Key×Value),Carries (au P w) us kvs/\KV (ps.map fun p=>((.inr p.1:Key),V.int p.2)) kvs
 |[],[],_=>⟨[],True.intro,.nil⟩
 |p::ps,(k,v)::us,⟨⟨t,h1⟩,⟨t2,h2⟩,h3⟩=>by
  obtain⟨kvs,c,r⟩:=mv (P:=P) (w:=w) h3;exact⟨(.inr p.1,v)::kvs,⟨by rw[show k=_ from h1];exact gA P w p.1 t,rfl,c⟩,.cons ⟨rfl,⟨t2,h2⟩⟩ r⟩
theorem iy[DecidableEq κ]:∀(kvs acc:List (κ×Value)),((acc++kvs).map (·.1)).Nodup->merged acc kvs=acc++kvs
 |[],acc,_=>by simp[merged]
 |kv::kvs,acc,h=>by
  have e:stored acc kv.1 kv.2=acc++[kv]:=by
   unfold stored;rw[if_neg];intro z;obtain⟨x,hx,hz⟩:=List.any_eq_true.mp z;have hz:=of_decide_eq_true hz;rw[List.map_append,List.nodup_append]at h;exact h.2.2 x.1 (List.mem_map_of_mem hx) kv.1 (by simp) hz
  have ih:=iy kvs (acc++[kv]) (by simpa using h)
  have e2:merged acc (kv::kvs)=merged (stored acc kv.1 kv.2) kvs:=rfl;rw[e2,e,ih];simp
noncomputable def kM(ps:List (Str×Int)):List Key:=ps.map fun p=>.inr p.1
noncomputable def uj(ps:List (Str×Int)):List D:=ps.map fun p=>.int p.2
theorem zF{ps:List (Str×Int)}(hk:iM ps ks vs=true)(h0:ps≠[])(hl:ps.length<=15)(hn:(ps.map (·.1)).Nodup) :
  PE X (.Dict ks vs pos) (low X.K cls E2 fun σ M Q E=>∀p,M p=none->Q (.ref p) (put M p (.dk (kM ps) (uj ps)))):=by
 refine fun pins s σ H Q2 I hl_=>ex9 hl_ fun σ3 M Q E3 rm ds lk q back=>?_
 have hp:H s.heap.objs.size=none:=I.hok.fresh (Nat.le_refl _);have hb:=qv I;obtain⟨k1,k2,k3⟩:=ms hk;have ok0:ObjOk X.prog X.w (upd H s.heap.objs.size (.dK [])) (s.heap.push {cls:=.type "dict",data:=.dict #[]}) s.heap.objs.size (.dK []):=⟨Nat.zero_le _,hb,[],.nil,Heap.DictOf.new s.heap⟩;have I1:=I.laid (a:=s.heap.objs.size) (o:=.dK []) (h':=s.heap.push {cls:=.type "dict",data:=.dict #[]}) (t':=s.toks) (fun _ _ q=>Heap.get?_push_of_some _ q) (Nat.le_refl _) ok0
 have q0:=q s.heap.objs.size (rm.fresh hp);refine wpAny_Dict_walk (knd:=au X.prog X.w) k1 k2 (fun z=>h0 (by rw[z]at k3;exact List.length_eq_zero_iff.mp k3.symm)) (by omega) ?_
 refine lI ps ks vs _ _ hk I1 fun us s3 I3 l=>?_
 obtain⟨kvs,car,rel⟩:=mv (P:=X.prog) (w:=X.w) l;have e1:upd H s.heap.objs.size (.dK []) s.heap.objs.size=some (.dK []):=ah;obtain⟨_,_,vs0,r0,dd⟩:=I3.hok _ _ e1;cases r0;have ek:kvs.map (·.1)=kM ps:=by rw[<-rel.keys,List.map_map];rfl
 have nd:(kvs.map (·.1)).Nodup:=by
  rw[ek];unfold kM;rw[show (ps.map fun p=>(.inr p.1:Key))=(ps.map (·.1)).map Sum.inr by rw[List.map_map];rfl]
  exact List.Pairwise.map _ (fun a b h z=>h (Sum.inr.inj z)) hn
 refine⟨kvs,car,dd,fun h' dd' hs=>?_⟩
 rw[iy kvs [] (by simpa using nd),List.nil_append]at dd'
 have he:∃q,h'.get? s.heap.objs.size=some q:=let ⟨q,_,_,hq,_⟩:=dd';⟨q,hq⟩
 have hz:(ps.map fun p=>((.inr p.1:Key),V.int p.2)).length<=sizeLine:=by rw[List.length_map];exact Nat.le_trans hl (by decide)
 have okn:ObjOk X.prog X.w (upd (upd H s.heap.objs.size (.dK [])) s.heap.objs.size (.dK (ps.map fun p=>((.inr p.1:Key),V.int p.2)))) h' s.heap.objs.size (.dK (ps.map fun p=>((.inr p.1:Key),V.int p.2))):=⟨hz,hb,kvs,rel,dd'⟩
 have I4:=I3.write (o:=.dK (ps.map fun p=>((.inr p.1:Key),V.int p.2))) (t':=s3.toks+us.length) (h':=h') (by rw[e1];exact True.intro) (.inl rfl) (fun b u hb2 q=>(hs.2 b hb2).trans q) he okn
 have tm1:TM X.K H (upd H s.heap.objs.size (.dK [])):=.new hp;have rm1:RelM X.K (put M s.heap.objs.size (.dk [] [])) (upd H s.heap.objs.size (.dK [])):=rm.lay hp ⟨[],ah,rfl,rfl⟩;have tmw:TM X.K (upd H s.heap.objs.size (.dK [])) (upd (upd H s.heap.objs.size (.dK [])) s.heap.objs.size (.dK (ps.map fun p=>((.inr p.1:Key),V.int p.2)))):=.put e1 (fun _ z=>nomatch z) (fun _ _ z=>nomatch z)
 have ez:(kM ps).zip (ps.map fun p=>V.int p.2)=ps.map fun p=>((.inr p.1:Key),V.int p.2):=by
  unfold kM;rw[List.zip_map']
 have odn:OD X.K (upd (upd H s.heap.objs.size (.dK [])) s.heap.objs.size (.dK (ps.map fun p=>((.inr p.1:Key),V.int p.2)))) s.heap.objs.size (.dk (kM ps) (uj ps)):=
  ⟨ps.map fun p=>V.int p.2,by rw[ah,ez],by simp[kM],by
   have:=DenL.of_int (K:=X.K) (H:=upd (upd H s.heap.objs.size (.dK [])) s.heap.objs.size (.dK (ps.map fun p=>((.inr p.1:Key),V.int p.2)))) (ns:=ps.map (·.2))
   rw[List.map_map,List.map_map]at this;exact this⟩
 have rmn:=rm1.write e1 (fun _ z=>nomatch z) (fun _ _ z=>nomatch z) odn
 rw[dm]at rmn;exact⟨.ref s.heap.objs.size,_,I4,rfl,back (.ref s.heap.objs.size) _ (.ref s.heap.objs.size) _ rfl rmn (tm1.trans tmw) q0⟩
theorem yx(hu:X.A.units+64 < cLine):VM X "dict.get" rDl:=by
 intro pins s σ H x xs v vs v2 us M Q Q2 I rv rs dx dl rm q back;unfold rDl at q;split at q
 ·rename_i p y z;cases (show v=.ref p from dx);have rm':RelM X.K (del M p) H:=fun a o e=>rm a o (by
   unfold del at e;split at e
   ·cases e
   ·exact e)
  split at q
  ·rename_i ks ds t e;obtain⟨yv,wv,rfl,dy,dw⟩:=cU dl;obtain⟨zv,rfl,dz⟩:=dL dw;obtain⟨u,w,rfl,ru,rw'⟩:=rs.two;have eg:gu M (.ref p) (.str t)=some (getD ks ds (.inr t)):=by simp[gu,eZ,e,ng]
   obtain⟨a,ov,e2,g,od⟩:=dJ eg rm dx dy;cases e2;cases rv;exact rQ (by omega) I g ru rw' fun w' s' I' rw'=>⟨_,H,I',rw',back _ _ _ _ (od.getD dz) rm' (.refl _) q⟩
  ·rename_i ks ds e;obtain⟨yv,wv,rfl,dy,dw⟩:=cU dl;obtain⟨zv,rfl,dz⟩:=dL dw;obtain⟨u,w,rfl,ru,rw'⟩:=rs.two;cases (show yv=.non from dy);cases (show u=.none from ru);cases rv;obtain⟨vs0,e1,hz,hd⟩:=rm _ _ e;obtain⟨_,hs,vs1,rel,dd⟩:=qA I.hok e1;refine call_meetsIn PySem.F.slot_dict_get dd.typeIs PySem.F.entry_dict_get (PySem.F.args_dict_get_3 _ _ _) (meets_dict_get_default (Bi X.prog X.w) p (k:=none) rfl hs w) ⟨_,um dd,?_⟩;exact⟨_,H,I.tok _,rw',back _ _ _ _ dz rm' (.refl _) q⟩
  ·exact q.elim
 ·exact q.elim
end
end L2
namespace L2
open PySem PySem.Spec PyProof.Rows
section
variable {X:Cx}{A:Around}
end
end L2
namespace L2
open PySem PySem.Spec PyProof.Rows
section
variable {A:Around}{s:Shared}{ob:Obj}{es:Array DictEntry}
end
section
variable {X:Cx}{apos cpos:Pos}
theorem TabOk.grow{K:PySem.W.Frag}(z:TabOk K H d ks xs vs)(t:TM K H H'):TabOk K H' d ks xs vs:=⟨z.kx,z.nd,z.sz,z.no,z.vx,fun x hx=>t.t _ _ (z.at_ x hx)⟩
end
end L2
namespace L2
open PySem PySem.Spec PyProof.Rows PySem.W
section
variable {X:Cx}{apos cpos:Pos}
end
end L2
namespace L2
open PySem PySem.Spec PyProof.Rows
section
variable {X:Cx}
end
end L2
namespace L2
open PySem PySem.Spec PyProof.Rows
theorem ER.upd_nx{K:PySem.W.Frag}(er:ER K H D3 D2)(h:∀σ' H' σ3' M',RelM K M' H'->DenS K H' σ3' σ'->TM K H H'->n3 σ3' M'->n2 σ' H'):ER K H {D3 with nx:=n3} {D2 with nx:=n2}:=⟨h,er.rt,er.bk,er.ct⟩
section
variable {X:Cx}{cls:Nat->Addr}{E2:St->XK}{st:Stmt}{rest:List Stmt}{t u:Ends3->(St3->XN)->St3->MH->Prop}{e:Expr}{te:St3->MH->VK3->XN->Prop}{pos:Pos}
theorem Be:PSs X [] (bz X.K cls E2 fun D _ σ M=>D.nx σ M):=pss_nil.imp fun D2 σ H hl_=>ex9 hl_ fun σ3 M D3 E3 rm ds lk h er=>er.nx σ H σ3 M rm ds (.refl _) h
theorem xk(h1:PS X st (bz X.K cls E2 t))(h2:PSs X rest (bz X.K cls E2 u)):PSs X (st::rest) (bz X.K cls E2 fun D E σ M=>t {D with nx:=fun σ' M'=>u D E σ' M'} E σ M):=
 (lV h1 h2).imp fun D2 σ H hl_=>ex9 hl_ fun σ3 M D3 E3 rm ds lk h er=>⟨σ3,M,_,E3,rm,ds,lk,h,er.upd_nx fun σ' H' σ3' M' rm' ds' tm q=>⟨σ3',M',D3,E3,rm',ds',lk.mono tm,q,er.mono tm⟩⟩
theorem Dm{i:Nat}(h2:PSs X rest (bz X.K cls E2 u)):PSs X rest (bz X.K cls E2 fun D E σ M=>match σ[i]? with
  |some (some (.ref a))=>u D E σ (del M a)
  |_=>False):=h2.imp fun D2 σ H hl_=>ex9 hl_ fun σ3 M D3 E3 rm ds lk h er=>by
 dsimp only at h;split at h
 ·rename_i a e;exact⟨σ3,_,D3,E3,rm.sub fun b o q=>(hG q).2,ds,lk,h,er⟩
 ·exact h.elim
theorem zu:PS X st (bz X.K cls E2 fun _ _ _ _=>False):=fun _ _ _ _ _ _ hl_=>ex9 hl_ fun _ _ _ _ _ _ _ h _=>h.elim
theorem z8(he:PE X e (low X.K cls E2 te))(hs:swapsWith e none pos.line X.env=pure false):PS X (.Expr e pos) (bz X.K cls E2 fun D E σ M=>te σ M (fun _ M1=>D.nx σ M1) (E σ)):=
 (kC he hs).imp fun D2 σ H hl_=>ex9 hl_ fun σ3 M D3 E3 rm ds lk h er=>bb rm ds (lk.at ds) h fun v H1 x M1 dx rm1 t1 q1=>er.nx σ H1 σ3 M1 rm1 (ds.mono t1) t1 q1
theorem Cc(he:PE X e (low X.K cls E2 te)):PS X (.Return (some e) pos) (bz X.K cls E2 fun D E σ M=>te σ M D.rt (E σ)):=
 (vv he).imp fun D2 σ H hl_=>ex9 hl_ fun σ3 M D3 E3 rm ds lk h er=>bb rm ds (lk.at ds) h fun v H1 x M1 dx rm1 t1 q1=>er.rt v H1 x M1 dx rm1 t1 q1
theorem zl:PS X (.Return none pos) (bz X.K cls E2 fun D _ _ M=>D.rt .non M):=ps_retN.imp fun D2 σ H hl_=>ex9 hl_ fun σ3 M D3 E3 rm ds lk h er=>er.rt .non H .non M rfl rm (.refl _) h
theorem F0(hc:PT X c (cB X.K cls E2 tA))(ha:PSs X a (bz X.K cls E2 t))(hb:PSs X b (bz X.K cls E2 u)) :
  PS X (.If c a b pos) (bz X.K cls E2 fun D E σ M=>tA σ M (fun k M1=>if k=true then t D E σ M1 else u D E σ M1) (E σ)):=
 (Ee hc ha hb).imp fun D2 σ H hl_=>ex9 hl_ fun σ3 M D3 E3 rm ds lk h er=>jk rm ds (lk.at ds) h fun k H1 M1 rm1 t1 q1=>by
  cases k with
  |true=>rw[if_pos rfl]at q1 ⊢;exact⟨σ3,M1,D3,E3,rm1,ds.mono t1,lk.mono t1,q1,er.mono t1⟩
  |false=>rw[if_neg Bool.false_ne_true]at q1 ⊢;exact⟨σ3,M1,D3,E3,rm1,ds.mono t1,lk.mono t1,q1,er.mono t1⟩
theorem vc(hN:X.N.Nodup)(hi:X.N[i]?=some x)(hx:Loc X.env.scope x)(he:PE X e (low X.K cls E2 te))(hs:swapsWith e (some (.Name x pos')) pos.line X.env=pure false)(hf:X.fn x=true\/X.env.scope.names.lookup x=some .local) :
  PS X (.Assign [.Name x pos'] e pos) (bz X.K cls E2 fun D E σ M=>te σ M (fun x M1=>D.nx (σ.set i (some x)) M1) (E σ)):=
 (xU hN hi hx he hs hf).imp fun D2 σ H hl_=>ex9 hl_ fun σ3 M D3 E3 rm ds lk h er=>bb rm ds (lk.at ds) h fun v H1 x M1 dx rm1 t1 q1=>er.nx _ _ _ _ rm1 ((ds.mono t1).set dx) t1 q1
theorem xO(hN:X.N.Nodup)(hi:X.N[i]?=some x)(hx:Loc X.env.scope x)(hf:X.fn x=true\/X.env.scope.names.lookup x=some .local):PG X (.Name x pos) (oy X.K (wpG (.name i))):=
 (hU hN hi hx hf).imp fun v σ H Q2 ⟨d,σ3,M,Q,dv,rm,ds,h,back⟩=>back _ _ _ _ rm (ds.set dv) (.refl _) h
noncomputable def bY(N:List Str)(sc:Scope)(fn:Bool):List Nat->List Expr->Bool
 |[],[]=>true
 |i::is,.Name x _::es=>(N[i]? == some x)&&(sc.names.lookup x == some .local||(fn&&sc.names.lookup x == some .cell))&&bY N sc fn is es
 |_,_=>false
noncomputable def jg(is:List Nat)(xs:List α)(σ:List (Option α)):List (Option α):=(is.zip xs).foldl (fun σ p=>σ.set p.1 (some p.2)) σ
theorem jT(hN:X.N.Nodup)(hfn:fn=true->∀x,X.fn x=true):∀{is:List Nat}{es:List Expr},bY X.N X.env.scope fn is es=true->
  PGs X es (fun vs σ H Q=>vs.length=is.length/\Q (jg is vs σ) H)/\(assignEach es X.env).length=is.length/\(assignEach es X.env).findIdx? (·.1)=none
 |[],[],_=>⟨fun pins s σ H vs us Q I r ⟨e,h⟩=>sH pins s σ H vs us Q I r ⟨List.length_eq_zero_iff.mp e,by cases List.length_eq_zero_iff.mp e;exact h⟩,rfl,rfl⟩
 |[],_::_,h=>by simp[bY]at h
 |i::is,es,h=>by
  unfold bY at h;split at h
  ·rename_i heq;cases heq
  ·rename_i i' is' x px es' heq;cases heq;simp only[Bool.and_eq_true,beq_iff_eq,Bool.or_eq_true]at h;obtain⟨⟨h1,h2⟩,h3⟩:=h;obtain⟨ih,il,ix⟩:=jT hN hfn h3;have hg:PG X (.Name x px) (nH i):=by
    rcases h2 with h2|⟨h2,h4⟩
    ·exact hU hN h1 (.inl h2) (.inr h2)
    ·exact hU hN h1 (.inr h4) (.inl (hfn h2 x))
   refine⟨fun pins s σ H vs us Q I r ⟨e,q⟩=>?_,by show (assignEach es' X.env).length+1=is.length+1;rw[il],?_⟩
   ·cases vs with
    |nil=>cases e
    |cons v vs=>exact qj hg ih rfl pins s σ H (v::vs) us Q I r ⟨v,vs,rfl,by simpa using e,q⟩
   ·show List.findIdx? (·.1) ((false,assign (.Name x px) X.env)::assignEach es' X.env)=none;rw[List.findIdx?_cons];simp[ix]
  ·cases h
theorem i4{K:PySem.W.Frag}:∀{is:List Nat}{ds:List D}{vs:List V}{σ3:St3}{σ:St},DenL K H ds vs->DenS K H σ3 σ->DenS K H (jg is ds σ3) (jg is vs σ)
 |[],_,_,_,_,_,h=>by simpa [jg] using h
 |i::is,[],vs,_,_,dl,h=>by cases (show vs=[] from dl);simpa [jg] using h
 |i::is,d::ds,vs,_,_,dl,h=>by
  obtain⟨v,r,rfl,dv,dl⟩:=dl;exact i4 (is:=is) dl (h.set (i:=i) dv)
theorem uV(hc:X.calm=true)(hN:X.N.Nodup)(hfn:fn=true->∀x,X.fn x=true)(ok:bY X.N X.env.scope fn is es=true):PG X (.Tuple es k pos) (oy X.K (wpG (.tup is))):=by
 obtain⟨h1,h2,h3⟩:=jT hN hfn ok;refine (zO hc h1 h2 h3).imp fun v σ H Q2 ⟨d,σ3,M,Q,dv,rm,ds,h,back⟩=>?_
 simp only[wpG]at h;split at h
 ·rename_i es';obtain⟨p,vs,rfl,sq,dl⟩:=dv;obtain⟨z,q⟩:=h;exact⟨p,vs,rfl,sq,by rw[<-dl.length];exact z,by rw[<-dl.length];exact z,back _ _ _ _ rm (i4 dl ds) (.refl _) q⟩
 ·exact h.elim
theorem Ba{is:List Nat}(hc:X.calm=true)(hN:X.N.Nodup)(hfn:fn=true->∀x,X.fn x=true)(ok:bY X.N X.env.scope fn is es=true)(he:PE X e (low X.K cls E2 te))
  (hs:swapsWithSole [.Tuple es k p2] e pos.line X.env=pure false) (hw:swappedStores [.Tuple es k p2] e X.env=pure none) :
  PS X (.Assign [.Tuple es k p2] e pos) (bz X.K cls E2 fun D E σ M=>te σ M (fun x M1=>match x with
  |.tup ds=>ds.length=is.length/\D.nx ((is.zip ds).foldl (fun σ p=>σ.set p.1 (some p.2)) σ) M1
  |_=>False) (E σ)):=
 (rY he (uV (is:=is) hc hN hfn ok) hs hw (by rfl)).imp fun D2 σ H hl_=>ex9 hl_ fun σ3 M D3 E3 rm ds lk h er=>bb rm ds (lk.at ds) h fun v H1 x M1 dx rm1 t1 q1=>
  ⟨x,σ3,M1,D3.nx,dx,rm1,ds.mono t1,by simp only[wpG];exact q1,fun σ' H' σ3' M' r' d' t' q'=>er.nx σ' H' σ3' M' r' d' (t1.trans t') q'⟩
theorem Dk(hp:PassesOwn (model X.prog X.w) X.A X.env X.xe)(hc:X.calm=true)(hi:PI X tg iter (oA X.K cls E2 wi))(hg:PG X tg (oy X.K g))(hb:PSs X body (bz X.K cls E2 t))
  (hs:∀x,foldedSetIterable iter X.env x=pure x):PS X (.For tg iter body [] pos) (bz X.K cls E2 fun D E σ M=>wi σ M (fun ds S M1=>i8 g (fun D σ M=>t D E σ M) S D ds σ M1) (E σ)):=by
 refine (zZ hp hc hi hg hb hs).imp fun D2 σ H hl_=>ex9 hl_ fun σ3 M D3 E3 rm ds0 lk h er=>⟨σ3,M,_,E3 σ3,rm,ds0,lk.at ds0,h,fun J H1 ds S M1 ok rm1 tm1 hP=>?_⟩
 refine⟨fun i m σ' H'=>∃σ3' M',m=ds.length - i/\i<=ds.length/\RelM X.K M' H'/\DenS X.K H' σ3' σ'/\TM X.K H1 H'/\i8 g (fun D σ M=>t D E3 σ M) S D3 (ds.drop i) σ3' M',⟨ds.length,σ3,M1,by simp,Nat.zero_le _,rm1,ds0.mono tm1,.refl _,hP⟩,?_⟩
 rintro i m σ' H' ⟨σ3',M',rfl,hil,rm',ds',tm',p⟩;by_cases hlt:i < ds.length
 ·rw[List.drop_eq_getElem_cons hlt]at p;obtain⟨s',p⟩:=p;refine .inr ⟨ok.go i H' M' tm' rm' s' hlt,fun σ4 H4=>∃σ34 M4,RelM X.K M4 H4/\DenS X.K H4 σ34 σ4/\TM X.K H1 H4/\i8 g (fun D σ M=>t D E3 σ M) S D3 (ds.drop (i+1)) σ34 M4,?_,?_⟩
  ·rintro σ4 H4 ⟨σ34,M4,e1,e2,e3,e4⟩;exact⟨ds.length - (i+1),by omega,σ34,M4,rfl,hlt,e1,e2,e3,e4⟩
  ·intro x H2 y;obtain⟨tm2,rm2,d,hd,dv⟩:=ok.yld i H' M' x H2 tm' rm' s' hlt y;rw[List.getElem?_eq_getElem hlt]at hd;cases hd;refine⟨_,σ3',M',_,dv,rm2,ds'.mono tm2,p,fun σ5 H5 σ35 M5 rm5 ds5 tm5 q5=>?_⟩
   have tmA:TM X.K H1 H5:=(tm'.trans tm2).trans tm5;exact⟨σ35,M5,_,E3,rm5,ds5,lk.mono (tm1.trans tmA),q5,⟨fun σ6 H6 σ36 M6 rm6 ds6 tm6 q6=>⟨σ36,M6,rm6,ds6,tmA.trans tm6,q6⟩,fun v H6 d6 M6 dv6 rm6 tm6 q6=>er.rt v H6 d6 M6 dv6 rm6 (tm1.trans (tmA.trans tm6)) q6,
    fun σ6 H6 σ36 M6 rm6 ds6 tm6 q6=>er.nx σ6 H6 σ36 M6 rm6 ds6 (tm1.trans (tmA.trans tm6)) q6,fun σ6 H6 σ36 M6 rm6 ds6 tm6 q6=>⟨σ36,M6,rm6,ds6,tmA.trans tm6,q6⟩⟩⟩
 ·have e:i=ds.length:=by omega
  subst e;rw[List.drop_length]at p;exact .inl ⟨ok.stop H' M' tm' rm' p.1,er.nx σ' H' σ3' M' rm' ds' (tm1.trans tm') p.2⟩
theorem uJ(hx:kZ X E)(hE:E2=fun _=>E)(hc:X.calm=true)(hg:Gl X x)(hm:X.mg x=some (.ref (cls i)))(q:uO X.K (cls i))(ha:PA X (e::es) (cZ X.K cls E2 tr))(hdb:(x == ("__debug__" : Str))=false)
  (he:starEach (e::es) X.env=(false,eval e X.env)::starEach es X.env) (hpl:(backTo cpos (starEach es X.env)).any (·.1)=false) :
  PS X (.Raise (some (.Call (.Name x np) (e::es) [] cpos)) none pos) (bz X.K cls E2 fun _ E σ M=>tr σ M (fun xs M1=>xs.length<=sizeLine/\E σ ⟨i,none⟩ M1) (E σ)):=by
 subst hE;exact (rD hx hc hg hm q ha hdb he hpl).imp fun D2 σ H hl_=>ex9 hl_ fun σ3 M D3 E3 rm ds lk h er=>dD rm ds (lk.at ds) h fun vs H1 xs M1 dl rm1 t1 ⟨z,q⟩=>⟨by rw[<-dl.length];exact z,lk σ3 σ ⟨i,none⟩ M1 H1 t1 (ds.mono t1) rm1 q none rfl⟩
theorem qy{E:XK}{x:Str}{np cpos:Pos}{i f:Nat}{xin:Nat->Option Nat}{fI:Addr}{fd:FuncData}{ps:List Str}{es:List Expr}{tr:St3->MH->(List D->MH->Prop)->XN->Prop}(hx:hV X E)(hE:E2=fun _=>E)(hc:X.calm=true)(hg:Gl X x)(hm:X.mg x=some (.ref (cls i)))(q:XIni X.K (cls i) fI (fnm f))
  (F:FnOk X.prog X.w X.K X.mg X.base (CX1 X.prog X.w) 1 fI fd ps (gD (cpF f) X.K (cls i) (fnm f))) (hr:Room 2 X.A)(hb:Binds X.K fd ps []) (hf:xin i=some f) (ha:PA X (e::es) (cZ X.K cls E2 tr)) (hdb:(x == ("__debug__" : Str))=false)
  (he:starEach (e::es) X.env=(false,eval e X.env)::starEach es X.env) (hpl:(backTo cpos (starEach es X.env)).any (·.1)=false) :
  PS X (.Raise (some (.Call (.Name x np) (e::es) [] cpos)) none pos) (bz X.K cls E2 fun _ E σ M=>tr σ M (fun xs M1=>match xs with
   |[y]=>cW (xin i) fun f=>rXp f y M1 fun y'=>E σ ⟨i,some (f,y')⟩ M1
   |_=>False) (E σ)):=by
 subst hE;refine (pp hx hc hg hm q F hr hb ha hdb he hpl).imp fun D2 σ H hl_=>ex9 hl_ fun σ3 M D3 E3 rm ds lk h er=>dD rm ds (lk.at ds) h fun vs H1 xs M1 dl rm1 t1 q=>?_
 split at q
 ·rename_i y;rw[hf]at q;obtain⟨v,r,e1,dv,e2⟩:=dl;cases (show r=[] from e2);subst e1;simp only[cW,rXp]at q;refine⟨v,rfl,fun z dx ob n=>?_,fun z=>?_⟩
  ·rw[z,if_neg Bool.false_ne_true]at q;exact lk σ3 σ ⟨i,some (f,y)⟩ M1 _ (t1.trans (.new n)) (ds.mono (t1.trans (.new n))) (rm1.grow n) q (some dx) ⟨dx,ob,v,rfl,ah,dv.mono (.new n)⟩
  ·rw[z,if_pos rfl]at q;split at q
   ·rename_i es ee;obtain⟨p,ws,rfl,hq,dl2⟩:=bh rm1 ee dv;refine⟨p,ws,rfl,hq.elim .inl SqM.sq,fun q' o dx ob n1 n2 nn=>?_⟩
    have tA:TM X.K H1 (upd H1 q' (.frz o (.lst ws))):=.new n1;have n3:upd H1 q' (.frz o (.lst ws)) dx=none:=by rw[ae nn];exact n2
    have tB:=tA.trans (.new (o:=.frz ob (.xd [(fnm f,.ref q')])) n3);exact lk σ3 σ ⟨i,some (f,.rol es)⟩ M1 _ (t1.trans tB) (ds.mono (t1.trans tB)) ((rm1.grow n1).grow n3) q (some dx) ⟨dx,ob,.ref q',rfl,ah,⟨q',ws,rfl,.inl ⟨o,by rw[ae (Ne.symm nn),ah]⟩,dl2.mono tB⟩⟩
   ·exact q.elim
 ·exact q.elim
theorem DC{apos cpos:Pos}(ho:PE X o (low X.K cls E2 to))(he:PE X e (low X.K cls E2 te))(hbase:attributeBase o "append" X.env (eval o X.env)=eval o X.env)
  (hline:(apos.endLine == cpos.line)=true) (hs:starEach [e] X.env=[(false,eval e X.env)]) :
  PS X (.Expr (.Call (.Attribute o "append" apos) [e] [] cpos) pos) (bz X.K cls E2 fun D E σ M=>to σ M (fun x M1=>match x with
  |.ref a=>match M1 a with
   |some (.lst _)=>te σ M1 (fun y M2=>match M2 a with
    |some (.lst ds)=>ds.length < sizeLine/\D.nx σ (put M2 a (.lst (ds++[y])))
    |_=>False) (E σ)
   |_=>False
  |_=>False) (E σ)):=by
 have hm:MtR X "list.append" rAppend:=jI;have h1:=BV (X:=X) PySem.F.plainAttrs_list PySem.F.slot_list_append PySem.F.type_list_append hm ho (bD he pa_nil hs) hbase (by rw[hs];rfl) hline hs (by rfl)
 refine (kC h1 (by rfl)).imp fun D2 σ H hl_=>ex9 hl_ fun σ3 M D3 E3 rm ds lk h er=>?_
 refine bb rm ds (lk.at ds) h fun v H1 x M1 dx rm1 t1 q1=>?_
 split at q1
 ·rename_i a;cases (show v=.ref a from dx);split at q1
  ·rename_i ds0 e0;obtain⟨vs0,f0,_⟩:=rm1 a _ e0;refine⟨.inl ⟨rfl,vs0,.of f0⟩,bb rm1 (ds.mono t1) ((lk.mono t1).at (ds.mono t1)) q1 fun u H2 y M2 dy rm2 t2 q2=>?_⟩
   split at q2
   ·rename_i ds1 e1;obtain⟨vs,f1,dl⟩:=rm2 a _ e1;refine⟨a,vs,u,rfl,rfl,f1,by rw[<-dl.length];exact q2.1,?_⟩
    have tw:TM X.K H2 (upd H2 a (.lst (vs++[u]))):=.put f1 (fun _=>fun z=>nomatch z) fun _ _=>fun z=>nomatch z
    exact er.nx _ _ _ _ (rm2.write (u:=.lst (ds1++[y])) f1 (fun _=>fun z=>nomatch z) (fun _ _=>fun z=>nomatch z) ⟨_,ah,(dl.append (.one dy)).mono tw⟩) (((ds.mono t1).mono t2).mono tw) ((t1.trans t2).trans tw) q2.2
   ·exact q2.elim
  ·exact q1.elim
 ·exact q1.elim
end
end L2
namespace L2
open PySem PySem.Spec PyProof.Rows
noncomputable abbrev no2:St->XK:=fun _ _ _ _=>False
theorem pR{K:PySem.W.Frag}(h:DenS K H σ3 σ):DenS K H (ay js σ3) (iH js σ):=by
 refine⟨by simp[ay,iH],fun i d e=>?_⟩
 unfold ay at e;unfold iH;rw[List.getElem?_map]at e ⊢;cases q:js[i]? with
 |none=>rw[q]at e;cases e
 |some o=>
  rw[q]at e;cases o with
  |none=>cases e
  |some j=>
   rw[Option.map_some,Option.bind_some]at e;cases z:σ3[j]? with
   |none=>rw[z]at e;cases e
   |some y=>
    rw[z]at e;have e:some (id y)=some (some d):=e;have e:y=some d:=Option.some.inj e;subst e;obtain⟨v,e1,e2⟩:=h.2 j d z;refine⟨v,?_,e2⟩;rw[Option.map_some,Option.bind_some,e1];rfl
section
variable {X:Cx}
theorem i9(rm:RelM X.K M H)(ds0:DenS X.K H σ3 σ)(lk:LkE X.K cls H E3 (E2 σ))
  (h:wi σ3 M (fun ds S M1=>∀p,M1 p=none->c7 g (fun σ M Q=>tt σ M Q (fun _ _=>False)) (fun σ M Q=>te σ M Q (fun _ _=>False)) S p Q ds [] (ay js σ3) (put M1 p (.lst []))) E3) (back:Back X.K H Q Q2) :
  ow js (oA X.K cls E2 wi) (oy X.K g) (cB X.K cls no2 tt) (low X.K cls no2 te) σ H Q2:=by
 refine⟨σ3,M,_,E3,rm,ds0,lk,h,fun J H1 ds S M1 ok rm1 tm1 hP p hp=>?_⟩
 have hP:=hP p (rm1.fresh hp);refine⟨fun i m σc H'=>∃σ3c ys M',m=ds.length - i/\i<=ds.length/\RelM X.K M' H'/\DenS X.K H' σ3c σc/\TM X.K H1 H'/\c7 g (fun σ M Q=>tt σ M Q (fun _ _=>False)) (fun σ M Q=>te σ M Q (fun _ _=>False)) S p Q (ds.drop i) ys σ3c M',
  ⟨ds.length,_,[],_,by simp,Nat.zero_le _,rm1.lay (u:=.lst []) hp ⟨[],ah,.nil⟩,(pR ds0).mono (tm1.trans (.new hp)),.new hp,hP⟩,?_⟩
 rintro i m σc H' ⟨σ3c,ys,M',rfl,hil,rm',ds',tm',q⟩;by_cases hlt:i < ds.length
 ·rw[List.drop_eq_getElem_cons hlt]at q;obtain⟨s',hl,q⟩:=q;refine .inr ⟨ok.go i H' M' tm' rm' s' hlt,fun x H2 y=>?_⟩
  obtain⟨tm2,rm2,d,hd,dv⟩:=ok.yld i H' M' x H2 tm' rm' s' hlt y;rw[List.getElem?_eq_getElem hlt]at hd;cases hd;refine⟨_,σ3c,M',_,dv,rm2,ds'.mono tm2,q,fun σ5 H5 σ35 M5 rm5 ds5 tm5 q5=>?_⟩
  refine⟨σ35,M5,_,_,rm5,ds5,LkE.no,q5,fun b H6 M6 rm6 tm6 q6=>?_⟩
  have tmA:TM X.K H1 H6:=((tm'.trans tm2).trans tm5).trans tm6;cases b with
  |true=>
   rw[if_pos rfl]at q6;dsimp only;rw[if_pos rfl];refine⟨σ35,M6,_,_,rm6,ds5.mono tm6,LkE.no,q6,fun v H7 y M7 dy rm7 tm7 ⟨e7,q7⟩=>?_⟩
   obtain⟨vs,f7,dl⟩:=rm7 p _ e7;have tw:TM X.K H7 (upd H7 p (.lst (vs++[v]))):=.put f7 (fun _=>fun z=>nomatch z) fun _ _=>fun z=>nomatch z
   exact⟨vs,f7,by rw[<-dl.length];exact hl,ds.length - (i+1),by omega,σ35,ys++[y],_,rfl,hlt,rm7.write (u:=.lst (ys++[y])) f7 (fun _=>fun z=>nomatch z) (fun _ _=>fun z=>nomatch z) ⟨_,ah,(dl.append (.one dy)).mono tw⟩,((ds5.mono tm6).mono tm7).mono tw,(tmA.trans tm7).trans tw,q7⟩
  |false=>
   rw[if_neg Bool.false_ne_true]at q6;dsimp only;rw[if_neg Bool.false_ne_true];exact⟨ds.length - (i+1),by omega,σ35,ys,M6,rfl,hlt,rm6,ds5.mono tm6,tmA,q6⟩
 ·have e:i=ds.length:=by omega
  subst e;rw[List.drop_length]at q;exact .inl ⟨ok.stop H' M' tm' rm' q.1,back _ _ _ _ fB rm' (tm1.trans tm') q.2⟩
variable (hok:dI N js scope X.env.scope X.N=true) (hcalm:X.calm=true) (hi:PI X tg iter (oA X.K cls E2 wi))
  (hg:∀C s2 H2 fp pn,PG (compCx X scope C N s2 H2 fp pn) tg (oy X.K g)) (ht:∀C s2 H2 fp pn,PIf (compCx X scope C N s2 H2 fp pn) ifs (cB X.K cls no2 tt)) (he:∀C s2 H2 fp pn,PE (compCx X scope C N s2 H2 fp pn) elt (low X.K cls no2 te))
  (hs:∀x,foldedSetIterable iter X.env x=pure x)
include hok hcalm hi hg ht he hs
theorem nD:PE X (.ListComp elt [⟨tg,iter,ifs,0⟩] scope pos) (low X.K cls E2 fun σ M Q E=>wi σ M (fun ds S M1=>∀p,M1 p=none->c7 g (fun σ M Q=>tt σ M Q (fun _ _=>False)) (fun σ M Q=>te σ M Q (fun _ _=>False)) S p Q ds [] (ay js σ) (put M1 p (.lst []))) E):=
 (tQ hok hcalm hi hg ht he hs).imp fun σ H Q2 hl_=>ex9 hl_ fun σ3 M Q E3 rm ds lk h back=>i9 rm ds lk h back
theorem xq(fz:Bool):PE X (.ListComp elt [⟨tg,iter,ifs,0⟩] scope pos) (low X.K cls E2 fun σ M Q E=>wi σ M (fun ds S M1=>∀p,M1 p=none->c7 g (fun σ M Q=>tt σ M Q (fun _ _=>False)) (fun σ M Q=>te σ M Q (fun _ _=>False)) S p (if fz=true then eW Q else Q) ds [] (ay js σ) (put M1 p (.lst []))) E):=by
 cases fz with
 |false=>exact nD hok hcalm hi hg ht he hs
 |true=>exact wo (nD hok hcalm hi hg ht he hs)
theorem m6{spos:Pos}(hN:X.N.Nodup)(hy:X.N[i]?=some y)(hl:X.env.scope.names.lookup y=some .local)(hsw:swapsWith (.ListComp elt [⟨tg,iter,ifs,0⟩] scope pos) (some (.Name y py)) spos.line X.env=pure true)(fz:Bool) :
  PS X (.Assign [.Name y py] (.ListComp elt [⟨tg,iter,ifs,0⟩] scope pos) spos) (bz X.K cls E2 fun D E σ M=>wi σ M (fun ds S M1=>∀p,M1 p=none->c7 g (fun σ M Q=>tt σ M Q (fun _ _=>False)) (fun σ M Q=>te σ M Q (fun _ _=>False)) S p (if fz=true then eW (fun x M1=>D.nx (σ.set i (some x)) M1) else (fun x M1=>D.nx (σ.set i (some x)) M1)) ds [] (ay js σ) (put M1 p (.lst []))) (E σ)):=by
 cases fz with
 |false=>exact (jm hN hy hl hok hcalm hi hg ht he hs hsw).imp fun D2 σ H hl_=>ex9 hl_ fun σ3 M D3 E3 rm ds lk h er=>i9 rm ds (lk.at ds) h fun v H1 x M1 dx rm1 t1 q1=>er.nx _ _ _ _ rm1 ((ds.mono t1).set dx) t1 q1
 |true=>
  refine fun pins s σ H D2 I hl_=>ex9 hl_ fun σ3 M D3 E3 rm ds lk h er=>?_
  refine thn (jm hN hy hl hok hcalm hi hg ht he hs hsw pins s σ H {D2 with nx:=fun σ' H'=>∃x v M1,σ'=σ.set i (some v)/\Den X.K H' x v/\RelM X.K M1 H'/\TM X.K H H'/\eW (fun x M1=>D3.nx (σ3.set i (some x)) M1) x M1} I
   (i9 rm ds (lk.at ds) h fun v H1 x M1 dx rm1 t1 q1=>⟨x,v,M1,rfl,dx,rm1,t1,q1⟩)) fun fl s1 q=>?_
  cases fl with
  |next=>
   obtain⟨σ',H',I1,x,v,M1,rfl,dx,rm1,t1,q1⟩:=q;unfold eW at q1;split at q1
   ·rename_i a;cases (show v=.ref a from dx);split at q1
    ·rename_i es e;obtain⟨vs,e1,dl⟩:=rm1 a _ e;obtain⟨o,I2⟩:=I1.freeze e1;exact⟨_,_,I2,er.nx _ _ _ _ (rm1.freeze e1) ((ds.mono (t1.trans (.freeze e1))).set (e8 dl e1)) (t1.trans (.freeze e1)) q1⟩
    ·exact q1.elim
   ·exact q1.elim
  |brk=>exact q
  |cont=>exact q
  |ret u=>exact q
end
noncomputable def mM(K:PySem.W.Frag)(cls:Nat->Addr)(t:XE->Ends3->St3->MH->Prop):Ends->St->XK:=fun D2 σ c dx H=>∃i σ3 M D3,(c=.ref (cls i.c)/\XD K H i dx)/\RelM K M H/\DenS K H σ3 σ/\t i D3 σ3 M/\ER K H D3 D2
theorem ER.goes{K:PySem.W.Frag}{D2:Ends}(er:ER K H D3 D2)(i:Nat):ER K H (md D3 i) (D2.goes i):=
 ⟨fun σ' H' σ3' M' rm ds t q=>er.nx _ _ _ _ rm ds.drop t q,er.rt,fun σ' H' σ3' M' rm ds t q=>er.bk _ _ _ _ rm ds.drop t q,fun σ' H' σ3' M' rm ds t q=>er.ct _ _ _ _ rm ds.drop t q⟩
section
variable {X:Cx}{cls:Nat->Addr}{E2:St->XK}{c n:Str}{k j ne:Nat}{sub:Nat->Nat->Bool}{b0:Stmt}{suite:List Stmt}{np hpos pos:Pos}{rest:List ExceptHandler}{tb:Ends3->(St3->XN)->St3->MH->Prop}{tr:XE->Ends3->St3->MH->Prop}
theorem Am:PH X [] (mM X.K cls fun _ _ _ _=>False):=fun _ _ _ _ _ _ _ _ _ ⟨_,_,_,_,_,_,_,h,_⟩=>h.elim
theorem DW(hg:Gl X c)(hm:X.mg c=some (.ref (cls k)))(hsub:∀i,i < ne->PySem.W.exmOne X.K (.ref (cls i)) (.ref (cls k))=some (sub i k))(hN:X.N.Nodup)(hj:X.N[j]?=some n)(hl:X.env.scope.names.lookup n=some .local)
  (hs:∀v,PSs (X.marked v) (b0::suite) (bz X.K cls no2 tb)) (hr:PH X rest (mM X.K cls tr)) (hdb:(c == ("__debug__" : Str))=false) :
  PH X (.ExceptHandler (some (.Name c np)) (some n) (b0::suite) hpos::rest) (mM X.K cls fun i D σ M=>i.c < ne/\if sub i.c k=true then (∀a,M a=none->tb (md D j) (fun _ _ _=>False) (σ.set j (some (.ref a))) (put M a (.exc i (.ref (cls i.c))))) else tr i D σ M):=by
 intro pins s σ H D a cv dx xi ⟨i,σ3,M,D3,⟨e,xd⟩,rm,ds,⟨hi,h⟩,er⟩;subst e;refine Ec (i:=j) hg hm hN hj hl hs hr hdb pins s σ H D a _ dx xi ?_;have z:=hsub i.c hi;cases q:sub i.c k with
 |true=>
  rw[q]at z;rw[if_pos q]at h;refine .inl ⟨z,fun a' ha=>?_⟩
  have tn:TM X.K H (upd H a' (qe a' (.ref (cls i.c)) dx)):=.new ha;exact⟨_,_,_,_,rm.lay (u:=.exc i (.ref (cls i.c))) ha ⟨dx,ah,xd.mono tn⟩,(ds.mono tn).set fB,(fun _ _ _ _ _ _ _ _ w=>w.elim),h a' (rm.fresh ha),(er.goes j).mono tn⟩
 |false=>
  rw[q]at z;rw[if_neg (by rw[q];exact Bool.false_ne_true)]at h
  exact .inr ⟨z,i,σ3,M,D3,⟨rfl,xd⟩,rm,ds,h,er⟩
theorem AV(hg:Gl X c)(hm:X.mg c=some (.ref (cls k)))(hsub:∀i,i < ne->PySem.W.exmOne X.K (.ref (cls i)) (.ref (cls k))=some (sub i k))
  (hs:∀v,PSs (X.marked v) (b0::suite) (bz X.K cls no2 tb)) (hr:PH X rest (mM X.K cls tr)) (hdb:(c == ("__debug__" : Str))=false) :
  PH X (.ExceptHandler (some (.Name c np)) none (b0::suite) hpos::rest) (mM X.K cls fun i D σ M=>i.c < ne/\if sub i.c k=true then tb D (fun _ _ _=>False) σ M else tr i D σ M):=by
 intro pins s σ H D a cv dx xi ⟨i,σ3,M,D3,⟨e,xd⟩,rm,ds,⟨hi,h⟩,er⟩;subst e;refine C7 hg hm hs hr hdb pins s σ H D a _ dx xi ?_;have z:=hsub i.c hi;cases q:sub i.c k with
 |true=>
  rw[q]at z;rw[if_pos q]at h;exact .inl ⟨z,σ3,M,D3,_,rm,ds,(fun _ _ _ _ _ _ _ _ w=>w.elim),h,er⟩
 |false=>
  rw[q]at z;rw[if_neg (by rw[q];exact Bool.false_ne_true)]at h
  exact .inr ⟨z,i,σ3,M,D3,⟨rfl,xd⟩,rm,ds,h,er⟩
theorem ug(hst:X.stack=X.env::X.outer)(hfr:X.env.frame=some X.env.locals)(hex:X.ex=[])(hh:PH X (h0::hs) th) :
  PS X (.Try body (h0::hs) [] [] pos) (fun D σ H=>∀pn W,aS (CX1 X.prog X.w) (X.tryX pn W) (fun σ cls d H=>th D σ cls d H)->∃t,PSs (X.tryX pn W) body t/\t D σ H):=by
 intro pins s σ H D I h;have key:∀(W:Value->Shared->Prop),aS (CX1 X.prog X.w) (X.tryX pins W) (fun σ cls d H=>th D σ cls d H)->wpAny (model X.prog X.w) X.A (execs body X.env) (SP (X.tryX pins W) [] D) W s:=fun W hP=>by
  obtain⟨t,ht,q⟩:=h pins W hP;exact ht [] s σ H D (I.tryX _) q
 refine wpAny_Try_except (wpAny_mono (key _ ?hx) (fun f s1 q=>?_) (fun e s1 q=>q))
 case hx=>
  intro pins' σ1 H1 s1 e s' I' hc;have I1:=I'.untry I.ok;obtain⟨a,cls,B,H2,dx,rfl,os,bare,un,hok,⟨fl0,dd0⟩,ha,inc,he⟩:=hc;have hnew:=tI fl0 inc;obtain⟨a0,fl⟩:=fl0;have hfl:Heap.FlyingW B (X.env::X.outer) a cls a0 s'.heap:=hst▸fl;have hA:X.A.frames=some (X.env::X.outer):=hst▸I.ok.frames;refine rJ hA hfr hfl dd0 fun h4 held up4 dd4=>nN held dd4 fun h5 fl5 up5 dd5=>?_
  refine hh pins _ σ1 H2 D a cls dx ⟨B,a0,I1.behind (s':=s') (h4:=h5) hex os bare un hok inc fl5.1 (up4.trans up5),⟨hst▸fl5,dd5⟩,ha,?_,fun p hp z=>?_,fun h6 st6 up6=>I1.behind (s':=s') (h4:=h6) hex os bare un hok inc st6 ((up4.trans up5).trans up6)⟩ he
  ·cases q:X.s₀.heap.get? a with
   |none=>rfl
   |some o=>
    obtain⟨o1,e1⟩:=I1.base.there a o q (by rw[hex];exact fun z=>nomatch z)
    rw[hnew]at e1;cases e1
  ·have e1:=(I1.pin p hp).1;rw[z,hnew]at e1;cases e1
 ·match f,q with
  |.next,⟨σ',H',J,q⟩=>exact wpAny_execs_nil ⟨σ',H',J.untry I.ok,q⟩
  |.brk,⟨σ',H',J,q⟩=>exact⟨σ',H',J.untry I.ok,q⟩
  |.cont,⟨σ',H',J,q⟩=>exact⟨σ',H',J.untry I.ok,q⟩
  |.ret u,⟨v,σ',H',J,r,q⟩=>exact⟨v,σ',H',J.untry I.ok,r,q⟩
theorem Ca(hst:X.stack=X.env::X.outer)(hfr:X.env.frame=some X.env.locals)(hex:X.ex=[])(hh:PH X (h0::hs) (mM X.K cls th))
  (hb:∀pn W E2',aS (CX1 X.prog X.w) (X.tryX pn W) E2'->PSs (X.tryX pn W) body (bz X.K cls E2' tb)) :
  PS X (.Try body (h0::hs) [] [] pos) (bz X.K cls E2 fun D _ σ M=>tb D (fun σ' i M'=>th i D σ' M') σ M):=
 (ug hst hfr hex hh).imp fun D2 σ H ⟨σ3,M,D3,E3,rm,ds,lk,h,er⟩ pn W hP=>⟨_,hb pn W _ hP,σ3,M,D3,_,rm,ds,fun σ3' σ' i M' H' t ds' rm' q dx xd=>⟨i,σ3',M',D3,⟨rfl,xd⟩,rm',ds',q,er.mono t⟩,h,er⟩
end
end L2
namespace L2
open PySem PySem.Spec PyProof.Rows
section
variable {X:Cx}{s:Shared}{kvs:List (Key×V)}{o:Obj}
end
section
variable {X:Cx}{apos cpos:Pos}
end
end L2
namespace L2
open PySem PySem.Spec PyProof.Rows
section
variable {X:Cx}{s:Shared}
end
section
variable {X:Cx}{apos cpos:Pos}
end
end L2
namespace L2
open PySem PySem.Spec PyProof.Rows PySem.W
section
variable {X:Cx}
end
end L2
namespace L2
open PySem PySem.Spec PyProof.Rows
section
variable {X:Cx}{apos cpos:Pos}
end
end L2
namespace L2
open PySem PySem.Spec PyProof.Rows
structure Cfg where
 N:List Str
 sc:Scope
 fns:List (Option Str×Nat)
 exc:List Str
 kln:List Str
 gln:List Str
 xin:List (Nat×Nat)
 calm:Bool
 own:Bool
 tr:Bool
 fn:Bool
 cel:List (Str×NameKind):=[]
noncomputable def glB(c:Cfg)(x:Str):Bool:=c.sc.names.lookup x == some .globalImplicit
noncomputable def xH(sc:Scope)(x:Str):Bool:=match sc.names.lookup x with
 |some .local=>true
 |some .cell=>true
 |some .free=>true
 |_=>false
noncomputable def uM(c:Cfg)(x:Str):Bool:=c.sc.names.lookup x == some .local||(c.fn&&c.sc.names.lookup x == some .cell)||(c.cel.lookup x == some .cell&&c.sc.names.lookup x == some .cell)
noncomputable def gM:Expr->Bool
 |.Starred ..=>false
 |_=>true
noncomputable def lg:Expr->Bool
 |.Set ..=>false
 |_=>true
noncomputable def kj:Expr->Bool
 |.ListComp ..=>false
 |.SetComp ..=>false
 |.DictComp ..=>false
 |_=>true
noncomputable def sY:Expr->Bool
 |.Tuple ..=>false
 |_=>true
noncomputable def k8:Expr->Bool
 |.Slice ..=>false
 |_=>true
noncomputable def u6:Expr->Bool
 |.Call ..=>false
 |_=>true
noncomputable def ly:Expr->Bool
 |.Call (.Name _ _) [] [] _=>false
 |_=>true
noncomputable def nK:Expr->Bool
 |.UnaryOp ..=>false
 |.BoolOp ..=>false
 |.IfExp ..=>false
 |.Compare ..=>false
 |_=>true
noncomputable def iR:BI->String
 |.len=>"len"|.list _=>"list"|.all=>"all"|.any=>"any"
noncomputable def ji:BM->String
 |.get=>"get"|.insert=>"insert"|.popd=>"pop"
noncomputable def biNames:List Str:=["len","abs","max","min","str","list","tuple","isinstance","range","int","bool","dict","ValueError","enumerate","all","any","sum","zip","reversed","sorted"]
noncomputable def xI(sc osc:Scope):Scope:={sc with names:=sc.names.map fun (n,k)=>if (k == .free&&osc.kind == .function&&osc.names.lookup n == some .cell) then (n,.cell) else (n,k)}
noncomputable def Cfg.comp(c:Cfg)(N:List Str)(sc:Scope):Cfg:={c with N:=N,sc:=xI sc c.sc,own:=false,tr:=false,fn:=false,cel:=sc.names}
noncomputable def Cfg.trying(c:Cfg):Cfg:={c with own:=false}
noncomputable def Cfg.caught(c:Cfg):Cfg:={c with calm:=false,own:=false,tr:=false}
noncomputable def okG(c:Cfg):ITg->Expr->Bool
 |.name i,e=>match e with
  |.Name x _=>(c.N[i]? == some x)&&uM c x
  |_=>false
 |.tup is,e=>match e with
  |.Tuple es _ _=>c.calm&&bY c.N c.sc c.fn is es
  |_=>false
noncomputable def yr:II->Expr->Bool
 |_,_=>true
mutual
noncomputable def okE:IE->Cfg->Expr->Bool
 |.var i,c,e=>match e with
  |.Name x _=>(c.N[i]? == some x)&&xH c.sc x&&!(x == ("__debug__" : Str))&&!(x == ("__classdict__" : Str))
  |_=>false
 |.con d,_,e=>match e with
  |.Constant k _ _=>match k,d with
   |.int i,.int j=>decide (i=j)
   |.bool i,.bl j=>decide (i=j)
   |.none,.non=>true
   |.str i,.str j=>decide (i=j)
   |_,_=>false
  |_=>false
 |.bin op a b,c,e=>match e with
  |.BinOp x op' y _=>decide (op=op')&&okE a c x&&okE b c y
  |_=>false
 |.neg a,c,e=>match e with
  |.UnaryOp op x _=>decide (op=.USub)&&okE a c x
  |_=>false
 |.cat _ a b,c,e=>match e with
  |.BinOp x op' y _=>decide (op'=.Add)&&okE a c x&&okE b c y
  |_=>false
 |.cmp op a b,c,e=>match e with
  |.Compare x [op'] [y] _=>decide (op=op')&&lg y&&okE a c x&&okE b c y
  |_=>false
 |.chain op1 op2 a b d,c,e=>match e with
  |.Compare x [op1',op2'] [y,z] _=>decide (op1=op1')&&decide (op2=op2')&&lg z&&okE a c x&&okE b c y&&okE d c z
  |_=>false
 |.and a b,c,e=>match e with
  |.BoolOp op (x::y::r) p=>decide (op=.And)&&okE a c x&&(match r with|[]=>okE b c y|_::_=>okE b c (.BoolOp .And (y::r) p))
  |_=>false
 |.or a b,c,e=>match e with
  |.BoolOp op (x::y::r) p=>decide (op=.Or)&&okE a c x&&(match r with|[]=>okE b c y|_::_=>okE b c (.BoolOp .Or (y::r) p))
  |_=>false
 |.not a,c,e=>match e with
  |.UnaryOp op x _=>decide (op=.Not)&&okE a c x
  |_=>false
 |.ifx t a b,c,e=>match e with
  |.IfExp x y z _=>okT t c x&&okE a c y&&okE b c z
  |_=>false
 |.tup es,c,e=>match e with
  |.Tuple xs _ _=>okA es c xs
  |_=>false
 |.lst _ es,c,e=>match e with
  |.List xs _=>okA es c xs
  |_=>false
 |.frz a,c,e=>okE a c e
 |.ix a b,c,e=>match e with
  |.Subscript x y _=>k8 y&&okE a c x&&okE b c y
  |_=>false
 |.sl _ a lo hi,c,e=>match e with
  |.Subscript x (.Slice l h none _) _=>okE a c x&&okO lo c l&&okO hi c h
  |_=>false
 |.call f es,c,e=>match e with
  |.Call (.Name x _) args [] _=>c.calm&&(match c.fns[f]? with|some p=>decide (some x=p.1)&&decide (args.length=p.2)|none=>false)&&glB c x&&!(x == ("__debug__" : Str))&&okA es c args
  |_=>false
 |.bi b es,c,e=>match e with
  |.Call (.Name x _) args [] _=>c.calm&&decide (x=(iR b:Str))&&glB c x&&!args.isEmpty&&okA es c args
  |_=>false
 |.isB a t,c,e=>match e with
  |.Call (.Name x _) [y,.Name z _] [] _=>decide (x=("isinstance" : Str))&&decide (z=(cj t:Str))&&glB c x&&glB c z&&gM y&&okE a c y
  |_=>false
 |.isC a k,c,e=>match e with
  |.Call (.Name x _) [y,.Name z _] [] _=>decide (x=("isinstance" : Str))&&(c.exc[k]? == some z)&&glB c x&&glB c z&&!(z == ("__debug__" : Str))&&gM y&&okE a c y
  |_=>false
 |.comp _ N js tg it cond elt,c,e=>match e with
  |.ListComp el [⟨tgE,iter,ifs,as⟩] scope _=>c.calm&&decide (as=0)&&yr it tgE&&lg iter&&dI N js scope c.sc c.N&&okI it c iter&&okG (c.comp N scope) tg tgE&&ub cond (c.comp N scope) ifs&&okE elt (c.comp N scope) el
  |_=>false
 |.dlg ps es,c,e=>match e with
  |.Call (.Attribute (.Dict ks vs _) n ap) args [] cp=>decide (n=("get" : Str))&&(ap.endLine == cp.line)&&decide (args.length < 30/\args.length≠0)&&iM ps ks vs&&decide (ps≠[]/\ps.length<=15/\(ps.map (·.1)).Nodup)&&okA es c args
  |_=>false
 |.fld a f,c,e=>match e with
  |.Attribute x m _=>decide (m=fnm f)&&ly x&&okE a c x
  |_=>false
 |.xfld a f,c,e=>match e with
  |.Attribute x m _=>decide (m=fnm f)&&ly x&&okE a c x
  |_=>false
 |.make _ i es,c,e=>match e with
  |.Call (.Name x _) args [] _=>c.calm&&(c.kln[i]? == some x)&&glB c x&&!(x == ("__debug__" : Str))&&okA es c args
  |_=>false
 |.meth a m es,c,e=>match e with
  |.Call (.Attribute x n ap) args [] cp=>c.calm&&decide (n=fnm m)&&ly x&&(ap.endLine == cp.line)&&decide (args.length < 30)&&okE a c x&&okA es c args
  |_=>false
 |.ini i es,c,e=>match e with
  |.Call (.Attribute (.Name x _) n ap) args [] cp=>c.calm&&decide (n=("__init__" : Str))&&(c.kln[i]? == some x)&&glB c x&&!(x == ("__debug__" : Str))&&(ap.endLine == cp.line)&&decide (args.length < 30)&&!args.isEmpty&&okA es c args
  |_=>false
 |.isK a j,c,e=>match e with
  |.Call (.Name x _) [y,.Name z _] [] _=>decide (x=("isinstance" : Str))&&(c.kln[j]? == some z)&&glB c x&&glB c z&&!(z == ("__debug__" : Str))&&gM y&&okE a c y
  |_=>false
 |.glo k,c,e=>match e with
  |.Name x _=>(c.gln[k]? == some x)&&glB c x&&!(x == ("__debug__" : Str))
  |_=>false
 |.bm b o es,c,e=>match e with
  |.Call (.Attribute x n ap) args [] cp=>c.calm&&decide (n=(ji b:Str))&&ly x&&(ap.endLine == cp.line)&&decide (args.length < 30)&&okE o c x&&okA es c args
  |_=>false
 |.dnew _,_,e=>match e with
  |.Dict [] [] _=>true
  |_=>false
 |.rep _ a b,c,e=>match e with
  |.BinOp x op' y _=>decide (op'=.Mult)&&okE a c x&&okE b c y
  |_=>false
noncomputable def okT:IT->Cfg->Expr->Bool
 |.val a,c,e=>nK e&&okE a c e
 |.cmp op a b,c,e=>match e with
  |.Compare x [op'] [y] _=>decide (op=op')&&lg y&&okE a c x&&okE b c y
  |_=>false
 |.chain op1 op2 a b d,c,e=>match e with
  |.Compare x [op1',op2'] [y,z] _=>decide (op1=op1')&&decide (op2=op2')&&lg z&&okE a c x&&okE b c y&&okE d c z
  |_=>false
 |.chain3 op1 op2 op3 a b d f,c,e=>match e with
  |.Compare x [op1',op2',op3'] [y,z,u] _=>decide (op1=op1')&&decide (op2=op2')&&decide (op3=op3')&&lg u&&okE a c x&&okE b c y&&okE d c z&&okE f c u
  |_=>false
 |.and a b,c,e=>match e with
  |.BoolOp op (x::y::r) p=>decide (op=.And)&&okT a c x&&(match r with|[]=>okT b c y|_::_=>okT b c (.BoolOp .And (y::r) p))
  |_=>false
 |.or a b,c,e=>match e with
  |.BoolOp op (x::y::r) p=>decide (op=.Or)&&okT a c x&&(match r with|[]=>okT b c y|_::_=>okT b c (.BoolOp .Or (y::r) p))
  |_=>false
 |.not a,c,e=>match e with
  |.UnaryOp op x _=>decide (op=.Not)&&okT a c x
  |_=>false
noncomputable def okA:IA->Cfg->List Expr->Bool
 |.nil,_,es=>es.isEmpty
 |.cons a r,c,es=>match es with
  |x::xs=>gM x&&okE a c x&&okA r c xs
  |[]=>false
noncomputable def okO:IO->Cfg->Option Expr->Bool
 |.no,_,o=>o.isNone
 |.yes a,c,o=>match o with
  |some x=>okE a c x
  |none=>false
noncomputable def ub:ITO->Cfg->List Expr->Bool
 |.no,_,es=>es.isEmpty
 |.yes t,c,es=>match es with
  |[x]=>okT t c x
  |_=>false
noncomputable def okI:II->Cfg->Expr->Bool
 |.seq a,c,e=>okE a c e
 |.rng1 a,c,e=>match e with
  |.Call (.Name x _) [y] [] _=>decide (x=("range" : Str))&&glB c x&&gM y&&okE a c y
  |_=>false
end
noncomputable def swB(c:Cfg)(scope:Scope)(x:Str)(l1 l2:Nat):Bool:=c.sc.kind == .function&&c.sc.names.lookup x == some .local&&l1 == l2&&!(scope.names.any fun (n,k)=>n == x&&(k == .local||k == .cell))
mutual
noncomputable def okS:IS->Cfg->Stmt->Bool
 |.set i a,c,s=>match s with
  |.Assign [.Name x px] e _=>(c.N[i]? == some x)&&uM c x&&okE a c e&&(kj e||match e,a with
   |.ListComp _ _ scope pos,.comp ..=>swB c scope x px.line pos.line||c.sc.names.lookup x == some .cell
   |_,_=>false)
  |_=>false
 |.unp is a,c,s=>match s with
  |.Assign [.Tuple es _ _] e _=>c.calm&&bY c.N c.sc c.fn is es&&sY e&&kj e&&okE a c e
  |_=>false
 |.expr a,c,s=>match s with
  |.Expr e _=>kj e&&okE a c e
  |_=>false
 |.ret a,c,s=>match s with
  |.Return (some e) _=>okE a c e
  |_=>false
 |.retN,_,s=>match s with
  |.Return none _=>true
  |_=>false
 |.ifs t a b,c,s=>match s with
  |.If x y z _=>okT t c x&&je a c y&&je b c z
  |_=>false
 |.for_ tg it body,c,s=>match s with
  |.For tgE iter b [] _=>c.own&&yr it tgE&&c.calm&&lg iter&&okG c tg tgE&&okI it c iter&&je body c b
  |_=>false
 |.raiseI k es,c,s=>match s with
  |.Raise (some (.Call (.Name x _) args [] _)) none _=>(c.xin.lookup k).isSome&&c.own&&c.calm&&(c.exc[k]? == some x)&&glB c x&&!(x == ("__debug__" : Str))&&!args.isEmpty&&okA es c args
  |_=>false
 |.raise k es,c,s=>match s with
  |.Raise (some (.Call (.Name x _) args [] _)) none _=>(c.xin.lookup k).isNone&&c.own&&c.calm&&(c.exc[k]? == some x)&&glB c x&&!(x == ("__debug__" : Str))&&!args.isEmpty&&okA es c args
  |_=>false
 |.try_ body hs,c,s=>match s with
  |.Try b handlers [] [] _=>c.tr&&!handlers.isEmpty&&je body c.trying b&&su hs c handlers
  |_=>false
 |.app o a,c,s=>match s with
  |.Expr (.Call (.Attribute x m ap) [y] [] cp) _=>decide (m=("append" : Str))&&u6 x&&(ap.endLine == cp.line)&&gM y&&okE o c x&&okE a c y
  |_=>false
 |.del _,_,_=>false
 |.dead,_,_=>true
 |.fset o f a,c,s=>match s with
  |.Assign [.Attribute x m _] v _=>decide (m=fnm f)&&kj v&&okE o c x&&okE a c v
  |_=>false
 |.ixset o i a,c,s=>match s with
  |.Assign [.Subscript x y _] v _=>k8 y&&kj v&&okE o c x&&okE i c y&&okE a c v
  |_=>false
noncomputable def je:ISs->Cfg->List Stmt->Bool
 |.nil,_,sts=>sts.isEmpty
 |.cons s r,c,sts=>match s with
  |.del _=>je r c sts
  |s=>match sts with
   |st::rest=>okS s c st&&je r c rest
   |[]=>false
noncomputable def su:IHs->Cfg->List ExceptHandler->Bool
 |.nil,_,hs=>hs.isEmpty
 |.cons k nm body r,c,hs=>match hs with
  |.ExceptHandler (some (.Name x _)) nmE bodyE _::rest=>(c.exc[k]? == some x)&&glB c x&&!(x == ("__debug__" : Str))&&(match nm,nmE with
   |none,none=>true
   |some j,some n=>(c.N[j]? == some n)&&c.sc.names.lookup n == some .local
   |_,_=>false)&&!bodyE.isEmpty&&je body c.caught bodyE&&su r c rest
  |_=>false
end
end L2
namespace L2
open PySem PySem.Spec PyProof.Rows
structure Good (c:Cfg)(W:WC)(X:Cx)(E2:St->XK):Prop where
 N:X.N=c.N
 nd:c.N.Nodup
 sc:X.env.scope=c.sc
 un:X.A.units+64 < cLine
 calm:c.calm=true->X.calm=true
 fnx:c.fn=true->∀x,X.fn x=true
 cel:∀x,c.cel.lookup x=some .cell->X.fn x=true
 own:c.own=true->PassesOwn (model X.prog X.w) X.A X.env X.xe/\∃E,(E2=fun _=>E)/\kZ X E/\hV X E/\Room 2 X.A
 tr:c.tr=true->X.stack=X.env::X.outer/\X.env.frame=some X.env.locals/\X.ex=[]
 fns:c.calm=true->∃k,Room (k+1) X.A/\∀f,f < c.fns.length->pF X W.cls k (W.fad f) (W.call f)
 fnn:∀f x n,c.fns[f]?=some (some x,n)->X.mg x=some (.ref (W.fad f))
 kok:∀i,i < W.nk->KOk X.K W.toWB W.fad i
 kin:∀i,i < W.nk->∃f,W.ini i=some f
 kfi:∀i f,i < W.nk->W.ini i=some f->f < c.fns.length
 kfm:∀i m f,i < W.nk->W.mth i m=some f->f < c.fns.length
 knm:∀i x,c.kln[i]?=some x->X.mg x=some (.ref (W.kls i))/\i < W.nk
 glo:∀k x,c.gln[k]?=some x->∃u v,X.mg x=some u/\RelV v u/\∀H,Den X.K H (W.glo k) v
 exc:∀i x,c.exc[i]?=some x->X.mg x=some (.ref (W.cls i))/\(c.xin.lookup i=none->uO X.K (W.cls i))/\∀j,j < W.ne->PySem.W.exmOne X.K (.ref (W.cls j)) (.ref (W.cls i))=some (W.sub j i)
 exi:∀i,i < W.ne->ExcI X.K (W.cls i)/\PySem.W.kitOne X.K (.ref (W.cls i)) (.type "ValueError")=some true/\∀j x,c.exc[j]?=some x->PySem.W.kitOne X.K (.ref (W.cls i)) (.ref (W.cls j))=some (W.sub i j)
 xi:∀i f,c.xin.lookup i=some f->W.xin i=some f/\∃fI fd ps,XIni X.K (W.cls i) fI (fnm f)/\Binds X.K fd ps []/\FnOk X.prog X.w X.K X.mg X.base (CX1 X.prog X.w) 1 fI fd ps (gD (cpF f) X.K (W.cls i) (fnm f))
 xn:∀i f,i < W.ne->W.xin i=some f->NoAttr X.K (W.cls i) (fnm f)
 bi:∀x∈biNames,X.mg x=none
 dig:AH X.K
 pass:aS (CX1 X.prog X.w) X E2
section
variable {c:Cfg}{X:Cx}
theorem Good.gl(G:Good c W X E2)(h:glB c x=true):Gl X x:=by
 show X.env.scope.names.lookup x=_;rw[G.sc];exact beq_iff_eq.mp h
theorem Good.loc(G:Good c W X E2)(h:uM c x=true):Loc X.env.scope x/\(X.fn x=true\/X.env.scope.names.lookup x=some .local):=by
 unfold uM at h;rw[G.sc];simp only[Bool.or_eq_true,Bool.and_eq_true,beq_iff_eq]at h;rcases h with (h|⟨h1,h2⟩)|⟨h1,h2⟩
 ·exact⟨.inl h,.inr h⟩
 ·exact⟨.inr h2,.inl (G.fnx h1 x)⟩
 ·exact⟨.inr h2,.inl (G.cel x h1)⟩
theorem Good.vis(G:Good c W X E2)(h:xH c.sc x=true):Vis X.env.scope x:=by
 rw[G.sc];unfold xH at h;split at h
 ·exact .inl (by assumption)
 ·exact .inr (.inl (by assumption))
 ·exact .inr (.inr (by assumption))
 ·cases h
theorem Good.at{i:Nat}{x:Str}(G:Good c W X E2)(h:(c.N[i]? == some x)=true):X.N[i]?=some x:=by rw[G.N];exact beq_iff_eq.mp h
theorem Good.ndX(G:Good c W X E2):X.N.Nodup:=by rw[G.N];exact G.nd
theorem Good.names(G:Good c W X E2)(h:bY c.N c.sc c.fn is es=true):bY X.N X.env.scope c.fn is es=true:=by rw[G.N,G.sc];exact h
theorem Good.trying(G:Good c W X E2)(h:aS (CX1 X.prog X.w) (X.tryX pn V') E2'):Good c.trying W (X.tryX pn V') E2':=
 ⟨G.N,G.nd,G.sc,G.un,G.calm,G.fnx,G.cel,(fun z=>nomatch z),G.tr,G.fns,G.fnn,G.kok,G.kin,G.kfi,G.kfm,G.knm,G.glo,G.exc,G.exi,G.xi,G.xn,G.bi,G.dig,h⟩
theorem rT:aS (CX1 P w) X no2:=fun _ _ _ _ _ _ _ h=>by
 obtain⟨_,_,_,_,_,_,_,_,_,_,_,_,_,he⟩:=h;exact he.elim
theorem Good.caught(G:Good c W X E2)(v:Value):Good c.caught W (X.marked v) no2:=
 ⟨G.N,G.nd,G.sc,G.un,(fun z=>nomatch z),G.fnx,G.cel,(fun z=>nomatch z),(fun z=>nomatch z),(fun z=>nomatch z),G.fnn,G.kok,G.kin,G.kfi,G.kfm,G.knm,G.glo,G.exc,G.exi,G.xi,G.xn,G.bi,G.dig,rT⟩
theorem Good.comp(G:Good c W X E2){N:List Str}{js:List (Option Nat)}{scope:Scope}(h:dI N js scope c.sc c.N=true)(C:Addr)(s2:Shared)(H2:Hp)(fp:List Addr)(pn:List (Addr×Obj)):Good (c.comp N scope) W (compCx X scope C N s2 H2 fp pn) no2:=by
 have hc:=ke h;refine⟨rfl,hc.nd,?_,G.un,G.calm,(fun z=>nomatch z),(fun x z=>beq_iff_eq.mpr z),(fun z=>nomatch z),(fun z=>nomatch z),G.fns,G.fnn,G.kok,G.kin,G.kfi,G.kfm,G.knm,G.glo,G.exc,G.exi,G.xi,G.xn,G.bi,G.dig,rT⟩
 show relabel scope X.env=xI scope c.sc;unfold relabel xI;rw[<-G.sc];rfl
end
theorem cn(h:gM e=true):starEach (e::es) env=(false,eval e env)::starEach es env:=by
 cases e<;>first|rfl|cases h
theorem qZ(h:lg e=true):∀x,foldedSetIterable e env x=pure x:=by
 intro x;cases e<;>first|rfl|cases h
theorem fy(h:lg e=true):behindInMarks op e=false:=by
 cases e<;>first|rfl|cases h
theorem iC(h:kj e=true):swapsWith e t n env=pure false:=by
 cases e<;>first|rfl|cases h
theorem oY{e:Expr}(h:nK e=true):∀whole,isTrue e env whole=(do let v<-whole;standAt e.pos;holding [v] (truthy v)):=by
 intro whole;cases e<;>first|rfl|cases h
theorem uL(h:k8 e=true):kz e:=by
 intro o i;cases e<;>first|rfl|cases h
theorem yo{e:Expr}{m:Str}{env:Env}{whole:Sem Value}(h:u6 e=true):attributeBase e m env whole=whole:=by
 cases e<;>first|rfl|cases h
theorem dA{e:Expr}{m:Str}{env:Env}{whole:Sem Value}(h:ly e=true):attributeBase e m env whole=whole:=by
 cases e with
 |Call f as ks p=>
  cases f with
  |Name x px=>
   cases as with
   |nil=>
    cases ks with
    |nil=>cases h
    |cons _ _=>rfl
   |cons _ _=>rfl
  |_=>rfl
 |_=>rfl
theorem wF(h:k8 i=true):∀v,assign (.Subscript o i p) env v=(do
   let ov<-holding [v] (eval o env)
   let iv<-holding [v,ov] (eval i env)
   standAt p
   holding [v,ov,iv] (setItem ov iv v)
   release [v,ov,iv] []):=by
 intro v;cases i<;>first|rfl|cases h
theorem rh(h:sY e=true):swappedStores [.Tuple es k p] e env=pure none:=by
 cases e<;>first|rfl|cases h
theorem bZ(pos:Pos):∀{r:IA}{c:Cfg}{es:List Expr}{env:Env},okA r c es=true->(backTo pos (starEach es env)).any (·.1)=false
 |.nil,c,es,env,h=>by
  simp only[okA]at h;cases es with
  |nil=>rfl
  |cons _ _=>cases h
 |.cons a r,c,es,env,h=>by
  cases es with
  |nil=>simp[okA]at h
  |cons x xs=>
   simp only[okA,Bool.and_eq_true]at h;rw[cn h.1.1];show (false||(backTo pos (starEach xs env)).any (·.1))=false
   rw[bZ pos h.2];rfl
end L2
namespace L2
open PySem PySem.Spec PyProof.Rows
theorem u8(h:PE X a t):PE X (.BoolOp op [a] pos) t:=zJ h
theorem yY(b:BI):((iR b:String):Str)∈biNames:=by
 cases b with
 |list fz=>cases fz<;>decide +kernel
 |_=>decide +kernel
theorem vL(t:BT):((cj t:String):Str)∈biNames:=by cases t<;>decide +kernel
theorem sR{X:Cx}(hu:X.A.units+64 < cLine)(hc:X.calm=true)(hd:AH X.K)(hg:Gl X (iR b:String))(hm:X.mg (iR b:String)=none)(ha:PA X (e::es) (cZ X.K cls E2 tr))
  (he:starEach (e::es) X.env=(false,eval e X.env)::starEach es X.env) (hpl:(backTo pos (starEach es X.env)).any (·.1)=false):PE X (.Call (.Name (iR b:String) p) (e::es) [] pos) (low X.K cls E2 fun σ M Q E=>tr σ M (fun xs M1=>rBi b xs M1 Q) E):=by
 cases b with
 |len=>exact kT vg hg hm (by decide +kernel) ha (by decide +kernel) (by decide +kernel) he hpl
 |list fz=>exact t9 (uz fz hc) hg hm (by cases fz<;>decide +kernel) ha (by cases fz<;>decide +kernel) (by cases fz<;>decide +kernel) he hpl
 |all=>exact kT (u5 true hc) hg hm (by decide +kernel) ha (by decide +kernel) (by decide +kernel) he hpl
 |any=>exact kT (u5 false hc) hg hm (by decide +kernel) ha (by decide +kernel) (by decide +kernel) he hpl
theorem uG{X:Cx}{apos pos:Pos}(hu:X.A.units+64 < cLine)(ho:PE X o (low X.K cls E2 to))(ha:PA X (e::es) (cZ X.K cls E2 tr))
  (hb:attributeBase o (ji b:String) X.env (eval o X.env)=eval o X.env) (hn:(e::es).length < 30) (hl:(apos.endLine == pos.line)=true) (he:starEach (e::es) X.env=(false,eval e X.env)::starEach es X.env) (hpl:(backTo pos (starEach es X.env)).any (·.1)=false) :
  PE X (.Call (.Attribute o (ji b:String) apos) (e::es) [] pos) (low X.K cls E2 fun σ M Q E=>to σ M (fun x M1=>tyB b x M1=true/\tr σ M1 (fun xs M2=>rBm b x xs M2 Q) E) E):=by
 cases b with
 |get=>exact tO PySem.F.plainAttrs_dict PySem.F.slot_dict_get PySem.F.type_dict_get (qY hu) fM ho ha hb hn hl he hpl
 |insert=>exact tO PySem.F.plainAttrs_list PySem.F.slot_list_insert PySem.F.type_list_insert j7 lm ho ha hb hn hl he hpl
 |popd=>exact tO PySem.F.plainAttrs_dict PySem.F.slot_dict_pop PySem.F.type_dict_pop (n9 hu) fM ho ha hb hn hl he hpl
theorem rS{X:Cx}{apos pos:Pos}(hu:X.A.units+64 < cLine)(ho:PE X o (low X.K cls E2 to))
  (hb:attributeBase o (ji b:String) X.env (eval o X.env)=eval o X.env) (hl:(apos.endLine == pos.line)=true) :
  PE X (.Call (.Attribute o (ji b:String) apos) [] [] pos) (low X.K cls E2 fun σ M Q E=>to σ M (fun x M1=>tyB b x M1=true/\rBm b x [] M1 Q) E):=by
 cases b with
 |get=>exact rV PySem.F.plainAttrs_dict PySem.F.slot_dict_get PySem.F.type_dict_get (qY hu) fM ho hb hl
 |insert=>exact rV PySem.F.plainAttrs_list PySem.F.slot_list_insert PySem.F.type_list_insert j7 lm ho hb hl
 |popd=>exact rV PySem.F.plainAttrs_dict PySem.F.slot_dict_pop PySem.F.type_dict_pop (n9 hu) fM ho hb hl
theorem bU(h:okA (.cons a r) c es=true):∃x xs,es=x::xs/\gM x=true/\okE a c x=true/\okA r c xs=true:=by
 cases es with
 |nil=>simp[okA]at h
 |cons x xs=>
  simp only[okA,Bool.and_eq_true]at h;exact⟨x,xs,rfl,h.1.1,h.1.2,h.2⟩
noncomputable def GU:IT->Bool
 |.and _ _=>true
 |.or _ _=>true
 |_=>false
section
variable {W:WC}
theorem sG:∀(tg:ITg) {c:Cfg}{e:Expr}{X:Cx}{E2:St->XK},okG c tg e=true->Good c W X E2->PG X e (oy X.K (wpG tg))
 |.name i,c,e,X,E2,h,G=>by
  simp only[okG]at h;split at h
  ·simp only[Bool.and_eq_true]at h;obtain⟨l1,l2⟩:=G.loc h.2;exact xO G.ndX (G.at h.1) l1 l2
  ·cases h
 |.tup is,c,e,X,E2,h,G=>by
  simp only[okG]at h;split at h
  ·simp only[Bool.and_eq_true]at h;exact uV (G.calm h.1) G.ndX G.fnx (G.names h.2)
  ·cases h
mutual
theorem sE:∀(ie:IE) {c:Cfg}{e:Expr}{X:Cx}{E2:St->XK},okE ie c e=true->Good c W X E2->PE X e (low X.K W.cls E2 (wpE W ie))
 |.var i,c,e,X,E2,h,G=>by
  unfold okE at h;split at h
  ·simp only[Bool.and_eq_true,Bool.not_eq_true']at h;exact A6 (G.at h.1.1.1) (G.vis h.1.1.2) h.1.2 h.2
  ·cases h
 |.con d,c,e,X,E2,h,G=>by
  unfold okE at h;split at h
  ·split at h
   ·cases of_decide_eq_true h;exact lR q9 fun _=>rfl
   ·cases of_decide_eq_true h;exact lR BP fun _=>rfl
   ·exact lR yi fun _=>rfl
   ·cases of_decide_eq_true h;exact lR m8 fun _=>rfl
   ·cases h
  ·cases h
 |.bin op a b,c,e,X,E2,h,G=>by
  unfold okE at h;split at h
  ·simp only[Bool.and_eq_true,decide_eq_true_eq]at h;obtain⟨⟨rfl,h1⟩,h2⟩:=h;exact zD (zr op) (sE a h1 G) (sE b h2 G)
  ·cases h
 |.neg a,c,e,X,E2,h,G=>by
  unfold okE at h;split at h
  ·simp only[Bool.and_eq_true,decide_eq_true_eq]at h;obtain⟨rfl,h1⟩:=h;exact Gr (ta:=wpE W a) (r:=rNeg) AN (sE a h1 G)
  ·cases h
 |.cat fz a b,c,e,X,E2,h,G=>by
  unfold okE at h;split at h
  ·simp only[Bool.and_eq_true,decide_eq_true_eq]at h;obtain⟨⟨rfl,h1⟩,h2⟩:=h;exact Ds (sE a h1 G) (sE b h2 G)
  ·cases h
 |.cmp op a b,c,e,X,E2,h,G=>by
  unfold okE at h;split at h
  ·simp only[Bool.and_eq_true,decide_eq_true_eq]at h;obtain⟨⟨⟨rfl,h0⟩,h1⟩,h2⟩:=h;exact DH (da G.un op) (sE a h1 G) (sE b h2 G) (fy h0)
  ·cases h
 |.chain op1 op2 a b d,c,e,X,E2,h,G=>by
  unfold okE at h;split at h
  ·simp only[Bool.and_eq_true,decide_eq_true_eq]at h;obtain⟨⟨⟨⟨⟨rfl,rfl⟩,h0⟩,h1⟩,h2⟩,h3⟩:=h;exact ut (da G.un op1) (da G.un op2) (sE a h1 G) (sE b h2 G) (sE d h3 G) (fy h0)
  ·cases h
 |.and a b,c,e,X,E2,h,G=>by
  unfold okE at h;split at h
  ·rename_i op x y r p;simp only[Bool.and_eq_true,decide_eq_true_eq]at h;obtain⟨⟨rfl,h1⟩,h2⟩:=h;cases r with
   |nil=>exact u9 (sE a h1 G) (u8 (sE b h2 G))
   |cons z r=>exact u9 (sE a h1 G) (sE b h2 G)
  ·cases h
 |.or a b,c,e,X,E2,h,G=>by
  unfold okE at h;split at h
  ·rename_i op x y r p;simp only[Bool.and_eq_true,decide_eq_true_eq]at h;obtain⟨⟨rfl,h1⟩,h2⟩:=h;cases r with
   |nil=>exact CI (sE a h1 G) (u8 (sE b h2 G))
   |cons z r=>exact CI (sE a h1 G) (sE b h2 G)
  ·cases h
 |.not a,c,e,X,E2,h,G=>by
  unfold okE at h;split at h
  ·simp only[Bool.and_eq_true,decide_eq_true_eq]at h;obtain⟨rfl,h1⟩:=h;exact DG (sE a h1 G)
  ·cases h
 |.ifx t a b,c,e,X,E2,h,G=>by
  unfold okE at h;split at h
  ·simp only[Bool.and_eq_true]at h;exact Gv (sT t h.1.1 G).1 (sE a h.1.2 G) (sE b h.2 G)
  ·cases h
 |.tup es,c,e,X,E2,h,G=>by
  unfold okE at h;split at h
  ·exact Df (sA es h G)
  ·cases h
 |.lst fz es,c,e,X,E2,h,G=>by
  unfold okE at h;split at h
  ·exact BL (sA es h G)
  ·cases h
 |.frz a,c,e,X,E2,h,G=>by
  unfold okE at h;exact BY (sE a h G)
 |.ix a b,c,e,X,E2,h,G=>by
  unfold okE at h;split at h
  ·simp only[Bool.and_eq_true]at h;exact Gg G.un (sE a h.1.2 G) (sE b h.2 G) (uL h.1.1)
  ·cases h
 |.sl fz a lo hi,c,e,X,E2,h,G=>by
  unfold okE at h;split at h
  ·simp only[Bool.and_eq_true]at h;exact Ge (sE a h.1.1 G) (sO lo h.1.2 G) (sO hi h.2 G)
  ·cases h
 |.call f es,c,e,X,E2,h,G=>by
  unfold okE at h;split at h
  ·rename_i x px args pos;simp only[Bool.and_eq_true,Bool.not_eq_true']at h;obtain⟨⟨⟨⟨h0,h1⟩,h2⟩,h3⟩,h4⟩:=h;split at h1
   ·rename_i p hp;simp only[Bool.and_eq_true,decide_eq_true_eq]at h1;obtain⟨h1,_⟩:=h1;obtain⟨p1,p2⟩:=p;cases h1;obtain⟨k,hr,hF⟩:=G.fns h0;obtain⟨fd,ps,sp0,m2,m3,m5⟩:=hF f (List.getElem?_eq_some_iff.mp hp).1;have m1:=G.fnn f x p2 hp;have m4:=hr.mono (Nat.le_succ k);have hA:=sA es h4 G;cases args with
    |nil=>
     cases es with
     |nil=>exact ua m5 m4 (G.gl h2) m1 m2 m3 G.pass h3
     |cons _ _=>simp[okA]at h4
    |cons z zs=>
     cases es with
     |nil=>simp[okA]at h4
     |cons ea er=>
      obtain⟨_,_,e1,n1,_,n3⟩:=bU h4;cases e1;exact w5 m5 m4 (G.gl h2) m1 m2 m3 G.pass hA h3 (cn n1) (bZ _ n3)
   ·cases h1
  ·cases h
 |.bi b es,c,e,X,E2,h,G=>by
  unfold okE at h;split at h
  ·rename_i x px args pos;simp only[Bool.and_eq_true,decide_eq_true_eq]at h;obtain⟨⟨⟨⟨h0,rfl⟩,h2⟩,h3⟩,h4⟩:=h;have hA:=sA es h4 G;cases args with
   |nil=>cases h3
   |cons z zs=>
    cases es with
    |nil=>simp[okA]at h4
    |cons ea er=>
     obtain⟨_,_,e1,n1,_,n3⟩:=bU h4;cases e1;exact sR G.un (G.calm h0) G.dig (G.gl h2) (G.bi _ (yY b)) hA (cn n1) (bZ _ n3)
  ·cases h
 |.isB a t,c,e,X,E2,h,G=>by
  unfold okE at h;split at h
  ·simp only[Bool.and_eq_true,decide_eq_true_eq]at h;obtain⟨⟨⟨⟨⟨rfl,rfl⟩,h2⟩,h3⟩,h4⟩,h5⟩:=h;exact AU (sE a h5 G) (G.gl h2) (G.bi _ (by decide +kernel)) (G.gl h3) (G.bi _ (vL t)) (cn h4)
  ·cases h
 |.isC a k,c,e,X,E2,h,G=>by
  unfold okE at h;split at h
  ·simp only[Bool.and_eq_true,decide_eq_true_eq,beq_iff_eq,Bool.not_eq_true']at h;obtain⟨⟨⟨⟨⟨⟨rfl,h1⟩,h2⟩,h3⟩,h4⟩,h5⟩,h6⟩:=h;exact DP (sE a h6 G) (G.gl h2) (G.bi _ (by decide +kernel)) (G.gl h3) (G.exc _ _ h1).1 h4 (fun i hi=>⟨(G.exi i hi).1,(G.exi i hi).2.2 _ _ h1⟩) (cn h5)
  ·cases h
 |.comp fz N js tg it cond elt,c,e,X,E2,h,G=>by
  unfold okE at h;split at h
  ·simp only[Bool.and_eq_true,decide_eq_true_eq]at h;obtain⟨⟨⟨⟨⟨⟨⟨⟨h0,rfl⟩,ht⟩,h1⟩,h2⟩,h3⟩,h4⟩,h5⟩,h6⟩:=h;have hok:=h2;rw[<-G.sc,<-G.N]at hok;exact xq hok (G.calm h0) (sI it h3 G ht) (fun C s2 H2 fp pn=>sG tg h4 (G.comp h2 C s2 H2 fp pn)) (fun C s2 H2 fp pn=>sTO cond h5 (G.comp h2 C s2 H2 fp pn)) (fun C s2 H2 fp pn=>sE elt h6 (G.comp h2 C s2 H2 fp pn)) (qZ h1) fz
  ·cases h
 |.dlg ps es,c,e,X,E2,h,G=>by
  unfold okE at h;split at h
  ·rename_i ks vs dp n ap args cp;simp only[Bool.and_eq_true,decide_eq_true_eq]at h;obtain⟨⟨⟨⟨⟨rfl,h2⟩,h3⟩,h4⟩,h5⟩,h6⟩:=h;have hA:=sA es h6 G;cases args with
   |nil=>exact absurd rfl h3.2
   |cons z zs=>
    cases es with
    |nil=>simp[okA]at h6
    |cons ea er=>
     obtain⟨_,_,e1,n1,_,n3⟩:=bU h6;cases e1;exact (tO PySem.F.plainAttrs_dict PySem.F.slot_dict_get PySem.F.type_dict_get (yx G.un) fM (zF h4 h5.1 h5.2.1 h5.2.2) hA (dA rfl) h3.1 h2 (cn n1) (bZ _ n3)).imp fun σ H Q2 hl_=>ex9 hl_ fun σ3 M Q E3 rm ds lk h back=>⟨σ3,M,Q,E3,rm,ds,lk,fun p hp=>⟨by simp[tyB,eZ,ai],h p hp⟩,back⟩
  ·cases h
 |.fld a f,c,e,X,E2,h,G=>by
  unfold okE at h;split at h
  ·simp only[Bool.and_eq_true,decide_eq_true_eq]at h;obtain⟨⟨rfl,h1⟩,h2⟩:=h;exact Do G.kok (sE a h2 G) (dA h1)
  ·cases h
 |.xfld a f,c,e,X,E2,h,G=>by
  unfold okE at h;split at h
  ·simp only[Bool.and_eq_true,decide_eq_true_eq]at h;obtain⟨⟨rfl,h1⟩,h2⟩:=h;exact yK (fun i hi=>(G.exi i hi).1) G.xn (sE a h2 G) (dA h1)
  ·cases h
 |.make fz i es,c,e,X,E2,h,G=>by
  unfold okE at h;split at h
  ·rename_i x px args pos;simp only[Bool.and_eq_true,Bool.not_eq_true']at h;obtain⟨⟨⟨⟨h0,h1⟩,h2⟩,h3⟩,h4⟩:=h;obtain⟨m1,hi⟩:=G.knm i x (beq_iff_eq.mp h1);obtain⟨k,hr,hF⟩:=G.fns h0;have hA:=sA es h4 G;cases q:W.ini i with
   |none=>exact absurd q (by obtain⟨f,hf⟩:=G.kin i hi;rw[hf];exact fun z=>nomatch z)
   |some f=>
    have F:=hF f (G.kfi i f hi q);cases args with
    |nil=>
     cases es with
     |nil=>exact (tX (B:=W.toWB) (fz:=fz) (G.gl h2) m1 h3 ((G.kok i hi).mkr f q) F hr G.pass).imp fun σ H Q2 hl_=>ex9 hl_ fun σ3 M Q E3 rm ds lk hh back=>⟨σ3,M,Q,E3,rm,ds,lk,by simp only[wpE,wpA,q,cW]at hh;exact hh.2,back⟩
     |cons _ _=>simp[okA]at h4
    |cons z zs=>
     cases es with
     |nil=>simp[okA]at h4
     |cons ea er=>
      obtain⟨_,_,e1,n1,_,n3⟩:=bU h4;cases e1;have hA2:PA X (z::zs) (cZ X.K W.cls E2 fun σ M Q E=>wpA W (.cons ea er) σ M (fun xs M1=>i < W.nk/\Q xs M1) E):=hA.imp fun σ H Q2 hl_=>ex9 hl_ fun σ3 M Q E3 rm ds lk hh back=>⟨σ3,M,_,E3,rm,ds,lk,hh,fun vs H' xs M' a b c d=>back vs H' xs M' a b c d.2⟩
      exact (zI (B:=W.toWB) (fz:=fz) (G.gl h2) m1 h3 ((G.kok i hi).mkr f q) F hr G.pass hA2 (cn n1) (bZ _ n3)).imp fun σ H Q2 hl_=>ex9 hl_ fun σ3 M Q E3 rm ds lk hh back=>⟨σ3,M,Q,E3,rm,ds,lk,by simp only[wpE,q,cW]at hh;exact hh,back⟩
  ·cases h
 |.meth a m es,c,e,X,E2,h,G=>by
  unfold okE at h;split at h
  ·rename_i x n ap args cp;simp only[Bool.and_eq_true,decide_eq_true_eq]at h;obtain⟨⟨⟨⟨⟨⟨h0,rfl⟩,h1⟩,h2⟩,h3⟩,h4⟩,h5⟩:=h;obtain⟨k,hr,hF⟩:=G.fns h0;have hA:=sA es h5 G;cases args with
   |nil=>
    cases es with
    |nil=>exact uT (B:=W.toWB) G.kok (fun i m f hi q=>hF f (G.kfm i m f hi q)) (hr.mono (Nat.le_succ k)) G.pass (sE a h4 G) (dA h1) h2
    |cons _ _=>simp[okA]at h5
   |cons z zs=>
    cases es with
    |nil=>simp[okA]at h5
    |cons ea er=>
     obtain⟨_,_,e1,n1,_,n3⟩:=bU h5;cases e1;exact wk (B:=W.toWB) G.kok (fun i m f hi q=>hF f (G.kfm i m f hi q)) (hr.mono (Nat.le_succ k)) G.pass (sE a h4 G) hA (dA h1) h2 h3 (cn n1) (bZ _ n3)
  ·cases h
 |.ini i es,c,e,X,E2,h,G=>by
  unfold okE at h;split at h
  ·rename_i x px n ap args cp;simp only[Bool.and_eq_true,decide_eq_true_eq,Bool.not_eq_true']at h;obtain⟨⟨⟨⟨⟨⟨⟨⟨h0,rfl⟩,h1⟩,h2⟩,h3⟩,h4⟩,h5⟩,h6⟩,h7⟩:=h;obtain⟨m1,hi⟩:=G.knm i x (beq_iff_eq.mp h1);obtain⟨k,hr,hF⟩:=G.fns h0;have hA:=sA es h7 G;cases args with
   |nil=>cases h6
   |cons z zs=>
    cases es with
    |nil=>simp[okA]at h7
    |cons ea er=>
     obtain⟨_,_,e1,n1,_,n3⟩:=bU h7;cases e1;cases q:W.ini i with
     |none=>exact absurd q (by obtain⟨f,hf⟩:=G.kin i hi;rw[hf];exact fun z=>nomatch z)
     |some f=>
      have hA2:PA X (z::zs) (cZ X.K W.cls E2 fun σ M Q E=>wpA W (.cons ea er) σ M (fun xs M1=>i < W.nk/\Q xs M1) E):=hA.imp fun σ H Q2 hl_=>ex9 hl_ fun σ3 M Q E3 rm ds lk hh back=>⟨σ3,M,_,E3,rm,ds,lk,hh,fun vs H' xs M' a b c d=>back vs H' xs M' a b c d.2⟩
      exact (DJ (B:=W.toWB) (G.gl h2) m1 h3 ((G.kok i hi).ci f q) (hF f (G.kfi i f hi q)) (hr.mono (Nat.le_succ k)) G.pass hA2 h4 h5 (cn n1) (bZ _ n3)).imp fun σ H Q2 hl_=>ex9 hl_ fun σ3 M Q E3 rm ds lk hh back=>⟨σ3,M,Q,E3,rm,ds,lk,by simp only[wpE,q,cW]at hh;exact hh,back⟩
  ·cases h
 |.isK a j,c,e,X,E2,h,G=>by
  unfold okE at h;split at h
  ·simp only[Bool.and_eq_true,decide_eq_true_eq,beq_iff_eq,Bool.not_eq_true']at h;obtain⟨⟨⟨⟨⟨⟨rfl,h1⟩,h2⟩,h3⟩,h4⟩,h5⟩,h6⟩:=h;exact C3 (B:=W.toWB) G.kok (sE a h6 G) (G.gl h2) (G.bi _ (by decide +kernel)) (G.gl h3) (G.knm _ _ h1).1 h4 (cn h5)
  ·cases h
 |.glo k,c,e,X,E2,h,G=>by
  unfold okE at h;split at h
  ·rename_i x px;simp only[Bool.and_eq_true,Bool.not_eq_true']at h;obtain⟨u,v,m1,r,hd⟩:=G.glo k x (beq_iff_eq.mp h.1.1);exact BQ (G.gl h.1.2) m1 r h.2 hd
  ·cases h
 |.bm b o es,c,e,X,E2,h,G=>by
  unfold okE at h;split at h
  ·rename_i x n ap args cp;simp only[Bool.and_eq_true,decide_eq_true_eq]at h;obtain⟨⟨⟨⟨⟨⟨h0,rfl⟩,h1⟩,h2⟩,h3⟩,h4⟩,h5⟩:=h;have hA:=sA es h5 G;cases args with
   |nil=>
    cases es with
    |nil=>exact rS G.un (sE o h4 G) (dA h1) h2
    |cons _ _=>simp[okA]at h5
   |cons z zs=>
    cases es with
    |nil=>simp[okA]at h5
    |cons ea er=>
     obtain⟨_,_,e1,n1,_,n3⟩:=bU h5;cases e1;exact uG G.un (sE o h4 G) hA (dA h1) h3 h2 (cn n1) (bZ _ n3)
  ·cases h
 |.dnew tk,c,e,X,E2,h,G=>by
  unfold okE at h;split at h
  ·exact yF tk
  ·cases h
 |.rep fz a b,c,e,X,E2,h,G=>by
  unfold okE at h;split at h
  ·simp only[Bool.and_eq_true,decide_eq_true_eq]at h;obtain⟨⟨rfl,h1⟩,h2⟩:=h;exact DF (sE a h1 G) (sE b h2 G)
  ·cases h
theorem sT:∀(it:IT) {c:Cfg}{e:Expr}{X:Cx}{E2:St->XK},okT it c e=true->Good c W X E2->PT X e (cB X.K W.cls E2 (wpT W it))/\(GU it=true->PW X e (cB X.K W.cls E2 (wpT W it)))
 |.val a,c,e,X,E2,h,G=>by
  unfold okT at h;simp only[Bool.and_eq_true]at h;exact⟨Bs (sE a h.2 G) (oY h.1),fun z=>nomatch z⟩
 |.cmp op a b,c,e,X,E2,h,G=>by
  unfold okT at h;split at h
  ·simp only[Bool.and_eq_true,decide_eq_true_eq]at h;obtain⟨⟨⟨rfl,h0⟩,h1⟩,h2⟩:=h;exact⟨Dq (da G.un op) (sE a h1 G) (sE b h2 G) (fy h0),fun z=>nomatch z⟩
  ·cases h
 |.chain op1 op2 a b d,c,e,X,E2,h,G=>by
  unfold okT at h;split at h
  ·simp only[Bool.and_eq_true,decide_eq_true_eq]at h;obtain⟨⟨⟨⟨⟨rfl,rfl⟩,h0⟩,h1⟩,h2⟩,h3⟩:=h;exact⟨tV (da G.un op1) (da G.un op2) (sE a h1 G) (sE b h2 G) (sE d h3 G) (fy h0),fun z=>nomatch z⟩
  ·cases h
 |.chain3 op1 op2 op3 a b d f,c,e,X,E2,h,G=>by
  unfold okT at h;split at h
  ·simp only[Bool.and_eq_true,decide_eq_true_eq]at h;obtain⟨⟨⟨⟨⟨⟨⟨rfl,rfl⟩,rfl⟩,h0⟩,h1⟩,h2⟩,h3⟩,h4⟩:=h;exact⟨qC (da G.un op1) (da G.un op2) (da G.un op3) (sE a h1 G) (sE b h2 G) (sE d h3 G) (sE f h4 G) (fy h0),fun z=>nomatch z⟩
  ·cases h
 |.and a b,c,e,X,E2,h,G=>by
  unfold okT at h;split at h
  ·rename_i op x y r p;simp only[Bool.and_eq_true,decide_eq_true_eq]at h;obtain⟨⟨rfl,h1⟩,h2⟩:=h;have hA:=(sT a h1 G).1;cases r with
   |nil=>exact⟨(nO hA (nG (sT b h2 G).1)).pt,fun _=>nO hA (nG (sT b h2 G).1)⟩
   |cons z r=>
    have hB:=(sT b h2 G).2;cases b with
    |and b1 b2=>exact⟨(nO hA (hB rfl)).pt,fun _=>nO hA (hB rfl)⟩
    |val b1=>simp[okT,nK]at h2
    |cmp=>simp[okT]at h2
    |chain=>simp[okT]at h2
    |chain3=>simp[okT]at h2
    |or=>simp[okT]at h2
    |not=>simp[okT]at h2
  ·cases h
 |.or a b,c,e,X,E2,h,G=>by
  unfold okT at h;split at h
  ·rename_i op x y r p;simp only[Bool.and_eq_true,decide_eq_true_eq]at h;obtain⟨⟨rfl,h1⟩,h2⟩:=h;have hA:=(sT a h1 G).1;cases r with
   |nil=>exact⟨(tK hA (rZ (sT b h2 G).1)).pt,fun _=>tK hA (rZ (sT b h2 G).1)⟩
   |cons z r=>
    have hB:=(sT b h2 G).2;cases b with
    |or b1 b2=>exact⟨(tK hA (hB rfl)).pt,fun _=>tK hA (hB rfl)⟩
    |val b1=>simp[okT,nK]at h2
    |cmp=>simp[okT]at h2
    |chain=>simp[okT]at h2
    |chain3=>simp[okT]at h2
    |and=>simp[okT]at h2
    |not=>simp[okT]at h2
  ·cases h
 |.not a,c,e,X,E2,h,G=>by
  unfold okT at h;split at h
  ·simp only[Bool.and_eq_true,decide_eq_true_eq]at h;obtain⟨rfl,h1⟩:=h;exact⟨A5 (sT a h1 G).1,fun z=>nomatch z⟩
  ·cases h
theorem sA:∀(ia:IA) {c:Cfg}{es:List Expr}{X:Cx}{E2:St->XK},okA ia c es=true->Good c W X E2->PA X es (cZ X.K W.cls E2 (wpA W ia))
 |.nil,c,es,X,E2,h,G=>by
  simp only[okA]at h;cases es with
  |nil=>exact DZ
  |cons _ _=>cases h
 |.cons a r,c,es,X,E2,h,G=>by
  obtain⟨x,xs,rfl,h1,h2,h3⟩:=bU h;exact wb (sE a h2 G) (sA r h3 G) (cn h1)
theorem sO:∀(io:IO) {c:Cfg}{o:Option Expr}{X:Cx}{E2:St->XK},okO io c o=true->Good c W X E2->PO X o (ph X.K W.cls E2 (wpO W io))
 |.no,c,o,X,E2,h,G=>by
  simp only[okO]at h;cases o with
  |none=>exact Gm
  |some _=>cases h
 |.yes a,c,o,X,E2,h,G=>by
  cases o with
  |none=>simp[okO]at h
  |some x=>
   simp only[okO]at h;exact BH (sE a h G)
theorem sTO:∀(io:ITO) {c:Cfg}{es:List Expr}{X:Cx}{E2:St->XK},ub io c es=true->Good c W X E2->PIf X es (cB X.K W.cls E2 (kS W io))
 |.no,c,es,X,E2,h,G=>by
  simp only[ub]at h;cases es with
  |nil=>exact fun pins s σ H Q2 I ⟨σ3,M,Q,E3,rm,ds,lk,h,back⟩=>sJ pins s σ H Q2 I (back _ _ _ rm (.refl _) h)
  |cons _ _=>cases h
 |.yes t,c,es,X,E2,h,G=>by
  unfold ub at h;split at h
  ·exact uw (sT t h G).1
  ·cases h
theorem sI:∀(ii:II) {c:Cfg}{e:Expr}{X:Cx}{E2:St->XK}{tg:Expr},okI ii c e=true->Good c W X E2->yr ii tg=true->PI X tg e (oA X.K W.cls E2 (wpI W ii))
 |.seq a,c,e,X,E2,tg,h,G,_=>by
  unfold okI at h;exact CA (sE a h G)
 |.rng1 a,c,e,X,E2,tg,h,G,_=>by
  unfold okI at h;split at h
  ·simp only[Bool.and_eq_true,decide_eq_true_eq]at h;obtain⟨⟨⟨rfl,h1⟩,h2⟩,h3⟩:=h;exact FX (G.gl h1) (G.bi _ (by decide +kernel)) (sE a h3 G) (cn h2)
  ·cases h
end
end
end L2
namespace L2
open PySem PySem.Spec PyProof.Rows
theorem rA{X:Cx}(G:Good c W X E2){pos px spos:Pos}(h:swB c scope x px.line pos.line=true) :
  swapsWith (.ListComp el gs scope pos) (some (.Name x px)) spos.line X.env=pure true:=by
 unfold swB at h;simp only[Bool.and_eq_true]at h;have h1:X.env.scope.kind=.function:=by rw[G.sc];exact beq_iff_eq.mp h.1.1.1
 have h2:X.env.kindOf x=some .local:=by show X.env.scope.names.lookup x=_;rw[G.sc];exact beq_iff_eq.mp h.1.1.2
 have hb:(X.env.blockKind == .function)=true:=by
  unfold Env.blockKind;rw[h1];rfl
 show (pure (X.env.blockKind == .function&&X.env.kindOf x == some .local&&px.line == pos.line&&!(scope.names.any fun (n,k)=>n == x&&(k == .local||k == .cell))):Sem Bool)=pure true
 rw[hb,h2,h.1.2,h.2];rfl
theorem An{c:Cfg}{X:Cx}(G:Good c W X E2){spos:Pos}(h:(c.sc.names.lookup x == some .cell)=true) :
  swapsWith (.ListComp el gs scope pos) (some (.Name x px)) spos.line X.env=pure false:=by
 have h2:X.env.kindOf x=some .cell:=by show X.env.scope.names.lookup x=_;rw[G.sc];exact beq_iff_eq.mp h
 show (pure (X.env.blockKind == .function&&X.env.kindOf x == some .local&&px.line == pos.line&&!(scope.names.any fun (n,k)=>n == x&&(k == .local||k == .cell))):Sem Bool)=pure false
 rw[h2,show ((some NameKind.cell:Option NameKind) == some .local)=false from rfl,Bool.and_false];rfl
theorem ue{c:Cfg}(h:swB c scope x a b=true):c.sc.names.lookup x=some .local:=by
 unfold swB at h;simp only[Bool.and_eq_true,beq_iff_eq]at h;exact h.1.1.2
section
variable {W:WC}
theorem p8{fz:Bool}{N:List Str}{js:List (Option Nat)}{tg:ITg}{it:II}{cond:ITO}{elt:IE}{c:Cfg}{X:Cx}{E2:St->XK}{i:Nat}{x:Str}{px spos pos:Pos}{el:Expr}{gs:List Comprehension}{scope:Scope}
  (h:okE (.comp fz N js tg it cond elt) c (.ListComp el gs scope pos)=true) (hi:(c.N[i]? == some x)=true) (hsw:swB c scope x px.line pos.line=true) (G:Good c W X E2) :
  PS X (.Assign [.Name x px] (.ListComp el gs scope pos) spos) (bz X.K W.cls E2 (wpS W (.set i (.comp fz N js tg it cond elt)))):=by
 have sp:=rA (spos:=spos) (el:=el) (gs:=gs) G hsw;unfold okE at h;split at h
 ·rename_i el' tgE iter ifs as scope' pos' heq;cases heq;simp only[Bool.and_eq_true,decide_eq_true_eq]at h;obtain⟨⟨⟨⟨⟨⟨⟨⟨h0,rfl⟩,ht⟩,h1⟩,h2⟩,h3⟩,h4⟩,h5⟩,h6⟩:=h;have hok:=h2;rw[<-G.sc,<-G.N]at hok;exact m6 hok (G.calm h0) (sI it h3 G ht) (fun C s2 H2 fp pn=>sG tg h4 (G.comp h2 C s2 H2 fp pn)) (fun C s2 H2 fp pn=>sTO cond h5 (G.comp h2 C s2 H2 fp pn)) (fun C s2 H2 fp pn=>sE elt h6 (G.comp h2 C s2 H2 fp pn)) (qZ h1) G.ndX (G.at hi) (by rw[G.sc];exact ue hsw) sp fz
 ·cases h
mutual
theorem sS:∀(is:IS) {c:Cfg}{s:Stmt}{X:Cx}{E2:St->XK},okS is c s=true->Good c W X E2->PS X s (bz X.K W.cls E2 (wpS W is))
 |.set i a,c,s,X,E2,h,G=>by
  unfold okS at h;split at h
  ·simp only[Bool.and_eq_true,Bool.or_eq_true]at h;obtain⟨⟨⟨h1,h2⟩,h3⟩,h4⟩:=h;obtain⟨l1,l2⟩:=G.loc h2;rcases h4 with h4|h4
   ·exact vc G.ndX (G.at h1) l1 (sE a h3 G) (iC h4) l2
   ·split at h4
    ·rcases Bool.or_eq_true_iff.mp h4 with h4|h4
     ·exact p8 h3 h1 h4 G
     ·exact vc G.ndX (G.at h1) l1 (sE _ h3 G) (An G h4) l2
    ·cases h4
  ·cases h
 |.unp is a,c,s,X,E2,h,G=>by
  unfold okS at h;split at h
  ·simp only[Bool.and_eq_true]at h;obtain⟨⟨⟨⟨h1,h2⟩,h3⟩,h4⟩,h5⟩:=h;exact Ba (G.calm h1) G.ndX G.fnx (G.names h2) (sE a h5 G) (by unfold swapsWithSole;exact iC h4) (rh h3)
  ·cases h
 |.expr a,c,s,X,E2,h,G=>by
  unfold okS at h;split at h
  ·simp only[Bool.and_eq_true]at h;exact z8 (sE a h.2 G) (iC h.1)
  ·cases h
 |.ret a,c,s,X,E2,h,G=>by
  unfold okS at h;split at h
  ·exact Cc (sE a h G)
  ·cases h
 |.retN,c,s,X,E2,h,G=>by
  unfold okS at h;split at h
  ·exact zl
  ·cases h
 |.dead,c,s,X,E2,h,G=>zu
 |.ifs t a b,c,s,X,E2,h,G=>by
  unfold okS at h;split at h
  ·simp only[Bool.and_eq_true]at h;exact F0 (sT t h.1.1 G).1 (sSs a h.1.2 G) (sSs b h.2 G)
  ·cases h
 |.for_ tg it body,c,s,X,E2,h,G=>by
  unfold okS at h;split at h
  ·simp only[Bool.and_eq_true]at h;obtain⟨⟨⟨⟨⟨⟨h1,ht⟩,h2⟩,h3⟩,h4⟩,h5⟩,h6⟩:=h;exact Dk (G.own h1).1 (G.calm h2) (sI it h5 G ht) (sG tg h4 G) (sSs body h6 G) (qZ h3)
  ·cases h
 |.raiseI k es,c,s,X,E2,h,G=>by
  unfold okS at h;split at h
  ·rename_i x px args cp pos;simp only[Bool.and_eq_true,Bool.not_eq_true']at h;obtain⟨⟨⟨⟨⟨⟨⟨h0,h1⟩,h2⟩,h3⟩,h4⟩,h5⟩,h6⟩,h7⟩:=h;obtain⟨_,E,hE,hR,hRD,hr2⟩:=G.own h1;obtain⟨m1,_,_⟩:=G.exc k x (beq_iff_eq.mp h3);obtain⟨f,hf⟩:=Option.isSome_iff_exists.mp h0;obtain⟨hxf,fI,fd,ps,xi,bd,F⟩:=G.xi k f hf;have hA:=sA (W:=W) es h7 G;cases args with
   |nil=>cases h6
   |cons z zs=>
    cases es with
    |nil=>simp[okA]at h7
    |cons ea er=>
     obtain⟨_,_,e1,n1,_,n3⟩:=bU h7;cases e1;exact qy hRD hE (G.calm h2) (G.gl h4) m1 xi F hr2 bd hxf hA h5 (cn n1) (bZ _ n3)
  ·cases h
 |.raise k es,c,s,X,E2,h,G=>by
  unfold okS at h;split at h
  ·rename_i x px args cp pos;simp only[Bool.and_eq_true,Bool.not_eq_true']at h;obtain⟨⟨⟨⟨⟨⟨⟨h0,h1⟩,h2⟩,h3⟩,h4⟩,h5⟩,h6⟩,h7⟩:=h;obtain⟨_,E,hE,hR,hRD,hr2⟩:=G.own h1;obtain⟨m1,m2,_⟩:=G.exc k x (beq_iff_eq.mp h3);have hA:=sA (W:=W) es h7 G;cases args with
   |nil=>cases h6
   |cons z zs=>
    cases es with
    |nil=>simp[okA]at h7
    |cons ea er=>
     obtain⟨_,_,e1,n1,_,n3⟩:=bU h7;cases e1;exact uJ hR hE (G.calm h2) (G.gl h4) m1 (m2 (Option.isNone_iff_eq_none.mp h0)) hA h5 (cn n1) (bZ _ n3)
  ·cases h
 |.try_ body hs,c,s,X,E2,h,G=>by
  unfold okS at h;split at h
  ·rename_i b handlers pos;simp only[Bool.and_eq_true]at h;obtain⟨⟨⟨h1,h2⟩,h3⟩,h4⟩:=h;obtain⟨t1,t2,t3⟩:=G.tr h1;have hH:=sHs hs h4 G;cases handlers with
   |nil=>cases h2
   |cons h0 hr=>exact Ca t1 t2 t3 hH fun pn V' E2' hP=>sSs body h3 (G.trying hP)
  ·cases h
 |.app o a,c,s,X,E2,h,G=>by
  unfold okS at h;split at h
  ·simp only[Bool.and_eq_true,decide_eq_true_eq]at h;obtain⟨⟨⟨⟨⟨rfl,h1⟩,h2⟩,h3⟩,h4⟩,h5⟩:=h;exact DC (sE o h4 G) (sE a h5 G) (yo h1) h2 (cn h3)
  ·cases h
 |.del i,c,s,X,E2,h,G=>by
  unfold okS at h;cases h
 |.fset o f a,c,s,X,E2,h,G=>by
  unfold okS at h;split at h
  ·simp only[Bool.and_eq_true,decide_eq_true_eq]at h;obtain⟨⟨⟨rfl,h1⟩,h2⟩,h3⟩:=h;exact zN (B:=W.toWB) G.kok (sE o h2 G) (sE a h3 G) (iC h1)
  ·cases h
 |.ixset o i a,c,s,X,E2,h,G=>by
  unfold okS at h;split at h
  ·simp only[Bool.and_eq_true]at h;obtain⟨⟨⟨⟨h0,h1⟩,h2⟩,h3⟩,h4⟩:=h;exact sP G.un (sE o h2 G) (sE i h3 G) (sE a h4 G) (wF h0) (by unfold swapsWithSole;exact iC h1) (by rfl) (by rfl)
  ·cases h
theorem sSs:∀(is:ISs) {c:Cfg}{sts:List Stmt}{X:Cx}{E2:St->XK},je is c sts=true->Good c W X E2->PSs X sts (bz X.K W.cls E2 (ao W is))
 |.nil,c,sts,X,E2,h,G=>by
  simp only[je]at h;cases sts with
  |nil=>exact Be
  |cons _ _=>cases h
 |.cons s r,c,sts,X,E2,h,G=>by
  unfold je at h;split at h
  ·exact Dm (sSs r h G)
  ·split at h
   ·simp only[Bool.and_eq_true]at h;exact xk (t:=wpS W s) (u:=ao W r) (sS s h.1 G) (sSs r h.2 G)
   ·cases h
theorem sHs:∀(ih:IHs) {c:Cfg}{hs:List ExceptHandler}{X:Cx}{E2:St->XK},su ih c hs=true->Good c W X E2->PH X hs (mM X.K W.cls (wpH W ih))
 |.nil,c,hs,X,E2,h,G=>by
  simp only[su]at h;cases hs with
  |nil=>exact Am
  |cons _ _=>cases h
 |.cons k nm body r,c,hs,X,E2,h,G=>by
  unfold su at h;split at h
  ·rename_i x px nmE bodyE hp rest;simp only[Bool.and_eq_true,Bool.not_eq_true']at h;obtain⟨⟨⟨⟨⟨⟨h1,h2⟩,h3⟩,h4⟩,h5⟩,h6⟩,h7⟩:=h;obtain⟨m1,m2,m3⟩:=G.exc k x (beq_iff_eq.mp h1);have hB:=fun v=>sSs body h6 (G.caught v)
   have hR:=sHs r h7 G;cases bodyE with
   |nil=>cases h5
   |cons b0 suite=>
    cases nm with
    |none=>
     cases nmE with
     |none=>exact AV (G.gl h2) m1 m3 hB hR h3
     |some n=>cases h4
    |some j=>
     cases nmE with
     |none=>cases h4
     |some n=>
      simp only[Bool.and_eq_true,beq_iff_eq]at h4;exact DW (G.gl h2) m1 m3 G.ndX (by rw[G.N];exact h4.1) (by rw[G.sc];exact h4.2) hB hR h3
  ·cases h
end
end
end L2
namespace L2
open PySem PySem.Spec PyProof.Rows
theorem cI:∀{l:List (Nat×Nat)}{m f:Nat},l.lookup m=some f->(m,f)∈l
 |[],_,_,h=>by cases h
 |(a,b)::r,m,f,h=>by
  rw[List.lookup_cons]at h;by_cases e:m=a
  ·subst e;simp at h;subst h;exact List.mem_cons_self
  ·have:(m == a)=false:=by simpa using e
   rw[this]at h;exact List.mem_cons_of_mem _ (cI h)
theorem ixc{α:Type}{P:Nat->α->Prop}{a:α}{r:List α}(h0:P 0 a)(hr:∀i x,r[i]?=some x->P (i+1) x):∀i x,(a::r)[i]?=some x->P i x
 |0,x,h=>by cases h;exact h0
 |i+1,x,h=>hr i x h
theorem ixn{α:Type}{P:Nat->α->Prop}:∀i x,([]:List α)[i]?=some x->P i x:=fun i x h=>by simp at h
theorem us0{P:List Value->Prop}(h:P []):∀us:List Value,us.length=0->P us:=fun us e=>(List.eq_nil_of_length_eq_zero e)▸h
theorem usS{n:Nat}{P:List Value->Prop}(h:∀a,∀us:List Value,us.length=n->P (a::us)):∀us:List Value,us.length=n+1->P us:=fun us e=>by
 cases us with
 |nil=>cases e
 |cons a r=>exact h a r (Nat.succ.inj e)
structure FB where
 np:Nat
 nl:Nat
 cl:Bool
 body:ISs
 df:List Int:=[]
noncomputable def FB.full(fb:FB)(ds:List D):List D:=ds++(fb.df.drop (ds.length+fb.df.length - fb.np)).map D.int
noncomputable def ni(nl:Nat)(ds:List D):St3:=ds.map some++List.replicate (nl - ds.length) none
noncomputable def aa(T:List FB)(B:WB):Nat->Nat->List D->MH->VK3->XN->Prop
 |0,_,_,_,_,_=>False
 |n+1,f,ds,M,Q,E=>match T[f]? with
  |none=>False
  |some fb=>(fb.full ds).length=fb.np/\ao {toWB:=B,call:=aa T B n} fb.body {nx:=fun _ M'=>Q .non (kp fb.cl M M'),rt:=fun v M'=>Q v (kp fb.cl M M')} (fun _ i M'=>E i (af M M')) (ni fb.nl (fb.full ds)) M
structure FL where
 name:Str
 qual:Str
 glob:Bool
 cl:Bool
 st:Stmt
 N:List Str
 ps:List Str
 body:ISs
 gn:Str:=name
 df:List Int:=[]
noncomputable def kX(N ps:List Str)(sc:Scope):Bool:=(sc.kind == .function)&&!sc.isCoroutine&&!sc.isGenerator&&decide N.Nodup&&(N.take ps.length == ps)&&
 ps.all (fun x=>sc.names.lookup x == some .local||sc.names.lookup x == some .cell)&&sc.names.all (fun y=>y.2 != .free)
theorem jZ(h:kX N ps sc=true):FnScope N ps sc:=by
 unfold kX at h;simp only[Bool.and_eq_true,Bool.not_eq_true',beq_iff_eq,decide_eq_true_eq,List.all_eq_true,Bool.or_eq_true,bne_iff_ne]at h;obtain⟨⟨⟨⟨⟨⟨h1,h2⟩,h3⟩,h4⟩,h5⟩,h6⟩,h7⟩:=h;exact⟨h1,h2,h3,h4,h5,h6,h7⟩
structure NM where
 exc:List Str
 kln:List Str
 gln:List Str
 xin:List (Nat×Nat)
noncomputable def FL.cfg(l:FL)(fns:List (Option Str×Nat))(n:NM):Cfg:={N:=l.N,sc:=aB l.st,fns:=fns,exc:=n.exc,kln:=n.kln,gln:=n.gln,xin:=n.xin,calm:=true,own:=true,tr:=true,fn:=true}
noncomputable def FL.fb(l:FL):FB:=⟨l.ps.length,l.N.length,l.cl,l.body,l.df⟩
noncomputable def FL.ok(l:FL)(fns:List (Option Str×Nat))(n:NM):Bool:=kX l.N l.ps (aB l.st)&&je l.body (l.cfg fns n) (be l.st)
noncomputable def eK(L:List FL):List (Option Str×Nat):=L.map fun l=>(if l.glob=true then some l.gn else none,l.ps.length)
structure FunD (K:PySem.W.Frag)(x qual:Str)(st:Stmt)(f:Addr)(fd:FuncData):Prop where
 ex:∃(oc:Value) (od:Option Addr) (dV kV doc pm:Value) (an:Option Addr) (cdv ct:Value) (osl:Array (Option Value)),
  fd=PySem.W.fnOf x qual (bX st) (be st) (aB st) dV kV doc pm an cdv ct/\K.lookup f=some ⟨oc,od,.func fd,osl⟩/\PySem.W.codeIn K cdv qual=true
 kp:PySem.W.keepIn K (.ref f)=true
structure Top (K:PySem.W.Frag)(mg:Str->Option Value)(L:List FL)(n:NM)(B:WB):Prop where
 ok:∀l∈L,l.ok (eK L) n=true
 fn:∀f l,L[f]?=some l->∃fd,FunD K l.name l.qual l.st (B.fad f) fd/\(l.glob=true->mg l.gn=some (.ref (B.fad f)))/\(l.df=[]->∀us:List Value,us.length=l.ps.length->bindArgs fd ⟨us,[]⟩=pure (l.ps.zip us))/\∃dv,Vals (l.df.map V.int) dv/\∀j,Binds K fd l.ps (dv.drop j)
 exi:∀i,i < B.ne->ExcI K (B.cls i)/\PySem.W.kitOne K (.ref (B.cls i)) (.type "ValueError")=some true/\∀j x,n.exc[j]?=some x->PySem.W.kitOne K (.ref (B.cls i)) (.ref (B.cls j))=some (B.sub i j)
 exc:∀i x,n.exc[i]?=some x->mg x=some (.ref (B.cls i))/\(n.xin.lookup i=none->uO K (B.cls i))/\∀j,j < B.ne->PySem.W.exmOne K (.ref (B.cls j)) (.ref (B.cls i))=some (B.sub j i)
 kok:∀i,i < B.nk->KOk K B B.fad i
 kin:∀i,i < B.nk->∃f,B.ini i=some f
 kfi:∀i f,i < B.nk->B.ini i=some f->f < L.length
 kfm:∀i m f,i < B.nk->B.mth i m=some f->f < L.length
 knm:∀i x,n.kln[i]?=some x->mg x=some (.ref (B.kls i))/\i < B.nk
 glo:∀k x,n.gln[k]?=some x->∃u v,mg x=some u/\RelV v u/\∀H,Den K H (B.glo k) v
 bi:∀x∈biNames,mg x=none
 dig:AH K
 xi:∀i f,n.xin.lookup i=some f->B.xin i=some f/\∃fI fd ps,XIni K (B.cls i) fI (fnm f)/\Binds K fd ps []/\∀(P:Program)(w:World)(base:Heap),FnOk P w K mg base (CX1 P w) 1 fI fd ps (gD (cpF f) K (B.cls i) (fnm f))
 xn:∀i f,i < B.ne->B.xin i=some f->NoAttr K (B.cls i) (fnm f)
section
variable {w:World}{K:PySem.W.Frag}{L:List FL}{B:WB}
noncomputable def spF(K:PySem.W.Frag)(cls:Nat->Addr)(l:FL)(t3:List D->MH->VK3->XN->Prop):Sp:=fun vs H Q E=>vs.length=l.ps.length/\spX K cls t3 vs H Q E
theorem FB.full_at{fb:FB}{ds:List D}(h:ds.length=fb.np):fb.full ds=ds:=by
 unfold FB.full;rw[List.drop_of_length_le (by omega),List.map_nil,List.append_nil]
theorem jR:∀{vs:List V}{us:List Value} (j:Nat),Vals vs us->Vals (vs.drop j) (us.drop j)
 |_,_,0,h=>h
 |_,_,_+1,.nil=>.nil
 |_,_,j+1,.cons _ h=>jR j h
theorem CD{l:FL}(hl:L[f]?=some l){dv:List Value}(hv:Vals (l.df.map V.int) dv)(hb:∀j,Binds K fd l.ps (dv.drop j)):BdT K B.cls fd l.ps (aa (L.map FL.fb) B n f) (spF K B.cls l (aa (L.map FL.fb) B n f)):=by
 rintro vs H Q E ⟨ds,M,Q3,E3,dl,rm,h,back,lk⟩;cases n with
 |zero=>exact h.elim
 |succ n=>
  have hT:(L.map FL.fb)[f]?=some l.fb:=by rw[List.getElem?_map,hl];rfl
  have h0:=h;simp only[aa,hT]at h0;have e:=h0.1;have hlen:=dl.length;refine⟨(l.df.map V.int).drop (ds.length+l.df.length - l.ps.length),dv.drop (ds.length+l.df.length - l.ps.length),jR _ hv,hb _,?_,?_⟩
  ·have e2:(l.fb.full ds).length=l.ps.length:=e;unfold FB.full at e2;rw[List.length_append,List.length_map]at e2;rw[List.length_append,List.length_drop,List.length_map,<-hlen];rw[List.length_drop]at e2;exact e2
  ·refine⟨l.fb.full ds,M,Q3,E3,?_,rm,?_,back,lk⟩
   ·unfold FB.full;rw[<-List.map_drop];exact dl.append DenL.of_int
   ·simp only[aa,hT];rw[FB.full_at e];exact h0
theorem qX(T:Top K mg L nm B):∀(n f:Nat)(l:FL),L[f]?=some l->∀(fd:FuncData),FunD K l.name l.qual l.st (B.fad f) fd->FnOk P w K mg base (CX1 P w) (2 * n+2) (B.fad f) fd l.ps (spF K B.cls l (aa (L.map FL.fb) B n f)):=by
 intro n
 induction n with
 |zero=>
  intro f l hl fd F;exact⟨fun vs H Q E h=>h.1,fun A outer s H args us vs Q E hr e0 hb r ⟨_,_,_,_,_,_,_,h,_⟩=>h.elim⟩
 |succ n ih=>
  intro f l hl fd F;have hT:(L.map FL.fb)[f]?=some l.fb:=by rw[List.getElem?_map,hl];rfl
  have hm:l∈L:=List.mem_of_getElem? hl;have okl:=T.ok l hm;unfold FL.ok at okl;rw[Bool.and_eq_true]at okl;have S:=jZ okl.1;obtain⟨oc,od,dV,kV,doc,pm,an,cdv,ct,osl,rfl,lk,hcd⟩:=F.ex;have un:∀ds M Q E,aa (L.map FL.fb) B (n+1) f ds M Q E->ds.length=l.ps.length->ao {toWB:=B,call:=aa (L.map FL.fb) B n} l.body {nx:=fun _ M'=>Q .non (kp l.cl M M'),rt:=fun v M'=>Q v (kp l.cl M M')} (fun _ i M'=>E i (af M M')) (ni l.N.length ds) M:=fun ds M Q E h e=>by
   simp only[aa,hT]at h;rw[FB.full_at (fb:=l.fb) e]at h;exact h.2
  show FnOk P w K mg base (CX1 P w) (2 * n+3+1) _ _ _ _;refine sh lk hcd S (fun vs H Q E h=>?_) fun A outer s H vs Q E hr hsp=>?_
  ·exact h.1
  ·obtain⟨hle,ds,M,Q3,E3,dl,rm,h,back,lkE⟩:=hsp;have h:=un _ _ _ _ h (by rw[dl.length];exact hle)
   have len:(eK L).length=L.length:=by unfold eK;rw[List.length_map]
   have G:Good (l.cfg (eK L) nm) {toWB:=B,call:=aa (L.map FL.fb) B n} (cy (CX1 P w) P w K mg base l.N l.qual (aB l.st) (B.fad f) cdv A outer s H E) (fun _=>E):=by
    refine⟨rfl,S.nd,rfl,hr.units,fun _=>rfl,fun _ _=>rfl,(fun _ z=>nomatch z),fun _=>⟨G2,E,rfl,t8,qP,hr.mono (by omega)⟩,fun _=>⟨rfl,rfl,rfl⟩,fun _=>⟨2 * n+2,hr,fun g hg=>?_⟩,fun g x k hg=>?_,T.kok,T.kin,fun i g hi q=>?_,fun i m g hi q=>?_,T.knm,T.glo,T.exc,T.exi,(fun i f hi=>?_),T.xn,T.bi,T.dig,fun pins σ H' s' e s'' I hc=>Cu pins σ H' s' e s'' I hc⟩
    ·have hg:g < (eK L).length:=hg;rw[len]at hg;obtain⟨fd2,F2,_,_,dv2,v2,b2⟩:=T.fn g L[g] (by simp[hg])
     exact⟨fd2,_,_,F2.kp,CD (by simp[hg]) v2 b2,ih g L[g] (by simp[hg]) fd2 F2⟩
    ·have hg:(eK L)[g]?=some (some x,k):=hg;unfold eK at hg;rw[List.getElem?_map]at hg;cases q:L[g]? with
     |none=>rw[q]at hg;cases hg
     |some l2=>
      rw[q]at hg;obtain⟨fd2,F2,m2,_⟩:=T.fn g l2 q;have e:((if l2.glob=true then some l2.gn else none),l2.ps.length)=(some x,k):=Option.some.inj hg
      by_cases z:l2.glob=true
      ·rw[if_pos z]at e;cases e;exact m2 z
      ·rw[if_neg z]at e;cases e
    ·show g < (eK L).length;rw[len];exact T.kfi i g hi q
    ·show g < (eK L).length;rw[len];exact T.kfm i m g hi q
    ·obtain⟨a,fI,fd3,ps3,x3,b3,F3⟩:=T.xi i f hi;exact⟨a,fI,fd3,ps3,x3,b3,F3 P w base⟩
   exact⟨_,sSs l.body okl.2 G,ni l.N.length ds,M,_,_,rm,mG dl,fun σ3 σ i M' H' t _ rm' q dx xd=>lkE i _ H' t (rm'.sub fun _ _ z=>jM z) q dx xd,h,
    ⟨fun σ' H' σ3' M' rm' ds' tm q=>back _ _ _ _ qi (rm'.sub fun _ _ z=>rq z) tm q,fun v H' d M' dv rm' tm q=>back _ _ _ _ dv (rm'.sub fun _ _ z=>rq z) tm q,fun _ _ _ _ _ _ _ z=>z.elim,fun _ _ _ _ _ _ _ z=>z.elim⟩⟩
end
noncomputable abbrev scr(ns:List Int):D:=.rol (ns.map D.int)
theorem walkD{l:PySem.W.OpenLaw}{k f:Nat}{q:Program}{loose:List Str}{XP:(Str->Option Value)->Heap->Prop}{YP:World->Heap->Prop}{d:DefRec}{K:Params->PySem.W.Frag}{fl:FL}{x:Str}{L:List FL}{nm:NM}{BB:(Nat->Addr)->(Nat->Addr)->(Nat->Addr)->WB}
  (hn:l.most=some 63) (hdf:d.params.defaults=[]) (hr:Room (2 * k+2) callerA) (hY:∀(w:World)(h:Heap),YP w h->(K w.params).In h) (hf:L[f]?=some fl) (hps:fl.ps=[x]) (hname:fl.gn=d.name) (hgl:fl.glob=true)
  (T:∀(w:World)(mg:Str->Option Value)(h:Heap),(K w.params).In h->h.Ns mainGlobals mg->∃cls kls fad,Top (K w.params) mg L nm (BB cls kls fad))
  (main:∀(cls kls fad:Nat->Addr)(ns:List Int),ns.length<=63->aa (L.map FL.fb) (BB cls kls fad) k f [scr ns] (fun _=>none) (fun d _=>d=.bl true) (fun _ _=>False)) (hd0:fl.df=[]:=by rfl) :
  PySem.W.WalkO q loose XP YP l.row.toRowW d [] (fun f vs=>PySem.call f vs):=by
 refine Att.attach_call hn hdf fun w s₀ s₁ mg mb fa o pm cd doc a vs ns G Y ho hd hcd hmg hobj hints hlen hg=>?_
 have KX:=hY w _ Y;obtain⟨cls,kls,fad,T⟩:=T w mg _ KX G.T.g;obtain⟨fd,F,m1,b1,_⟩:=T.fn f fl hf;have m1:=m1 hgl;rw[hname,hmg]at m1;have m1:=Value.ref.inj (Option.some.inj m1);subst m1;refine pZ (K:=K w.params) (CX:=CX1 l.prog w) (fd:=fd) (x:=x) (sp:=spF (K w.params) (BB cls kls fad).cls fl (aa (L.map FL.fb) (BB cls kls fad) k f)) KX G.T.g G.T.b G.T.builtins G.T.nolimit hg hobj hints (Nat.le_trans hlen (by decide)) hr (fun base kb gb=>by rw[<-hps];exact qX T k f fl hf fd F) (fun s u=>?_) (fun H hO hS=>?_) fun H e s' h=>?_
 ·have hb:=b1 hd0 [u] (by rw[hps];rfl)
  rw[hps]at hb;exact .of_eq hb
 ·have sq:SqF (K w.params) H a (ns.map V.int):=by
   cases hk:(K w.params).lookup a with
   |some ob=>
    have e:=KX a ob hk;rw[hobj]at e;cases e;exact .inr ⟨vs,_,hk,by rw[hints.length];exact Nat.le_trans hlen (by decide),gq hints⟩
   |none=>
    rcases hS with (h|⟨ob,h⟩)|⟨ob,_,_,h,_⟩
    ·rcases hO a with z|⟨o2,xs,z⟩
     ·rw[h]at z;cases z
     ·rw[h]at z;cases z
    ·exact .inl ⟨ob,h⟩
    ·rw[hk]at h;cases h
  refine⟨by rw[hps];rfl,[scr ns],fun _=>none,fun d _=>d=.bl true,fun _ _=>False,.one ⟨a,_,rfl,sq,.of_int⟩,fun a o e=>(by cases e),main cls kls fad ns hlen,fun v H' d M' dv _ _ q=>?_,fun _ _ _ _ _ h=>h.elim⟩
  subst q;exact dv
 ·obtain⟨_,_,_,_,_,_,_,_,_,_,_,_,_,he⟩:=h;exact he
theorem Fun.bindsE{K:PySem.W.Frag}{st:Stmt}{ps:List Str}(F:Fun K x qual st f fd)
  (h:∀(kV doc pm:Value)(an:Option Addr)(cdv ct:Value)(us:List Value),us.length=ps.length->bindArgs (PySem.W.fnOf x qual (bX st) (be st) (aB st) .none kV doc pm an cdv ct) ⟨us,[]⟩=pure (ps.zip us)):∀us:List Value,us.length=ps.length->bindArgs fd ⟨us,[]⟩=pure (ps.zip us):=by
 obtain⟨oc,od,kV,doc,pm,an,cdv,ct,osl,rfl,lk,hcd⟩:=F.ex;exact h kV doc pm an cdv ct
noncomputable def sr(sl pr b:Str)(sc:Scope)(ap cp:Pos):Bool:=(ap.endLine == cp.line)&&(sc.names.lookup b == some .globalImplicit)&&kX [sl,pr] [sl,pr] sc&&
 !(b == ("__debug__" : Str))&&!(sl == ("__debug__" : Str))&&!(pr == ("__debug__" : Str))&&!(sl == ("__classdict__" : Str))&&!(pr == ("__classdict__" : Str))
theorem vy{P:Program}{w:World}{K:PySem.W.Frag}{mg:Str->Option Value}{base:Heap}{fI C D:Addr}{name qual:Str}{params:Arguments}{scope:Scope}{body:List Stmt}{kV doc pm cdv ct oc:Value}{an od:Option Addr}{osl:Array (Option Value)}{b sl pr f tx:Str}{j:Nat}{px ap p1 p2 cp p3 p4 p5 p6 p7:Pos}
  (hbd:body=[.Expr (.Call (.Attribute (.Name b px) "__init__" ap) [.Name sl p1,.Constant (.str tx) j p2] [] cp) p3,.Assign [.Attribute (.Name sl p4) f p5] (.Name pr p6) p7])
  (h:sr sl pr b scope ap cp=true) (lk:K.lookup fI=some ⟨oc,od,.func (PySem.W.fnOf name qual params body scope .none kV doc pm an cdv ct),osl⟩) (hcd:PySem.W.codeIn K cdv qual=true) (hm:mg b=some (.ref D)) (hb:BIni K D)(q:XIni K C fI f) :
  FnOk P w K mg base (CX1 P w) 1 fI (PySem.W.fnOf name qual params body scope .none kV doc pm an cdv ct) [sl,pr] (gD false K C f):=by
 subst hbd;unfold sr at h;simp only[Bool.and_eq_true,Bool.not_eq_true']at h;obtain⟨⟨⟨⟨⟨⟨⟨h7,h8⟩,h9⟩,h10⟩,h11⟩,h12⟩,h13⟩,h14⟩:=h;exact zA lk hcd (jZ h9) (beq_iff_eq.mp h8) hm h7 hb q h10 h11 h12 h13 h14
end L2
namespace L2
open PySem
noncomputable def l6(K:PySem.W.Frag)(a:Addr):Option FuncData:=match K.lookup a with
 |some ⟨_,_,.func fd,_⟩=>some fd
 |_=>none
noncomputable def fdN(l:FL)(fd:FuncData):FuncData:=PySem.W.fnOf l.name l.qual (bX l.st) (be l.st) (aB l.st) (if l.df.isEmpty=true then .none else fd.defaults) fd.kwdefaults fd.doc fd.pyModule fd.annotations fd.code fd.closureTuple
noncomputable def fnB(K:PySem.W.Frag)(B:WB)(l:FL)(i:Nat):Bool:=(match l6 K (B.fad i) with
 |some fd=>PySem.W.codeIn K fd.code l.qual
 |none=>false)&&PySem.W.keepIn K (.ref (B.fad i))&&(!l.glob||PySem.W.nsIn K mainGlobals l.gn == some (some (.ref (B.fad i))))
theorem tP{K:PySem.W.Frag}(h:l6 K a=some fd):∃oc od sl,K.lookup a=some ⟨oc,od,.func fd,sl⟩:=by
 unfold l6 at h;split at h
 ·rename_i oc od fd' sl e;cases h;exact⟨oc,od,sl,e⟩
 ·cases h
noncomputable def Cn(K:PySem.W.Frag)(C:Addr):Bool:=PySem.W.hasDictIn K C&&PySem.W.findIn K (.ref C) "__getattribute__" == some (some (.builtin "BaseException.__getattribute__"))&&PySem.W.findIn K (.ref C) "__getattr__" == some none&&PySem.W.findIn K (.ref C) "__class__" == some (some (.builtin "object.__class__"))&&PySem.W.mroIn K C (.type "object") == some true&&PySem.W.mroIn K C (.type "BaseException") == some true&&PySem.W.kitOne K (.ref C) (.type "ValueError") == some true
noncomputable def Dz(K:PySem.W.Frag):Bool:=PySem.W.specialIn K (.builtin "object.__class__") "__get__" == some (some (.builtin "getset_descriptor.__get__"))&&PySem.W.takesIn K (.builtin "object.__class__") == some true&&PySem.W.nsIn K cStatics "sys.int_max_str_digits" == some none&&biNames.all fun x=>PySem.W.nsIn K mainGlobals x == some none
noncomputable def Er(K:PySem.W.Frag)(B:WB)(n:NM):Bool:=(List.range B.ne).all (fun i=>Cn K (B.cls i)&&(List.range n.exc.length).all fun j=>PySem.W.kitOne K (.ref (B.cls i)) (.ref (B.cls j)) == some (B.sub i j)&&PySem.W.exmOne K (.ref (B.cls i)) (.ref (B.cls j)) == some (B.sub i j))&&
 n.exc.zipIdx.all fun p=>PySem.W.nsIn K mainGlobals p.1 == some (some (.ref (B.cls p.2)))&&((n.xin.lookup p.2).isSome||PySem.W.excIn K (B.cls p.2) bmV "ValueError.__new__")
noncomputable def kB(K:PySem.W.Frag)(B:WB)(fT:List (List Nat))(mT:List (List (Nat×Nat)))(iT:List Nat)(i:Nat):Bool:=
 PySem.W.plainGet K (B.kls i) Str.empty&&PySem.W.hasDictIn K (B.kls i)&&PySem.W.plainOver K (B.kls i)&&PySem.W.findIn K (.ref (B.kls i)) "__setattr__" == some (some (.builtin "object.__setattr__"))&&
 (fT.getD i []).all (fun f=>PySem.W.findIn K (.ref (B.kls i)) (fnm f) == some none)&&
 (mT.getD i []).all (fun p=>PySem.W.findIn K (.ref (B.kls i)) (fnm p.1) == some (some (.ref (B.fad p.2)))&&PySem.W.isFn K (.ref (B.fad p.2))&&PySem.W.keepIn K (.ref (B.fad p.2)))&&
 (match iT[i]? with
  |some f=>PySem.W.makesIn K (B.kls i)&&PySem.W.findIn K (.ref (B.kls i)) "__init__" == some (some (.ref (B.fad f)))&&PySem.W.isFn K (.ref (B.fad f))&&PySem.W.keepIn K (.ref (B.kls i))&&PySem.W.specialIn K (.ref (B.kls i)) "__getattribute__" == some (some (.builtin "type.__getattribute__"))&&PySem.W.readsIn K (B.kls i) (.type "type")&&
   (match PySem.W.findCls K (.ref (B.kls i)) (.type "type") "__init__" with
    |some (.val (.ref g))=>g == B.fad f
    |_=>false)
  |none=>false)&&
 PySem.W.findIn K (.ref (B.kls i)) "__class__" == some (some (.builtin "object.__class__"))&&PySem.W.mroIn K (B.kls i) (.type "object") == some true&&
 (List.range B.nk).all fun j=>PySem.W.kitOne K (.ref (B.kls i)) (.ref (B.kls j)) == some (B.ksub i j)
noncomputable def Cm(L m:Nat)(mT:List (List (Nat×Nat)))(iT:List Nat):Bool:=iT.length == m&&iT.all (fun f=>decide (f < L))&&mT.all fun l=>l.all fun p=>decide (p.2 < L)
theorem fX(h:(List.range n).all p=true)(hi:i < n):p i=true:=List.all_eq_true.mp h i (List.mem_range.mpr hi)
theorem nr{l:List α}(h:l.zipIdx.all p=true)(hx:l[i]?=some x):p (x,i)=true:=by
 refine List.all_eq_true.mp h (x,i) ?_;rw[List.mem_zipIdx_iff_getElem?];exact hx
theorem B0{K:PySem.W.Frag}{L:List FL}{B:WB}(h:L.all (fun l=>l.df.isEmpty)=true):∀(f:Nat)(l:FL),L[f]?=some l->l.df≠[]->∀fd,l6 K (B.fad f)=some fd->∃dv,Vals (l.df.map V.int) dv/\∀j,Binds K fd l.ps (dv.drop j):=fun f l hl z=>absurd (List.isEmpty_iff.mp (List.all_eq_true.mp h l (List.mem_of_getElem? hl))) z
theorem Top.of{K:PySem.W.Frag}{h:Heap}{L:List FL}{n:NM}{B:WB}{fT:List (List Nat)}{mT:List (List (Nat×Nat))}(X:K.In h)(Gn:h.Ns mainGlobals mg)
  (h1:L.all (fun l=>l.ok (eK L) n)=true)
  (h2:L.zipIdx.map (fun p=>l6 K (B.fad p.2))=L.zipIdx.map fun p=>(l6 K (B.fad p.2)).map (fdN p.1))
  (h3:L.zipIdx.all (fun p=>fnB K B p.1 p.2)=true)
  (h4:∀(f:Nat)(l:FL),L[f]?=some l->∀us:List Value,us.length=l.ps.length->∀(kV doc pm:Value)(an:Option Addr)(cdv ct:Value),bindArgs (PySem.W.fnOf l.name l.qual (bX l.st) (be l.st) (aB l.st) .none kV doc pm an cdv ct) ⟨us,[]⟩=pure (l.ps.zip us))
  (h5:Dz K=true) (h6:Er K B n=true)
  (h7:(List.range B.nk).all (kB K B fT mT iT)=true) (h8:Cm L.length B.nk mT iT=true)
  (hf:∀i f,B.fok i f=(fT.getD i []).contains f) (hm:∀i m,B.mth i m=(mT.getD i []).lookup m) (hi:∀i,B.ini i=iT[i]?)
  (h9:n.kln.zipIdx.all (fun p=>PySem.W.nsIn K mainGlobals p.1 == some (some (.ref (B.kls p.2)))&&decide (p.2 < B.nk))=true)
  (glo:∀(k:Nat)(x:Str),n.gln[k]?=some x->∃u v,mg x=some u/\RelV v u/\∀H,Den K H (B.glo k) v)
  (xi:∀i f,n.xin.lookup i=some f->B.xin i=some f/\∃fI fd ps,XIni K (B.cls i) fI (fnm f)/\Binds K fd ps []/\∀(P:Program)(w:World)(base:Heap),FnOk P w K mg base (CX1 P w) 1 fI fd ps (gD (cpF f) K (B.cls i) (fnm f)))
  (xn:∀i f,i < B.ne->B.xin i=some f->NoAttr K (B.cls i) (fnm f))
  (hd:∀(f:Nat)(l:FL),L[f]?=some l->l.df≠[]->∀fd,l6 K (B.fad f)=some fd->∃dv,Vals (l.df.map V.int) dv/\∀j,Binds K fd l.ps (dv.drop j)):Top K mg L n B:=by
 unfold Dz at h5;simp only[Bool.and_eq_true,beq_iff_eq]at h5;obtain⟨⟨⟨o1,o2⟩,o3⟩,o4⟩:=h5;unfold Er at h6;rw[Bool.and_eq_true]at h6;obtain⟨e1,e2⟩:=h6;unfold Cm at h8;simp only[Bool.and_eq_true,beq_iff_eq]at h8;obtain⟨⟨t1,t2⟩,t3⟩:=h8;have ki:∀i,i < B.nk->kB K B fT mT iT i=true:=fun i hi=>fX h7 hi
 refine⟨fun l hl=>List.all_eq_true.mp h1 l hl,fun f l hl=>?_,fun i hi=>?_,fun i x hx=>?_,fun i hi'=>?_,fun i hi'=>?_,fun i f hi' hf'=>?_,fun i m f hi' hf'=>?_,fun i x hx=>?_,glo,fun x hx=>?_,o3,xi,xn⟩
 ·have g:=nr h3 hl;unfold fnB at g;simp only[Bool.and_eq_true]at g;obtain⟨⟨g1,g2⟩,g3⟩:=g;have hz:L.zipIdx[f]?=some (l,f):=by
   rw[List.getElem?_zipIdx,hl];simp
  have e:=congrArg (fun z:List (Option FuncData)=>z[f]?) h2
  simp only[List.getElem?_map,hz,Option.map_some,Option.some.injEq]at e;cases hfd:l6 K (B.fad f) with
  |none=>rw[hfd]at g1;cases g1
  |some fd=>
   rw[hfd]at e g1;simp only[Option.map_some,Option.some.injEq]at e;obtain⟨oc,od,sl,lk⟩:=tP hfd;have hb:l.df=[]->∀us:List Value,us.length=l.ps.length->bindArgs fd ⟨us,[]⟩=pure (l.ps.zip us):=fun z us hu=>by
    rw[e];unfold fdN;rw[z];exact h4 f l hl us hu _ _ _ _ _ _
   refine⟨fd,⟨⟨oc,od,_,fd.kwdefaults,fd.doc,fd.pyModule,fd.annotations,fd.code,fd.closureTuple,sl,e,lk,g1⟩,g2⟩,fun z=>?_,hb,?_⟩
   ·rw[z]at g3;exact PySem.W.mg_of X Gn (beq_iff_eq.mp (by simpa using g3))
   ·by_cases z:l.df=[]
    ·exact⟨[],by rw[z];exact .nil,fun j=>by rw[List.drop_nil];exact .all (hb z)⟩
    ·exact hd f l hl z fd hfd
 ·have g:=fX e1 hi;rw[Bool.and_eq_true]at g;obtain⟨g1,g2⟩:=g;unfold Cn at g1;simp only[Bool.and_eq_true,beq_iff_eq]at g1;obtain⟨⟨⟨⟨⟨⟨a1,a2⟩,a3⟩,a4⟩,a5⟩,a6⟩,a7⟩:=g1;refine⟨⟨a1,a2,a3,a4,o1,o2,a5,a6⟩,a7,fun j x hx=>?_⟩
  have hj:j < n.exc.length:=(List.getElem?_eq_some_iff.mp hx).1;have g:=fX g2 hj;rw[Bool.and_eq_true,beq_iff_eq]at g;exact g.1
 ·have g:=nr e2 hx;rw[Bool.and_eq_true,beq_iff_eq]at g;refine⟨PySem.W.mg_of X Gn g.1,fun z=>?_,fun j hj=>?_⟩
  ·have g2:=g.2;rw[show n.xin.lookup (x,i).2=none from z]at g2;have g3:PySem.W.excIn K (B.cls i) bmV "ValueError.__new__"=true:=by simpa using g2
   exact g3
  ·have q:=fX e1 hj;rw[Bool.and_eq_true]at q;have hi:i < n.exc.length:=(List.getElem?_eq_some_iff.mp hx).1;have g:=fX q.2 hi;rw[Bool.and_eq_true,beq_iff_eq,beq_iff_eq]at g;exact g.2
 ·have g:=ki i hi';unfold kB at g;simp only[Bool.and_eq_true,beq_iff_eq]at g;obtain⟨⟨⟨⟨⟨⟨⟨⟨⟨a1,a2⟩,a3⟩,a4⟩,a5⟩,a6⟩,a7⟩,a8⟩,a9⟩,a10⟩:=g;have iI:∀f,B.ini i=some f->PySem.W.makesIn K (B.kls i)=true/\PySem.W.findIn K (.ref (B.kls i)) "__init__"=some (some (.ref (B.fad f)))/\PySem.W.isFn K (.ref (B.fad f))=true/\PySem.W.keepIn K (.ref (B.kls i))=true/\PySem.W.specialIn K (.ref (B.kls i)) "__getattribute__"=some (some (.builtin "type.__getattribute__"))/\PySem.W.readsIn K (B.kls i) (.type "type")=true/\PySem.W.findCls K (.ref (B.kls i)) (.type "type") "__init__"=some (.val (.ref (B.fad f))):=fun f hf=>by
   rw[hi i]at hf;rw[hf]at a7;simp only[Bool.and_eq_true,beq_iff_eq]at a7;obtain⟨⟨⟨⟨⟨⟨b1,b2⟩,b3⟩,b4⟩,b5⟩,b6⟩,b7⟩:=a7;refine⟨b1,b2,b3,b4,b5,b6,?_⟩;split at b7
   ·rename_i g hg;rw[hg,beq_iff_eq.mp b7]
   ·cases b7
  refine⟨⟨a1,a2,a3,a4⟩,fun f hf'=>?_,fun m f hm'=>?_,fun f hf'=>?_,fun f hf'=>?_,⟨a8,o1,o2,a9⟩,fun j hj=>?_⟩
  ·rw[hf i f]at hf';exact beq_iff_eq.mp (List.all_eq_true.mp a5 f (List.contains_iff_mem.mp hf'))
  ·rw[hm i m]at hm';have q:=List.all_eq_true.mp a6 (m,f) (cI hm');simp only[Bool.and_eq_true,beq_iff_eq]at q;exact⟨q.1.1,q.1.2,q.2⟩
  ·obtain⟨b1,b2,b3,b4,_⟩:=iI f hf';exact⟨b1,b2,b3,b4⟩
  ·obtain⟨_,_,_,_,b5,b6,b7⟩:=iI f hf';exact⟨b5,b6,b7⟩
  ·exact beq_iff_eq.mp (fX a10 hj)
 ·rw[hi i];have:i < iT.length:=by rw[t1];exact hi'
  exact⟨iT[i],List.getElem?_eq_getElem this⟩
 ·rw[hi i]at hf';exact of_decide_eq_true (List.all_eq_true.mp t2 f (List.mem_of_getElem? hf'))
 ·rw[hm i m]at hf';have q:=cI hf';by_cases z:i < mT.length
  ·rw[List.getD_eq_getElem?_getD,List.getElem?_eq_getElem z]at q;exact of_decide_eq_true (List.all_eq_true.mp (List.all_eq_true.mp t3 _ (List.getElem_mem z)) _ q)
  ·rw[List.getD_eq_getElem?_getD,List.getElem?_eq_none (by omega)]at q
   cases q
 ·have g:=nr h9 hx;rw[Bool.and_eq_true,beq_iff_eq]at g;exact⟨PySem.W.mg_of X Gn g.1,of_decide_eq_true g.2⟩
 ·exact PySem.W.mg_none_of X Gn (beq_iff_eq.mp (List.all_eq_true.mp o4 x hx))
theorem n1{P:List Value->Prop}(h:∀a,P [a]):∀us:List Value,us.length=1->P us:=usS fun a=>us0 (h a)
theorem n2{P:List Value->Prop}(h:∀a b,P [a,b]):∀us:List Value,us.length=2->P us:=usS fun a=>usS fun b=>us0 (h a b)
theorem n3{P:List Value->Prop}(h:∀a b c,P [a,b,c]):∀us:List Value,us.length=3->P us:=usS fun a=>usS fun b=>usS fun c=>us0 (h a b c)
theorem n4{P:List Value->Prop}(h:∀a b c d,P [a,b,c,d]):∀us:List Value,us.length=4->P us:=usS fun a=>usS fun b=>usS fun c=>usS fun d=>us0 (h a b c d)
theorem n5{P:List Value->Prop}(h:∀a b c d e,P [a,b,c,d,e]):∀us:List Value,us.length=5->P us:=usS fun a=>usS fun b=>usS fun c=>usS fun d=>usS fun e=>us0 (h a b c d e)
end L2
namespace L2
noncomputable def oi:Option Int->D
 |none=>.non
 |some i=>.int i
noncomputable abbrev pr(a b:Option Int):D:=.tup [oi a,oi b]
theorem ba{i j:Int}(h1:0 < j)(h2:j < 10 ^ 250):lA i j=True:=by
 refine eq_true ⟨h1,mS ?_⟩;omega
theorem qm{i j:Int}(h1 : -(10 ^ 240) < i)(h2:i < 10 ^ 240)(h3 : -(10 ^ 240) < j)(h4:j < 10 ^ 240):gG i j=True:=by
 refine eq_true ⟨mS ?_,mS ?_⟩<;>omega
theorem gZ{i j:Int}(h1:0<=j)(h2:j<=1000000)(h3:i.natAbs < 2 ^ 64):rg i j=True:=eq_true ⟨h1,h2,h3⟩
theorem oG{α:Type}(a:α)(l:List α):atI (a::l) 0=some a:=by simp[atI,ixN]
theorem pH{α:Type}(a b:α)(l:List α):atI (a::b::l) 1=some b:=bC (j:=1) rfl
theorem oZ{α:Type}(a b c:α)(l:List α):atI (a::b::c::l) 2=some c:=bC (j:=2) rfl
theorem rN{α:Type}(a b c d:α)(l:List α):atI (a::b::c::d::l) 3=some d:=bC (j:=3) rfl
end L2
namespace L2
open PySem
section
variable {W:WC}{σ:St3}
@[simp ↓] theorem Iz:wpE W (.var 0) (some v::σ) M Q E=Q v M:=rfl
@[simp ↓] theorem IJ:wpE W (.var 1) (y0::some v::σ) M Q E=Q v M:=rfl
@[simp ↓] theorem IW:wpE W (.var 2) (y0::y1::some v::σ) M Q E=Q v M:=rfl
@[simp ↓] theorem Iy:wpE W (.var 3) (y0::y1::y2::some v::σ) M Q E=Q v M:=rfl
@[simp ↓] theorem IP:wpE W (.var 4) (y0::y1::y2::y3::some v::σ) M Q E=Q v M:=rfl
@[simp ↓] theorem IN:wpE W (.var 5) (y0::y1::y2::y3::y4::some v::σ) M Q E=Q v M:=rfl
@[simp ↓] theorem IV:wpE W (.var 6) (y0::y1::y2::y3::y4::y5::some v::σ) M Q E=Q v M:=rfl
@[simp ↓] theorem IL:wpE W (.var 7) (y0::y1::y2::y3::y4::y5::y6::some v::σ) M Q E=Q v M:=rfl
@[simp ↓] theorem IU:wpE W (.var 8) (y0::y1::y2::y3::y4::y5::y6::y7::some v::σ) M Q E=Q v M:=rfl
@[simp ↓] theorem IQ:wpE W (.var 9) (y0::y1::y2::y3::y4::y5::y6::y7::y8::some v::σ) M Q E=Q v M:=rfl
@[simp ↓] theorem HZ:wpE W (.var 10) (y0::y1::y2::y3::y4::y5::y6::y7::y8::y9::some v::σ) M Q E=Q v M:=rfl
@[simp ↓] theorem HP:wpE W (.var 11) (y0::y1::y2::y3::y4::y5::y6::y7::y8::y9::y10::some v::σ) M Q E=Q v M:=rfl
@[simp ↓] theorem Ir:wpE W (.var 12) (y0::y1::y2::y3::y4::y5::y6::y7::y8::y9::y10::y11::some v::σ) M Q E=Q v M:=rfl
@[simp ↓] theorem Hx:wpE W (.con v) σ M Q E=Q v M:=rfl
@[simp ↓] theorem HI{op a b}:wpE W (.bin op a b) σ M Q E=wpE W a σ M (fun x M1=>wpE W b σ M1 (fun y M2=>jz op x y M2 Q) E) E:=rfl
@[simp ↓] theorem HQ{a}:wpE W (.neg a) σ M Q E=wpE W a σ M (fun x M1=>rNeg x M1 Q) E:=rfl
@[simp ↓] theorem Ic{fz a b}:wpE W (.cat fz a b) σ M Q E=wpE W a σ M (fun x M1=>wpE W b σ M1 (fun y M2=>fF fz x y M2 Q) E) E:=rfl
@[simp ↓] theorem Im{op a b}:wpE W (.cmp op a b) σ M Q E=wpE W a σ M (fun x M1=>wpE W b σ M1 (fun y M2=>aw op x y M2 Q) E) E:=rfl
@[simp ↓] theorem E5{op op' a b c}:wpE W (.chain op op' a b c) σ M Q E=wpE W a σ M (fun x M1=>wpE W b σ M1 (fun y M2=>aw op x y M2 fun r M3=>match r with
  |.bl k=>if k=true then wpE W c σ M3 (fun z M4=>aw op' y z M4 Q) E else Q (.bl false) M3
  |_=>False) E) E:=rfl
@[simp ↓] theorem Hy{a b}:wpE W (.and a b) σ M Q E=wpE W a σ M (fun x M1=>match x with
  |.bl c=>if c=true then wpE W b σ M1 Q E else Q (.bl false) M1
  |_=>False) E:=rfl
@[simp ↓] theorem Ih{a}:wpE W (.not a) σ M Q E=wpE W a σ M (fun x M1=>match x with
  |.bl c=>Q (.bl (!c)) M1
  |_=>False) E:=rfl
@[simp ↓] theorem Hn{c a b}:wpE W (.ifx c a b) σ M Q E=wpT W c σ M (fun k M1=>if k=true then wpE W a σ M1 Q E else wpE W b σ M1 Q E) E:=rfl
@[simp ↓] theorem Hg{es}:wpE W (.tup es) σ M Q E=wpA W es σ M (fun xs M1=>xs.length<=sizeLine/\Q (.tup xs) M1) E:=rfl
@[simp ↓] theorem Hs{fz es}:wpE W (.lst fz es) σ M Q E=wpA W es σ M (fun xs M1=>cK fz xs M1 Q) E:=rfl
@[simp ↓] theorem Hc{e}:wpE W (.frz e) σ M Q E=wpE W e σ M (bv Q) E:=rfl
@[simp ↓] theorem Ix{a b}:wpE W (.ix a b) σ M Q E=wpE W a σ M (fun x M1=>wpE W b σ M1 (fun y M2=>aE x y M2 Q) E) E:=rfl
@[simp ↓] theorem IB{fz a lo hi}:wpE W (.sl fz a lo hi) σ M Q E=wpE W a σ M (fun x M1=>wpO W lo σ M1 (fun l M2=>wpO W hi σ M2 (fun h M3=>dg fz x l h M3 Q) E) E) E:=rfl
@[simp ↓] theorem G8{f es}:wpE W (.call f es) σ M Q E=wpA W es σ M (fun xs M1=>W.call f xs M1 Q E) E:=rfl
@[simp ↓] theorem IF{b es}:wpE W (.bi b es) σ M Q E=wpA W es σ M (fun xs M1=>rBi b xs M1 Q) E:=rfl
@[simp ↓] theorem HN{e t}:wpE W (.isB e t) σ M Q E=wpE W e σ M (fun x M1=>kF t x M1 Q) E:=rfl
@[simp ↓] theorem HC{e c}:wpE W (.isC e c) σ M Q E=wpE W e σ M (fun x M1=>km W.ne W.cls (fun i=>W.sub i c) x M1 Q) E:=rfl
@[simp ↓] theorem Ii{ps es}:wpE W (.dlg ps es) σ M Q E=∀p,M p=none->wpA W es σ (put M p (.dk (kM ps) (uj ps))) (fun xs M1=>rDl (.ref p) xs M1 Q) E:=rfl
@[simp ↓] theorem GE{e f}:wpE W (.xfld e f) σ M Q E=wpE W e σ M (fun x M1=>rXf W.toWB f x M1 Q) E:=rfl
@[simp ↓] theorem G5{B:WB}:rXf B f (.ref a) (put M a (.exc ⟨c,some (g,y)⟩ v)) Q=((v=.ref (B.cls c)/\c < B.ne/\B.xin c=some f)/\g=f/\Q y (put M a (.exc ⟨c,some (g,y)⟩ v))):=by
 simp[rXf,ai]
@[simp ↓] theorem HU{e f}:wpE W (.fld e f) σ M Q E=wpE W e σ M (fun x M1=>cH W.toWB f x M1 Q) E:=rfl
@[simp ↓] theorem EN{i es}:wpE W (.make true i es) σ M Q E=wpA W es σ M (fun xs M1=>i < W.nk/\cW (W.ini i) fun f=>∀p,M1 p=none->W.call f (.ref p::xs) (put M1 p (.ins i (W.kls i) [] [])) (fun v M2=>v=.non/\bv Q (.ref p) M2) (fun i M'=>E i (L2.del M' p))) E:=rfl
@[simp ↓] theorem Fk{i es}:wpE W (.make false i es) σ M Q E=wpA W es σ M (fun xs M1=>i < W.nk/\cW (W.ini i) fun f=>∀p,M1 p=none->W.call f (.ref p::xs) (put M1 p (.ins i (W.kls i) [] [])) (fun v M2=>v=.non/\Q (.ref p) M2) (fun i M'=>E i (L2.del M' p))) E:=rfl
@[simp ↓] theorem Gd{e m es}:wpE W (.meth e m es) σ M Q E=wpE W e σ M (fun x M1=>dG W.toWB m x M1 fun f=>wpA W es σ M1 (fun xs M2=>W.call f (x::xs) M2 Q E) E) E:=rfl
@[simp ↓] theorem Hu{i es}:wpE W (.ini i es) σ M Q E=wpA W es σ M (fun xs M1=>i < W.nk/\cW (W.ini i) fun f=>W.call f xs M1 Q E) E:=rfl
@[simp ↓] theorem Iw{e j}:wpE W (.isK e j) σ M Q E=wpE W e σ M (fun x M1=>nu W.toWB j x M1 Q) E:=rfl
@[simp ↓] theorem Iv{k}:wpE W (.glo k) σ M Q E=Q (W.glo k) M:=rfl
@[simp ↓] theorem ID{b o es}:wpE W (.bm b o es) σ M Q E=wpE W o σ M (fun x M1=>tyB b x M1=true/\wpA W es σ M1 (fun xs M2=>rBm b x xs M2 Q) E) E:=rfl
@[simp ↓] theorem Ho{fz a b}:wpE W (.rep fz a b) σ M Q E=wpE W a σ M (fun x M1=>wpE W b σ M1 (fun y M2=>gT fz x y M2 Q) E) E:=rfl
@[simp] theorem c5:af M M=M:=by
 funext a;unfold af;split<;>simp_all
@[simp] theorem cV(h:M p=some u):af M (put M' p o)=put (af M M') p o:=by
 funext a;unfold af put;by_cases z:a=p
 ·subst z;simp[h]
 ·simp[z]
@[simp] theorem E1:af (put M p o) (put M' p u)=put (af M M') p u:=by
 funext a;unfold af put;by_cases z:a=p
 ·subst z;simp
 ·simp[z]
@[simp ↓] theorem El:cW (some f) R=R f:=rfl
@[simp ↓] theorem FP{B:WB}{f i C ns ds}:cH B f (.obj i C ns ds) M Q=((C=B.kls i/\i < B.nk/\B.fok i f=true)/\fS f ns ds M Q):=rfl
@[simp ↓] theorem Bz{f n ns d ds}:fS f (n::ns) (d::ds) M Q=if n=f then Q d M else fS f ns ds M Q:=by
 unfold fS;rw[b9];by_cases h:n=f
 ·rw[if_pos h,if_pos h]
 ·rw[if_neg h,if_neg h]
@[simp ↓] theorem Fq{B:WB}{m i C ns ds}:dG B m (.obj i C ns ds) M R=((C=B.kls i/\i < B.nk/\b9 m ns ds=none)/\cW (B.mth i m) R):=rfl
@[simp] theorem AQ:b9 f [] ds=none:=by unfold b9;rfl
@[simp] theorem xF:b9 f (n::ns) (d::ds)=if n=f then some d else b9 f ns ds:=by rw[b9]
@[simp ↓] theorem Fz{B:WB}{j i C ns ds}:nu B j (.obj i C ns ds) M Q=((C=B.kls i/\i < B.nk/\j < B.nk)/\Q (.bl (B.ksub i j)) M):=rfl
@[simp] theorem AR:cr f []=[f]:=rfl
@[simp] theorem zm:cr f (n::ns)=if n=f then n::ns else n::cr f ns:=rfl
@[simp] theorem AO:cq f y [] ds=[y]:=by unfold cq;rfl
@[simp] theorem Az:cq f y (n::ns) (d::ds)=if n=f then y::ds else d::cq f y ns ds:=by rw[cq]
@[simp ↓] theorem EC{ds}(h:M a=none):bv Q (.ref a) (put M a (.lst ds))=Q (.rol ds) M:=by
 simp only[bv,ai,d9 h]
@[simp ↓] theorem EB{i C ns ds}(h:M a=none):bv Q (.ref a) (put M a (.ins i C ns ds))=dE ds M (fun r M'=>Q (.obj i C ns r) M'):=by
 simp only[bv,ai,d9 h]
@[simp ↓] theorem CH:dE [] M R=R [] M:=rfl
@[simp ↓] theorem Bc{i ds}:dE (.int i::ds) M R=dE ds M (fun r M'=>R (.int i::r) M'):=rfl
@[simp ↓] theorem Cb{i ds}:dE (.tup i::ds) M R=dE ds M (fun r M'=>R (.tup i::r) M'):=rfl
@[simp ↓] theorem Fb{fz ds lo hi}:dg fz (.tup ds) lo hi M Q=(whole ds.length lo hi=false/\Q (.tup (ar ds lo hi)) M):=rfl
@[simp ↓] theorem E0{ds lo hi}:dg true (.rol ds) lo hi M Q=((ar ds lo hi).length<=sizeLine/\Q (.rol (ar ds lo hi)) M):=rfl
@[simp ↓] theorem cat_tup{fz a b}:fF fz (.tup a) (.tup b) M Q=(a.length+b.length<=sizeLine/\Q (.tup (a++b)) M):=rfl
@[simp ↓] theorem GH{tk}:wpE W (.dnew tk) σ M Q E=∀p,M p=none->Q (.ref p) (put M p (if tk=true then .dt [] [] else .dk [] [])):=rfl
theorem le{ks ds}(h:M a=some (.dk ks ds)):tyB .get (.ref a) M=true:=by simp[tyB,eZ,h]
theorem sC{ks ds}(h:M a=some (.dk ks ds)):rBm .get (.ref a) [.int i,z] M Q=Q ((getD ks ds (.inl i)).getD z) M:=by simp[rBm,gu,eZ,h,ng]
theorem mo{ks ds}(h:M a=some (.dk ks ds)):bu (.ref a) (.int i) y M R=(ks.length < sizeLine/\R (put M a (.dk (aq ks (.inl i)) (ax ks ds (.inl i) y)))):=by simp[bu,h,ng]
theorem gt{ds}(h:M a=some (.lst ds))(hj:ixN ds.length i=some j):bu (.ref a) (.int i) y M R=R (put M a (.lst (ds.set j y))):=by simp[bu,h,hj]
theorem fL[DecidableEq κ]:∀{ks:List κ}{ds:List D}{k x:κ}{y:D},ks.length=ds.length->getD (aq ks k) (ax ks ds k y) x=if k=x then some y else getD ks ds x
 |[],ds,k,x,y,_=>by
  simp only[aq,ax];by_cases h:k=x
  ·simp[getD,h]
  ·cases ds<;>simp[getD,h]
 |k'::ks,[],k,x,y,h=>by simp at h
 |k'::ks,d::ds,k,x,y,h=>by
  simp only[aq,ax];have hl:ks.length=ds.length:=by simpa using h
  by_cases e:k'=k
  ·subst e;by_cases h2:k'=x<;>simp[getD,h2]
  ·simp only[if_neg e,getD];by_cases h2:k'=x
   ·subst h2;rw[if_pos rfl,if_neg (Ne.symm e),if_pos rfl]
   ·rw[if_neg h2,if_neg h2];exact fL hl
theorem dY[DecidableEq κ]:∀{ks:List κ}{ds:List D}{k:κ}{y:D},ks.length=ds.length->(aq ks k).length=(ax ks ds k y).length
 |[],ds,k,y,_=>by simp[aq,ax]
 |k'::ks,[],k,y,h=>by simp at h
 |k'::ks,d::ds,k,y,h=>by
  have hl:ks.length=ds.length:=by simpa using h
  simp only[aq,ax];by_cases e:k'=k
  ·simp[e,hl]
  ·simp only[if_neg e,List.length_cons];rw[dY (k:=k) (y:=y) hl]
@[simp ↓] theorem wd{ne:Nat}{cls:Nat->Addr}{r:Nat->Bool}{a:Addr}{c:Nat}{pl:Option (Nat×D)}:km ne cls r (.ref a) (put M a (.exc ⟨c,pl⟩ (.ref (cls c)))) Q=(c < ne/\Q (.bl (r c)) (put M a (.exc ⟨c,pl⟩ (.ref (cls c))))):=by
 simp[km,ai]
@[simp ↓] theorem EO{c j body r i De}:wpH W (.cons c (some j) body r) i De σ M=(i.c < W.ne/\if W.sub i.c c=true then (∀a,M a=none->ao W body (md De j) (fun _ _ _=>False) (σ.set j (some (.ref a))) (put M a (.exc i (.ref (W.cls i.c))))) else wpH W r i De σ M):=rfl
noncomputable def gF(W:WC)(tg:ITg)(cond:ITO)(elt:IE)(S:MH->Prop)(p:Addr)(Q:VK3):List D->List D->St3->MH->Prop:=c7 (wpG tg) (fun σ M Q=>kS W cond σ M Q (fun _ _=>False)) (fun σ M Q=>wpE W elt σ M Q (fun _ _=>False)) S p Q
noncomputable def gI(W:WC)(tg:ITg)(cond:ITO)(elt:IE)(S:MH->Prop)(Q:VK3)(ds:List D)(σ:St3)(M:MH):Prop:=∀p,M p=none->gF W tg cond elt S p (eW Q) ds [] σ (put M p (.lst []))
@[simp ↓] theorem FI{N js tg it cond elt}:wpE W (.comp true N js tg it cond elt) σ M Q E=wpI W it σ M (fun ds S M1=>gI W tg cond elt S Q ds (ay js σ) M1) E:=rfl
@[simp ↓] theorem Fj{N js tg it cond elt}:wpE W (.comp false N js tg it cond elt) σ M Q E=wpI W it σ M (fun ds S M1=>∀p,M1 p=none->gF W tg cond elt S p Q ds [] (ay js σ) (put M1 p (.lst []))) E:=rfl
@[simp ↓] theorem Gz{e}:wpT W (.val e) σ M QB E=wpE W e σ M (fun x M1=>match x with
  |.bl k=>QB k M1
  |_=>False) E:=rfl
@[simp ↓] theorem FV{op a b}:wpT W (.cmp op a b) σ M QB E=wpE W a σ M (fun x M1=>wpE W b σ M1 (fun y M2=>aw op x y M2 fun r M3=>match r with
  |.bl k=>QB k M3
  |_=>False) E) E:=rfl
@[simp ↓] theorem Gx{a b}:wpT W (.and a b) σ M QB E=wpT W a σ M (fun c M1=>if c=true then wpT W b σ M1 QB E else QB false M1) E:=rfl
@[simp ↓] theorem HJ{a b}:wpT W (.or a b) σ M QB E=wpT W a σ M (fun c M1=>if c=true then QB true M1 else wpT W b σ M1 QB E) E:=rfl
@[simp ↓] theorem Gi{a}:wpT W (.not a) σ M QB E=wpT W a σ M (fun c M1=>QB (!c) M1) E:=rfl
@[simp ↓] theorem Gj:wpA W .nil σ M QL E=QL [] M:=rfl
@[simp ↓] theorem Fy{e r}:wpA W (.cons e r) σ M QL E=wpE W e σ M (fun x M1=>wpA W r σ M1 (fun xs M2=>QL (x::xs) M2) E) E:=rfl
@[simp ↓] theorem Hd:wpO W .no σ M QO E=QO none M:=rfl
@[simp ↓] theorem Gb{e}:wpO W (.yes e) σ M QO E=wpE W e σ M (fun x M1=>match x with
  |.int i=>QO (some i) M1
  |_=>False) E:=rfl
@[simp ↓] theorem G1{e}:kS W (.yes e) σ M QB E=wpT W e σ M QB E:=rfl
noncomputable def lh(R:List D->(MH->Prop)->MH->Prop):VK3:=fun x M1=>match x with
  |.tup ds=>R ds (fun _=>True) M1
  |.rol ds=>R ds (fun _=>True) M1
  |.ref a=>match M1 a with
   |some (.lst ds)=>R ds (fun M=>M a=some (.lst ds)) M1
   |_=>False
  |.str z=>R (gH z) (fun _=>True) M1
  |_=>False
@[simp ↓] theorem C5{ds}:lh R (.tup ds) M=R ds (fun _=>True) M:=rfl
@[simp ↓] theorem Dd{ds}:lh R (.rol ds) M=R ds (fun _=>True) M:=rfl
theorem qz{a ds}(h:M a=some (.lst ds)):lh R (.ref a) M=R ds (fun M=>M a=some (.lst ds)) M:=by
 unfold lh;simp only[h]
@[simp ↓] theorem Hb{e}:wpI W (.seq e) σ M R E=wpE W e σ M (lh R) E:=rfl
@[simp ↓] theorem Ey{a}:wpI W (.rng1 a) σ M R E=wpE W a σ M (fun x M1=>match x with
  |.int j=>-(2 ^ 62)<=j/\j < 2 ^ 62/\R (rng 0 j.toNat) (fun _=>True) M1
  |_=>False) E:=rfl
end
section
variable {W:WC}{σ:St3}{De:Ends3}{x:Option D}
@[simp ↓] theorem G7:ao W .nil De ES σ M=De.nx σ M:=rfl
@[simp ↓] theorem FR{s r}:ao W (.cons s r) De ES (x::σ) M=wpS W s {De with nx:=fun σ' M'=>ao W r De ES σ' M'} ES (x::σ) M:=rfl
@[simp ↓] theorem GQ{e}:wpS W (.set 1 e) De ES (y0::x::σ) M=wpE W e (y0::x::σ) M (fun v M1=>De.nx (y0::some v::σ) M1) (ES (y0::x::σ)):=rfl
@[simp ↓] theorem GB{e}:wpS W (.set 2 e) De ES (y0::y1::x::σ) M=wpE W e (y0::y1::x::σ) M (fun v M1=>De.nx (y0::y1::some v::σ) M1) (ES (y0::y1::x::σ)):=rfl
@[simp ↓] theorem GP{e}:wpS W (.set 3 e) De ES (y0::y1::y2::x::σ) M=wpE W e (y0::y1::y2::x::σ) M (fun v M1=>De.nx (y0::y1::y2::some v::σ) M1) (ES (y0::y1::y2::x::σ)):=rfl
@[simp ↓] theorem FY{e}:wpS W (.set 4 e) De ES (y0::y1::y2::y3::x::σ) M=wpE W e (y0::y1::y2::y3::x::σ) M (fun v M1=>De.nx (y0::y1::y2::y3::some v::σ) M1) (ES (y0::y1::y2::y3::x::σ)):=rfl
@[simp ↓] theorem Gy{e}:wpS W (.set 5 e) De ES (y0::y1::y2::y3::y4::x::σ) M=wpE W e (y0::y1::y2::y3::y4::x::σ) M (fun v M1=>De.nx (y0::y1::y2::y3::y4::some v::σ) M1) (ES (y0::y1::y2::y3::y4::x::σ)):=rfl
@[simp ↓] theorem GV{e}:wpS W (.set 6 e) De ES (y0::y1::y2::y3::y4::y5::x::σ) M=wpE W e (y0::y1::y2::y3::y4::y5::x::σ) M (fun v M1=>De.nx (y0::y1::y2::y3::y4::y5::some v::σ) M1) (ES (y0::y1::y2::y3::y4::y5::x::σ)):=rfl
@[simp ↓] theorem FU{e}:wpS W (.set 7 e) De ES (y0::y1::y2::y3::y4::y5::y6::x::σ) M=wpE W e (y0::y1::y2::y3::y4::y5::y6::x::σ) M (fun v M1=>De.nx (y0::y1::y2::y3::y4::y5::y6::some v::σ) M1) (ES (y0::y1::y2::y3::y4::y5::y6::x::σ)):=rfl
@[simp ↓] theorem Gp{e}:wpS W (.set 8 e) De ES (y0::y1::y2::y3::y4::y5::y6::y7::x::σ) M=wpE W e (y0::y1::y2::y3::y4::y5::y6::y7::x::σ) M (fun v M1=>De.nx (y0::y1::y2::y3::y4::y5::y6::y7::some v::σ) M1) (ES (y0::y1::y2::y3::y4::y5::y6::y7::x::σ)):=rfl
@[simp ↓] theorem GK{e}:wpS W (.set 9 e) De ES (y0::y1::y2::y3::y4::y5::y6::y7::y8::x::σ) M=wpE W e (y0::y1::y2::y3::y4::y5::y6::y7::y8::x::σ) M (fun v M1=>De.nx (y0::y1::y2::y3::y4::y5::y6::y7::y8::some v::σ) M1) (ES (y0::y1::y2::y3::y4::y5::y6::y7::y8::x::σ)):=rfl
@[simp ↓] theorem FQ{e}:wpS W (.set 10 e) De ES (y0::y1::y2::y3::y4::y5::y6::y7::y8::y9::x::σ) M=wpE W e (y0::y1::y2::y3::y4::y5::y6::y7::y8::y9::x::σ) M (fun v M1=>De.nx (y0::y1::y2::y3::y4::y5::y6::y7::y8::y9::some v::σ) M1) (ES (y0::y1::y2::y3::y4::y5::y6::y7::y8::y9::x::σ)):=rfl
@[simp ↓] theorem FK{e}:wpS W (.set 11 e) De ES (y0::y1::y2::y3::y4::y5::y6::y7::y8::y9::y10::x::σ) M=wpE W e (y0::y1::y2::y3::y4::y5::y6::y7::y8::y9::y10::x::σ) M (fun v M1=>De.nx (y0::y1::y2::y3::y4::y5::y6::y7::y8::y9::y10::some v::σ) M1) (ES (y0::y1::y2::y3::y4::y5::y6::y7::y8::y9::y10::x::σ)):=rfl
@[simp ↓] theorem Fv{e}:wpS W (.set 12 e) De ES (y0::y1::y2::y3::y4::y5::y6::y7::y8::y9::y10::y11::x::σ) M=wpE W e (y0::y1::y2::y3::y4::y5::y6::y7::y8::y9::y10::y11::x::σ) M (fun v M1=>De.nx (y0::y1::y2::y3::y4::y5::y6::y7::y8::y9::y10::y11::some v::σ) M1) (ES (y0::y1::y2::y3::y4::y5::y6::y7::y8::y9::y10::y11::x::σ)):=rfl
@[simp ↓] theorem EW{j}:(md De j).nx σ M=De.nx (σ.set j none) M:=rfl
noncomputable def eN(B:WB)(f:Nat)(y:D)(R:MH->Prop):VK3:=fun x M2=>match x with
  |.ref a=>match M2 a with
   |some (.ins i C ns ds)=>(C=B.kls i/\i < B.nk/\B.fok i f=true/\ns.length < 1000)/\R (put M2 a (.ins i C (cr f ns) (cq f y ns ds)))
   |_=>False
  |_=>False
@[simp ↓] theorem Br{B:WB}{i C ns ds}:eN B f y R (.ref a) (put M a (.ins i C ns ds))=((C=B.kls i/\i < B.nk/\B.fok i f=true/\ns.length < 1000)/\R (put M a (.ins i C (cr f ns) (cq f y ns ds)))):=by
 simp[eN,ai,dm]
noncomputable def jH(is:List Nat)(σ:St3)(k:St3->MH->Prop):VK3:=fun x M1=>match x with
  |.tup ds=>ds.length=is.length/\k ((is.zip ds).foldl (fun σ p=>σ.set p.1 (some p.2)) σ) M1
  |_=>False
@[simp ↓] theorem Fc{i j a b k}:jH [i,j] σ k (.tup [a,b]) M=k ((σ.set i (some a)).set j (some b)) M:=by
 simp[jH]
@[simp ↓] theorem GY{is e}:wpS W (.unp is e) De ES σ M=wpE W e σ M (jH is σ De.nx) (ES σ):=rfl
@[simp ↓] theorem FM{e}:wpS W (.expr e) De ES σ M=wpE W e σ M (fun _ M1=>De.nx σ M1) (ES σ):=rfl
@[simp ↓] theorem Ga{e}:wpS W (.ret e) De ES σ M=wpE W e σ M De.rt (ES σ):=rfl
@[simp ↓] theorem FG:wpS W .retN De ES σ M=De.rt .non M:=rfl
@[simp ↓] theorem FF{o f e}:wpS W (.fset o f e) De ES σ M=wpE W e σ M (fun y M1=>wpE W o σ M1 (eN W.toWB f y (De.nx σ)) (ES σ)) (ES σ):=rfl
@[simp ↓] theorem AW{o i e}:wpS W (.ixset o i e) De ES σ M=wpE W e σ M (fun y M1=>wpE W o σ M1 (fun x M2=>wpE W i σ M2 (fun k M3=>bu x k y M3 fun M4=>De.nx σ M4) (ES σ)) (ES σ)) (ES σ):=rfl
@[simp ↓] theorem F5{c a b}:wpS W (.ifs c a b) De ES σ M=wpT W c σ M (fun k M1=>if k=true then ao W a De ES σ M1 else ao W b De ES σ M1) (ES σ):=rfl
noncomputable def cz(W:WC)(tg:ITg)(body:ISs)(ES:St3->XN)(S:MH->Prop)(De:Ends3):List D->St3->MH->Prop:=i8 (wpG tg) (fun D σ M=>ao W body D ES σ M) S De
@[simp ↓] theorem GC{tg it body}:wpS W (.for_ tg it body) De ES σ M=wpI W it σ M (fun ds S M1=>cz W tg body ES S De ds σ M1) (ES σ):=rfl
theorem cw{tg body S}:cz W tg body ES S De [] σ M=(S M/\De.nx σ M):=rfl
theorem aU{tg body S d r}:cz W tg body ES S De (d::r) σ M=(S M/\wpG tg d σ M fun σ2 M2=>ao W body {De with nx:=cz W tg body ES S De r,ct:=cz W tg body ES S De r,bk:=De.nx} ES σ2 M2):=rfl
@[simp ↓] theorem CB{c es}:wpS W (.raise c es) De ES σ M=wpA W es σ M (fun xs M1=>xs.length<=sizeLine/\ES σ ⟨c,none⟩ M1) (ES σ):=rfl
@[simp ↓] theorem AS{c e}:wpS W (.raiseI c (.cons e .nil)) De ES σ M=wpE W e σ M (fun y M1=>cW (W.xin c) fun f=>rXp f y M1 fun y'=>ES σ ⟨c,some (f,y')⟩ M1) (ES σ):=rfl
@[simp ↓] theorem F8{body hs}:wpS W (.try_ body hs) De ES σ M=ao W body De (fun σ' i M'=>wpH W hs i De σ' M') σ M:=rfl
noncomputable def oS(W:WC)(e:IE)(De:Ends3)(E:XN)(σ:St3):VK3:=fun x M1=>match x with
  |.ref a=>match M1 a with
   |some (.lst _)=>wpE W e σ M1 (fun y M2=>match M2 a with
    |some (.lst ds)=>ds.length < sizeLine/\De.nx σ (put M2 a (.lst (ds++[y])))
    |_=>False) E
   |_=>False
  |_=>False
@[simp ↓] theorem GZ{o e}:wpS W (.app o e) De ES σ M=wpE W o σ M (oS W e De (ES σ) σ) (ES σ):=rfl
noncomputable def ja(p:Addr)(De:Ends3)(σ:St3):VK3:=fun y M2=>match M2 p with
    |some (.lst ds)=>ds.length < sizeLine/\De.nx σ (put M2 p (.lst (ds++[y])))
    |_=>False
@[simp ↓] theorem Fl{e E p ds}:oS W e De E σ (.ref p) (put M p (.lst ds))=wpE W e σ (put M p (.lst ds)) (ja p De σ) E:=by
 unfold oS;simp only[ai];rfl
@[simp ↓] theorem D0{p ds y}:ja p De σ y (put M p (.lst ds))=(ds.length < sizeLine/\De.nx σ (put M p (.lst (ds++[y])))):=by
 unfold ja;simp only[ai,dm]
@[simp ↓] theorem g4{i d k}:wpG (.name i) d σ M k=k (σ.set i (some d)) M:=rfl
@[simp ↓] theorem GN{is d k}:wpG (.tup is) d σ M k=jH is σ k d M:=rfl
end
section
variable {i j:Int}{x:D}
@[simp ↓] theorem Ht:jz .Add (.int i) (.int j) M Q=Q (.int (i+j)) M:=rfl
@[simp ↓] theorem Hj:jz .Sub (.int i) (.int j) M Q=Q (.int (i - j)) M:=rfl
@[simp ↓] theorem Hh:jz .Mult (.int i) (.int j) M Q=(gG i j/\Q (.int (i * j)) M):=rfl
@[simp ↓] theorem Il:jz .FloorDiv (.int i) (.int j) M Q=(lA i j/\Q (.int (i / j)) M):=rfl
@[simp ↓] theorem HE:jz .Mod (.int i) (.int j) M Q=(0 < j/\Q (.int (i % j)) M):=rfl
@[simp ↓] theorem Hv:jz .Pow (.int i) (.int j) M Q=(rg i j/\Q (.int (i ^ j.toNat)) M):=rfl
@[simp ↓] theorem Ia:rNeg (.int i) M Q=Q (.int (-i)) M:=rfl
@[simp ↓] theorem IK:aw .Lt (.int i) (.int j) M Q=Q (.bl (decide (i < j))) M:=rfl
@[simp ↓] theorem IH:aw .LtE (.int i) (.int j) M Q=Q (.bl (decide (i<=j))) M:=rfl
@[simp ↓] theorem IM:aw .Gt (.int i) (.int j) M Q=Q (.bl (decide (j < i))) M:=rfl
@[simp ↓] theorem IG:aw .GtE (.int i) (.int j) M Q=Q (.bl (decide (j<=i))) M:=rfl
@[simp ↓] theorem HY:aw .Eq (.int i) (.int j) M Q=Q (.bl (decide (i=j))) M:=by simp[aw,cG,rs,aj,plN,eqD]
@[simp ↓] theorem Hq:aw .NotEq (.int i) (.int j) M Q=Q (.bl (!decide (i=j))) M:=by simp[aw,cG,rs,aj,plN,eqD]
@[simp ↓] theorem Hr:aw .NotEq (.str s) (.str t) M Q=Q (.bl (!decide (s=t))) M:=by simp[aw,cG,rs,aj,plN,eqD]
@[simp ↓] theorem HM:aw .Eq (.str s) (.str t) M Q=Q (.bl (decide (s=t))) M:=by simp[aw,cG,rs,aj,plN,eqD]
@[simp ↓] theorem HB:aw .Is x .non M Q=Q (.bl x.isN) M:=by simp[aw,pq]
@[simp ↓] theorem Go:aw .IsNot x .non M Q=Q (.bl (!x.isN)) M:=by simp[aw,pq]
@[simp] theorem Fp:(D.int i).isN=false:=rfl
@[simp] theorem EY:D.non.isN=true:=rfl
@[simp ↓] theorem HK{d l}:aE (.tup (d::l)) (.int 0) M Q=Q d M:=by simp[aE,aD,oG]
@[simp ↓] theorem Id{d e l}:aE (.tup (d::e::l)) (.int 1) M Q=Q e M:=by simp[aE,aD,pH]
@[simp ↓] theorem Ij{d e f l}:aE (.tup (d::e::f::l)) (.int 2) M Q=Q f M:=by simp[aE,aD,oZ]
@[simp ↓] theorem Hf{d e f g l}:aE (.tup (d::e::f::g::l)) (.int 3) M Q=Q g M:=by simp[aE,aD,rN]
@[simp ↓] theorem Ig{d e f g h l}:aE (.tup (d::e::f::g::h::l)) (.int 4) M Q=Q h M:=by
 have:atI (d::e::f::g::h::l) 4=some h:=bC (j:=4) rfl;simp[aE,aD,this]
theorem ik{ds y}(h:M a=some (.lst ds)):aE (.ref a) y M Q=aE (.rol ds) y M Q:=by
 cases y<;>simp[aE,aD,aj,h]
@[simp ↓] theorem DR{ds}:rBi (.list true) [.rol ds] M Q=(ds.length<=sizeLine/\Q (.rol ds) M):=rfl
@[simp ↓] theorem HA{d l}:aE (.rol (d::l)) (.int 0) M Q=Q d M:=by simp[aE,aD,aj,oG]
@[simp ↓] theorem Hw{d e l}:aE (.rol (d::e::l)) (.int 1) M Q=Q e M:=by simp[aE,aD,aj,pH]
@[simp ↓] theorem He{d e f l}:aE (.rol (d::e::f::l)) (.int 2) M Q=Q f M:=by simp[aE,aD,aj,oZ]
@[simp ↓] theorem Ik{d e f g l}:aE (.rol (d::e::f::g::l)) (.int 3) M Q=Q g M:=by simp[aE,aD,aj,rN]
@[simp ↓] theorem EE{ds}:rBi .len [.tup ds] M Q=Q (.int ds.length) M:=rfl
@[simp ↓] theorem Fe{ds}:rBi .len [.rol ds] M Q=Q (.int ds.length) M:=rfl
@[simp ↓] theorem Ip{ds}:cK true ds M Q=(ds.length<=sizeLine/\Q (.rol ds) M):=by simp[cK]
@[simp ↓] theorem Gk{ds es}:fF true (.rol ds) (.rol es) M Q=((ds++es).length<=sizeLine/\Q (.rol (ds++es)) M):=by simp[fF,aj,cK]
@[simp ↓] theorem HR{ds}:cK false ds M Q=(ds.length<=sizeLine/\∀p,M p=none->Q (.ref p) (put M p (.lst ds))):=by simp[cK]
theorem am(h:n<=1000):(n<=sizeLine)=True:=eq_true (Nat.le_trans h (by decide))
@[simp ↓] theorem EJ{t}:kF t (.int i) M Q=Q (.bl (match t with|.int=>true|_=>false)) M:=rfl
@[simp ↓] theorem FH{t}:kF t .non M Q=Q (.bl false) M:=rfl
@[simp ↓] theorem EX{t ds}:kF t (.tup ds) M Q=Q (.bl (match t with|.tuple=>true|_=>false)) M:=rfl
end
section
variable {W:WC}{tg:ITg}{cond:ITO}{elt:IE}{p:Addr}{Q:VK3}{σ:St3}{M:MH}{ys:List D}
@[simp ↓] theorem E9{ds}:eW Q (.ref p) (put M p (.lst ds))=Q (.rol ds) (L2.del (put M p (.lst ds)) p):=by
 simp only[eW,ai]
noncomputable def Fm(M:MH):Prop:=∃n,∀p,n<=p->M p=none
theorem Fm.nil:Fm (fun _=>none):=⟨0,fun _ _=>rfl⟩
theorem pM{M:MH}(h:Fm M){p:Prop}:(∀a:Addr,M a=none->p)=p:=propext ⟨fun f=>let ⟨n,k⟩:=h;f n (k n (Nat.le_refl _)),fun f _ _=>f⟩
theorem Fm.put{M:MH}(h:Fm M)(p:Addr)(o:DO):Fm (put M p o):=by
 obtain⟨n,h⟩:=h;refine⟨max n (p+1),fun q hq=>?_⟩
 rw[ak (Nat.ne_of_gt (Nat.lt_of_succ_le (Nat.le_trans (Nat.le_max_right n (p+1)) hq)))];exact h q (Nat.le_trans (Nat.le_max_left _ _) hq)
theorem aJ{M:MH}(hM:Fm M){P:Addr->Prop}{q:Prop}(h:∀p,M p=none->P p=q):(∀p,M p=none->P p)=q:=by
 rw[<-pM hM (p:=q)];exact forall_congr fun p=>implies_congr_ctx rfl fun hp=>h p hp
theorem BG{cs:List Int}(h1 : -(cs.length:Int)<=i)(h2:i < cs.length):∃x,atI (cs.map D.int) i=some (.int x):=by
 unfold atI ixN;rw[List.length_map];by_cases h:0<=i
 ·have hk:i.toNat < cs.length:=by omega
  rw[if_pos h,if_pos h2];exact⟨cs[i.toNat],by simp[List.getElem?_eq_getElem hk]⟩
 ·have hk:(i+cs.length).toNat < cs.length:=by omega
  rw[if_neg h,if_pos h1];exact⟨cs[(i+cs.length).toNat],by simp[List.getElem?_eq_getElem hk]⟩
theorem cM(h:atI ds i=some x):aE (.rol ds) (.int i) M Q=Q x M:=by simp[aE,aD,aj,h]
theorem bw(h:put M p o q=none):q≠p/\M q=none:=by
 unfold put at h;split at h
 ·cases h
 ·exact⟨by assumption,h⟩
noncomputable def Ext(M M':MH):Prop:=Fm M'/\∀a o,M a=some o->M' a=some o
theorem Ext.put{M:MH}(hM:Fm M){p:Addr}(h:M p=none)(o:DO):Ext M (put M p o):=⟨hM.put _ _,fun a u e=>by rw[ak (fun z=>by rw[z,h]at e;cases e)];exact e⟩
section
variable {W:WC}{σ:St3}{M:MH}{Q:VK3}{tg:ITg}{cond:ITO}{elt:IE}{p:Addr}{S:MH->Prop}
theorem pI{ys:List D}(hp:M p=none)(hS:S (put M p (.lst ys))):gF W tg cond elt S p (eW Q) [] ys σ (put M p (.lst ys))=Q (.rol ys) M:=by
 show (S (put M p (.lst ys))/\eW Q (.ref p) (put M p (.lst ys)))=_;simp[eW,ai,hS,d9 hp]
theorem jd{d:D}{r ys:List D}:gF W tg cond elt S p Q (d::r) ys σ M=(S M/\ys.length < sizeLine/\wpG tg d σ M fun σ2 M2=>kS W cond σ2 M2 (fun b M3=>if b=true then wpE W elt σ2 M3 (fun y M4=>M4 p=some (.lst ys)/\gF W tg cond elt S p Q r (ys++[y]) σ2 (put M4 p (.lst (ys++[y])))) (fun _ _=>False) else gF W tg cond elt S p Q r ys σ2 M3) (fun _ _=>False)):=rfl
theorem eo(P:St3->Prop)(st:D->St3)(c:D->Bool)(f:D->D):∀(ds ys:List D)(σ:St3) {M:MH},P σ->Fm M->M p=none->ys.length+ds.length < sizeLine->(∀M',Ext M M'->S M')->
  (∀d∈ds,P (st d)/\∀σ,P σ->∀(M:MH)(k:St3->MH->Prop),wpG tg d σ M k=k (st d) M)->
  (∀d∈ds,∀M',Ext M M'->∀Q:Bool->MH->Prop,kS W cond (st d) M' Q (fun _ _=>False)=Q (c d) M')->
  (∀d∈ds,c d=true->∀M',Ext M M'->∀Q,wpE W elt (st d) M' Q (fun _ _=>False)=Q (f d) M')->
  gF W tg cond elt S p Q ds ys σ (put M p (.lst ys))=Q (.ref p) (put M p (.lst (ys++(ds.filter c).map f)))
 |[],ys,σ,M,h0,hM,hp,hl,hS,hg,hc,he=>by
  show (S (put M p (.lst ys))/\Q (.ref p) (put M p (.lst ys)))=_;simp[hS _ (.put hM hp _)]
 |d::ds,ys,σ,M,h0,hM,hp,hl,hS,hg,hc,he=>by
  have hl':ys.length+(ds.length+1) < sizeLine:=hl;obtain⟨g1,g2⟩:=hg d List.mem_cons_self;rw[jd,g2 σ h0,hc d List.mem_cons_self _ (.put hM hp _),eq_true (hS _ (.put hM hp _)),true_and];cases q:c d with
  |true=>
   rw[if_pos rfl,he d List.mem_cons_self q _ (.put hM hp _),ai,dm];rw[eo P st c f ds (ys++[f d]) (st d) g1 hM hp (by rw[List.length_append,List.length_singleton];omega) hS (fun e h=>hg e (List.mem_cons_of_mem _ h)) (fun e h=>hc e (List.mem_cons_of_mem _ h)) (fun e h=>he e (List.mem_cons_of_mem _ h))]
   simp only[List.filter_cons,q,if_true,List.map_cons,List.append_assoc,List.singleton_append,true_and];rw[eq_true (show ys.length < sizeLine by omega),true_and]
  |false=>
   rw[if_neg Bool.false_ne_true];rw[eo P st c f ds ys (st d) g1 hM hp (by omega) hS (fun e h=>hg e (List.mem_cons_of_mem _ h)) (fun e h=>hc e (List.mem_cons_of_mem _ h)) (fun e h=>he e (List.mem_cons_of_mem _ h))]
   simp only[List.filter_cons,q,Bool.false_eq_true,if_false];rw[eq_true (show ys.length < sizeLine by omega),true_and]
theorem jh(P:St3->Prop)(st:D->St3)(c:D->Bool)(f:D->D):∀(ds ys:List D)(σ:St3) {M:MH},P σ->Fm M->M p=none->ys.length+ds.length < sizeLine->(∀M',Ext M M'->S M')->
  (∀d∈ds,P (st d)/\∀σ,P σ->∀(M:MH)(k:St3->MH->Prop),wpG tg d σ M k=k (st d) M)->
  (∀d∈ds,∀M',Ext M M'->∀Q:Bool->MH->Prop,kS W cond (st d) M' Q (fun _ _=>False)=Q (c d) M')->
  (∀d∈ds,c d=true->∀M',Ext M M'->∀Q,wpE W elt (st d) M' Q (fun _ _=>False)=Q (f d) M')->
  gF W tg cond elt S p (eW Q) ds ys σ (put M p (.lst ys))=Q (.rol (ys++(ds.filter c).map f)) M
 |[],ys,σ,M,h0,hM,hp,hl,hS,hg,hc,he=>by rw[pI hp (hS _ (.put hM hp _))];simp
 |d::ds,ys,σ,M,h0,hM,hp,hl,hS,hg,hc,he=>by
  have hl':ys.length+(ds.length+1) < sizeLine:=hl;obtain⟨g1,g2⟩:=hg d List.mem_cons_self;rw[jd,g2 σ h0,hc d List.mem_cons_self _ (.put hM hp _),eq_true (hS _ (.put hM hp _)),true_and];cases q:c d with
  |true=>
   rw[if_pos rfl,he d List.mem_cons_self q _ (.put hM hp _),ai,dm];rw[jh P st c f ds (ys++[f d]) (st d) g1 hM hp (by rw[List.length_append,List.length_singleton];omega) hS (fun e h=>hg e (List.mem_cons_of_mem _ h)) (fun e h=>hc e (List.mem_cons_of_mem _ h)) (fun e h=>he e (List.mem_cons_of_mem _ h))]
   simp only[List.filter_cons,q,if_true,List.map_cons,List.append_assoc,List.singleton_append,true_and];rw[eq_true (show ys.length < sizeLine by omega),true_and]
  |false=>
   rw[if_neg Bool.false_ne_true];rw[jh P st c f ds ys (st d) g1 hM hp (by omega) hS (fun e h=>hg e (List.mem_cons_of_mem _ h)) (fun e h=>hc e (List.mem_cons_of_mem _ h)) (fun e h=>he e (List.mem_cons_of_mem _ h))]
   simp only[List.filter_cons,q,Bool.false_eq_true,if_false];rw[eq_true (show ys.length < sizeLine by omega),true_and]
theorem d8{ds:List D}(P:St3->Prop)(st:D->St3)(c:D->Bool)(f:D->D)(h0:P σ)(hM:Fm M)(hl:ds.length < 10000)
  (hg:∀d∈ds,P (st d)/\∀σ,P σ->∀(M:MH)(k:St3->MH->Prop),wpG tg d σ M k=k (st d) M)
  (hc:∀d∈ds,∀M',Ext M M'->∀Q:Bool->MH->Prop,kS W cond (st d) M' Q (fun _ _=>False)=Q (c d) M')
  (he:∀d∈ds,c d=true->∀M',Ext M M'->∀Q,wpE W elt (st d) M' Q (fun _ _=>False)=Q (f d) M') (hS:∀M',Ext M M'->S M':=by exact fun _ _=>trivial) :
  gI W tg cond elt S Q ds σ M=Q (.rol ((ds.filter c).map f)) M:=by
 have hl':([]:List D).length+ds.length < sizeLine:=by rw[List.length_nil,Nat.zero_add];exact Nat.lt_trans hl (by decide)
 exact aJ hM fun p hp=>by
  rw[jh P st c f ds [] σ h0 hM hp hl' hS hg hc he];simp
theorem dj{rest:St3}{x:Option D}{ds:List D}(c:D->Bool)(f:D->D)(hM:Fm M)(hl:ds.length < 10000)
  (hc:∀d∈ds,∀M',Ext M M'->∀Q:Bool->MH->Prop,kS W cond (some d::rest) M' Q (fun _ _=>False)=Q (c d) M')
  (he:∀d∈ds,c d=true->∀M',Ext M M'->∀Q,wpE W elt (some d::rest) M' Q (fun _ _=>False)=Q (f d) M') (hS:∀M',Ext M M'->S M':=by exact fun _ _=>trivial) :
  gI W (.name 0) cond elt S Q ds (x::rest) M=Q (.rol ((ds.filter c).map f)) M:=
 d8 (fun σ=>∃y,σ=y::rest) (fun d=>some d::rest) c f ⟨x,rfl⟩ hM hl (fun d _=>⟨⟨_,rfl⟩,fun σ ⟨y,e⟩ M k=>by subst e;rfl⟩) hc he hS
theorem fU{rest:St3}{x:Option D}{ds:List D}(f:D->D)(hM:Fm M)(hl:ds.length < 10000)
  (he:∀d∈ds,∀M',Ext M M'->∀Q,wpE W elt (some d::rest) M' Q (fun _ _=>False)=Q (f d) M') (hS:∀M',Ext M M'->S M':=by exact fun _ _=>trivial) :
  gI W (.name 0) .no elt S Q ds (x::rest) M=Q (.rol (ds.map f)) M:=by
 rw[dj (fun _=>true) f hM hl (fun _ _ _ _ _=>rfl) (fun d hd _=>he d hd) hS]
 rw[List.filter_eq_self.mpr (fun _ _=>rfl)]
end
theorem pL(g:α->D)(f:α->Bool)(xs:List α)(h:∀x∈xs,g x=.bl (f x)):dP (xs.map g)=some (xs.map f):=by
 induction xs with
 |nil=>rfl
 |cons a r ih=>
  rw[List.map_cons,h a List.mem_cons_self];simp only[dP];rw[ih fun x hx=>h x (List.mem_cons_of_mem _ hx)]
  rfl
theorem ou(f:α->Bool){xs:List α}(h:∀x∈xs,g x=.bl (f x)):rBi .all [.rol (xs.map g)] M Q=Q (.bl (xs.all f)) M:=by
 simp only[rBi,aj,pL g f xs h];simp[List.all_map,Function.comp_def]
end
end L2
namespace L2
open PySem PySem.NumText PyProof.Rows StrLaws
end L2
namespace HD
open PySem PySem.W PyProof.Rows L2
noncomputable def pw:Program:=PySem.Challenge.pw_driftmeet_k18_the_first_fault
noncomputable def top(i:Nat):Stmt:=PySem.Challenge.pw_driftmeet_k18_the_first_fault.main.body.getD i (.Pass ⟨0,0,0,0⟩)
noncomputable abbrev R(a:Nat):Value:=.ref a
noncomputable abbrev I(i:Nat):Value:=.int i 0
noncomputable abbrev e(P:Params)(s:String)(t:Nat)(v:Value):DictEntry:=⟨PyData.keyHash P s,.str s t,v⟩
noncomputable abbrev co(n:String)(a:Nat)(m:String)(b c d e g h i j:Nat)(k:Bool)(l o q r s:Nat):Data:=.fields #[.str n a,.str m b,.str "/claim/cut.py" c,I d,I e,I g,I h,I i,R j,.bool k,I l,R o,.none,.none,.none,.none,I q,I r,.str "/claim/cut.py" s]
noncomputable abbrev cp(n:String)(a:Nat)(m:String)(b c d e g h i j:Nat)(k:Bool)(l o x y z q r s:Nat):Data:=.fields #[.str n a,.str m b,.str "/claim/cut.py" c,I d,I e,I g,I h,I i,R j,.bool k,I l,R o,.none,R x,R y,R z,I q,I r,.str "/claim/cut.py" s]
noncomputable abbrev F:=Params->Obj
noncomputable abbrev fo(n q:String)(s:Stmt)(m:String)(t c:Nat):F:=fun _=>⟨.type "function",none,.func (fnOf n q (bX s) (be s) (aB s) .none .none .none (.str m t) none (.ref c) .none),#[]⟩
noncomputable abbrev fp(n q:String)(s:Stmt):F:=fun _=>⟨.none,none,.func {fnOf n q (bX s) (be s) (aB s) .none .none .none .none none .none .none with globals:=0,builtins:=0},#[]⟩
noncomputable abbrev vf(l:Array Value):F:=fun _=>⟨.none,none,.fields l,#[]⟩
noncomputable abbrev tu(l:Array Value):F:=fun _=>⟨.type "tuple",none,.seq l 0,#[]⟩
noncomputable abbrev cd(d:Data):F:=fun _=>⟨.type "code",none,d,#[]⟩
noncomputable abbrev bf(a:String)(b:Nat):F:=fun _=>⟨.type "builtin_function_or_method",none,.fields #[.builtin a,.ref b],#[]⟩
noncomputable abbrev n(o:F)(x y:Params->W.BT):Params->W.BT:=fun P=>.node (o P) (x P) (y P)
noncomputable abbrev z:Params->W.BT:=fun _=>.nil
noncomputable abbrev l(o:F):Params->W.BT:=fun P=>.node (o P) .nil .nil
noncomputable def o0:F:=tu #[]
noncomputable def o1:F:=vf #[]
noncomputable def o2:F:=cd (co "<module>" 182 "<module>" 183 184 1 0 0 0 0 11 false 181 12 185 1 186)
noncomputable def o3:F:=fun _=>⟨(.type "frame"),none,.plain,#[some (R 13),some (R 3),some (R 3),none,some (.str "__main__" 164),none,some (R 0)]⟩
noncomputable def o4:F:=fun P=>⟨(.type "dict"),none,(.dict #[e P "__name__" 165 (.str "law_driftmeet_k18_the_first_fault" 776),e P "__doc__" 166 .none,e P "__package__" 167 .none,e P "__loader__" 168 (.builtin "__main__.__loader__#opaque"),e P "__spec__" 169 .none,e P "__annotations__" 170 (R 6),e P "__builtins__" 171 (R 4),e P "__file__" 173 (.str "/claim/cut.py" 172),e P "__cached__" 174 .none,e P "_wall" 193 (R 21),e P "DriftError" 213 (R 31),e P "NoStretch" 229 (R 44),e P "NoHand" 245 (R 56),e P "NoClock" 261 (R 68),e P "NoWay" 277 (R 80),e P "NoHappening" 293 (R 92),e P "Backward" 318 (R 111),e P "NoLetter" 334 (R 123),e P "is_whole" 343 (R 132),e P "Happening" 376 (R 149),e P "Look" 417 (R 184),e P "Sight" 462 (R 217),e P "Send" 505 (R 250),e P "Take" 548 (R 283),e P "are_wholes" 554 (R 290),e P "is_letter" 561 (R 297),e P "happening" 569 (R 304),e P "count_on" 580 (R 311),e P "Ahead" 619 (R 335),e P "refuse_by_clock" 629 (R 346),e P "refuse_by_kind" 638 (R 353),e P "check" 649 (R 360),e P "MOST_HANDS" 653 (.int 6 652),e P "refuse_clock" 661 (R 367),e P "refuse_lengths" 669 (R 374),e P "World" 775 (R 447),e P "_law_cell_at" 785 (R 458),e P "_law_ways" 797 (R 465),e P "_law_row" 810 (R 472),e P "_law_log" 816 (R 477),e P "_law_kind" 824 (R 484),e P "_law_change" 839 (R 491),e P "_law_sent" 850 (R 498),e P "_law_fault" 856 (R 503),e P "_law_due" 867 (R 510),e P "_law_marks" 873 (R 515),e P "_law_caught" 885 (R 522),e P "law" 891 (R 527)] 48),#[]⟩
noncomputable def o5:F:=vf #[(I 1),(I 0),(R 20),(I 5),(I 0),(R 27),(I 7),(I 0),(R 40),(I 9),(I 0),(R 52),(I 11),(I 0),(R 64),(I 13),(I 0),(R 76),(I 15),(I 0),(R 88),(I 17),(I 0),(R 100),(I 22),(I 0),(R 119),(I 25),(I 0),(R 131),(I 28),(I 0),(R 138),(I 33),(I 0),(R 159),(I 43),(I 0),(R 192),(I 55),(I 0),(R 225),(I 66),(I 0),(R 258),(I 77),(I 0),(R 289),(I 79),(I 0),(R 296),(I 81),(I 0),(R 303),(I 95),(I 0),(R 310),(I 99),(I 0),(R 317),(I 113),(I 0),(R 345),(I 119),(I 0),(R 352),(I 126),(I 0),(R 359),(I 135),(I 0),(R 366),(I 140),(I 0),(R 373),(I 145),(I 0),(R 380),(I 192),(I 0),(R 457),(I 196),(I 0),(R 464),(I 205),(I 0),(R 471),(I 215),(I 0),(R 476),(I 234),(I 0),(R 483),(I 237),(I 0),(R 490),(I 260),(I 0),(R 497),(I 268),(I 0),(R 502),(I 287),(I 0),(R 509),(I 293),(I 0),(R 514),(I 295),(I 0),(R 521),(I 310),(I 0),(R 526)]
noncomputable def o6:F:=tu #[(.str "k" 190)]
noncomputable def o7:F:=fp "_wall" "_wall" (top 0)
noncomputable def o8:F:=cd (cp "_wall" 187 "_wall" 188 189 1 1 0 0 3 15 true 181 16 17 18 19 191 1 192)
noncomputable def o9:F:=fo "_wall" "_wall" (top 0) "__main__" 164 20
noncomputable def o10:F:=tu #[(.type "ValueError")]
noncomputable def o11:F:=fun _=>⟨(.type "builtin_function_or_method"),none,(.fields #[(.builtin "type.__prepare__"),(.type "type")]),#[]⟩
noncomputable def o12:F:=fun P=>⟨(.type "dict"),none,(.dict #[e P "__module__" 203 (.str "driftmeet.errors" 194),e P "__qualname__" 205 (.str "DriftError" 204),e P "__firstlineno__" 207 (.int 5 206),e P "__static_attributes__" 208 (R 29)] 4),#[]⟩
noncomputable def o13:F:=cd (co "DriftError" 198 "DriftError" 199 200 5 0 0 0 0 25 false 181 26 201 5 202)
noncomputable def o14:F:=fun _=>⟨(.type "frame"),none,.plain,#[some (R 27),some (R 3),some (R 24),none,some (.str "driftmeet.errors" 194),none,some (R 0)]⟩
noncomputable def o15:F:=fun P=>⟨(.type "dict"),none,(.dict #[e P "__module__" 203 (.str "driftmeet.errors" 194),e P "__firstlineno__" 207 (.int 5 206),e P "__static_attributes__" 208 (R 29),e P "__weakref__" 210 (R 32),e P "__doc__" 211 .none] 3),#[]⟩
noncomputable def o16:F:=fun _=>⟨(.type "type"),none,(.cls ⟨"DriftError",[(.type "ValueError")],[(R 31),(.type "ValueError"),(.type "Exception"),(.type "BaseException"),(.type "object")],30,"DriftError",true,[],[(R 44),(R 56),(R 68),(R 80),(R 92),(R 111),(R 123)],false,none,false⟩),#[some (R 22),none,some (.str "DriftError" 196),some (.str "DriftError" 204),some (.builtin "ValueError.__new__"),some (.bool true)]⟩
noncomputable def o17:F:=fun _=>⟨(.type "getset_descriptor"),none,(.fields #[(.str "__weakref__" 209),(R 31),(.builtin "ExceptionGroup.__weakref__"),.none]),#[]⟩
noncomputable def o18:F:=fun _=>⟨(.type "super"),none,(.fields #[(R 31),(R 31),(R 31)]),#[]⟩
noncomputable def o19:F:=bf "object.__init_subclass__" 31
noncomputable def o20:F:=tu #[(R 31)]
noncomputable def o21:F:=fun P=>⟨(.type "dict"),none,(.dict #[e P "__module__" 221 (.str "driftmeet.errors" 194),e P "__qualname__" 223 (.str "NoStretch" 222),e P "__firstlineno__" 225 (.int 7 224),e P "__static_attributes__" 226 (R 42)] 4),#[]⟩
noncomputable def o22:F:=cd (co "NoStretch" 216 "NoStretch" 217 218 7 0 0 0 0 38 false 181 39 219 7 220)
noncomputable def o23:F:=fun _=>⟨(.type "frame"),none,.plain,#[some (R 40),some (R 3),some (R 37),none,some (.str "driftmeet.errors" 194),none,some (R 0)]⟩
noncomputable def o24:F:=fun P=>⟨(.type "dict"),none,(.dict #[e P "__module__" 221 (.str "driftmeet.errors" 194),e P "__firstlineno__" 225 (.int 7 224),e P "__static_attributes__" 226 (R 42),e P "__doc__" 227 .none] 2),#[]⟩
noncomputable def o25:F:=fun _=>⟨(.type "type"),none,(.cls ⟨"NoStretch",[(R 31)],[(R 44),(R 31),(.type "ValueError"),(.type "Exception"),(.type "BaseException"),(.type "object")],43,"NoStretch",true,[],[],false,none,false⟩),#[some (R 35),none,some (.str "NoStretch" 214),some (.str "NoStretch" 222),some (.builtin "ValueError.__new__"),some (.bool true)]⟩
noncomputable def o26:F:=fun _=>⟨(.type "super"),none,(.fields #[(R 44),(R 44),(R 44)]),#[]⟩
noncomputable def o27:F:=bf "object.__init_subclass__" 44
noncomputable def o28:F:=fun P=>⟨(.type "dict"),none,(.dict #[e P "__module__" 237 (.str "driftmeet.errors" 194),e P "__qualname__" 239 (.str "NoHand" 238),e P "__firstlineno__" 241 (.int 9 240),e P "__static_attributes__" 242 (R 54)] 4),#[]⟩
noncomputable def o29:F:=cd (co "NoHand" 232 "NoHand" 233 234 9 0 0 0 0 50 false 181 51 235 9 236)
noncomputable def o30:F:=fun _=>⟨(.type "frame"),none,.plain,#[some (R 52),some (R 3),some (R 49),none,some (.str "driftmeet.errors" 194),none,some (R 0)]⟩
noncomputable def o31:F:=fun P=>⟨(.type "dict"),none,(.dict #[e P "__module__" 237 (.str "driftmeet.errors" 194),e P "__firstlineno__" 241 (.int 9 240),e P "__static_attributes__" 242 (R 54),e P "__doc__" 243 .none] 2),#[]⟩
noncomputable def o32:F:=fun _=>⟨(.type "type"),none,(.cls ⟨"NoHand",[(R 31)],[(R 56),(R 31),(.type "ValueError"),(.type "Exception"),(.type "BaseException"),(.type "object")],55,"NoHand",true,[],[],false,none,false⟩),#[some (R 47),none,some (.str "NoHand" 230),some (.str "NoHand" 238),some (.builtin "ValueError.__new__"),some (.bool true)]⟩
noncomputable def o33:F:=fun _=>⟨(.type "super"),none,(.fields #[(R 56),(R 56),(R 56)]),#[]⟩
noncomputable def o34:F:=bf "object.__init_subclass__" 56
noncomputable def o35:F:=fun P=>⟨(.type "dict"),none,(.dict #[e P "__module__" 253 (.str "driftmeet.errors" 194),e P "__qualname__" 255 (.str "NoClock" 254),e P "__firstlineno__" 257 (.int 11 256),e P "__static_attributes__" 258 (R 66)] 4),#[]⟩
noncomputable def o36:F:=cd (co "NoClock" 248 "NoClock" 249 250 11 0 0 0 0 62 false 181 63 251 11 252)
noncomputable def o37:F:=fun _=>⟨(.type "frame"),none,.plain,#[some (R 64),some (R 3),some (R 61),none,some (.str "driftmeet.errors" 194),none,some (R 0)]⟩
noncomputable def o38:F:=fun P=>⟨(.type "dict"),none,(.dict #[e P "__module__" 253 (.str "driftmeet.errors" 194),e P "__firstlineno__" 257 (.int 11 256),e P "__static_attributes__" 258 (R 66),e P "__doc__" 259 .none] 2),#[]⟩
noncomputable def o39:F:=fun _=>⟨(.type "type"),none,(.cls ⟨"NoClock",[(R 31)],[(R 68),(R 31),(.type "ValueError"),(.type "Exception"),(.type "BaseException"),(.type "object")],67,"NoClock",true,[],[],false,none,false⟩),#[some (R 59),none,some (.str "NoClock" 246),some (.str "NoClock" 254),some (.builtin "ValueError.__new__"),some (.bool true)]⟩
noncomputable def o40:F:=fun _=>⟨(.type "super"),none,(.fields #[(R 68),(R 68),(R 68)]),#[]⟩
noncomputable def o41:F:=bf "object.__init_subclass__" 68
noncomputable def o42:F:=fun P=>⟨(.type "dict"),none,(.dict #[e P "__module__" 269 (.str "driftmeet.errors" 194),e P "__qualname__" 271 (.str "NoWay" 270),e P "__firstlineno__" 273 (.int 13 272),e P "__static_attributes__" 274 (R 78)] 4),#[]⟩
noncomputable def o43:F:=cd (co "NoWay" 264 "NoWay" 265 266 13 0 0 0 0 74 false 181 75 267 13 268)
noncomputable def o44:F:=fun _=>⟨(.type "frame"),none,.plain,#[some (R 76),some (R 3),some (R 73),none,some (.str "driftmeet.errors" 194),none,some (R 0)]⟩
noncomputable def o45:F:=fun P=>⟨(.type "dict"),none,(.dict #[e P "__module__" 269 (.str "driftmeet.errors" 194),e P "__firstlineno__" 273 (.int 13 272),e P "__static_attributes__" 274 (R 78),e P "__doc__" 275 .none] 2),#[]⟩
noncomputable def o46:F:=fun _=>⟨(.type "type"),none,(.cls ⟨"NoWay",[(R 31)],[(R 80),(R 31),(.type "ValueError"),(.type "Exception"),(.type "BaseException"),(.type "object")],79,"NoWay",true,[],[],false,none,false⟩),#[some (R 71),none,some (.str "NoWay" 262),some (.str "NoWay" 270),some (.builtin "ValueError.__new__"),some (.bool true)]⟩
noncomputable def o47:F:=fun _=>⟨(.type "super"),none,(.fields #[(R 80),(R 80),(R 80)]),#[]⟩
noncomputable def o48:F:=bf "object.__init_subclass__" 80
noncomputable def o49:F:=fun P=>⟨(.type "dict"),none,(.dict #[e P "__module__" 285 (.str "driftmeet.errors" 194),e P "__qualname__" 287 (.str "NoHappening" 286),e P "__firstlineno__" 289 (.int 15 288),e P "__static_attributes__" 290 (R 90)] 4),#[]⟩
noncomputable def o50:F:=cd (co "NoHappening" 280 "NoHappening" 281 282 15 0 0 0 0 86 false 181 87 283 15 284)
noncomputable def o51:F:=fun _=>⟨(.type "frame"),none,.plain,#[some (R 88),some (R 3),some (R 85),none,some (.str "driftmeet.errors" 194),none,some (R 0)]⟩
noncomputable def o52:F:=fun P=>⟨(.type "dict"),none,(.dict #[e P "__module__" 285 (.str "driftmeet.errors" 194),e P "__firstlineno__" 289 (.int 15 288),e P "__static_attributes__" 290 (R 90),e P "__doc__" 291 .none] 2),#[]⟩
noncomputable def o53:F:=fun _=>⟨(.type "type"),none,(.cls ⟨"NoHappening",[(R 31)],[(R 92),(R 31),(.type "ValueError"),(.type "Exception"),(.type "BaseException"),(.type "object")],91,"NoHappening",true,[],[],false,none,false⟩),#[some (R 83),none,some (.str "NoHappening" 278),some (.str "NoHappening" 286),some (.builtin "ValueError.__new__"),some (.bool true)]⟩
noncomputable def o54:F:=fun _=>⟨(.type "super"),none,(.fields #[(R 92),(R 92),(R 92)]),#[]⟩
noncomputable def o55:F:=bf "object.__init_subclass__" 92
noncomputable def o56:F:=fun P=>⟨(.type "dict"),none,(.dict #[e P "__module__" 301 (.str "driftmeet.errors" 194),e P "__qualname__" 303 (.str "Backward" 302),e P "__firstlineno__" 305 (.int 17 304),e P "__init__" 313 (R 108),e P "__static_attributes__" 315 (R 109)] 5),#[]⟩
noncomputable def o57:F:=vf #[(I 19),(I 4),(R 107)]
noncomputable def o58:F:=cd (co "Backward" 296 "Backward" 297 298 17 0 0 0 0 98 false 181 99 299 17 300)
noncomputable def o59:F:=fun _=>⟨(.type "frame"),none,.plain,#[some (R 100),some (R 3),some (R 97),none,some (.str "driftmeet.errors" 194),none,some (R 0)]⟩
noncomputable def o60:F:=tu #[(.str "self" 309),(.str "last" 310)]
noncomputable def o61:F:=fp "__init__" "Backward.__init__" (ag (top 8) 0)
noncomputable def o62:F:=cd (cp "__init__" 306 "Backward.__init__" 307 308 19 2 0 0 3 102 true 181 103 104 105 106 311 19 312)
noncomputable def o63:F:=fo "__init__" "Backward.__init__" (ag (top 8) 0) "driftmeet.errors" 194 107
noncomputable def o64:F:=tu #[(.str "last" 314)]
noncomputable def o65:F:=fun P=>⟨(.type "dict"),none,(.dict #[e P "__module__" 301 (.str "driftmeet.errors" 194),e P "__firstlineno__" 305 (.int 17 304),e P "__init__" 313 (R 108),e P "__static_attributes__" 315 (R 109),e P "__doc__" 316 .none] 2),#[]⟩
noncomputable def o66:F:=fun _=>⟨(.type "type"),none,(.cls ⟨"Backward",[(R 31)],[(R 111),(R 31),(.type "ValueError"),(.type "Exception"),(.type "BaseException"),(.type "object")],110,"Backward",true,[],[],false,none,false⟩),#[some (R 95),none,some (.str "Backward" 294),some (.str "Backward" 302),some (.builtin "ValueError.__new__"),some (.bool true)]⟩
noncomputable def o67:F:=fun _=>⟨(.type "super"),none,(.fields #[(R 111),(R 111),(R 111)]),#[]⟩
noncomputable def o68:F:=bf "object.__init_subclass__" 111
noncomputable def o69:F:=fun P=>⟨(.type "dict"),none,(.dict #[e P "__module__" 326 (.str "driftmeet.errors" 194),e P "__qualname__" 328 (.str "NoLetter" 327),e P "__firstlineno__" 330 (.int 22 329),e P "__static_attributes__" 331 (R 121)] 4),#[]⟩
noncomputable def o70:F:=cd (co "NoLetter" 321 "NoLetter" 322 323 22 0 0 0 0 117 false 181 118 324 22 325)
noncomputable def o71:F:=fun _=>⟨(.type "frame"),none,.plain,#[some (R 119),some (R 3),some (R 116),none,some (.str "driftmeet.errors" 194),none,some (R 0)]⟩
noncomputable def o72:F:=fun P=>⟨(.type "dict"),none,(.dict #[e P "__module__" 326 (.str "driftmeet.errors" 194),e P "__firstlineno__" 330 (.int 22 329),e P "__static_attributes__" 331 (R 121),e P "__doc__" 332 .none] 2),#[]⟩
noncomputable def o73:F:=fun _=>⟨(.type "type"),none,(.cls ⟨"NoLetter",[(R 31)],[(R 123),(R 31),(.type "ValueError"),(.type "Exception"),(.type "BaseException"),(.type "object")],122,"NoLetter",true,[],[],false,none,false⟩),#[some (R 114),none,some (.str "NoLetter" 319),some (.str "NoLetter" 327),some (.builtin "ValueError.__new__"),some (.bool true)]⟩
noncomputable def o74:F:=fun _=>⟨(.type "super"),none,(.fields #[(R 123),(R 123),(R 123)]),#[]⟩
noncomputable def o75:F:=bf "object.__init_subclass__" 123
noncomputable def o76:F:=tu #[(.str "thing" 340)]
noncomputable def o77:F:=fp "is_whole" "is_whole" (top 11)
noncomputable def o78:F:=cd (cp "is_whole" 337 "is_whole" 338 339 25 1 0 0 3 126 true 181 127 128 129 130 341 25 342)
noncomputable def o79:F:=fo "is_whole" "is_whole" (top 11) "driftmeet.wholes" 335 131
noncomputable def o80:F:=fun P=>⟨(.type "dict"),none,(.dict #[e P "__module__" 353 (.str "driftmeet.happenings" 344),e P "__qualname__" 355 (.str "Happening" 354),e P "__firstlineno__" 357 (.int 28 356),e P "__init__" 366 (R 146),e P "__static_attributes__" 369 (R 147)] 5),#[]⟩
noncomputable def o81:F:=vf #[(I 30),(I 4),(R 145)]
noncomputable def o82:F:=cd (co "Happening" 348 "Happening" 349 350 28 0 0 0 0 136 false 181 137 351 28 352)
noncomputable def o83:F:=fun _=>⟨(.type "frame"),none,.plain,#[some (R 138),some (R 3),some (R 135),none,some (.str "driftmeet.happenings" 344),none,some (R 0)]⟩
noncomputable def o84:F:=tu #[(.str "self" 361),(.str "hand" 362),(.str "reading" 363)]
noncomputable def o85:F:=fp "__init__" "Happening.__init__" (ag (top 13) 0)
noncomputable def o86:F:=cd (cp "__init__" 358 "Happening.__init__" 359 360 30 3 0 0 3 140 true 181 141 142 143 144 364 30 365)
noncomputable def o87:F:=fo "__init__" "Happening.__init__" (ag (top 13) 0) "driftmeet.happenings" 344 145
noncomputable def o88:F:=tu #[(.str "hand" 367),(.str "reading" 368)]
noncomputable def o89:F:=fun P=>⟨(.type "dict"),none,(.dict #[e P "__module__" 353 (.str "driftmeet.happenings" 344),e P "__firstlineno__" 357 (.int 28 356),e P "__init__" 366 (R 146),e P "__static_attributes__" 369 (R 147),e P "__dict__" 371 (R 150),e P "__weakref__" 373 (R 151),e P "__doc__" 374 .none] 4),#[]⟩
noncomputable def o90:F:=fun _=>⟨(.type "type"),none,(.cls ⟨"Happening",[(.type "object")],[(R 149),(.type "object")],148,"Happening",true,[],[(R 184),(R 217),(R 250),(R 283)],false,none,false⟩),#[none,none,some (.str "Happening" 346),some (.str "Happening" 354),some (.builtin "object.__new__"),some (.bool true)]⟩
noncomputable def o91:F:=fun _=>⟨(.type "getset_descriptor"),none,(.fields #[(.str "__dict__" 370),(R 149),(.builtin "function.__dict__"),(.builtin "function.__dict__#set")]),#[]⟩
noncomputable def o92:F:=fun _=>⟨(.type "getset_descriptor"),none,(.fields #[(.str "__weakref__" 372),(R 149),(.builtin "ExceptionGroup.__weakref__"),.none]),#[]⟩
noncomputable def o93:F:=fun _=>⟨(.type "super"),none,(.fields #[(R 149),(R 149),(R 149)]),#[]⟩
noncomputable def o94:F:=bf "object.__init_subclass__" 149
noncomputable def o95:F:=tu #[(R 149)]
noncomputable def o96:F:=fun P=>⟨(.type "dict"),none,(.dict #[e P "__module__" 384 (.str "driftmeet.happenings" 344),e P "__qualname__" 386 (.str "Look" 385),e P "__firstlineno__" 388 (.int 33 387),e P "__init__" 397 (R 167),e P "row" 404 (R 174),e P "own_bounds" 413 (R 181),e P "__static_attributes__" 414 (R 182)] 7),#[]⟩
noncomputable def o97:F:=vf #[(I 35),(I 4),(R 166),(I 38),(I 4),(R 173),(I 41),(I 4),(R 180)]
noncomputable def o98:F:=cd (co "Look" 379 "Look" 380 381 33 0 0 0 0 157 false 181 158 382 33 383)
noncomputable def o99:F:=fun _=>⟨(.type "frame"),none,.plain,#[some (R 159),some (R 3),some (R 156),none,some (.str "driftmeet.happenings" 344),none,some (R 0)]⟩
noncomputable def wp:F:=tu #[(.str "self" 392),(.str "hand" 393),(.str "reading" 394)]
noncomputable def Bx:F:=fp "__init__" "Look.__init__" (ag (top 14) 0)
noncomputable def vO:F:=cd (cp "__init__" 389 "Look.__init__" 390 391 35 3 0 0 3 161 true 181 162 163 164 165 395 35 396)
noncomputable def yN:F:=fo "__init__" "Look.__init__" (ag (top 14) 0) "driftmeet.happenings" 344 166
noncomputable def wT:F:=tu #[(.str "self" 401)]
noncomputable def DY:F:=fp "row" "Look.row" (ag (top 14) 1)
noncomputable def zS:F:=cd (cp "row" 398 "Look.row" 399 400 38 1 0 0 3 168 true 181 169 170 171 172 402 38 403)
noncomputable def xA:F:=fo "row" "Look.row" (ag (top 14) 1) "driftmeet.happenings" 344 173
noncomputable def ww:F:=tu #[(.str "self" 408),(.str "world" 409),(.str "name" 410)]
noncomputable def CP:F:=fp "own_bounds" "Look.own_bounds" (ag (top 14) 2)
noncomputable def vF:F:=cd (cp "own_bounds" 405 "Look.own_bounds" 406 407 41 3 0 0 3 175 true 181 176 177 178 179 411 41 412)
noncomputable def vo:F:=fo "own_bounds" "Look.own_bounds" (ag (top 14) 2) "driftmeet.happenings" 344 180
noncomputable def yp:F:=fun P=>⟨(.type "dict"),none,(.dict #[e P "__module__" 384 (.str "driftmeet.happenings" 344),e P "__firstlineno__" 388 (.int 33 387),e P "__init__" 397 (R 167),e P "row" 404 (R 174),e P "own_bounds" 413 (R 181),e P "__static_attributes__" 414 (R 182),e P "__doc__" 415 .none] 2),#[]⟩
noncomputable def yV:F:=fun _=>⟨(.type "type"),none,(.cls ⟨"Look",[(R 149)],[(R 184),(R 149),(.type "object")],183,"Look",true,[],[],false,none,false⟩),#[some (R 154),none,some (.str "Look" 377),some (.str "Look" 385),some (.builtin "object.__new__"),some (.bool true)]⟩
noncomputable def DN:F:=fun _=>⟨(.type "super"),none,(.fields #[(R 184),(R 184),(R 184)]),#[]⟩
noncomputable def B6:F:=bf "object.__init_subclass__" 184
noncomputable def DD:F:=fun P=>⟨(.type "dict"),none,(.dict #[e P "__module__" 425 (.str "driftmeet.happenings" 344),e P "__qualname__" 427 (.str "Sight" 426),e P "__firstlineno__" 429 (.int 43 428),e P "__init__" 440 (R 200),e P "row" 447 (R 207),e P "own_bounds" 456 (R 214),e P "__static_attributes__" 459 (R 215)] 7),#[]⟩
noncomputable def A0:F:=vf #[(I 45),(I 4),(R 199),(I 50),(I 4),(R 206),(I 53),(I 4),(R 213)]
noncomputable def BR:F:=cd (co "Sight" 420 "Sight" 421 422 43 0 0 0 0 190 false 181 191 423 43 424)
noncomputable def BN:F:=fun _=>⟨(.type "frame"),none,.plain,#[some (R 192),some (R 3),some (R 189),none,some (.str "driftmeet.happenings" 344),none,some (R 0)]⟩
noncomputable def vZ:F:=tu #[(.str "self" 433),(.str "hand" 434),(.str "reading" 435),(.str "early" 436),(.str "late" 437)]
noncomputable def Ef:F:=fp "__init__" "Sight.__init__" (ag (top 15) 0)
noncomputable def Ae:F:=cd (cp "__init__" 430 "Sight.__init__" 431 432 45 5 0 0 3 194 true 181 195 196 197 198 438 45 439)
noncomputable def zE:F:=fo "__init__" "Sight.__init__" (ag (top 15) 0) "driftmeet.happenings" 344 199
noncomputable def xN:F:=tu #[(.str "self" 444)]
noncomputable def DM:F:=fp "row" "Sight.row" (ag (top 15) 1)
noncomputable def vj:F:=cd (cp "row" 441 "Sight.row" 442 443 50 1 0 0 3 201 true 181 202 203 204 205 445 50 446)
noncomputable def xT:F:=fo "row" "Sight.row" (ag (top 15) 1) "driftmeet.happenings" 344 206
noncomputable def xL:F:=tu #[(.str "self" 451),(.str "world" 452),(.str "name" 453)]
noncomputable def Eg:F:=fp "own_bounds" "Sight.own_bounds" (ag (top 15) 2)
noncomputable def xZ:F:=cd (cp "own_bounds" 448 "Sight.own_bounds" 449 450 53 3 0 0 3 208 true 181 209 210 211 212 454 53 455)
noncomputable def yu:F:=fo "own_bounds" "Sight.own_bounds" (ag (top 15) 2) "driftmeet.happenings" 344 213
noncomputable def yc:F:=tu #[(.str "early" 457),(.str "late" 458)]
noncomputable def zM:F:=fun P=>⟨(.type "dict"),none,(.dict #[e P "__module__" 425 (.str "driftmeet.happenings" 344),e P "__firstlineno__" 429 (.int 43 428),e P "__init__" 440 (R 200),e P "row" 447 (R 207),e P "own_bounds" 456 (R 214),e P "__static_attributes__" 459 (R 215),e P "__doc__" 460 .none] 2),#[]⟩
noncomputable def AE:F:=fun _=>⟨(.type "type"),none,(.cls ⟨"Sight",[(R 149)],[(R 217),(R 149),(.type "object")],216,"Sight",true,[],[],false,none,false⟩),#[some (R 187),none,some (.str "Sight" 418),some (.str "Sight" 426),some (.builtin "object.__new__"),some (.bool true)]⟩
noncomputable def Cl:F:=fun _=>⟨(.type "super"),none,(.fields #[(R 217),(R 217),(R 217)]),#[]⟩
noncomputable def CS:F:=bf "object.__init_subclass__" 217
noncomputable def B2:F:=fun P=>⟨(.type "dict"),none,(.dict #[e P "__module__" 470 (.str "driftmeet.happenings" 344),e P "__qualname__" 472 (.str "Send" 471),e P "__firstlineno__" 474 (.int 55 473),e P "__init__" 484 (R 233),e P "row" 491 (R 240),e P "own_bounds" 500 (R 247),e P "__static_attributes__" 502 (R 248)] 7),#[]⟩
noncomputable def BJ:F:=vf #[(I 57),(I 4),(R 232),(I 61),(I 4),(R 239),(I 64),(I 4),(R 246)]
noncomputable def BS:F:=cd (co "Send" 465 "Send" 466 467 55 0 0 0 0 223 false 181 224 468 55 469)
noncomputable def DS:F:=fun _=>⟨(.type "frame"),none,.plain,#[some (R 225),some (R 3),some (R 222),none,some (.str "driftmeet.happenings" 344),none,some (R 0)]⟩
noncomputable def wt:F:=tu #[(.str "self" 478),(.str "hand" 479),(.str "reading" 480),(.str "to" 481)]
noncomputable def Cy:F:=fp "__init__" "Send.__init__" (ag (top 16) 0)
noncomputable def Av:F:=cd (cp "__init__" 475 "Send.__init__" 476 477 57 4 0 0 3 227 true 181 228 229 230 231 482 57 483)
noncomputable def xr:F:=fo "__init__" "Send.__init__" (ag (top 16) 0) "driftmeet.happenings" 344 232
noncomputable def xX:F:=tu #[(.str "self" 488)]
noncomputable def Eh:F:=fp "row" "Send.row" (ag (top 16) 1)
noncomputable def zU:F:=cd (cp "row" 485 "Send.row" 486 487 61 1 0 0 3 234 true 181 235 236 237 238 489 61 490)
noncomputable def wr:F:=fo "row" "Send.row" (ag (top 16) 1) "driftmeet.happenings" 344 239
noncomputable def wS:F:=tu #[(.str "self" 495),(.str "world" 496),(.str "name" 497)]
noncomputable def Ei:F:=fp "own_bounds" "Send.own_bounds" (ag (top 16) 2)
noncomputable def wg:F:=cd (cp "own_bounds" 492 "Send.own_bounds" 493 494 64 3 0 0 3 241 true 181 242 243 244 245 498 64 499)
noncomputable def vk:F:=fo "own_bounds" "Send.own_bounds" (ag (top 16) 2) "driftmeet.happenings" 344 246
noncomputable def yQ:F:=tu #[(.str "to" 501)]
noncomputable def wK:F:=fun P=>⟨(.type "dict"),none,(.dict #[e P "__module__" 470 (.str "driftmeet.happenings" 344),e P "__firstlineno__" 474 (.int 55 473),e P "__init__" 484 (R 233),e P "row" 491 (R 240),e P "own_bounds" 500 (R 247),e P "__static_attributes__" 502 (R 248),e P "__doc__" 503 .none] 2),#[]⟩
noncomputable def xB:F:=fun _=>⟨(.type "type"),none,(.cls ⟨"Send",[(R 149)],[(R 250),(R 149),(.type "object")],249,"Send",true,[],[],false,none,false⟩),#[some (R 220),none,some (.str "Send" 463),some (.str "Send" 471),some (.builtin "object.__new__"),some (.bool true)]⟩
noncomputable def Eo:F:=fun _=>⟨(.type "super"),none,(.fields #[(R 250),(R 250),(R 250)]),#[]⟩
noncomputable def Cj:F:=bf "object.__init_subclass__" 250
noncomputable def CT:F:=fun P=>⟨(.type "dict"),none,(.dict #[e P "__module__" 513 (.str "driftmeet.happenings" 344),e P "__qualname__" 515 (.str "Take" 514),e P "__firstlineno__" 517 (.int 66 516),e P "__init__" 527 (R 266),e P "row" 534 (R 273),e P "own_bounds" 543 (R 280),e P "__static_attributes__" 545 (R 281)] 7),#[]⟩
noncomputable def Bm:F:=vf #[(I 68),(I 4),(R 265),(I 72),(I 4),(R 272),(I 75),(I 4),(R 279)]
noncomputable def Cd:F:=cd (co "Take" 508 "Take" 509 510 66 0 0 0 0 256 false 181 257 511 66 512)
noncomputable def D8:F:=fun _=>⟨(.type "frame"),none,.plain,#[some (R 258),some (R 3),some (R 255),none,some (.str "driftmeet.happenings" 344),none,some (R 0)]⟩
noncomputable def vI:F:=tu #[(.str "self" 521),(.str "hand" 522),(.str "reading" 523),(.str "letter" 524)]
noncomputable def Eu:F:=fp "__init__" "Take.__init__" (ag (top 17) 0)
noncomputable def w6:F:=cd (cp "__init__" 518 "Take.__init__" 519 520 68 4 0 0 3 260 true 181 261 262 263 264 525 68 526)
noncomputable def zi:F:=fo "__init__" "Take.__init__" (ag (top 17) 0) "driftmeet.happenings" 344 265
noncomputable def wN:F:=tu #[(.str "self" 531)]
noncomputable def DT:F:=fp "row" "Take.row" (ag (top 17) 1)
noncomputable def yj:F:=cd (cp "row" 528 "Take.row" 529 530 72 1 0 0 3 267 true 181 268 269 270 271 532 72 533)
noncomputable def wu:F:=fo "row" "Take.row" (ag (top 17) 1) "driftmeet.happenings" 344 272
noncomputable def Ax:F:=tu #[(.str "self" 538),(.str "world" 539),(.str "name" 540)]
noncomputable def A9:F:=fp "own_bounds" "Take.own_bounds" (ag (top 17) 2)
noncomputable def vM:F:=cd (cp "own_bounds" 535 "Take.own_bounds" 536 537 75 3 0 0 3 274 true 181 275 276 277 278 541 75 542)
noncomputable def xQ:F:=fo "own_bounds" "Take.own_bounds" (ag (top 17) 2) "driftmeet.happenings" 344 279
noncomputable def AK:F:=tu #[(.str "letter" 544)]
noncomputable def AD:F:=fun P=>⟨(.type "dict"),none,(.dict #[e P "__module__" 513 (.str "driftmeet.happenings" 344),e P "__firstlineno__" 517 (.int 66 516),e P "__init__" 527 (R 266),e P "row" 534 (R 273),e P "own_bounds" 543 (R 280),e P "__static_attributes__" 545 (R 281),e P "__doc__" 546 .none] 2),#[]⟩
noncomputable def v6:F:=fun _=>⟨(.type "type"),none,(.cls ⟨"Take",[(R 149)],[(R 283),(R 149),(.type "object")],282,"Take",true,[],[],false,none,false⟩),#[some (R 253),none,some (.str "Take" 506),some (.str "Take" 514),some (.builtin "object.__new__"),some (.bool true)]⟩
noncomputable def BK:F:=fun _=>⟨(.type "super"),none,(.fields #[(R 283),(R 283),(R 283)]),#[]⟩
noncomputable def Cp:F:=bf "object.__init_subclass__" 283
noncomputable def CL:F:=fp "are_wholes" "are_wholes" (top 18)
noncomputable def vX:F:=cd (.fields #[(.str "are_wholes" 549),(.str "are_wholes" 550),(.str "/claim/cut.py" 551),(I 77),(I 2),(I 0),(I 0),(I 3),(R 286),(.bool true),(I 181),(R 287),.none,.none,.none,(R 288),(I 552),(I 77),(.str "/claim/cut.py" 553)])
noncomputable def AL:F:=fo "are_wholes" "are_wholes" (top 18) "driftmeet.happenings" 344 289
noncomputable def vR:F:=tu #[(.str "thing" 558)]
noncomputable def C9:F:=fp "is_letter" "is_letter" (top 19)
noncomputable def za:F:=cd (cp "is_letter" 555 "is_letter" 556 557 79 1 0 0 3 291 true 181 292 293 294 295 559 79 560)
noncomputable def Ak:F:=fo "is_letter" "is_letter" (top 19) "driftmeet.happenings" 344 296
noncomputable def wE:F:=tu #[(.str "row" 565),(.str "word" 566)]
noncomputable def Ej:F:=fp "happening" "happening" (top 20)
noncomputable def vm:F:=cd (cp "happening" 562 "happening" 563 564 81 1 0 0 3 298 true 181 299 300 301 302 567 81 568)
noncomputable def yX:F:=fo "happening" "happening" (top 20) "driftmeet.happenings" 344 303
noncomputable def vQ:F:=tu #[(.str "counts" 575),(.str "hand" 576),(.str "ahead" 577)]
noncomputable def C6:F:=fp "count_on" "count_on" (top 22)
noncomputable def xw:F:=cd (cp "count_on" 572 "count_on" 573 574 95 2 0 0 3 305 true 181 306 307 308 309 578 95 579)
noncomputable def xp:F:=fo "count_on" "count_on" (top 22) "driftmeet.logs" 570 310
noncomputable def BU:F:=fun P=>⟨(.type "dict"),none,(.dict #[e P "__module__" 588 (.str "driftmeet.logs" 570),e P "__qualname__" 590 (.str "Ahead" 589),e P "__firstlineno__" 592 (.int 99 591),e P "__init__" 599 (R 325),e P "enter" 608 (R 332),e P "__static_attributes__" 612 (R 333)] 6),#[]⟩
noncomputable def Cz:F:=vf #[(I 101),(I 4),(R 324),(I 106),(I 4),(R 331)]
noncomputable def Db:F:=cd (co "Ahead" 583 "Ahead" 584 585 99 0 0 0 0 315 false 181 316 586 99 587)
noncomputable def B8:F:=fun _=>⟨(.type "frame"),none,.plain,#[some (R 317),some (R 3),some (R 314),none,some (.str "driftmeet.logs" 570),none,some (R 0)]⟩
noncomputable def vz:F:=tu #[(.str "self" 596)]
noncomputable def BA:F:=fp "__init__" "Ahead.__init__" (ag (top 23) 0)
noncomputable def Ab:F:=cd (cp "__init__" 593 "Ahead.__init__" 594 595 101 1 0 0 3 319 true 181 320 321 322 323 597 101 598)
noncomputable def wU:F:=fo "__init__" "Ahead.__init__" (ag (top 23) 0) "driftmeet.logs" 570 324
noncomputable def zG:F:=tu #[(.str "self" 603),(.str "one" 604),(.str "name" 605)]
noncomputable def Eb:F:=fp "enter" "Ahead.enter" (ag (top 23) 1)
noncomputable def zB:F:=cd (cp "enter" 600 "Ahead.enter" 601 602 106 2 0 0 3 326 true 181 327 328 329 330 606 106 607)
noncomputable def xS:F:=fo "enter" "Ahead.enter" (ag (top 23) 1) "driftmeet.logs" 570 331
noncomputable def yJ:F:=tu #[(.str "counts" 609),(.str "readings" 610),(.str "untaken" 611)]
noncomputable def zH:F:=fun P=>⟨(.type "dict"),none,(.dict #[e P "__module__" 588 (.str "driftmeet.logs" 570),e P "__firstlineno__" 592 (.int 99 591),e P "__init__" 599 (R 325),e P "enter" 608 (R 332),e P "__static_attributes__" 612 (R 333),e P "__dict__" 614 (R 336),e P "__weakref__" 616 (R 337),e P "__doc__" 617 .none] 4),#[]⟩
noncomputable def zK:F:=fun _=>⟨(.type "type"),none,(.cls ⟨"Ahead",[(.type "object")],[(R 335),(.type "object")],334,"Ahead",true,[],[],false,none,false⟩),#[none,none,some (.str "Ahead" 581),some (.str "Ahead" 589),some (.builtin "object.__new__"),some (.bool true)]⟩
noncomputable def vi:F:=fun _=>⟨(.type "getset_descriptor"),none,(.fields #[(.str "__dict__" 613),(R 335),(.builtin "function.__dict__"),(.builtin "function.__dict__#set")]),#[]⟩
noncomputable def vw:F:=fun _=>⟨(.type "getset_descriptor"),none,(.fields #[(.str "__weakref__" 615),(R 335),(.builtin "ExceptionGroup.__weakref__"),.none]),#[]⟩
noncomputable def AX:F:=fun _=>⟨(.type "super"),none,(.fields #[(R 335),(R 335),(R 335)]),#[]⟩
noncomputable def Cf:F:=bf "object.__init_subclass__" 335
noncomputable def xz:F:=tu #[(.str "world" 623),(.str "ahead" 624),(.str "one" 625),(.str "last" 626)]
noncomputable def B7:F:=fp "refuse_by_clock" "refuse_by_clock" (top 24)
noncomputable def xg:F:=cd (cp "refuse_by_clock" 620 "refuse_by_clock" 621 622 113 3 0 0 3 340 true 181 341 342 343 344 627 113 628)
noncomputable def xm:F:=fo "refuse_by_clock" "refuse_by_clock" (top 24) "driftmeet.logs" 570 345
noncomputable def Af:F:=tu #[(.str "world" 633),(.str "ahead" 634),(.str "one" 635)]
noncomputable def DU:F:=fp "refuse_by_kind" "refuse_by_kind" (top 25)
noncomputable def xP:F:=cd (cp "refuse_by_kind" 630 "refuse_by_kind" 631 632 119 3 0 0 3 347 true 181 348 349 350 351 636 119 637)
noncomputable def ze:F:=fo "refuse_by_kind" "refuse_by_kind" (top 25) "driftmeet.logs" 570 352
noncomputable def zw:F:=tu #[(.str "world" 642),(.str "log" 643),(.str "ahead" 644),(.str "row" 645),(.str "one" 646)]
noncomputable def Bj:F:=fp "check" "check" (top 26)
noncomputable def vq:F:=cd (cp "check" 639 "check" 640 641 126 2 0 0 3 354 true 181 355 356 357 358 647 126 648)
noncomputable def wI:F:=fo "check" "check" (top 26) "driftmeet.logs" 570 359
noncomputable def vV:F:=tu #[(.str "short" 657),(.str "long" 658)]
noncomputable def Cv:F:=fp "refuse_clock" "refuse_clock" (top 29)
noncomputable def Al:F:=cd (cp "refuse_clock" 654 "refuse_clock" 655 656 135 2 0 0 3 361 true 181 362 363 364 365 659 135 660)
noncomputable def Aq:F:=fo "refuse_clock" "refuse_clock" (top 29) "driftmeet.worlds" 650 366
noncomputable def zV:F:=tu #[(.str "least" 665),(.str "most" 666)]
noncomputable def Di:F:=fp "refuse_lengths" "refuse_lengths" (top 30)
noncomputable def yw:F:=cd (cp "refuse_lengths" 662 "refuse_lengths" 663 664 140 2 0 0 3 368 true 181 369 370 371 372 667 140 668)
noncomputable def vY:F:=fo "refuse_lengths" "refuse_lengths" (top 30) "driftmeet.worlds" 650 373
noncomputable def Et:F:=fun P=>⟨(.type "dict"),none,(.dict #[e P "__module__" 677 (.str "driftmeet.worlds" 650),e P "__qualname__" 679 (.str "World" 678),e P "__firstlineno__" 681 (.int 145 680),e P "__init__" 696 (R 388),e P "enter_way" 707 (R 395),e P "refuse_hand" 715 (R 402),e P "refuse_pair" 724 (R 409),e P "hands" 731 (R 416),e P "has_hand" 739 (R 423),e P "has_way" 748 (R 430),e P "clock" 756 (R 437),e P "way" 765 (R 444),e P "__static_attributes__" 768 (R 445)] 13),#[]⟩
noncomputable def BO:F:=vf #[(I 147),(I 4),(R 387),(I 157),(I 4),(R 394),(I 164),(I 4),(R 401),(I 168),(I 4),(R 408),(I 174),(I 4),(R 415),(I 177),(I 4),(R 422),(I 180),(I 4),(R 429),(I 183),(I 4),(R 436),(I 186),(I 4),(R 443)]
noncomputable def Bq:F:=cd (co "World" 672 "World" 673 674 145 0 0 0 0 378 false 181 379 675 145 676)
noncomputable def Dl:F:=fun _=>⟨(.type "frame"),none,.plain,#[some (R 380),some (R 3),some (R 377),none,some (.str "driftmeet.worlds" 650),none,some (R 0)]⟩
noncomputable def AG:F:=tu #[(.str "self" 685),(.str "clocks" 686),(.str "ways" 687),(.str "short" 688),(.str "long" 689),(.str "one" 690),(.str "other" 691),(.str "least" 692),(.str "most" 693)]
noncomputable def Cg:F:=fp "__init__" "World.__init__" (ag (top 31) 0)
noncomputable def vn:F:=cd (cp "__init__" 682 "World.__init__" 683 684 147 3 0 0 3 382 true 181 383 384 385 386 694 147 695)
noncomputable def vE:F:=fo "__init__" "World.__init__" (ag (top 31) 0) "driftmeet.worlds" 650 387
noncomputable def vB:F:=tu #[(.str "self" 700),(.str "one" 701),(.str "other" 702),(.str "least" 703),(.str "most" 704)]
noncomputable def Bl:F:=fp "enter_way" "World.enter_way" (ag (top 31) 1)
noncomputable def yk:F:=cd (cp "enter_way" 697 "World.enter_way" 698 699 157 5 0 0 3 389 true 181 390 391 392 393 705 157 706)
noncomputable def zx:F:=fo "enter_way" "World.enter_way" (ag (top 31) 1) "driftmeet.worlds" 650 394
noncomputable def Ac:F:=tu #[(.str "self" 711),(.str "hand" 712)]
noncomputable def CG:F:=fp "refuse_hand" "World.refuse_hand" (ag (top 31) 2)
noncomputable def yd:F:=cd (cp "refuse_hand" 708 "World.refuse_hand" 709 710 164 2 0 0 3 396 true 181 397 398 399 400 713 164 714)
noncomputable def zf:F:=fo "refuse_hand" "World.refuse_hand" (ag (top 31) 2) "driftmeet.worlds" 650 401
noncomputable def AM:F:=tu #[(.str "self" 719),(.str "one" 720),(.str "other" 721)]
noncomputable def Dx:F:=fp "refuse_pair" "World.refuse_pair" (ag (top 31) 3)
noncomputable def vP:F:=cd (cp "refuse_pair" 716 "World.refuse_pair" 717 718 168 3 0 0 3 403 true 181 404 405 406 407 722 168 723)
noncomputable def yB:F:=fo "refuse_pair" "World.refuse_pair" (ag (top 31) 3) "driftmeet.worlds" 650 408
noncomputable def AJ:F:=tu #[(.str "self" 728)]
noncomputable def D5:F:=fp "hands" "World.hands" (ag (top 31) 4)
noncomputable def xG:F:=cd (cp "hands" 725 "World.hands" 726 727 174 1 0 0 3 410 true 181 411 412 413 414 729 174 730)
noncomputable def wz:F:=fo "hands" "World.hands" (ag (top 31) 4) "driftmeet.worlds" 650 415
noncomputable def zy:F:=tu #[(.str "self" 735),(.str "hand" 736)]
noncomputable def CY:F:=fp "has_hand" "World.has_hand" (ag (top 31) 5)
noncomputable def zT:F:=cd (cp "has_hand" 732 "World.has_hand" 733 734 177 2 0 0 3 417 true 181 418 419 420 421 737 177 738)
noncomputable def wL:F:=fo "has_hand" "World.has_hand" (ag (top 31) 5) "driftmeet.worlds" 650 422
noncomputable def wC:F:=tu #[(.str "self" 743),(.str "one" 744),(.str "other" 745)]
noncomputable def AY:F:=fp "has_way" "World.has_way" (ag (top 31) 6)
noncomputable def yy:F:=cd (cp "has_way" 740 "World.has_way" 741 742 180 3 0 0 3 424 true 181 425 426 427 428 746 180 747)
noncomputable def wf:F:=fo "has_way" "World.has_way" (ag (top 31) 6) "driftmeet.worlds" 650 429
noncomputable def Ar:F:=tu #[(.str "self" 752),(.str "hand" 753)]
noncomputable def Ed:F:=fp "clock" "World.clock" (ag (top 31) 7)
noncomputable def yG:F:=cd (cp "clock" 749 "World.clock" 750 751 183 2 0 0 3 431 true 181 432 433 434 435 754 183 755)
noncomputable def wa:F:=fo "clock" "World.clock" (ag (top 31) 7) "driftmeet.worlds" 650 436
noncomputable def wY:F:=tu #[(.str "self" 760),(.str "one" 761),(.str "other" 762)]
noncomputable def Es:F:=fp "way" "World.way" (ag (top 31) 8)
noncomputable def ym:F:=cd (cp "way" 757 "World.way" 758 759 186 3 0 0 3 438 true 181 439 440 441 442 763 186 764)
noncomputable def zP:F:=fo "way" "World.way" (ag (top 31) 8) "driftmeet.worlds" 650 443
noncomputable def yZ:F:=tu #[(.str "kept_clocks" 766),(.str "kept_ways" 767)]
noncomputable def ye:F:=fun P=>⟨(.type "dict"),none,(.dict #[e P "__module__" 677 (.str "driftmeet.worlds" 650),e P "__firstlineno__" 681 (.int 145 680),e P "__init__" 696 (R 388),e P "enter_way" 707 (R 395),e P "refuse_hand" 715 (R 402),e P "refuse_pair" 724 (R 409),e P "hands" 731 (R 416),e P "has_hand" 739 (R 423),e P "has_way" 748 (R 430),e P "clock" 756 (R 437),e P "way" 765 (R 444),e P "__static_attributes__" 768 (R 445),e P "__dict__" 770 (R 448),e P "__weakref__" 772 (R 449),e P "__doc__" 773 .none] 4),#[]⟩
noncomputable def As:F:=fun _=>⟨(.type "type"),none,(.cls ⟨"World",[(.type "object")],[(R 447),(.type "object")],446,"World",true,[],[],false,none,false⟩),#[none,none,some (.str "World" 670),some (.str "World" 678),some (.builtin "object.__new__"),some (.bool true)]⟩
noncomputable def xa:F:=fun _=>⟨(.type "getset_descriptor"),none,(.fields #[(.str "__dict__" 769),(R 447),(.builtin "function.__dict__"),(.builtin "function.__dict__#set")]),#[]⟩
noncomputable def yg:F:=fun _=>⟨(.type "getset_descriptor"),none,(.fields #[(.str "__weakref__" 771),(R 447),(.builtin "ExceptionGroup.__weakref__"),.none]),#[]⟩
noncomputable def Bn:F:=fun _=>⟨(.type "super"),none,(.fields #[(R 447),(R 447),(R 447)]),#[]⟩
noncomputable def CZ:F:=bf "object.__init_subclass__" 447
noncomputable def zk:F:=tu #[(.str "_law_script" 781),(.str "_law_k" 782)]
noncomputable def CO:F:=fp "_law_cell_at" "_law_cell_at" (top 33)
noncomputable def xD:F:=cd (cp "_law_cell_at" 778 "_law_cell_at" 779 780 192 2 0 0 3 452 true 181 453 454 455 456 783 192 784)
noncomputable def At:F:=fo "_law_cell_at" "_law_cell_at" (top 33) "law_driftmeet_k18_the_first_fault" 776 457
noncomputable def xf:F:=tu #[(.str "_law_hands" 789),(.str "_law_cell" 790),(.str "_law_ways_here" 791),(.str "_law_number" 792),(.str "_law_one" 793),(.str "_law_other" 794)]
noncomputable def Bf:F:=fp "_law_ways" "_law_ways" (top 34)
noncomputable def z0:F:=cd (cp "_law_ways" 786 "_law_ways" 787 788 196 2 0 0 3 459 true 181 460 461 462 463 795 196 796)
noncomputable def AA:F:=fo "_law_ways" "_law_ways" (top 34) "law_driftmeet_k18_the_first_fault" 776 464
noncomputable def xc:F:=tu #[(.str "_law_here" 801),(.str "_law_reading" 802),(.str "_law_tos" 803),(.str "_law_letters" 804),(.str "_law_cell" 805),(.str "_law_kind_here" 806),(.str "_law_early" 807)]
noncomputable def A4:F:=fp "_law_row" "_law_row" (top 35)
noncomputable def v9:F:=cd (cp "_law_row" 798 "_law_row" 799 800 205 5 0 0 3 466 true 181 467 468 469 470 808 205 809)
noncomputable def vh:F:=fo "_law_row" "_law_row" (top 35) "law_driftmeet_k18_the_first_fault" 776 471
noncomputable def B5:F:=fp "_law_log" "_law_log" (top 36)
noncomputable def vW:F:=cd (.fields #[(.str "_law_log" 811),(.str "_law_log" 812),(.str "/claim/cut.py" 813),(I 215),(I 3),(I 0),(I 0),(I 3),(R 473),(.bool true),(I 181),(R 474),.none,.none,.none,(R 475),(I 814),(I 215),(.str "/claim/cut.py" 815)])
noncomputable def yh:F:=fo "_law_log" "_law_log" (top 36) "law_driftmeet_k18_the_first_fault" 776 476
noncomputable def vD:F:=tu #[(.str "_law_row_here" 820),(.str "_law_size" 821)]
noncomputable def Cw:F:=fp "_law_kind" "_law_kind" (top 37)
noncomputable def yz:F:=cd (cp "_law_kind" 817 "_law_kind" 818 819 234 1 0 0 3 478 true 181 479 480 481 482 822 234 823)
noncomputable def Ao:F:=fo "_law_kind" "_law_kind" (top 37) "law_driftmeet_k18_the_first_fault" 776 483
noncomputable def Ad:F:=tu #[(.str "_law_log_here" 828),(.str "_law_hands" 829),(.str "_law_cell" 830),(.str "_law_kind_here" 831),(.str "_law_at" 832),(.str "_law_row_here" 833),(.str "_law_far" 834),(.str "_law_hand" 835),(.str "_law_part" 836)]
noncomputable def D9:F:=fp "_law_change" "_law_change" (top 38)
noncomputable def wX:F:=cd (cp "_law_change" 825 "_law_change" 826 827 237 3 0 0 3 485 true 181 486 487 488 489 837 237 838)
noncomputable def yq:F:=fo "_law_change" "_law_change" (top 38) "law_driftmeet_k18_the_first_fault" 776 490
noncomputable def xC:F:=tu #[(.str "_law_log_here" 843),(.str "_law_at" 844),(.str "_law_name" 845),(.str "_law_many" 846),(.str "_law_k" 847)]
noncomputable def Ek:F:=fp "_law_sent" "_law_sent" (top 39)
noncomputable def AI:F:=cd (cp "_law_sent" 840 "_law_sent" 841 842 260 3 0 0 3 492 true 181 493 494 495 496 848 260 849)
noncomputable def AF:F:=fo "_law_sent" "_law_sent" (top 39) "law_driftmeet_k18_the_first_fault" 776 497
noncomputable def Dr:F:=fp "_law_fault" "_law_fault" (top 40)
noncomputable def wH:F:=cd (.fields #[(.str "_law_fault" 851),(.str "_law_fault" 852),(.str "/claim/cut.py" 853),(I 268),(I 4),(I 0),(I 0),(I 3),(R 499),(.bool true),(I 181),(R 500),.none,.none,.none,(R 501),(I 854),(I 268),(.str "/claim/cut.py" 855)])
noncomputable def z7:F:=fo "_law_fault" "_law_fault" (top 40) "law_driftmeet_k18_the_first_fault" 776 502
noncomputable def wm:F:=tu #[(.str "_law_log_here" 860),(.str "_law_hands" 861),(.str "_law_ways_here" 862),(.str "_law_at" 863),(.str "_law_found" 864)]
noncomputable def DV:F:=fp "_law_due" "_law_due" (top 41)
noncomputable def xE:F:=cd (cp "_law_due" 857 "_law_due" 858 859 287 3 0 0 3 504 true 181 505 506 507 508 865 287 866)
noncomputable def z9:F:=fo "_law_due" "_law_due" (top 41) "law_driftmeet_k18_the_first_fault" 776 509
noncomputable def Bk:F:=fp "_law_marks" "_law_marks" (top 42)
noncomputable def vG:F:=cd (.fields #[(.str "_law_marks" 868),(.str "_law_marks" 869),(.str "/claim/cut.py" 870),(I 293),(I 1),(I 0),(I 0),(I 3),(R 511),(.bool true),(I 181),(R 512),.none,.none,.none,(R 513),(I 871),(I 293),(.str "/claim/cut.py" 872)])
noncomputable def ve:F:=fo "_law_marks" "_law_marks" (top 42) "law_driftmeet_k18_the_first_fault" 776 514
noncomputable def wR:F:=tu #[(.str "_law_made" 877),(.str "_law_log_here" 878),(.str "_law_told" 879),(.str "_law_last" 880),(.str "_law_marks_here" 881),(.str "e" 882)]
noncomputable def C8:F:=fp "_law_caught" "_law_caught" (top 43)
noncomputable def wj:F:=cd (cp "_law_caught" 874 "_law_caught" 875 876 295 2 0 0 3 516 true 181 517 518 519 520 883 295 884)
noncomputable def wG:F:=fo "_law_caught" "_law_caught" (top 43) "law_driftmeet_k18_the_first_fault" 776 521
noncomputable def Ep:F:=fp "law" "law" (top 44)
noncomputable def Ai:F:=cd (.fields #[(.str "law" 886),(.str "law" 887),(.str "/claim/cut.py" 888),(I 310),(I 1),(I 0),(I 0),(I 3),(R 523),(.bool true),(I 181),(R 524),.none,.none,.none,(R 525),(I 889),(I 310),(.str "/claim/cut.py" 890)])
noncomputable def xJ:F:=fo "law" "law" (top 44) "law_driftmeet_k18_the_first_fault" 776 526
noncomputable def env:Env:={scope:=pw.main.scope,locals:=mainNs,globals:=mainNs,cells:=[],code:=(R 13),frame:=some 14}
noncomputable def bE:List Stmt:=behindTheImports pw
noncomputable def b(i:Nat):Stmt:=bE.getD i (.Pass ⟨0,0,0,0⟩)
noncomputable def cE:Code:=.body bE env
noncomputable def qF:List Frame:=[topFrame ⟨0,0,0,0⟩]
noncomputable def an:Option Value:=(some (R 6))
noncomputable def hA(P:Params):Heap:=⟨⟨[boot_o_0 P,boot_o_1 P,boot_o_2 P,boot_o_3 P,boot_o_4 P,boot_o_5 P,boot_o_6 P,boot_o_7 P,boot_o_8 P,boot_o_9 P,boot_o_10 P,o0 P,o1 P,o2 P,o3 P]⟩,{}⟩
noncomputable def sA(w:World)(os:OsState):Shared:=⟨hA w.params,⟨[]⟩,{},187,os⟩
noncomputable def t0:Params->W.BT:=(n boot_o_0 (n boot_o_1 (n boot_o_3 (l boot_o_7) (l o0)) (n boot_o_5 (l boot_o_9) (l o2))) (n boot_o_2 (n boot_o_4 (l boot_o_8) (l o1)) (n boot_o_6 (l boot_o_10) (l o3))))
noncomputable def s0(w:World)(os:OsState):SharedT:=⟨t0 w.params,15,{},⟨[]⟩,{},187,os⟩
noncomputable def t1:Params->W.BT:=(n boot_o_0 (n boot_o_1 (n o4 (n boot_o_7 (n o0 (n o16 (n o1 (n o1 (n CT (l o0) z) (l o1)) (n A0 (l o0) (l As))) (n o20 (n o98 (l o1) (l xG)) (n o0 (l DU) (l o1)))) (n o20 (n o45 (n o0 (n DT (l xJ) z) (l o0)) (n xT (l zK) (l Bf))) (n o66 (n o0 (l vm) (l o0)) (n zU (l Aq) (l o0))))) (n o11 (n o1 (n o20 (n o80 (n o0 (l o0) z) (l vB)) (n Ae (l o1) (l o0))) (n o1 (n yN (l C9) (l wL)) (n Cy (l vq) (l Ad)))) (n o31 (n o1 (n o92 (l vM) (l Dx)) (n yc (l o0) (l v9))) (n o70 (n yp (l xp) (l o1)) (n vk (l o0) (l z7)))))) (n o0 (n o7 (n o20 (n o38 (n o78 (n D8 (l ve) z) (l vn)) (n o1 (l BA) (l CZ))) (n o57 (n wp (l o0) (l zy)) (n o0 (l o1) (l yz)))) (n o1 (n o20 (n o88 (l o1) (l o0)) (n o0 (l Cf) (l o1))) (n o11 (n CP (l vQ) (l Ed)) (n wS (l o0) (l o0))))) (n o13 (n o24 (n o1 (n o83 (n o0 (l o0) z) (l zx)) (n xN (l zB) (l o0))) (n o62 (n o0 (l o1) (l o0)) (n o1 (l vV) (l yq)))) (n o20 (n o52 (n o11 (l v6) (l o1)) (n CS (l o0) (l B5))) (n o73 (n o95 (l o0) (l ym)) (n Eo (l BO) (l o0))))))) (n boot_o_5 (n boot_o_9 (n o6 (n o18 (n o37 (n o0 (n Bm (l Bk) z) (l o0)) (n BN (l vz) (l yg))) (n o56 (n o0 (l vX) (l o0)) (n BS (l ze) (l o0)))) (n o28 (n o47 (n o86 (l wu) (l yd)) (n o1 (l vw) (l AA))) (n o68 (n ww (l o0) (l Ar)) (n o0 (l o1) (l AI))))) (n o0 (n o23 (n o42 (n o81 (n w6 (l wj) z) (l Bl)) (n o0 (l o0) (l xD))) (n o0 (n o1 (l Ak) (l o1)) (n xr (l o0) (l D9)))) (n o33 (n o51 (n o94 (l AK) (l yB)) (n AE (l xg) (l o0))) (n o0 (n DN (l o11) (l o0)) (n wK (l Et) (l o1)))))) (n o2 (n o9 (n o21 (n o40 (n o0 (n o1 (l o1) z) (l o0)) (n o0 (l wU) (l o1))) (n o59 (n Bx (l vR) (l CY)) (n wt (l o0) (l o0)))) (n o30 (n o49 (n o90 (l o0) (l AM)) (n xZ (l o1) (l o0))) (n o0 (n vo (l C6) (l wa)) (n Ei (l yw) (l Dr))))) (n o0 (n o26 (n o44 (n o1 (n wN (l Ep) z) (l o1)) (n DM (l yJ) (l xf))) (n o64 (n zS (l o0) (l yy)) (n o0 (l Cv) (l o1)))) (n o35 (n o54 (n o0 (l Cp) (l o0)) (n o11 (l Af) (l yh))) (n o75 (n DD (l Db) (l yZ)) (n o95 (l Dl) (l xE)))))))) (n boot_o_2 (n boot_o_4 (n boot_o_8 (n o1 (n o17 (n o36 (n o76 (n o0 (l o1) z) (l AG)) (n BR (l o1) (l xa))) (n o11 (n o99 (l CL) (l wz)) (n BJ (l xP) (l vD)))) (n o11 (n o46 (n o85 (l yj) (l CG)) (n o0 (l vi) (l z0))) (n o67 (n o1 (l yX) (l o1)) (n wr (l o0) (l Ek))))) (n o12 (n o22 (n o11 (n o0 (n Eu (l C8) z) (l o0)) (n zE (l zG) (l CO))) (n o60 (n o0 (l za) (l o0)) (n Av (l wI) (l o0)))) (n o32 (n o50 (n o93 (l xQ) (l vP)) (n zM (l B7) (l vh))) (n o71 (n yV (l o0) (l wY)) (n yQ (l o11) (l o0)))))) (n o5 (n o8 (n o11 (n o39 (n o79 (n o0 (l o0) z) (l vE)) (n vZ (l Ab) (l o0))) (n o58 (n o0 (l o1) (l o0)) (n o1 (l zw) (l Ao)))) (n o29 (n o11 (n o89 (l Ax) (l o1)) (n Eg (l o0) (l xc))) (n o69 (n vF (l o0) (l yG)) (n o0 (l Di) (l o1))))) (n o14 (n o25 (n o43 (n o0 (n o1 (l o1) z) (l o0)) (n o0 (l xS) (l o1))) (n o63 (n DY (l wE) (l AY)) (n xX (l o0) (l o0)))) (n o11 (n o53 (n o96 (l BK) (l AJ)) (n o95 (l o1) (l vW))) (n o74 (n o11 (l Cz) (l zP)) (n Cj (l Bq) (l DV))))))) (n boot_o_6 (n boot_o_10 (n o0 (n o19 (n o0 (n o77 (n Cd (l vG) z) (l Cg)) (n o0 (l o0) (l Bn))) (n o0 (n o1 (l AL) (l o1)) (n DS (l o0) (l Cw)))) (n o0 (n o48 (n o87 (l o0) (l zf)) (n xL (l AX) (l o0))) (n o20 (n o0 (l o1) (l o0)) (n o1 (l zV) (l AF))))) (n o1 (n o0 (n o0 (n o82 (n zi (l wG) z) (l yk)) (n o1 (l Eb) (l At))) (n o61 (n wT (l o0) (l wC)) (n o0 (l o1) (l wX)))) (n o34 (n o0 (n o95 (l AD) (l o0)) (n Cl (l xm) (l o1))) (n o72 (n B6 (l BU) (l Es)) (n xB (l o0) (l wm)))))) (n o3 (n o10 (n o0 (n o41 (n o11 (n vI (l wR) z) (l o1)) (n Ef (l o0) (l zk))) (n o0 (n vO (l o0) (l zT)) (n o0 (l Bj) (l o1)))) (n o0 (n o0 (n o91 (l A9) (l o0)) (n yu (l xz) (l A4))) (n o1 (n o0 (l xw) (l o0)) (n wg (l vY) (l wH))))) (n o15 (n o27 (n o0 (n o84 (n o0 (l Ai) z) (l Ac)) (n vj (l zH) (l o0))) (n o65 (n xA (l Ej) (l wf)) (n Eh (l Al) (l xC)))) (n o0 (n o55 (n o97 (l o0) (l D5)) (n B2 (l o0) (l o0))) (n o0 (n o0 (l B8) (l ye)) (n o11 (l o0) (l z9)))))))))
noncomputable def s1(w:World)(os:OsState):SharedT:=⟨t1 w.params,528,{},⟨[]⟩,{},892,os⟩
noncomputable def t2:Params->W.BT:=(n boot_o_0 (n boot_o_1 (n o4 (n boot_o_7 (n o0 (n o16 (n o1 (n o1 (n CT (l o0) z) (l o1)) (n A0 (l o0) (l As))) (n o20 (n o98 (l o1) (l xG)) (n o0 (l DU) (l o1)))) (n o20 (n o45 (n o0 (n DT (l xJ) z) (l o0)) (n xT (l zK) (l Bf))) (n o66 (n o0 (l vm) (l o0)) (n zU (l Aq) (l o0))))) (n o11 (n o1 (n o20 (n o80 (n o0 (l o0) z) (l vB)) (n Ae (l o1) (l o0))) (n o1 (n yN (l C9) (l wL)) (n Cy (l vq) (l Ad)))) (n o31 (n o1 (n o92 (l vM) (l Dx)) (n yc (l o0) (l v9))) (n o70 (n yp (l xp) (l o1)) (n vk (l o0) (l z7)))))) (n o0 (n o7 (n o20 (n o38 (n o78 (n D8 (l ve) z) (l vn)) (n o1 (l BA) (l CZ))) (n o57 (n wp (l o0) (l zy)) (n o0 (l o1) (l yz)))) (n o1 (n o20 (n o88 (l o1) (l o0)) (n o0 (l Cf) (l o1))) (n o11 (n CP (l vQ) (l Ed)) (n wS (l o0) (l o0))))) (n o13 (n o24 (n o1 (n o83 (n o0 (l o0) z) (l zx)) (n xN (l zB) (l o0))) (n o62 (n o0 (l o1) (l o0)) (n o1 (l vV) (l yq)))) (n o20 (n o52 (n o11 (l v6) (l o1)) (n CS (l o0) (l B5))) (n o73 (n o95 (l o0) (l ym)) (n Eo (l BO) (l o0))))))) (n boot_o_5 (n boot_o_9 (n o6 (n o18 (n o37 (n o0 (n Bm (l Bk) z) (l o0)) (n BN (l vz) (l yg))) (n o56 (n o0 (l vX) (l o0)) (n BS (l ze) (l o0)))) (n o28 (n o47 (n o86 (l wu) (l yd)) (n o1 (l vw) (l AA))) (n o68 (n ww (l o0) (l Ar)) (n o0 (l o1) (l AI))))) (n o0 (n o23 (n o42 (n o81 (n w6 (l wj) z) (l Bl)) (n o0 (l o0) (l xD))) (n o0 (n o1 (l Ak) (l o1)) (n xr (l o0) (l D9)))) (n o33 (n o51 (n o94 (l AK) (l yB)) (n AE (l xg) (l o0))) (n o0 (n DN (l o11) (l o0)) (n wK (l Et) (l o1)))))) (n o2 (n o9 (n o21 (n o40 (n o0 (n o1 (l o1) z) (l o0)) (n o0 (l wU) (l o1))) (n o59 (n Bx (l vR) (l CY)) (n wt (l o0) (l o0)))) (n o30 (n o49 (n o90 (l o0) (l AM)) (n xZ (l o1) (l o0))) (n o0 (n vo (l C6) (l wa)) (n Ei (l yw) (l Dr))))) (n o0 (n o26 (n o44 (n o1 (n wN (l Ep) z) (l o1)) (n DM (l yJ) (l xf))) (n o64 (n zS (l o0) (l yy)) (n o0 (l Cv) (l o1)))) (n o35 (n o54 (n o0 (l Cp) (l o0)) (n o11 (l Af) (l yh))) (n o75 (n DD (l Db) (l yZ)) (n o95 (l Dl) (l xE)))))))) (n boot_o_2 (n boot_o_4 (n boot_o_8 (n o1 (n o17 (n o36 (n o76 (n o0 (l o1) z) (l AG)) (n BR (l o1) (l xa))) (n o11 (n o99 (l CL) (l wz)) (n BJ (l xP) (l vD)))) (n o11 (n o46 (n o85 (l yj) (l CG)) (n o0 (l vi) (l z0))) (n o67 (n o1 (l yX) (l o1)) (n wr (l o0) (l Ek))))) (n o12 (n o22 (n o11 (n o0 (n Eu (l C8) z) (l o0)) (n zE (l zG) (l CO))) (n o60 (n o0 (l za) (l o0)) (n Av (l wI) (l o0)))) (n o32 (n o50 (n o93 (l xQ) (l vP)) (n zM (l B7) (l vh))) (n o71 (n yV (l o0) (l wY)) (n yQ (l o11) (l o0)))))) (n o5 (n o8 (n o11 (n o39 (n o79 (n o0 (l o0) z) (l vE)) (n vZ (l Ab) (l o0))) (n o58 (n o0 (l o1) (l o0)) (n o1 (l zw) (l Ao)))) (n o29 (n o11 (n o89 (l Ax) (l o1)) (n Eg (l o0) (l xc))) (n o69 (n vF (l o0) (l yG)) (n o0 (l Di) (l o1))))) (n o14 (n o25 (n o43 (n o0 (n o1 (l o1) z) (l o0)) (n o0 (l xS) (l o1))) (n o63 (n DY (l wE) (l AY)) (n xX (l o0) (l o0)))) (n o11 (n o53 (n o96 (l BK) (l AJ)) (n o95 (l o1) (l vW))) (n o74 (n o11 (l Cz) (l zP)) (n Cj (l Bq) (l DV))))))) (n boot_o_6 (n boot_o_10 (n o0 (n o19 (n o0 (n o77 (n Cd (l vG) z) (l Cg)) (n o0 (l o0) (l Bn))) (n o0 (n o1 (l AL) (l o1)) (n DS (l o0) (l Cw)))) (n o0 (n o48 (n o87 (l o0) (l zf)) (n xL (l AX) (l o0))) (n o20 (n o0 (l o1) (l o0)) (n o1 (l zV) (l AF))))) (n o1 (n o0 (n o0 (n o82 (n zi (l wG) z) (l yk)) (n o1 (l Eb) (l At))) (n o61 (n wT (l o0) (l wC)) (n o0 (l o1) (l wX)))) (n o34 (n o0 (n o95 (l AD) (l o0)) (n Cl (l xm) (l o1))) (n o72 (n B6 (l BU) (l Es)) (n xB (l o0) (l wm)))))) (n o3 (n o10 (n o0 (n o41 (n o11 (n vI (l wR) z) (l o1)) (n Ef (l o0) (l zk))) (n o0 (n vO (l o0) (l zT)) (n o0 (l Bj) (l o1)))) (n o0 (n o0 (n o91 (l A9) (l o0)) (n yu (l xz) (l A4))) (n o1 (n o0 (l xw) (l o0)) (n wg (l vY) (l wH))))) (n o15 (n o27 (n o0 (n o84 (n o0 (l Ai) z) (l Ac)) (n vj (l zH) (l o0))) (n o65 (n xA (l Ej) (l wf)) (n Eh (l Al) (l xC)))) (n o0 (n o55 (n o97 (l o0) (l D5)) (n B2 (l o0) (l o0))) (n o0 (n o0 (l B8) (l ye)) (n o11 (l o0) (l z9)))))))))
noncomputable def s2(w:World)(os:OsState):SharedT:=⟨t2 w.params,528,{},⟨[]⟩,{},892,os⟩
theorem pre:∀w:World,(fun os=>topGo treeTable pw w 11 an 12 ⟨boot_heap w.params,⟨[]⟩,boot_drawn,boot_toks,os⟩ (topStub pw))=fun os=>some (sA w os,⟨denote treeTable cE,cE,⟨0,0,0,0⟩,qF⟩):=fun w=>by kernel_rfl
theorem blk:∀w:World,(fun os=>segRun treeTable pw w 11 an 1 1 (sA w os) (blockOf bE env cE ⟨0,0,0,0⟩ qF))=fun os=>some (.next,(s0 w os).abs,cE,⟨0,0,0,0⟩):=fun w=>by kernel_rfl
noncomputable def g0:List Stmt:=[b 0,b 1,b 2,b 3,b 4,b 5,b 6,b 7,b 8,b 9,b 10,b 11,b 12,b 13,b 14,b 15,b 16,b 17,b 18,b 19,b 20,b 21,b 22,b 23,b 24,b 25,b 26,b 27,b 28,b 29,b 30,b 31,b 32,b 33,b 34,b 35,b 36,b 37,b 38,b 39,b 40,b 41,b 42,b 43,b 44]
theorem p0:∀w:World,(fun os=>segRunT treeTable pw w 11 an 1 4688 (s0 w os) (piecesOf g0 env cE ⟨0,0,0,0⟩ qF))=fun os=>some (.next,s1 w os,cE,⟨310,0,323,73⟩):=fun w=>by kernel_rfl
theorem fin:∀w:World,(fun os=>topRun treeTable pw w 11 an 2 (s1 w os).abs (restOf [] env cE ⟨310,0,323,73⟩ qF))=fun os=>some (s2 w os).abs:=fun w=>by kernel_rfl
theorem DE:bE=g0++([]):=by kernel_rfl
theorem FS(w:World)(os:OsState):topRun treeTable pw w 11 an (4688+(2)) (s0 w os).abs (restOf (g0++([])) env cE ⟨0,0,0,0⟩ qF)=some (s2 w os).abs:=piece_app (segRun_of (congrFun (p0 w) os)) (congrFun (fin w) os)
theorem run(w:World)(os:OsState):topRun treeTable pw w 11 an (12+(1+(4688+(2)))) ⟨boot_heap w.params,⟨[]⟩,boot_drawn,boot_toks,os⟩ (topStub pw)=some (s2 w os).abs:=go_top (congrFun (pre w) os) (piece_block (congrFun (blk w) os) (by rw[DE];exact FS w os))
noncomputable def view:Program:={pw with main:={pw.main with body:=[top 44]}}
noncomputable def loose:List Str:=(["_wall","DriftError","NoStretch","NoHand","NoClock","NoWay","NoHappening","Backward","NoLetter","is_whole","Happening","Look","Sight","Send","Take","are_wholes","is_letter","happening","count_on","Ahead","refuse_by_clock","refuse_by_kind","check","MOST_HANDS","refuse_clock","refuse_lengths","World","_law_cell_at","_law_ways","_law_row","_law_log","_law_kind","_law_change","_law_sent","_law_fault","_law_due","_law_marks","_law_caught"]:List String).map Str.ofString
noncomputable def K(P:Params):Frag:=(nat_lit 2,boot_o_2 P)::(nat_lit 3,o4 P)::(nat_lit 15,o0 P)::(nat_lit 17,o6 P)::(nat_lit 18,o0 P)::(nat_lit 20,o8 P)::(nat_lit 21,o9 P)::(nat_lit 22,o10 P)::(nat_lit 29,o0 P)::(nat_lit 30,o15 P)::(nat_lit 31,o16 P)::(nat_lit 32,o17 P)::(nat_lit 35,o20 P)::(nat_lit 42,o0 P)::(nat_lit 43,o24 P)::(nat_lit 44,o25 P)::(nat_lit 47,o20 P)::(nat_lit 54,o0 P)::(nat_lit 55,o31 P)::(nat_lit 56,o32 P)::(nat_lit 59,o20 P)::(nat_lit 66,o0 P)::(nat_lit 67,o38 P)::(nat_lit 68,o39 P)::(nat_lit 71,o20 P)::(nat_lit 78,o0 P)::(nat_lit 79,o45 P)::(nat_lit 80,o46 P)::(nat_lit 83,o20 P)::(nat_lit 90,o0 P)::(nat_lit 91,o52 P)::(nat_lit 92,o53 P)::(nat_lit 95,o20 P)::(nat_lit 102,o0 P)::(nat_lit 104,o60 P)::(nat_lit 105,o0 P)::(nat_lit 107,o62 P)::(nat_lit 108,o63 P)::(nat_lit 109,o64 P)::(nat_lit 110,o65 P)::(nat_lit 111,o66 P)::(nat_lit 114,o20 P)::(nat_lit 121,o0 P)::(nat_lit 122,o72 P)::(nat_lit 123,o73 P)::(nat_lit 126,o0 P)::(nat_lit 128,o76 P)::(nat_lit 129,o0 P)::(nat_lit 131,o78 P)::(nat_lit 132,o79 P)::(nat_lit 140,o0 P)::(nat_lit 142,o84 P)::(nat_lit 143,o0 P)::(nat_lit 145,o86 P)::(nat_lit 146,o87 P)::(nat_lit 147,o88 P)::(nat_lit 148,o89 P)::(nat_lit 149,o90 P)::(nat_lit 150,o91 P)::(nat_lit 151,o92 P)::(nat_lit 154,o95 P)::(nat_lit 161,o0 P)::(nat_lit 163,wp P)::(nat_lit 164,o0 P)::(nat_lit 166,vO P)::(nat_lit 167,yN P)::(nat_lit 168,o0 P)::(nat_lit 170,wT P)::(nat_lit 171,o0 P)::(nat_lit 173,zS P)::(nat_lit 174,xA P)::(nat_lit 175,o0 P)::(nat_lit 177,ww P)::(nat_lit 178,o0 P)::(nat_lit 180,vF P)::(nat_lit 181,vo P)::(nat_lit 182,o0 P)::(nat_lit 183,yp P)::(nat_lit 184,yV P)::(nat_lit 187,o95 P)::(nat_lit 194,o0 P)::(nat_lit 196,vZ P)::(nat_lit 197,o0 P)::(nat_lit 199,Ae P)::(nat_lit 200,zE P)::(nat_lit 201,o0 P)::(nat_lit 203,xN P)::(nat_lit 204,o0 P)::(nat_lit 206,vj P)::(nat_lit 207,xT P)::(nat_lit 208,o0 P)::(nat_lit 210,xL P)::(nat_lit 211,o0 P)::(nat_lit 213,xZ P)::(nat_lit 214,yu P)::(nat_lit 215,yc P)::(nat_lit 216,zM P)::(nat_lit 217,AE P)::(nat_lit 220,o95 P)::(nat_lit 227,o0 P)::(nat_lit 229,wt P)::(nat_lit 230,o0 P)::(nat_lit 232,Av P)::(nat_lit 233,xr P)::(nat_lit 234,o0 P)::(nat_lit 236,xX P)::(nat_lit 237,o0 P)::(nat_lit 239,zU P)::(nat_lit 240,wr P)::(nat_lit 241,o0 P)::(nat_lit 243,wS P)::(nat_lit 244,o0 P)::(nat_lit 246,wg P)::(nat_lit 247,vk P)::(nat_lit 248,yQ P)::(nat_lit 249,wK P)::(nat_lit 250,xB P)::(nat_lit 253,o95 P)::(nat_lit 260,o0 P)::(nat_lit 262,vI P)::(nat_lit 263,o0 P)::(nat_lit 265,w6 P)::(nat_lit 266,zi P)::(nat_lit 267,o0 P)::(nat_lit 269,wN P)::(nat_lit 270,o0 P)::(nat_lit 272,yj P)::(nat_lit 273,wu P)::(nat_lit 274,o0 P)::(nat_lit 276,Ax P)::(nat_lit 277,o0 P)::(nat_lit 279,vM P)::(nat_lit 280,xQ P)::(nat_lit 281,AK P)::(nat_lit 282,AD P)::(nat_lit 283,v6 P)::(nat_lit 286,o0 P)::(nat_lit 289,vX P)::(nat_lit 290,AL P)::(nat_lit 291,o0 P)::(nat_lit 293,vR P)::(nat_lit 294,o0 P)::(nat_lit 296,za P)::(nat_lit 297,Ak P)::(nat_lit 298,o0 P)::(nat_lit 300,wE P)::(nat_lit 301,o0 P)::(nat_lit 303,vm P)::(nat_lit 304,yX P)::(nat_lit 305,o0 P)::(nat_lit 307,vQ P)::(nat_lit 308,o0 P)::(nat_lit 310,xw P)::(nat_lit 311,xp P)::(nat_lit 319,o0 P)::(nat_lit 321,vz P)::(nat_lit 322,o0 P)::(nat_lit 324,Ab P)::(nat_lit 325,wU P)::(nat_lit 326,o0 P)::(nat_lit 328,zG P)::(nat_lit 329,o0 P)::(nat_lit 331,zB P)::(nat_lit 332,xS P)::(nat_lit 333,yJ P)::(nat_lit 334,zH P)::(nat_lit 335,zK P)::(nat_lit 336,vi P)::(nat_lit 337,vw P)::(nat_lit 340,o0 P)::(nat_lit 342,xz P)::(nat_lit 343,o0 P)::(nat_lit 345,xg P)::(nat_lit 346,xm P)::(nat_lit 347,o0 P)::(nat_lit 349,Af P)::(nat_lit 350,o0 P)::(nat_lit 352,xP P)::(nat_lit 353,ze P)::(nat_lit 354,o0 P)::(nat_lit 356,zw P)::(nat_lit 357,o0 P)::(nat_lit 359,vq P)::(nat_lit 360,wI P)::(nat_lit 361,o0 P)::(nat_lit 363,vV P)::(nat_lit 364,o0 P)::(nat_lit 366,Al P)::(nat_lit 367,Aq P)::(nat_lit 368,o0 P)::(nat_lit 370,zV P)::(nat_lit 371,o0 P)::(nat_lit 373,yw P)::(nat_lit 374,vY P)::(nat_lit 382,o0 P)::(nat_lit 384,AG P)::(nat_lit 385,o0 P)::(nat_lit 387,vn P)::(nat_lit 388,vE P)::(nat_lit 389,o0 P)::(nat_lit 391,vB P)::(nat_lit 392,o0 P)::(nat_lit 394,yk P)::(nat_lit 395,zx P)::(nat_lit 396,o0 P)::(nat_lit 398,Ac P)::(nat_lit 399,o0 P)::(nat_lit 401,yd P)::(nat_lit 402,zf P)::(nat_lit 403,o0 P)::(nat_lit 405,AM P)::(nat_lit 406,o0 P)::(nat_lit 408,vP P)::(nat_lit 409,yB P)::(nat_lit 410,o0 P)::(nat_lit 412,AJ P)::(nat_lit 413,o0 P)::(nat_lit 415,xG P)::(nat_lit 416,wz P)::(nat_lit 417,o0 P)::(nat_lit 419,zy P)::(nat_lit 420,o0 P)::(nat_lit 422,zT P)::(nat_lit 423,wL P)::(nat_lit 424,o0 P)::(nat_lit 426,wC P)::(nat_lit 427,o0 P)::(nat_lit 429,yy P)::(nat_lit 430,wf P)::(nat_lit 431,o0 P)::(nat_lit 433,Ar P)::(nat_lit 434,o0 P)::(nat_lit 436,yG P)::(nat_lit 437,wa P)::(nat_lit 438,o0 P)::(nat_lit 440,wY P)::(nat_lit 441,o0 P)::(nat_lit 443,ym P)::(nat_lit 444,zP P)::(nat_lit 445,yZ P)::(nat_lit 446,ye P)::(nat_lit 447,As P)::(nat_lit 448,xa P)::(nat_lit 449,yg P)::(nat_lit 452,o0 P)::(nat_lit 454,zk P)::(nat_lit 455,o0 P)::(nat_lit 457,xD P)::(nat_lit 458,At P)::(nat_lit 459,o0 P)::(nat_lit 461,xf P)::(nat_lit 462,o0 P)::(nat_lit 464,z0 P)::(nat_lit 465,AA P)::(nat_lit 466,o0 P)::(nat_lit 468,xc P)::(nat_lit 469,o0 P)::(nat_lit 471,v9 P)::(nat_lit 472,vh P)::(nat_lit 473,o0 P)::(nat_lit 476,vW P)::(nat_lit 477,yh P)::(nat_lit 478,o0 P)::(nat_lit 480,vD P)::(nat_lit 481,o0 P)::(nat_lit 483,yz P)::(nat_lit 484,Ao P)::(nat_lit 485,o0 P)::(nat_lit 487,Ad P)::(nat_lit 488,o0 P)::(nat_lit 490,wX P)::(nat_lit 491,yq P)::(nat_lit 492,o0 P)::(nat_lit 494,xC P)::(nat_lit 495,o0 P)::(nat_lit 497,AI P)::(nat_lit 498,AF P)::(nat_lit 499,o0 P)::(nat_lit 502,wH P)::(nat_lit 503,z7 P)::(nat_lit 504,o0 P)::(nat_lit 506,wm P)::(nat_lit 507,o0 P)::(nat_lit 509,xE P)::(nat_lit 510,z9 P)::(nat_lit 511,o0 P)::(nat_lit 514,vG P)::(nat_lit 515,ve P)::(nat_lit 516,o0 P)::(nat_lit 518,wR P)::(nat_lit 519,o0 P)::(nat_lit 521,wj P)::(nat_lit 522,wG P)::(nat_lit 523,o0 P)::(nat_lit 526,Ai P)::(nat_lit 527,xJ P)::[]
noncomputable def as:List Addr:=[2,3,15,17,18,20,21,22,29,30,31,32,35,42,43,44,47,54,55,56,59,66,67,68,71,78,79,80,83,90,91,92,95,102,104,105,107,108,109,110,111,114,121,122,123,126,128,129,131,132,140,142,143,145,146,147,148,149,150,151,154,161,163,164,166,167,168,170,171,173,174,175,177,178,180,181,182,183,184,187,194,196,197,199,200,201,203,204,206,207,208,210,211,213,214,215,216,217,220,227,229,230,232,233,234,236,237,239,240,241,243,244,246,247,248,249,250,253,260,262,263,265,266,267,269,270,272,273,274,276,277,279,280,281,282,283,286,289,290,291,293,294,296,297,298,300,301,303,304,305,307,308,310,311,319,321,322,324,325,326,328,329,331,332,333,334,335,336,337,340,342,343,345,346,347,349,350,352,353,354,356,357,359,360,361,363,364,366,367,368,370,371,373,374,382,384,385,387,388,389,391,392,394,395,396,398,399,401,402,403,405,406,408,409,410,412,413,415,416,417,419,420,422,423,424,426,427,429,430,431,433,434,436,437,438,440,441,443,444,445,446,447,448,449,452,454,455,457,458,459,461,462,464,465,466,468,469,471,472,473,476,477,478,480,481,483,484,485,487,488,490,491,492,494,495,497,498,499,502,503,504,506,507,509,510,511,514,515,516,518,519,521,522,523,526,527]
theorem as_eq:∀P,as=(K P).map (·.1):=fun P=>by kernel_rfl
noncomputable def h1(P:Params):Heap:=absHeap (t2 P) 528 {}
noncomputable def f1(w:World)(os:OsState):Shared:=⟨h1 w.params,⟨[]⟩,{},892,os⟩
noncomputable def Xt(s:Shared):Bool:=xlAt view [] s&&recOk (RowW.records PySem.Challenge.rw_driftmeet_k18_the_first_fault.row.toRowW) s
theorem lk1:∀w:World,(fun os=>(staticsOk (importedModules pw.main.body) (boot_heap w.params) (h1 w.params)&&namesBound pw (h1 w.params)&&gensDone (f1 w os)&&laidKept (boot_heap w.params) (h1 w.params)))=fun _=>true:=fun w=>by kernel_rfl
theorem lk2:∀w:World,(fun os=>openSeen view loose (importedModules pw.main.body) Xt true (f1 w os))=fun _=>openGood view loose:=fun w=>by kernel_rfl
theorem lk3:∀w:World,(fun os=>(Hook.obs (kHook K as as_eq)) (f1 w os))=fun _=>(Hook.val (kHook K as as_eq)) w:=fun w=>by kernel_rfl
theorem left:LeftO pw view loose Xt (Hook.obs (kHook K as as_eq)) (Hook.val (kHook K as as_eq)) 9500:=LeftO.of_pieces (boot_open (by kernel_rfl) (by decide) (fun s=>by kernel_rfl)) (H₀:=boot_heap) (H₁:=h1) (gs₀:=⟨[]⟩) (m₀:=11) (ann:=an) (M:=12+(1+(4688+(2)))) (fun w=>by kernel_rfl) (fun w os=>run w os) (by decide) fun w=>funext fun os=>looks_pair (congrFun (lk1 w) os) (looks_pair (congrFun (lk2 w) os) (congrFun (lk3 w) os))
end HD
namespace G
open PySem L2
noncomputable def top(i:Nat):Stmt:=PySem.Challenge.pw_driftmeet_k18_the_first_fault.main.body.getD i (.Pass ⟨0,0,0,0⟩)
noncomputable def bP:ISs:=.cons (.ret (.and (.isB (.var 0) .int) (.not (.isB (.var 0) .bool)))) (.nil)
noncomputable def av:ISs:=.cons (.fset (.var 0) 211529960 (.var 1)) (.cons (.fset (.var 0) 456806758904562 (.var 2)) (.nil))
noncomputable def bT:ISs:=.cons (.expr (.ini 0 (.cons (.var 0) (.cons (.var 1) (.cons (.var 2) (.nil)))))) (.nil)
noncomputable def iE:ISs:=.cons (.dead) (.nil)
noncomputable def bJ:ISs:=.cons (.expr (.ini 0 (.cons (.var 0) (.cons (.var 1) (.cons (.var 2) (.nil)))))) (.cons (.fset (.var 0) 32709062885 (.var 3)) (.cons (.fset (.var 0) 213725420 (.var 4)) (.nil)))
noncomputable def gJ:ISs:=.cons (.dead) (.nil)
noncomputable def bW:ISs:=.cons (.expr (.ini 0 (.cons (.var 0) (.cons (.var 1) (.cons (.var 2) (.nil)))))) (.cons (.fset (.var 0) 14324 (.var 3)) (.nil))
noncomputable def iV:ISs:=.cons (.dead) (.nil)
noncomputable def bS:ISs:=.cons (.expr (.ini 0 (.cons (.var 0) (.cons (.var 1) (.cons (.var 2) (.nil)))))) (.cons (.fset (.var 0) 3944367338220 (.var 3)) (.nil))
noncomputable def iF:ISs:=.cons (.dead) (.nil)
noncomputable def bL:ISs:=.cons (.ret (.and (.cmp .Eq (.bi .len (.cons (.var 0) (.nil))) (.var 1)) (.bi .all (.cons (.comp true ["thing"] [none] (.name 0) (.seq (.var 0)) (.no) (.call 0 (.cons (.var 0) (.nil)))) (.nil))))) (.nil)
noncomputable def cg:ISs:=.cons (.ret (.and (.isB (.var 0) .tuple) (.call 10 (.cons (.var 0) (.cons (.con (.int 2)) (.nil)))))) (.nil)
noncomputable def aA:ISs:=.cons (.ifs (.or (.not (.val (.isB (.var 0) .tuple))) (.cmp .Eq (.bi .len (.cons (.var 0) (.nil))) (.con (.int 0)))) (.cons (.raise 5 (.cons (.con (.str "a row is a tuple that begins with a word")) (.nil))) (.nil)) (.nil)) (.cons (.set 1 (.ix (.var 0) (.con (.int 0)))) (.cons (.ifs (.and (.cmp .Eq (.var 1) (.con (.str "look"))) (.val (.call 10 (.cons (.sl true (.var 0) (.yes (.con (.int 1))) (.no)) (.cons (.con (.int 2)) (.nil)))))) (.cons (.ret (.make true 1 (.cons (.ix (.var 0) (.con (.int 1))) (.cons (.ix (.var 0) (.con (.int 2))) (.nil))))) (.nil)) (.nil)) (.cons (.ifs (.and (.cmp .Eq (.var 1) (.con (.str "sight"))) (.val (.call 10 (.cons (.sl true (.var 0) (.yes (.con (.int 1))) (.no)) (.cons (.con (.int 4)) (.nil)))))) (.cons (.ret (.make true 2 (.cons (.ix (.var 0) (.con (.int 1))) (.cons (.ix (.var 0) (.con (.int 2))) (.cons (.ix (.var 0) (.con (.int 3))) (.cons (.ix (.var 0) (.con (.int 4))) (.nil))))))) (.nil)) (.nil)) (.cons (.ifs (.and (.cmp .Eq (.var 1) (.con (.str "send"))) (.val (.call 10 (.cons (.sl true (.var 0) (.yes (.con (.int 1))) (.no)) (.cons (.con (.int 3)) (.nil)))))) (.cons (.ret (.make true 3 (.cons (.ix (.var 0) (.con (.int 1))) (.cons (.ix (.var 0) (.con (.int 2))) (.cons (.ix (.var 0) (.con (.int 3))) (.nil)))))) (.nil)) (.nil)) (.cons (.ifs (.and (.cmp .Eq (.var 1) (.con (.str "take"))) (.and (.val (.call 10 (.cons (.sl true (.var 0) (.yes (.con (.int 1))) (.yes (.con (.int 3)))) (.cons (.con (.int 2)) (.nil))))) (.and (.cmp .Eq (.bi .len (.cons (.var 0) (.nil))) (.con (.int 4))) (.val (.call 11 (.cons (.ix (.var 0) (.con (.int 3))) (.nil))))))) (.cons (.ret (.make true 4 (.cons (.ix (.var 0) (.con (.int 1))) (.cons (.ix (.var 0) (.con (.int 2))) (.cons (.ix (.var 0) (.con (.int 3))) (.nil)))))) (.nil)) (.nil)) (.cons (.raise 5 (.cons (.con (.str "the row tells none of the four kinds")) (.nil))) (.nil)))))))
noncomputable def de:ISs:=.cons (.set 2 (.bm .get (.var 0) (.cons (.var 1) (.cons (.con (.int 0)) (.nil))))) (.cons (.ixset (.var 0) (.var 1) (.bin .Add (.var 2) (.con (.int 1)))) (.cons (.ret (.tup (.cons (.var 1) (.cons (.var 2) (.nil))))) (.nil)))
noncomputable def bF:ISs:=.cons (.fset (.var 0) 3982741043171 (.dnew false)) (.cons (.fset (.var 0) 65196051402355442 (.dnew false)) (.cons (.fset (.var 0) 487284377728885 (.dnew true)) (.nil)))
noncomputable def bV:ISs:=.cons (.set 2 (.call 13 (.cons (.fld (.var 0) 3982741043171) (.cons (.fld (.var 1) 211529960) (.nil))))) (.cons (.ixset (.fld (.var 0) 65196051402355442) (.fld (.var 1) 211529960) (.fld (.var 1) 456806758904562)) (.cons (.ifs (.val (.isK (.var 1) 3)) (.cons (.ixset (.fld (.var 0) 487284377728885) (.var 2) (.fld (.var 1) 14324)) (.nil)) (.nil)) (.cons (.ifs (.val (.isK (.var 1) 4)) (.cons (.expr (.bm .popd (.fld (.var 0) 487284377728885) (.cons (.fld (.var 1) 3944367338220) (.nil)))) (.nil)) (.nil)) (.nil))))
noncomputable def aW:ISs:=.cons (.ifs (.not (.val (.meth (.var 0) 56782141471387880 (.cons (.fld (.var 2) 211529960) (.nil))))) (.cons (.raise 2 (.cons (.con (.str "the world has no such hand")) (.nil))) (.nil)) (.nil)) (.cons (.set 3 (.bm .get (.fld (.var 1) 65196051402355442) (.cons (.fld (.var 2) 211529960) (.nil)))) (.cons (.ifs (.and (.cmp .IsNot (.var 3) (.con .non)) (.cmp .Lt (.fld (.var 2) 456806758904562) (.var 3))) (.cons (.raiseI 6 (.cons (.var 3) (.nil))) (.nil)) (.nil)) (.nil)))
noncomputable def bg:ISs:=.cons (.ifs (.and (.val (.isK (.var 2) 2)) (.cmp .Gt (.fld (.var 2) 32709062885) (.fld (.var 2) 213725420))) (.cons (.raise 1 (.cons (.con (.str "early is above late")) (.nil))) (.nil)) (.nil)) (.cons (.ifs (.and (.val (.isK (.var 2) 3)) (.not (.val (.meth (.var 0) 535528667410664 (.cons (.fld (.var 2) 211529960) (.cons (.fld (.var 2) 14324) (.nil))))))) (.cons (.raise 4 (.cons (.con (.str "no way leads to the hand to which the letter is sent")) (.nil))) (.nil)) (.nil)) (.cons (.ifs (.and (.val (.isK (.var 2) 4)) (.cmp .NotEq (.bm .get (.fld (.var 1) 487284377728885) (.cons (.fld (.var 2) 3944367338220) (.nil))) (.fld (.var 2) 211529960))) (.cons (.raise 7 (.cons (.con (.str "no such letter waits for this hand")) (.nil))) (.nil)) (.nil)) (.nil)))
noncomputable def aL:ISs:=.cons (.set 4 (.call 12 (.cons (.var 3) (.nil)))) (.cons (.expr (.call 16 (.cons (.var 0) (.cons (.var 2) (.cons (.var 4) (.nil)))))) (.cons (.expr (.call 17 (.cons (.var 0) (.cons (.var 2) (.cons (.var 4) (.nil)))))) (.cons (.expr (.meth (.var 2) 30815369061 (.cons (.var 4) (.nil)))) (.nil))))
noncomputable def g8:ISs:=.cons (.set 2 (.make false 5 (.nil))) (.cons (.for_ (.name 3) (.seq (.var 1)) aL) (.nil))
noncomputable def bI:ISs:=.cons (.ifs (.cmp .Lt (.var 0) (.con (.int 1))) (.cons (.raise 3 (.cons (.con (.str "short is below 1")) (.nil))) (.nil)) (.nil)) (.cons (.ifs (.cmp .Lt (.var 1) (.var 0)) (.cons (.raise 3 (.cons (.con (.str "long is below short")) (.nil))) (.nil)) (.nil)) (.nil))
noncomputable def bj:ISs:=.cons (.ifs (.cmp .Lt (.var 0) (.con (.int 0))) (.cons (.raise 4 (.cons (.con (.str "least is below nought")) (.nil))) (.nil)) (.nil)) (.cons (.ifs (.and (.cmp .IsNot (.var 1) (.con .non)) (.cmp .Lt (.var 1) (.var 0))) (.cons (.raise 4 (.cons (.con (.str "most is below least")) (.nil))) (.nil)) (.nil)) (.nil))
noncomputable def bG:ISs:=.cons (.expr (.call 19 (.cons (.var 3) (.cons (.var 4) (.nil))))) (.nil)
noncomputable def bM:ISs:=.cons (.expr (.meth (.var 0) 8774101686596482917 (.cons (.var 5) (.cons (.var 6) (.cons (.var 7) (.cons (.var 8) (.nil))))))) (.nil)
noncomputable def bH:ISs:=.cons (.ifs (.or (.cmp .Lt (.bi .len (.cons (.var 1) (.nil))) (.con (.int 1))) (.cmp .Gt (.bi .len (.cons (.var 1) (.nil))) (.glo 0))) (.cons (.raise 2 (.cons (.con (.str "a world has one to six hands")) (.nil))) (.nil)) (.nil)) (.cons (.for_ (.tup [3,4]) (.seq (.var 1)) bG) (.cons (.fset (.var 0) 136762133858116729320171 (.bi (.list false) (.cons (.var 1) (.nil)))) (.cons (.fset (.var 0) 8355170983792620267 (.dnew true)) (.cons (.for_ (.tup [5,6,7,8]) (.seq (.var 2)) bM) (.nil)))))
noncomputable def aX:ISs:=.cons (.expr (.meth (.var 0) 135562951883986971505394 (.cons (.var 1) (.cons (.var 2) (.nil))))) (.cons (.ifs (.cmp .In (.tup (.cons (.var 1) (.cons (.var 2) (.nil)))) (.fld (.var 0) 8355170983792620267)) (.cons (.raise 4 (.cons (.con (.str "this way was told ahead")) (.nil))) (.nil)) (.nil)) (.cons (.expr (.call 20 (.cons (.var 3) (.cons (.var 4) (.nil))))) (.cons (.ixset (.fld (.var 0) 8355170983792620267) (.tup (.cons (.var 1) (.cons (.var 2) (.nil)))) (.tup (.cons (.var 3) (.cons (.var 4) (.nil))))) (.nil))))
noncomputable def aM:ISs:=.cons (.ifs (.not (.val (.meth (.var 0) 56782141471387880 (.cons (.var 1) (.nil))))) (.cons (.raise 2 (.cons (.con (.str "the world has no such hand")) (.nil))) (.nil)) (.nil)) (.nil)
noncomputable def aN:ISs:=.cons (.expr (.meth (.var 0) 119080781550527859766002 (.cons (.var 1) (.nil)))) (.cons (.expr (.meth (.var 0) 119080781550527859766002 (.cons (.var 2) (.nil)))) (.cons (.ifs (.cmp .Eq (.var 1) (.var 2)) (.cons (.raise 2 (.cons (.con (.str "a way leads to another hand")) (.nil))) (.nil)) (.nil)) (.nil)))
noncomputable def bo:ISs:=.cons (.ret (.bi .len (.cons (.fld (.var 0) 136762133858116729320171) (.nil)))) (.nil)
noncomputable def aQ:ISs:=.cons (.ret (.chain .LtE .Lt (.con (.int 0)) (.var 1) (.meth (.var 0) 31081607400 (.nil)))) (.nil)
noncomputable def bt:ISs:=.cons (.ret (.cmp .In (.tup (.cons (.var 1) (.cons (.var 2) (.nil)))) (.fld (.var 0) 8355170983792620267))) (.nil)
noncomputable def gB:ISs:=.cons (.dead) (.cons (.dead) (.cons (.dead) (.nil)))
noncomputable def bq:ISs:=.cons (.ifs (.cmp .Lt (.var 1) (.bi .len (.cons (.var 0) (.nil)))) (.cons (.ret (.ix (.var 0) (.var 1))) (.nil)) (.nil)) (.cons (.ret (.con (.int 0))) (.nil))
noncomputable def bR:ISs:=.cons (.set 3 (.bin .Mod (.bin .Add (.bin .Add (.bin .Mult (.var 3) (.var 3)) (.bin .Mult (.con (.int 48271)) (.var 3))) (.var 5)) (.con (.int 2147483647)))) (.cons (.ifs (.and (.cmp .NotEq (.var 4) (.var 5)) (.cmp .Gt (.bin .Mod (.var 3) (.con (.int 3))) (.con (.int 0)))) (.cons (.app (.var 2) (.tup (.cons (.var 4) (.cons (.var 5) (.nil))))) (.nil)) (.nil)) (.nil))
noncomputable def bQ:ISs:=.cons (.for_ (.name 5) (.rng1 (.var 0)) bR) (.nil)
noncomputable def db:ISs:=.cons (.set 2 (.lst false (.nil))) (.cons (.set 3 (.bin .Add (.bin .Mod (.var 1) (.con (.int 2147483647))) (.con (.int 48271)))) (.cons (.for_ (.name 4) (.rng1 (.var 0)) bQ) (.cons (.ret (.frz (.var 2))) (.nil))))
noncomputable def aP:ISs:=.cons (.set 5 (.bin .Mod (.bin .FloorDiv (.var 4) (.con (.int 6))) (.con (.int 7)))) (.cons (.ifs (.or (.cmp .Lt (.var 5) (.con (.int 2))) (.and (.cmp .Eq (.var 5) (.con (.int 2))) (.cmp .Eq (.var 2) (.lst true (.nil))))) (.cons (.ret (.tup (.cons (.con (.str "look")) (.cons (.ix (.var 0) (.con (.int 0))) (.cons (.var 1) (.nil)))))) (.nil)) (.nil)) (.cons (.ifs (.and (.cmp .Gt (.var 5) (.con (.int 3))) (.cmp .NotEq (.var 3) (.lst true (.nil)))) (.cons (.ret (.tup (.cons (.con (.str "take")) (.cons (.ix (.var 0) (.con (.int 0))) (.cons (.var 1) (.cons (.ix (.var 3) (.bin .Mod (.bin .FloorDiv (.var 4) (.con (.int 42))) (.bi .len (.cons (.var 3) (.nil))))) (.nil))))))) (.nil)) (.nil)) (.cons (.ifs (.cmp .NotEq (.var 2) (.lst true (.nil))) (.cons (.ret (.tup (.cons (.con (.str "send")) (.cons (.ix (.var 0) (.con (.int 0))) (.cons (.var 1) (.cons (.ix (.var 2) (.bin .Mod (.bin .FloorDiv (.var 4) (.con (.int 42))) (.bi .len (.cons (.var 2) (.nil))))) (.nil))))))) (.nil)) (.nil)) (.cons (.set 6 (.bin .Sub (.bin .Mod (.bin .FloorDiv (.var 4) (.con (.int 42))) (.bin .Pow (.con (.int 10)) (.con (.int 30)))) (.con (.int 500)))) (.cons (.ret (.tup (.cons (.con (.str "sight")) (.cons (.ix (.var 0) (.con (.int 0))) (.cons (.var 1) (.cons (.var 6) (.cons (.bin .Add (.var 6) (.bin .Mod (.bin .FloorDiv (.var 4) (.con (.int 5))) (.con (.int 3)))) (.nil)))))))) (.nil))))))
noncomputable def cx:ISs:=.cons (.set 8 (.bin .Mod (.var 7) (.var 0))) (.cons (.ixset (.var 3) (.var 8) (.bin .Add (.ix (.var 3) (.var 8)) (.ix (.lst true (.cons (.con (.int 0)) (.cons (.con (.int 1)) (.cons (.bin .Mod (.bin .FloorDiv (.var 7) (.con (.int 42))) (.con (.int 50))) (.cons (.bin .Mod (.bin .FloorDiv (.var 7) (.con (.int 42))) (.bin .Pow (.con (.int 10)) (.con (.int 30)))) (.nil)))))) (.bin .Mod (.bin .FloorDiv (.var 7) (.con (.int 7))) (.con (.int 4)))))) (.cons (.set 9 (.tup (.cons (.var 8) (.cons (.ix (.var 4) (.var 8)) (.nil))))) (.cons (.set 10 (.comp true ["_law_one","_law_other","_law_hand"] [none,none,some 8] (.tup [0,1]) (.seq (.var 1)) (.yes (.cmp .Eq (.var 0) (.var 2))) (.var 1))) (.cons (.set 11 (.comp true ["_law_name","_law_to","_law_hand"] [none,none,some 8] (.tup [0,1]) (.seq (.var 5)) (.yes (.cmp .Eq (.var 1) (.var 2))) (.var 0))) (.cons (.set 12 (.call 31 (.cons (.var 9) (.cons (.ix (.var 3) (.var 8)) (.cons (.var 10) (.cons (.var 11) (.cons (.var 7) (.nil)))))))) (.cons (.ifs (.cmp .Eq (.ix (.var 12) (.con (.int 0))) (.con (.str "send"))) (.cons (.app (.var 5) (.tup (.cons (.var 9) (.cons (.ix (.var 12) (.con (.int 3))) (.nil))))) (.nil)) (.nil)) (.cons (.ifs (.cmp .Eq (.ix (.var 12) (.con (.int 0))) (.con (.str "take"))) (.cons (.set 5 (.comp false ["_law_pair","_law_row_here"] [none,some 12] (.name 0) (.seq (.var 5)) (.yes (.cmp .NotEq (.ix (.var 0) (.con (.int 0))) (.ix (.var 1) (.con (.int 3))))) (.var 0))) (.nil)) (.nil)) (.cons (.ixset (.var 4) (.var 8) (.bin .Add (.ix (.var 4) (.var 8)) (.con (.int 1)))) (.cons (.app (.var 6) (.var 12)) (.nil))))))))))
noncomputable def d7:ISs:=.cons (.set 3 (.comp false ["_law_k","_law_cells"] [none,some 2] (.name 0) (.rng1 (.var 0)) (.no) (.ifx (.cmp .Lt (.var 0) (.bi .len (.cons (.var 1) (.nil)))) (.bin .Sub (.bin .Mod (.ix (.var 1) (.var 0)) (.con (.int 2001))) (.con (.int 1000))) (.con (.int 0))))) (.cons (.set 4 (.rep false (.lst true (.cons (.con (.int 0)) (.nil))) (.var 0))) (.cons (.set 5 (.lst false (.nil))) (.cons (.set 6 (.lst false (.nil))) (.cons (.for_ (.name 7) (.seq (.var 2)) cx) (.cons (.ret (.var 6)) (.nil))))))
noncomputable def dC:ISs:=.cons (.set 1 (.dlg [("look",3),("sight",5),("send",4),("take",4)] (.cons (.ix (.var 0) (.con (.int 0))) (.cons (.con (.int 0)) (.nil))))) (.cons (.ret (.and (.cmp .Eq (.bi .len (.cons (.var 0) (.nil))) (.var 1)) (.cmp .NotIn (.con .non) (.var 0)))) (.nil))
noncomputable def cu:ISs:=.cons (.set 3 (.bin .Mod (.var 2) (.con (.int 9)))) (.cons (.set 4 (.bin .Mod (.bin .FloorDiv (.var 2) (.con (.int 9))) (.bi .len (.cons (.var 0) (.nil))))) (.cons (.set 5 (.ix (.var 0) (.var 4))) (.cons (.set 6 (.bin .Mod (.bin .FloorDiv (.var 2) (.con (.int 11))) (.bin .Pow (.con (.int 10)) (.con (.int 9))))) (.cons (.ifs (.not (.val (.call 33 (.cons (.var 5) (.nil))))) (.cons (.retN) (.nil)) (.nil)) (.cons (.ifs (.cmp .Eq (.var 3) (.con (.int 1))) (.cons (.set 7 (.ix (.lst true (.cons (.neg (.con (.int 1))) (.cons (.var 1) (.cons (.bin .Add (.var 1) (.var 6)) (.cons (.bin .Sub (.neg (.con (.int 1))) (.var 6)) (.cons (.bin .Mod (.var 6) (.var 1)) (.nil))))))) (.bin .Mod (.bin .FloorDiv (.var 2) (.con (.int 13))) (.con (.int 5))))) (.cons (.ixset (.var 0) (.var 4) (.cat true (.cat true (.sl true (.var 5) (.no) (.yes (.con (.int 1)))) (.tup (.cons (.var 7) (.nil)))) (.sl true (.var 5) (.yes (.con (.int 2))) (.no)))) (.nil))) (.nil)) (.cons (.ifs (.cmp .Eq (.var 3) (.con (.int 2))) (.cons (.ixset (.var 0) (.var 4) (.cat true (.cat true (.sl true (.var 5) (.no) (.yes (.con (.int 2)))) (.tup (.cons (.bin .Sub (.bin .Sub (.ix (.var 5) (.con (.int 2))) (.con (.int 1))) (.ix (.lst true (.cons (.con (.int 0)) (.cons (.var 6) (.cons (.bin .Pow (.con (.int 10)) (.con (.int 40))) (.nil))))) (.bin .Mod (.bin .FloorDiv (.var 2) (.con (.int 13))) (.con (.int 3))))) (.nil)))) (.sl true (.var 5) (.yes (.con (.int 3))) (.no)))) (.nil)) (.nil)) (.cons (.ifs (.cmp .Eq (.var 3) (.con (.int 3))) (.cons (.ixset (.var 0) (.var 4) (.tup (.cons (.con (.str "sight")) (.cons (.ix (.var 5) (.con (.int 1))) (.cons (.ix (.var 5) (.con (.int 2))) (.cons (.var 6) (.cons (.bin .Sub (.var 6) (.bin .Mult (.bin .Mod (.bin .FloorDiv (.var 2) (.con (.int 13))) (.con (.int 3))) (.bin .Add (.con (.int 1)) (.var 6)))) (.nil)))))))) (.nil)) (.nil)) (.cons (.ifs (.cmp .Eq (.var 3) (.con (.int 4))) (.cons (.ixset (.var 0) (.var 4) (.tup (.cons (.con (.str "send")) (.cons (.ix (.var 5) (.con (.int 1))) (.cons (.ix (.var 5) (.con (.int 2))) (.cons (.bin .Sub (.bin .Mod (.bin .FloorDiv (.var 2) (.con (.int 13))) (.con (.int 9))) (.con (.int 1))) (.nil))))))) (.nil)) (.nil)) (.cons (.ifs (.cmp .Eq (.var 3) (.con (.int 5))) (.cons (.ixset (.var 0) (.var 4) (.tup (.cons (.con (.str "take")) (.cons (.ix (.var 5) (.con (.int 1))) (.cons (.ix (.var 5) (.con (.int 2))) (.cons (.tup (.cons (.bin .Sub (.bin .Mod (.bin .FloorDiv (.var 2) (.con (.int 13))) (.con (.int 8))) (.con (.int 1))) (.cons (.bin .Sub (.bin .Mod (.bin .FloorDiv (.var 2) (.con (.int 17))) (.con (.int 12))) (.con (.int 1))) (.nil)))) (.nil))))))) (.nil)) (.nil)) (.cons (.ifs (.cmp .Eq (.var 3) (.con (.int 6))) (.cons (.expr (.bm .insert (.var 0) (.cons (.var 4) (.cons (.var 5) (.nil))))) (.nil)) (.nil)) (.cons (.ifs (.cmp .Eq (.var 3) (.con (.int 7))) (.cons (.set 8 (.bin .Mod (.bin .FloorDiv (.var 2) (.con (.int 13))) (.bi .len (.cons (.var 5) (.nil))))) (.cons (.ixset (.var 0) (.var 4) (.ix (.lst true (.cons (.sl true (.var 5) (.no) (.yes (.neg (.con (.int 1))))) (.cons (.cat true (.cat true (.sl true (.var 5) (.no) (.yes (.var 8))) (.tup (.cons (.con .non) (.nil)))) (.sl true (.var 5) (.yes (.bin .Add (.var 8) (.con (.int 1)))) (.no))) (.nil)))) (.bin .Mod (.bin .FloorDiv (.var 2) (.con (.int 90))) (.con (.int 2))))) (.nil))) (.nil)) (.nil))))))))))))
noncomputable def bp:ISs:=.cons (.ifs (.cmp .Eq (.ix (.ix (.var 0) (.var 4)) (.con (.int 1))) (.ix (.var 2) (.con (.int 0)))) (.cons (.ifs (.cmp .Eq (.var 3) (.ix (.var 2) (.con (.int 1)))) (.cons (.ret (.ix (.var 0) (.var 4))) (.nil)) (.nil)) (.cons (.set 3 (.bin .Add (.var 3) (.con (.int 1)))) (.nil))) (.nil)) (.nil)
noncomputable def dB:ISs:=.cons (.set 3 (.con (.int 0))) (.cons (.for_ (.name 4) (.rng1 (.var 1)) bp) (.cons (.ret (.tup (.cons (.con (.str "look")) (.cons (.ix (.var 2) (.con (.int 0))) (.cons (.con (.int 0)) (.nil)))))) (.nil)))
noncomputable def b8:ISs:=.cons (.set 4 (.ix (.var 0) (.var 1))) (.cons (.ifs (.not (.val (.call 33 (.cons (.var 4) (.nil))))) (.cons (.ret (.tup (.cons (.con (.str "row")) (.cons (.con .non) (.nil))))) (.nil)) (.nil)) (.cons (.ifs (.or (.cmp .Lt (.ix (.var 4) (.con (.int 1))) (.con (.int 0))) (.cmp .GtE (.ix (.var 4) (.con (.int 1))) (.var 2))) (.cons (.ret (.tup (.cons (.con (.str "hand")) (.cons (.con .non) (.nil))))) (.nil)) (.nil)) (.cons (.set 5 (.comp true ["_law_other","_law_row_here"] [none,some 4] (.name 0) (.seq (.sl true (.var 0) (.no) (.yes (.var 1)))) (.yes (.cmp .Eq (.ix (.var 0) (.con (.int 1))) (.ix (.var 1) (.con (.int 1))))) (.ix (.var 0) (.con (.int 2))))) (.cons (.ifs (.and (.cmp .NotEq (.var 5) (.lst true (.nil))) (.cmp .Lt (.ix (.var 4) (.con (.int 2))) (.ix (.var 5) (.neg (.con (.int 1)))))) (.cons (.ret (.tup (.cons (.con (.str "back")) (.cons (.ix (.var 5) (.neg (.con (.int 1)))) (.nil))))) (.nil)) (.nil)) (.cons (.ifs (.and (.cmp .Eq (.ix (.var 4) (.con (.int 0))) (.con (.str "sight"))) (.cmp .Gt (.ix (.var 4) (.con (.int 3))) (.ix (.var 4) (.con (.int 4))))) (.cons (.ret (.tup (.cons (.con (.str "ends")) (.cons (.con .non) (.nil))))) (.nil)) (.nil)) (.cons (.ifs (.and (.cmp .Eq (.ix (.var 4) (.con (.int 0))) (.con (.str "send"))) (.cmp .NotIn (.tup (.cons (.ix (.var 4) (.con (.int 1))) (.cons (.ix (.var 4) (.con (.int 3))) (.nil)))) (.var 3))) (.cons (.ret (.tup (.cons (.con (.str "way")) (.cons (.con .non) (.nil))))) (.nil)) (.nil)) (.cons (.ifs (.cmp .Eq (.ix (.var 4) (.con (.int 0))) (.con (.str "take"))) (.cons (.set 6 (.call 35 (.cons (.var 0) (.cons (.var 1) (.cons (.ix (.var 4) (.con (.int 3))) (.nil)))))) (.cons (.set 7 (.comp true ["_law_other","_law_row_here"] [none,some 4] (.name 0) (.seq (.sl true (.var 0) (.no) (.yes (.var 1)))) (.yes (.and (.cmp .Eq (.ix (.var 0) (.con (.int 0))) (.con (.str "take"))) (.cmp .Eq (.ix (.var 0) (.con (.int 3))) (.ix (.var 1) (.con (.int 3)))))) (.var 0))) (.cons (.ifs (.or (.cmp .NotEq (.ix (.var 6) (.con (.int 0))) (.con (.str "send"))) (.or (.cmp .NotEq (.ix (.var 6) (.con (.int 3))) (.ix (.var 4) (.con (.int 1)))) (.cmp .NotEq (.var 7) (.lst true (.nil))))) (.cons (.ret (.tup (.cons (.con (.str "letter")) (.cons (.con .non) (.nil))))) (.nil)) (.nil)) (.nil)))) (.nil)) (.cons (.ret (.tup (.cons (.con (.str "fine")) (.cons (.con .non) (.nil))))) (.nil)))))))))
noncomputable def bN:ISs:=.cons (.set 4 (.call 36 (.cons (.var 0) (.cons (.var 3) (.cons (.var 1) (.cons (.var 2) (.nil))))))) (.cons (.ifs (.cmp .NotEq (.ix (.var 4) (.con (.int 0))) (.con (.str "fine"))) (.cons (.ret (.var 4)) (.nil)) (.nil)) (.nil))
noncomputable def cX:ISs:=.cons (.for_ (.name 3) (.rng1 (.bi .len (.cons (.var 0) (.nil)))) bN) (.cons (.ret (.tup (.cons (.con (.str "fine")) (.cons (.con .non) (.nil))))) (.nil))
noncomputable def cN:ISs:=.cons (.ret (.comp true ["_law_other","_law_word"] [none,some 0] (.name 0) (.seq (.lst true (.cons (.con (.str "row")) (.cons (.con (.str "hand")) (.cons (.con (.str "back")) (.cons (.con (.str "ends")) (.cons (.con (.str "way")) (.cons (.con (.str "letter")) (.nil))))))))) (.no) (.cmp .Eq (.var 1) (.var 0)))) (.nil)
noncomputable def bK:ISs:=.cons (.set 2 (.con .non)) (.cons (.set 3 (.con .non)) (.cons (.set 4 (.call 38 (.cons (.con (.str "fine")) (.nil)))) (.cons (.try_ (.cons (.set 2 (.call 18 (.cons (.var 0) (.cons (.var 1) (.nil))))) (.nil)) (.cons 6 (some 5) (.cons (.set 3 (.xfld (.var 5) 245166316)) (.cons (.set 4 (.lst true (.cons (.isC (.var 5) 5) (.cons (.isC (.var 5) 2) (.cons (.con (.bl true)) (.cons (.isC (.var 5) 1) (.nil))))))) (.cons (.set 4 (.cat true (.var 4) (.lst true (.cons (.isC (.var 5) 4) (.cons (.isC (.var 5) 7) (.nil)))))) (.nil)))) (.cons 0 (some 5) (.cons (.set 3 (.con .non)) (.cons (.set 4 (.lst true (.cons (.isC (.var 5) 5) (.cons (.isC (.var 5) 2) (.cons (.con (.bl false)) (.cons (.isC (.var 5) 1) (.nil))))))) (.cons (.set 4 (.cat true (.var 4) (.lst true (.cons (.isC (.var 5) 4) (.cons (.isC (.var 5) 7) (.nil)))))) (.nil)))) (.nil)))) (.cons (.ret (.tup (.cons (.cmp .Is (.var 2) (.con .non)) (.cons (.var 4) (.cons (.var 3) (.nil)))))) (.nil)))))
noncomputable def fO:ISs:=.cons (.ifs (.cmp .NotEq (.var 3) (.lst true (.nil))) (.cons (.expr (.call 34 (.cons (.var 3) (.cons (.var 1) (.cons (.var 4) (.nil)))))) (.nil)) (.nil)) (.nil)
noncomputable def ol:ISs:=.cons (.set 1 (.bin .Add (.con (.int 1)) (.bin .Mod (.call 29 (.cons (.var 0) (.cons (.con (.int 0)) (.nil)))) (.con (.int 6))))) (.cons (.set 2 (.call 30 (.cons (.var 1) (.cons (.bin .FloorDiv (.call 29 (.cons (.var 0) (.cons (.con (.int 0)) (.nil)))) (.con (.int 6))) (.nil))))) (.cons (.set 3 (.call 32 (.cons (.var 1) (.cons (.var 2) (.cons (.sl true (.var 0) (.yes (.con (.int 5))) (.yes (.con (.int 60)))) (.nil)))))) (.cons (.for_ (.name 4) (.seq (.sl true (.var 0) (.yes (.con (.int 1))) (.yes (.con (.int 4))))) fO) (.cons (.set 5 (.make true 6 (.cons (.rep true (.lst true (.cons (.tup (.cons (.con (.int 1)) (.cons (.con (.int 2)) (.nil)))) (.nil))) (.var 1)) (.cons (.comp true ["_law_one","_law_other"] [none,none] (.tup [0,1]) (.seq (.var 2)) (.no) (.tup (.cons (.var 0) (.cons (.var 1) (.cons (.con (.int 0)) (.cons (.con .non) (.nil))))))) (.nil))))) (.cons (.unp [6,7] (.call 37 (.cons (.var 3) (.cons (.var 1) (.cons (.var 2) (.nil)))))) (.cons (.set 8 (.bi (.list true) (.cons (.var 3) (.nil)))) (.cons (.unp [9,10,11] (.call 39 (.cons (.var 5) (.cons (.var 8) (.nil))))) (.cons (.ifs (.or (.not (.val (.var 9))) (.or (.cmp .NotEq (.var 10) (.call 38 (.cons (.var 6) (.nil)))) (.cmp .NotEq (.var 8) (.var 3)))) (.cons (.ret (.con (.bl false))) (.nil)) (.nil)) (.cons (.ret (.and (.cmp .Eq (.var 11) (.var 7)) (.not (.isB (.var 11) .bool)))) (.nil))))))))))
noncomputable def nz:FL:={name:="is_whole",qual:="is_whole",glob:=true,cl:=true,st:=top 11,N:=["thing"],ps:=["thing"],body:=bP}
noncomputable def eT:FL:={name:="__init__",qual:="Happening.__init__",glob:=false,cl:=true,st:=ag (top 13) 0,N:=["self","hand","reading"],ps:=["self","hand","reading"],body:=av}
noncomputable def jD:FL:={name:="__init__",qual:="Look.__init__",glob:=false,cl:=true,st:=ag (top 14) 0,N:=["self","hand","reading"],ps:=["self","hand","reading"],body:=bT}
noncomputable def mY:FL:={name:="row",qual:="Look.row",glob:=false,cl:=true,st:=ag (top 14) 1,N:=["self"],ps:=["self"],body:=iE}
noncomputable def i6:FL:={name:="__init__",qual:="Sight.__init__",glob:=false,cl:=true,st:=ag (top 15) 0,N:=["self","hand","reading","early","late"],ps:=["self","hand","reading","early","late"],body:=bJ}
noncomputable def lO:FL:={name:="row",qual:="Sight.row",glob:=false,cl:=true,st:=ag (top 15) 1,N:=["self"],ps:=["self"],body:=gJ}
noncomputable def ju:FL:={name:="__init__",qual:="Send.__init__",glob:=false,cl:=true,st:=ag (top 16) 0,N:=["self","hand","reading","to"],ps:=["self","hand","reading","to"],body:=bW}
noncomputable def nA:FL:={name:="row",qual:="Send.row",glob:=false,cl:=true,st:=ag (top 16) 1,N:=["self"],ps:=["self"],body:=iV}
noncomputable def jx:FL:={name:="__init__",qual:="Take.__init__",glob:=false,cl:=true,st:=ag (top 17) 0,N:=["self","hand","reading","letter"],ps:=["self","hand","reading","letter"],body:=bS}
noncomputable def mC:FL:={name:="row",qual:="Take.row",glob:=false,cl:=true,st:=ag (top 17) 1,N:=["self"],ps:=["self"],body:=iF}
noncomputable def kn:FL:={name:="are_wholes",qual:="are_wholes",glob:=true,cl:=true,st:=top 18,N:=["things","number"],ps:=["things","number"],body:=bL}
noncomputable def lQ:FL:={name:="is_letter",qual:="is_letter",glob:=true,cl:=true,st:=top 19,N:=["thing"],ps:=["thing"],body:=cg}
noncomputable def mi:FL:={name:="happening",qual:="happening",glob:=true,cl:=true,st:=top 20,N:=["row","word"],ps:=["row"],body:=aA}
noncomputable def mJ:FL:={name:="count_on",qual:="count_on",glob:=true,cl:=true,st:=top 22,N:=["counts","hand","ahead"],ps:=["counts","hand"],body:=de}
noncomputable def i5:FL:={name:="__init__",qual:="Ahead.__init__",glob:=false,cl:=false,st:=ag (top 23) 0,N:=["self"],ps:=["self"],body:=bF}
noncomputable def jv:FL:={name:="enter",qual:="Ahead.enter",glob:=false,cl:=true,st:=ag (top 23) 1,N:=["self","one","name"],ps:=["self","one"],body:=bV}
noncomputable def fA:FL:={name:="refuse_by_clock",qual:="refuse_by_clock",glob:=true,cl:=true,st:=top 24,N:=["world","ahead","one","last"],ps:=["world","ahead","one"],body:=aW}
noncomputable def fV:FL:={name:="refuse_by_kind",qual:="refuse_by_kind",glob:=true,cl:=true,st:=top 25,N:=["world","ahead","one"],ps:=["world","ahead","one"],body:=bg}
noncomputable def tF:FL:={name:="check",qual:="check",glob:=true,cl:=true,st:=top 26,N:=["world","log","ahead","row","one"],ps:=["world","log"],body:=g8}
noncomputable def iu:FL:={name:="refuse_clock",qual:="refuse_clock",glob:=true,cl:=true,st:=top 29,N:=["short","long"],ps:=["short","long"],body:=bI}
noncomputable def gw:FL:={name:="refuse_lengths",qual:="refuse_lengths",glob:=true,cl:=true,st:=top 30,N:=["least","most"],ps:=["least","most"],body:=bj}
noncomputable def iP:FL:={name:="__init__",qual:="World.__init__",glob:=false,cl:=false,st:=ag (top 31) 0,N:=["self","clocks","ways","short","long","one","other","least","most"],ps:=["self","clocks","ways"],body:=bH}
noncomputable def fw:FL:={name:="enter_way",qual:="World.enter_way",glob:=false,cl:=true,st:=ag (top 31) 1,N:=["self","one","other","least","most"],ps:=["self","one","other","least","most"],body:=aX}
noncomputable def eD:FL:={name:="refuse_hand",qual:="World.refuse_hand",glob:=false,cl:=true,st:=ag (top 31) 2,N:=["self","hand"],ps:=["self","hand"],body:=aM}
noncomputable def et:FL:={name:="refuse_pair",qual:="World.refuse_pair",glob:=false,cl:=true,st:=ag (top 31) 3,N:=["self","one","other"],ps:=["self","one","other"],body:=aN}
noncomputable def jq:FL:={name:="hands",qual:="World.hands",glob:=false,cl:=true,st:=ag (top 31) 4,N:=["self"],ps:=["self"],body:=bo}
noncomputable def gf:FL:={name:="has_hand",qual:="World.has_hand",glob:=false,cl:=true,st:=ag (top 31) 5,N:=["self","hand"],ps:=["self","hand"],body:=aQ}
noncomputable def gX:FL:={name:="has_way",qual:="World.has_way",glob:=false,cl:=true,st:=ag (top 31) 6,N:=["self","one","other"],ps:=["self","one","other"],body:=bt}
noncomputable def ma:FL:={name:="way",qual:="World.way",glob:=false,cl:=true,st:=ag (top 31) 8,N:=["self","one","other"],ps:=["self","one","other"],body:=gB}
noncomputable def jr:FL:={name:="_law_cell_at",qual:="_law_cell_at",glob:=true,cl:=true,st:=top 33,N:=["_law_script","_law_k"],ps:=["_law_script","_law_k"],body:=bq}
noncomputable def m9:FL:={name:="_law_ways",qual:="_law_ways",glob:=true,cl:=true,st:=top 34,N:=["_law_hands","_law_cell","_law_ways_here","_law_number","_law_one","_law_other"],ps:=["_law_hands","_law_cell"],body:=db}
noncomputable def pc:FL:={name:="_law_row",qual:="_law_row",glob:=true,cl:=true,st:=top 35,N:=["_law_here","_law_reading","_law_tos","_law_letters","_law_cell","_law_kind_here","_law_early"],ps:=["_law_here","_law_reading","_law_tos","_law_letters","_law_cell"],body:=aP}
noncomputable def oI:FL:={name:="_law_log",qual:="_law_log",glob:=true,cl:=false,st:=top 36,N:=["_law_hands","_law_ways_here","_law_cells","_law_readings","_law_many","_law_letters","_law_log_here","_law_cell","_law_hand","_law_here","_law_tos","_law_mine","_law_row_here"],ps:=["_law_hands","_law_ways_here","_law_cells"],body:=d7}
noncomputable def mU:FL:={name:="_law_kind",qual:="_law_kind",glob:=true,cl:=true,st:=top 37,N:=["_law_row_here","_law_size"],ps:=["_law_row_here"],body:=dC}
noncomputable def kA:FL:={name:="_law_change",qual:="_law_change",glob:=true,cl:=true,st:=top 38,N:=["_law_log_here","_law_hands","_law_cell","_law_kind_here","_law_at","_law_row_here","_law_far","_law_hand","_law_part"],ps:=["_law_log_here","_law_hands","_law_cell"],body:=cu}
noncomputable def mK:FL:={name:="_law_sent",qual:="_law_sent",glob:=true,cl:=true,st:=top 39,N:=["_law_log_here","_law_at","_law_name","_law_many","_law_k"],ps:=["_law_log_here","_law_at","_law_name"],body:=dB}
noncomputable def lC:FL:={name:="_law_fault",qual:="_law_fault",glob:=true,cl:=true,st:=top 40,N:=["_law_log_here","_law_at","_law_hands","_law_ways_here","_law_row_here","_law_ahead","_law_sent_here","_law_taken"],ps:=["_law_log_here","_law_at","_law_hands","_law_ways_here"],body:=b8}
noncomputable def pk:FL:={name:="_law_due",qual:="_law_due",glob:=true,cl:=true,st:=top 41,N:=["_law_log_here","_law_hands","_law_ways_here","_law_at","_law_found"],ps:=["_law_log_here","_law_hands","_law_ways_here"],body:=cX}
noncomputable def mj:FL:={name:="_law_marks",qual:="_law_marks",glob:=true,cl:=true,st:=top 42,N:=["_law_word"],ps:=["_law_word"],body:=cN}
noncomputable def kW:FL:={name:="_law_caught",qual:="_law_caught",glob:=true,cl:=true,st:=top 43,N:=["_law_made","_law_log_here","_law_told","_law_last","_law_marks_here","e"],ps:=["_law_made","_law_log_here"],body:=bK}
noncomputable def l_law:FL:={name:="law",qual:="law",glob:=true,cl:=true,st:=top 44,N:=["_law_script","_law_hands","_law_ways_here","_law_log_here","_law_change_here","_law_made","_law_word","_law_last","_law_handed","_law_none","_law_marks_here","_law_found"],ps:=["_law_script"],body:=ol}
noncomputable def L:List FL:=[nz,eT,jD,mY,i6,lO,ju,nA,jx,mC,kn,lQ,mi,mJ,i5,jv,fA,fV,tF,iu,gw,iP,fw,eD,et,jq,gf,gX,ma,jr,m9,pc,oI,mU,kA,mK,lC,pk,mj,kW,l_law]
noncomputable def xinT:List (Nat×Nat):=[(6,245166316)]
noncomputable def nm:NM:=⟨["DriftError","NoStretch","NoHand","NoClock","NoWay","NoHappening","Backward","NoLetter"],["Happening","Look","Sight","Send","Take","Ahead","World"],["MOST_HANDS"],xinT⟩
noncomputable def xin(i:Nat):Option Nat:=xinT.lookup i
noncomputable def subT:List (List Bool):=[[true,false,false,false,false,false,false,false],[true,true,false,false,false,false,false,false],[true,false,true,false,false,false,false,false],[true,false,false,true,false,false,false,false],[true,false,false,false,true,false,false,false],[true,false,false,false,false,true,false,false],[true,false,false,false,false,false,true,false],[true,false,false,false,false,false,false,true]]
noncomputable def sub(i j:Nat):Bool:=(subT.getD i []).getD j false
noncomputable def ksubT:List (List Bool):=[[true,false,false,false,false,false,false],[true,true,false,false,false,false,false],[true,false,true,false,false,false,false],[true,false,false,true,false,false,false],[true,false,false,false,true,false,false],[false,false,false,false,false,true,false],[false,false,false,false,false,false,true]]
noncomputable def ksub(i j:Nat):Bool:=(ksubT.getD i []).getD j false
noncomputable def fokT:List (List Nat):=[[211529960,456806758904562],[211529960,456806758904562],[32709062885,213725420,211529960,456806758904562],[14324,211529960,456806758904562],[3944367338220,211529960,456806758904562],[3982741043171,65196051402355442,487284377728885],[136762133858116729320171,8355170983792620267]]
noncomputable def fok(i f:Nat):Bool:=(fokT.getD i []).contains f
noncomputable def mthT:List (List (Nat×Nat)):=[[],[(1964018,3)],[(1964018,5)],[(1964018,7)],[(1964018,9)],[(30815369061,15)],[(8774101686596482917,22),(31081607400,25),(56782141471387880,26),(535528667410664,27),(119080781550527859766002,23),(135562951883986971505394,24),(1994999,28)]]
noncomputable def mth(i m:Nat):Option Nat:=(mthT.getD i []).lookup m
noncomputable def CV:List Nat:=[1,2,4,6,8,14,21]
noncomputable def ini(i:Nat):Option Nat:=CV[i]?
noncomputable def gloT:List D:=[.int 6]
noncomputable def glo(k:Nat):D:=gloT.getD k .non
noncomputable def B(cls kls fad:Nat->Addr):WB:={ne:=8,cls:=cls,sub:=sub,nk:=7,kls:=kls,ksub:=ksub,fok:=fok,mth:=mth,ini:=ini,xin:=xin,glo:=glo,fad:=fad}
section
variable {cls kls fad:Nat->Addr}
@[simp] theorem IR:(B cls kls fad).ne=8:=rfl
@[simp] theorem Hk:(B cls kls fad).cls=cls:=rfl
@[simp] theorem Ib:(B cls kls fad).sub=sub:=rfl
@[simp] theorem IC:(B cls kls fad).nk=7:=rfl
@[simp] theorem Iu:(B cls kls fad).kls=kls:=rfl
@[simp] theorem GO:(B cls kls fad).ksub=ksub:=rfl
@[simp] theorem HW:(B cls kls fad).fok=fok:=rfl
@[simp] theorem Ie:(B cls kls fad).mth=mth:=rfl
@[simp] theorem Hz:(B cls kls fad).ini=ini:=rfl
@[simp] theorem HX:(B cls kls fad).xin=xin:=rfl
@[simp] theorem HG:(B cls kls fad).glo=glo:=rfl
end
@[simp] theorem EI:sub 1 0=true:=rfl
@[simp] theorem Fh:sub 1 1=true:=rfl
@[simp] theorem FJ:sub 1 2=false:=rfl
@[simp] theorem EZ:sub 1 4=false:=rfl
@[simp] theorem EU:sub 1 5=false:=rfl
@[simp] theorem EQ:sub 1 6=false:=rfl
@[simp] theorem Ff:sub 1 7=false:=rfl
@[simp] theorem Fw:sub 2 0=true:=rfl
@[simp] theorem EH:sub 2 1=false:=rfl
@[simp] theorem FA:sub 2 2=true:=rfl
@[simp] theorem FN:sub 2 4=false:=rfl
@[simp] theorem Fs:sub 2 5=false:=rfl
@[simp] theorem Ez:sub 2 6=false:=rfl
@[simp] theorem Ft:sub 2 7=false:=rfl
@[simp] theorem Ev:sub 4 0=true:=rfl
@[simp] theorem EV:sub 4 1=false:=rfl
@[simp] theorem FC:sub 4 2=false:=rfl
@[simp] theorem FE:sub 4 4=true:=rfl
@[simp] theorem E6:sub 4 5=false:=rfl
@[simp] theorem Ew:sub 4 6=false:=rfl
@[simp] theorem E4:sub 4 7=false:=rfl
@[simp] theorem FD:sub 5 0=true:=rfl
@[simp] theorem EA:sub 5 1=false:=rfl
@[simp] theorem E8:sub 5 2=false:=rfl
@[simp] theorem Fa:sub 5 4=false:=rfl
@[simp] theorem EM:sub 5 5=true:=rfl
@[simp] theorem Fo:sub 5 6=false:=rfl
@[simp] theorem Fg:sub 5 7=false:=rfl
@[simp] theorem EL:sub 6 1=false:=rfl
@[simp] theorem ED:sub 6 2=false:=rfl
@[simp] theorem EG:sub 6 4=false:=rfl
@[simp] theorem Fi:sub 6 5=false:=rfl
@[simp] theorem E7:sub 6 6=true:=rfl
@[simp] theorem EF:sub 6 7=false:=rfl
@[simp] theorem Fd:sub 7 0=true:=rfl
@[simp] theorem Fu:sub 7 1=false:=rfl
@[simp] theorem EK:sub 7 2=false:=rfl
@[simp] theorem Fx:sub 7 4=false:=rfl
@[simp] theorem Fn:sub 7 5=false:=rfl
@[simp] theorem ET:sub 7 6=false:=rfl
@[simp] theorem FO:sub 7 7=true:=rfl
@[simp] theorem HV:xin 6=some 245166316:=rfl
@[simp] theorem HH:ini 0=some 1:=rfl
@[simp] theorem D6:ksub 1 2=false:=rfl
@[simp] theorem CU:ksub 1 3=false:=rfl
@[simp] theorem Dn:ksub 1 4=false:=rfl
@[simp] theorem yT:fok 1 211529960=true:=by decide
@[simp] theorem sy:fok 1 456806758904562=true:=by decide
@[simp] theorem Iq:ini 1=some 2:=rfl
@[simp] theorem CQ:ksub 2 2=true:=rfl
@[simp] theorem CM:ksub 2 3=false:=rfl
@[simp] theorem DQ:ksub 2 4=false:=rfl
@[simp] theorem uZ:fok 2 32709062885=true:=by decide
@[simp] theorem zd:fok 2 213725420=true:=by decide
@[simp] theorem yA:fok 2 211529960=true:=by decide
@[simp] theorem sw:fok 2 456806758904562=true:=by decide
@[simp] theorem HF:ini 2=some 4:=rfl
@[simp] theorem CJ:ksub 3 2=false:=rfl
@[simp] theorem CN:ksub 3 3=true:=rfl
@[simp] theorem Dv:ksub 3 4=false:=rfl
@[simp] theorem Dh:fok 3 14324=true:=by decide
@[simp] theorem yO:fok 3 211529960=true:=by decide
@[simp] theorem sB:fok 3 456806758904562=true:=by decide
@[simp] theorem Io:ini 3=some 6:=rfl
@[simp] theorem C4:ksub 4 2=false:=rfl
@[simp] theorem En:ksub 4 3=false:=rfl
@[simp] theorem BW:ksub 4 4=true:=rfl
@[simp] theorem tT:fok 4 3944367338220=true:=by decide
@[simp] theorem xh:fok 4 211529960=true:=by decide
@[simp] theorem sx:fok 4 456806758904562=true:=by decide
@[simp] theorem Hl:ini 4=some 8:=rfl
@[simp] theorem ui:fok 5 3982741043171=true:=by decide
@[simp] theorem rk:fok 5 65196051402355442=true:=by decide
@[simp] theorem sv:fok 5 487284377728885=true:=by decide
@[simp] theorem u0:mth 5 30815369061=some 15:=by decide
@[simp] theorem Hm:ini 5=some 14:=rfl
@[simp] theorem nV:fok 6 136762133858116729320171=true:=by decide
@[simp] theorem pN:fok 6 8355170983792620267=true:=by decide
@[simp] theorem Hi:ini 6=some 21:=rfl
@[simp] theorem HL:glo 0=.int 6:=rfl
theorem wW:fnm 245166316=("last" : Str):=by decide +kernel
noncomputable def T:List FB:=[⟨1,1,true,bP,[]⟩,⟨3,3,true,av,[]⟩,⟨3,3,true,bT,[]⟩,⟨1,1,true,iE,[]⟩,⟨5,5,true,bJ,[]⟩,⟨1,1,true,gJ,[]⟩,⟨4,4,true,bW,[]⟩,⟨1,1,true,iV,[]⟩,⟨4,4,true,bS,[]⟩,⟨1,1,true,iF,[]⟩,⟨2,2,true,bL,[]⟩,⟨1,1,true,cg,[]⟩,⟨1,2,true,aA,[]⟩,⟨2,3,true,de,[]⟩,⟨1,1,false,bF,[]⟩,⟨2,3,true,bV,[]⟩,⟨3,4,true,aW,[]⟩,⟨3,3,true,bg,[]⟩,⟨2,5,true,g8,[]⟩,⟨2,2,true,bI,[]⟩,⟨2,2,true,bj,[]⟩,⟨3,9,false,bH,[]⟩,⟨5,5,true,aX,[]⟩,⟨2,2,true,aM,[]⟩,⟨3,3,true,aN,[]⟩,⟨1,1,true,bo,[]⟩,⟨2,2,true,aQ,[]⟩,⟨3,3,true,bt,[]⟩,⟨3,3,true,gB,[]⟩,⟨2,2,true,bq,[]⟩,⟨2,6,true,db,[]⟩,⟨5,7,true,aP,[]⟩,⟨3,13,false,d7,[]⟩,⟨1,2,true,dC,[]⟩,⟨3,9,true,cu,[]⟩,⟨3,5,true,dB,[]⟩,⟨4,8,true,b8,[]⟩,⟨3,5,true,cX,[]⟩,⟨1,1,true,cN,[]⟩,⟨2,6,true,bK,[]⟩,⟨1,12,true,ol,[]⟩]
theorem GF:L.map FL.fb=T:=rfl
section
variable {B:WB}{M:MH}{Q:VK3}{E:XN}{n:Nat}
theorem eR{x0:D}:aa T B (n+1) 0 [x0] M Q E=ao {toWB:=B,call:=aa T B n} bP {nx:=fun _ M'=>Q .non (af M M'),rt:=fun v M'=>Q v (af M M')} (fun _ i M'=>E i (af M M')) [some x0] M:=propext ⟨fun h=>h.2,fun h=>⟨rfl,h⟩⟩
theorem aT{x0 x1 x2:D}:aa T B (n+1) 1 [x0,x1,x2] M Q E=ao {toWB:=B,call:=aa T B n} av {nx:=fun _ M'=>Q .non (af M M'),rt:=fun v M'=>Q v (af M M')} (fun _ i M'=>E i (af M M')) [some x0,some x1,some x2] M:=propext ⟨fun h=>h.2,fun h=>⟨rfl,h⟩⟩
theorem jE{x0 x1 x2:D}:aa T B (n+1) 2 [x0,x1,x2] M Q E=ao {toWB:=B,call:=aa T B n} bT {nx:=fun _ M'=>Q .non (af M M'),rt:=fun v M'=>Q v (af M M')} (fun _ i M'=>E i (af M M')) [some x0,some x1,some x2] M:=propext ⟨fun h=>h.2,fun h=>⟨rfl,h⟩⟩
theorem iB{x0 x1 x2 x3 x4:D}:aa T B (n+1) 4 [x0,x1,x2,x3,x4] M Q E=ao {toWB:=B,call:=aa T B n} bJ {nx:=fun _ M'=>Q .non (af M M'),rt:=fun v M'=>Q v (af M M')} (fun _ i M'=>E i (af M M')) [some x0,some x1,some x2,some x3,some x4] M:=propext ⟨fun h=>h.2,fun h=>⟨rfl,h⟩⟩
theorem jB{x0 x1 x2 x3:D}:aa T B (n+1) 6 [x0,x1,x2,x3] M Q E=ao {toWB:=B,call:=aa T B n} bW {nx:=fun _ M'=>Q .non (af M M'),rt:=fun v M'=>Q v (af M M')} (fun _ i M'=>E i (af M M')) [some x0,some x1,some x2,some x3] M:=propext ⟨fun h=>h.2,fun h=>⟨rfl,h⟩⟩
theorem jy{x0 x1 x2 x3:D}:aa T B (n+1) 8 [x0,x1,x2,x3] M Q E=ao {toWB:=B,call:=aa T B n} bS {nx:=fun _ M'=>Q .non (af M M'),rt:=fun v M'=>Q v (af M M')} (fun _ i M'=>E i (af M M')) [some x0,some x1,some x2,some x3] M:=propext ⟨fun h=>h.2,fun h=>⟨rfl,h⟩⟩
theorem ff{x0 x1:D}:aa T B (n+1) 10 [x0,x1] M Q E=ao {toWB:=B,call:=aa T B n} bL {nx:=fun _ M'=>Q .non (af M M'),rt:=fun v M'=>Q v (af M M')} (fun _ i M'=>E i (af M M')) [some x0,some x1] M:=propext ⟨fun h=>h.2,fun h=>⟨rfl,h⟩⟩
theorem gL{x0:D}:aa T B (n+1) 11 [x0] M Q E=ao {toWB:=B,call:=aa T B n} cg {nx:=fun _ M'=>Q .non (af M M'),rt:=fun v M'=>Q v (af M M')} (fun _ i M'=>E i (af M M')) [some x0] M:=propext ⟨fun h=>h.2,fun h=>⟨rfl,h⟩⟩
theorem aR{x0:D}:aa T B (n+1) 12 [x0] M Q E=ao {toWB:=B,call:=aa T B n} aA {nx:=fun _ M'=>Q .non (af M M'),rt:=fun v M'=>Q v (af M M')} (fun _ i M'=>E i (af M M')) [some x0,none] M:=propext ⟨fun h=>h.2,fun h=>⟨rfl,h⟩⟩
theorem mx{x0 x1:D}:aa T B (n+1) 13 [x0,x1] M Q E=ao {toWB:=B,call:=aa T B n} de {nx:=fun _ M'=>Q .non (af M M'),rt:=fun v M'=>Q v (af M M')} (fun _ i M'=>E i (af M M')) [some x0,some x1,none] M:=propext ⟨fun h=>h.2,fun h=>⟨rfl,h⟩⟩
theorem iL{x0:D}:aa T B (n+1) 14 [x0] M Q E=ao {toWB:=B,call:=aa T B n} bF {nx:=fun _ M'=>Q .non M',rt:=fun v M'=>Q v M'} (fun _ i M'=>E i (af M M')) [some x0] M:=propext ⟨fun h=>h.2,fun h=>⟨rfl,h⟩⟩
theorem jA{x0 x1:D}:aa T B (n+1) 15 [x0,x1] M Q E=ao {toWB:=B,call:=aa T B n} bV {nx:=fun _ M'=>Q .non (af M M'),rt:=fun v M'=>Q v (af M M')} (fun _ i M'=>E i (af M M')) [some x0,some x1,none] M:=propext ⟨fun h=>h.2,fun h=>⟨rfl,h⟩⟩
theorem fE{x0 x1 x2:D}:aa T B (n+1) 16 [x0,x1,x2] M Q E=ao {toWB:=B,call:=aa T B n} aW {nx:=fun _ M'=>Q .non (af M M'),rt:=fun v M'=>Q v (af M M')} (fun _ i M'=>E i (af M M')) [some x0,some x1,some x2,none] M:=propext ⟨fun h=>h.2,fun h=>⟨rfl,h⟩⟩
theorem f8{x0 x1 x2:D}:aa T B (n+1) 17 [x0,x1,x2] M Q E=ao {toWB:=B,call:=aa T B n} bg {nx:=fun _ M'=>Q .non (af M M'),rt:=fun v M'=>Q v (af M M')} (fun _ i M'=>E i (af M M')) [some x0,some x1,some x2] M:=propext ⟨fun h=>h.2,fun h=>⟨rfl,h⟩⟩
theorem uS{x0 x1:D}:aa T B (n+1) 18 [x0,x1] M Q E=ao {toWB:=B,call:=aa T B n} g8 {nx:=fun _ M'=>Q .non (af M M'),rt:=fun v M'=>Q v (af M M')} (fun _ i M'=>E i (af M M')) [some x0,some x1,none,none,none] M:=propext ⟨fun h=>h.2,fun h=>⟨rfl,h⟩⟩
theorem i7{x0 x1:D}:aa T B (n+1) 19 [x0,x1] M Q E=ao {toWB:=B,call:=aa T B n} bI {nx:=fun _ M'=>Q .non (af M M'),rt:=fun v M'=>Q v (af M M')} (fun _ i M'=>E i (af M M')) [some x0,some x1] M:=propext ⟨fun h=>h.2,fun h=>⟨rfl,h⟩⟩
theorem f9{x0 x1:D}:aa T B (n+1) 20 [x0,x1] M Q E=ao {toWB:=B,call:=aa T B n} bj {nx:=fun _ M'=>Q .non (af M M'),rt:=fun v M'=>Q v (af M M')} (fun _ i M'=>E i (af M M')) [some x0,some x1] M:=propext ⟨fun h=>h.2,fun h=>⟨rfl,h⟩⟩
theorem iz{x0 x1 x2:D}:aa T B (n+1) 21 [x0,x1,x2] M Q E=ao {toWB:=B,call:=aa T B n} bH {nx:=fun _ M'=>Q .non M',rt:=fun v M'=>Q v M'} (fun _ i M'=>E i (af M M')) [some x0,some x1,some x2,none,none,none,none,none,none] M:=propext ⟨fun h=>h.2,fun h=>⟨rfl,h⟩⟩
theorem fh{x0 x1 x2 x3 x4:D}:aa T B (n+1) 22 [x0,x1,x2,x3,x4] M Q E=ao {toWB:=B,call:=aa T B n} aX {nx:=fun _ M'=>Q .non (af M M'),rt:=fun v M'=>Q v (af M M')} (fun _ i M'=>E i (af M M')) [some x0,some x1,some x2,some x3,some x4] M:=propext ⟨fun h=>h.2,fun h=>⟨rfl,h⟩⟩
theorem eB{x0 x1:D}:aa T B (n+1) 23 [x0,x1] M Q E=ao {toWB:=B,call:=aa T B n} aM {nx:=fun _ M'=>Q .non (af M M'),rt:=fun v M'=>Q v (af M M')} (fun _ i M'=>E i (af M M')) [some x0,some x1] M:=propext ⟨fun h=>h.2,fun h=>⟨rfl,h⟩⟩
theorem eA{x0 x1 x2:D}:aa T B (n+1) 24 [x0,x1,x2] M Q E=ao {toWB:=B,call:=aa T B n} aN {nx:=fun _ M'=>Q .non (af M M'),rt:=fun v M'=>Q v (af M M')} (fun _ i M'=>E i (af M M')) [some x0,some x1,some x2] M:=propext ⟨fun h=>h.2,fun h=>⟨rfl,h⟩⟩
theorem eO{x0:D}:aa T B (n+1) 25 [x0] M Q E=ao {toWB:=B,call:=aa T B n} bo {nx:=fun _ M'=>Q .non (af M M'),rt:=fun v M'=>Q v (af M M')} (fun _ i M'=>E i (af M M')) [some x0] M:=propext ⟨fun h=>h.2,fun h=>⟨rfl,h⟩⟩
theorem cS{x0 x1:D}:aa T B (n+1) 26 [x0,x1] M Q E=ao {toWB:=B,call:=aa T B n} aQ {nx:=fun _ M'=>Q .non (af M M'),rt:=fun v M'=>Q v (af M M')} (fun _ i M'=>E i (af M M')) [some x0,some x1] M:=propext ⟨fun h=>h.2,fun h=>⟨rfl,h⟩⟩
theorem gV{x0 x1 x2:D}:aa T B (n+1) 27 [x0,x1,x2] M Q E=ao {toWB:=B,call:=aa T B n} bt {nx:=fun _ M'=>Q .non (af M M'),rt:=fun v M'=>Q v (af M M')} (fun _ i M'=>E i (af M M')) [some x0,some x1,some x2] M:=propext ⟨fun h=>h.2,fun h=>⟨rfl,h⟩⟩
theorem eI{x0 x1:D}:aa T B (n+1) 29 [x0,x1] M Q E=ao {toWB:=B,call:=aa T B n} bq {nx:=fun _ M'=>Q .non (af M M'),rt:=fun v M'=>Q v (af M M')} (fun _ i M'=>E i (af M M')) [some x0,some x1] M:=propext ⟨fun h=>h.2,fun h=>⟨rfl,h⟩⟩
theorem nc{x0 x1:D}:aa T B (n+1) 30 [x0,x1] M Q E=ao {toWB:=B,call:=aa T B n} db {nx:=fun _ M'=>Q .non (af M M'),rt:=fun v M'=>Q v (af M M')} (fun _ i M'=>E i (af M M')) [some x0,some x1,none,none,none,none] M:=propext ⟨fun h=>h.2,fun h=>⟨rfl,h⟩⟩
theorem bx{x0 x1 x2 x3 x4:D}:aa T B (n+1) 31 [x0,x1,x2,x3,x4] M Q E=ao {toWB:=B,call:=aa T B n} aP {nx:=fun _ M'=>Q .non (af M M'),rt:=fun v M'=>Q v (af M M')} (fun _ i M'=>E i (af M M')) [some x0,some x1,some x2,some x3,some x4,none,none] M:=propext ⟨fun h=>h.2,fun h=>⟨rfl,h⟩⟩
theorem pE{x0 x1 x2:D}:aa T B (n+1) 32 [x0,x1,x2] M Q E=ao {toWB:=B,call:=aa T B n} d7 {nx:=fun _ M'=>Q .non M',rt:=fun v M'=>Q v M'} (fun _ i M'=>E i (af M M')) [some x0,some x1,some x2,none,none,none,none,none,none,none,none,none,none] M:=propext ⟨fun h=>h.2,fun h=>⟨rfl,h⟩⟩
theorem nw{x0:D}:aa T B (n+1) 33 [x0] M Q E=ao {toWB:=B,call:=aa T B n} dC {nx:=fun _ M'=>Q .non (af M M'),rt:=fun v M'=>Q v (af M M')} (fun _ i M'=>E i (af M M')) [some x0,none] M:=propext ⟨fun h=>h.2,fun h=>⟨rfl,h⟩⟩
theorem fQ{x0 x1 x2:D}:aa T B (n+1) 34 [x0,x1,x2] M Q E=ao {toWB:=B,call:=aa T B n} cu {nx:=fun _ M'=>Q .non (af M M'),rt:=fun v M'=>Q v (af M M')} (fun _ i M'=>E i (af M M')) [some x0,some x1,some x2,none,none,none,none,none,none] M:=propext ⟨fun h=>h.2,fun h=>⟨rfl,h⟩⟩
theorem mE{x0 x1 x2:D}:aa T B (n+1) 35 [x0,x1,x2] M Q E=ao {toWB:=B,call:=aa T B n} dB {nx:=fun _ M'=>Q .non (af M M'),rt:=fun v M'=>Q v (af M M')} (fun _ i M'=>E i (af M M')) [some x0,some x1,some x2,none,none] M:=propext ⟨fun h=>h.2,fun h=>⟨rfl,h⟩⟩
theorem gN{x0 x1 x2 x3:D}:aa T B (n+1) 36 [x0,x1,x2,x3] M Q E=ao {toWB:=B,call:=aa T B n} b8 {nx:=fun _ M'=>Q .non (af M M'),rt:=fun v M'=>Q v (af M M')} (fun _ i M'=>E i (af M M')) [some x0,some x1,some x2,some x3,none,none,none,none] M:=propext ⟨fun h=>h.2,fun h=>⟨rfl,h⟩⟩
theorem kf{x0 x1 x2:D}:aa T B (n+1) 37 [x0,x1,x2] M Q E=ao {toWB:=B,call:=aa T B n} cX {nx:=fun _ M'=>Q .non (af M M'),rt:=fun v M'=>Q v (af M M')} (fun _ i M'=>E i (af M M')) [some x0,some x1,some x2,none,none] M:=propext ⟨fun h=>h.2,fun h=>⟨rfl,h⟩⟩
theorem lq{x0:D}:aa T B (n+1) 38 [x0] M Q E=ao {toWB:=B,call:=aa T B n} cN {nx:=fun _ M'=>Q .non (af M M'),rt:=fun v M'=>Q v (af M M')} (fun _ i M'=>E i (af M M')) [some x0] M:=propext ⟨fun h=>h.2,fun h=>⟨rfl,h⟩⟩
theorem fG{x0 x1:D}:aa T B (n+1) 39 [x0,x1] M Q E=ao {toWB:=B,call:=aa T B n} bK {nx:=fun _ M'=>Q .non (af M M'),rt:=fun v M'=>Q v (af M M')} (fun _ i M'=>E i (af M M')) [some x0,some x1,none,none,none,none] M:=propext ⟨fun h=>h.2,fun h=>⟨rfl,h⟩⟩
theorem BC{x0:D}:aa T B (n+1) 40 [x0] M Q E=ao {toWB:=B,call:=aa T B n} ol {nx:=fun _ M'=>Q .non (af M M'),rt:=fun v M'=>Q v (af M M')} (fun _ i M'=>E i (af M M')) [some x0,none,none,none,none,none,none,none,none,none,none,none] M:=propext ⟨fun h=>h.2,fun h=>⟨rfl,h⟩⟩
end
theorem top_mk{P:Params}{h:Heap}{mg:Str->Option Value}(X:(HD.K P).In h)(Gn:h.Ns mainGlobals mg)
  {qt0:Tok}
  (gl0:PySem.W.nsIn (HD.K P) mainGlobals "MOST_HANDS"=some (some (.int (6) qt0)))
  {h6:Addr}{xod6 xan6:Option Addr}{xsl6:Array (Option Value)}{xoc6 xkV6 xdc6 xpm6 xcd6 xct6:Value}
  (x6:cP (HD.K P) 111=true)
  (xi6:PySem.W.findIn (HD.K P) (.ref 111) "__init__"=some (some (.ref h6)))
  (xl6:(HD.K P).lookup h6=some ⟨xoc6,xod6,.func (PySem.W.fnOf "__init__" "Backward.__init__" (bX (ag (top 8) 0)) (be (ag (top 8) 0)) (aB (ag (top 8) 0)) .none xkV6 xdc6 xpm6 xan6 xcd6 xct6),xsl6⟩)
  {xtx6:Str}{xj6:Nat}{xpx6 xap6 xp16 xp26 xcp6 xp36 xp46 xp56 xp66 xp76 xp86 xp96:Pos}
  (xw6:be (ag (top 8) 0)=[.Expr (.Call (.Attribute (.Name "DriftError" xpx6) "__init__" xap6) [.Name "self" xp16,.Constant (.str xtx6) xj6 xp26] [] xcp6) xp36,.Assign [.Attribute (.Name "self" xp46) "last" xp56] (.Name "last" xp66) xp76])
  (xz6:sr "self" "last" "DriftError" (aB (ag (top 8) 0)) xap6 xcp6=true)
  (xd6:PySem.W.codeIn (HD.K P) xcd6 "Backward.__init__"=true)
  (xk6:PySem.W.keepIn (HD.K P) (.ref h6)=true)
  (xt6:PySem.W.typeIn (HD.K P) (.ref h6)=some (.type "function"))
  : ∃cls kls fad,Top (HD.K P) mg L nm (B cls kls fad):=by
 refine⟨fun i=>([31,44,56,68,80,92,111,123]:List Nat).getD i 0,fun i=>([149,184,217,250,283,335,447]:List Nat).getD i 0,fun i=>([132,146,167,174,200,207,233,240,266,273,290,297,304,311,325,332,346,353,360,367,374,388,395,402,409,416,423,430,444,458,465,472,477,484,491,498,503,510,515,522,527]:List Nat).getD i 0,Top.of (fT:=fokT) (mT:=mthT) (iT:=CV) X Gn (by kernel_rfl) (by kernel_rfl) (by kernel_rfl) (ixc (n1 (by intros;rfl)) (ixc (n3 (by intros;rfl)) (ixc (n3 (by intros;rfl)) (ixc (n1 (by intros;rfl)) (ixc (n5 (by intros;rfl)) (ixc (n1 (by intros;rfl)) (ixc (n4 (by intros;rfl)) (ixc (n1 (by intros;rfl)) (ixc (n4 (by intros;rfl)) (ixc (n1 (by intros;rfl)) (ixc (n2 (by intros;rfl)) (ixc (n1 (by intros;rfl)) (ixc (n1 (by intros;rfl)) (ixc (n2 (by intros;rfl)) (ixc (n1 (by intros;rfl)) (ixc (n2 (by intros;rfl)) (ixc (n3 (by intros;rfl)) (ixc (n3 (by intros;rfl)) (ixc (n2 (by intros;rfl)) (ixc (n2 (by intros;rfl)) (ixc (n2 (by intros;rfl)) (ixc (n3 (by intros;rfl)) (ixc (n5 (by intros;rfl)) (ixc (n2 (by intros;rfl)) (ixc (n3 (by intros;rfl)) (ixc (n1 (by intros;rfl)) (ixc (n2 (by intros;rfl)) (ixc (n3 (by intros;rfl)) (ixc (n3 (by intros;rfl)) (ixc (n2 (by intros;rfl)) (ixc (n2 (by intros;rfl)) (ixc (n5 (by intros;rfl)) (ixc (n3 (by intros;rfl)) (ixc (n1 (by intros;rfl)) (ixc (n3 (by intros;rfl)) (ixc (n3 (by intros;rfl)) (ixc (n4 (by intros;rfl)) (ixc (n3 (by intros;rfl)) (ixc (n1 (by intros;rfl)) (ixc (n2 (by intros;rfl)) (ixc (n1 (by intros;rfl)) (ixn)))))))))))))))))))))))))))))))))))))))))) (by kernel_rfl) (by kernel_rfl) (by kernel_rfl) (by kernel_rfl) (fun _ _=>rfl) (fun _ _=>rfl) (fun _=>rfl) (by kernel_rfl) ?_ ?_ ?_ (B0 (by kernel_rfl))⟩
 ·intro k x hi
  match k,hi with
  |0,hi=>cases hi;exact⟨_,.int (6),PySem.W.mg_of X Gn gl0,⟨_,rfl⟩,fun H=>rfl⟩
  |n+1,hi=>simp[nm]at hi
 ·intro i f hx;have hx:=cI (show [(6,245166316)].lookup i=some f from hx);simp only[List.mem_cons,Prod.mk.injEq,List.not_mem_nil,or_false]at hx;rcases hx with ⟨rfl,rfl⟩
  ·refine⟨rfl,h6,_,["self","last"],?_,.all ((zX (st:=ag (top 8) 0) xl6 xd6 xk6).bindsE fun _ _ _ _ _ _=>usS fun _=>usS fun _=>us0 rfl),fun P w base=>?_⟩<;>rw[wW]
   ·exact⟨x6,xi6,xt6,by kernel_rfl,by kernel_rfl,by kernel_rfl,by kernel_rfl,by kernel_rfl⟩
   ·exact vy xw6 xz6 xl6 xd6 (PySem.W.mg_of X Gn (v:=.ref 31) (by kernel_rfl)) ⟨by kernel_rfl,by kernel_rfl,by kernel_rfl⟩ ⟨x6,xi6,xt6,by kernel_rfl,by kernel_rfl,by kernel_rfl,by kernel_rfl,by kernel_rfl⟩
 ·intro i f hi hx;have hx:=cI (show [(6,245166316)].lookup i=some f from hx);simp only[List.mem_cons,Prod.mk.injEq,List.not_mem_nil,or_false]at hx;rcases hx with ⟨rfl,rfl⟩
  ·show PySem.W.findIn (HD.K P) (.ref 111) (fnm 245166316)=some none
   kernel_rfl
end G
namespace G
open L2
section
variable {cls kls fad:Nat->PySem.Addr}{M:MH}{Q:VK3}{E:XN}{n:Nat}{p q d:PySem.Addr}{cl ds:List D}{ks:List (List Int)}
noncomputable abbrev fC:Nat:=136762133858116729320171
noncomputable abbrev fW:Nat:=8355170983792620267
structure Wd (kls:Nat->PySem.Addr)(M:MH)(p q d:PySem.Addr)(cl:List D) (ks:List (List Int)) (ds:List D):Prop where
 ip:M p=some (.ins 6 (kls 6) [fC,fW] [.ref q,.ref d])
 iq:M q=some (.lst cl)
 id:M d=some (.dt ks ds)
theorem A2(h:Wd kls M p q d cl ks ds):cH (B cls kls fad) fC (.ref p) M Q=Q (.ref q) M:=by
 simp[cH,h.ip,fS,fC,fW]
theorem u7(h:Wd kls M p q d cl ks ds):cH (B cls kls fad) fW (.ref p) M Q=Q (.ref d) M:=by
 simp[cH,h.ip,fS,fC,fW]
theorem gv{m f:Nat}{R:Nat->Prop}(h:Wd kls M p q d cl ks ds)(hm:mth 6 m=some f)(h1:fC≠m)(h2:fW≠m):dG (B cls kls fad) m (.ref p) M R=R f:=by
 simp[dG,h.ip,hm,h1,h2,cW]
theorem uc(h:Wd kls M p q d cl ks ds):aa T (B cls kls fad) (n+1) 25 [.ref p] M Q E=Q (.int cl.length) M:=by
 simp[eO,bo,A2 h];simp[rBi,aj,aD,h.iq]
theorem nh{i:Int}(h:Wd kls M p q d cl ks ds):aa T (B cls kls fad) (n+2) 26 [.ref p,.int i] M Q E=Q (.bl (decide (0<=i)&&decide (i < cl.length))) M:=by
 simp[cS,aQ];by_cases h0:0<=i
 ·simp[h0];rw[gv h (f:=25) (by decide) (by decide) (by decide),uc h]
  simp
 ·simp[h0]
noncomputable def okH(n:Nat)(i:Int):Bool:=decide (0<=i)&&decide (i < n)
theorem eE{i:Int}(h:Wd kls M p q d cl ks ds):aa T (B cls kls fad) (n+3) 23 [.ref p,.int i] M Q E=if okH cl.length i=true then Q .non M else E ⟨2,none⟩ M:=by
 simp[eB,aM];rw[gv h (f:=26) (by decide) (by decide) (by decide),nh h]
 unfold okH;cases (decide (0<=i)&&decide (i < (cl.length:Int)))<;>simp[am]
theorem jF{i j:Int}(h:Wd kls M p q d cl ks ds):aa T (B cls kls fad) (n+4) 24 [.ref p,.int i,.int j] M Q E=if okH cl.length i=true/\okH cl.length j=true/\i≠j then Q .non M else E ⟨2,none⟩ M:=by
 simp[eA,aN];rw[gv h (f:=23) (by decide) (by decide) (by decide),eE h]
 by_cases h1:okH cl.length i=true
 ·simp[h1];rw[gv h (f:=23) (by decide) (by decide) (by decide),eE h]
  by_cases h2:okH cl.length j=true
  ·simp[h2];by_cases h3:i=j<;>simp[h3,am]
  ·simp[h2]
 ·simp[h1]
noncomputable def nv(l:Int)(m:Option Int):Bool:=decide (l < 0)||(match m with|some m=>decide (m < l)|none=>false)
theorem pA{l:Int}{m:Option Int}:aa T (B cls kls fad) (n+1) 20 [.int l,oi m] M Q E=if nv l m=true then E ⟨4,none⟩ M else Q .non M:=by
 simp[f9,bj];by_cases h1:l < 0
 ·simp[h1,nv,am]
 ·cases m with
  |none=>simp[h1,nv,oi]
  |some m=>
   simp[h1,nv,oi];by_cases h2:m < l<;>simp[h2,am]
noncomputable def qo(p:Int×Int):Bool:=decide (p.1 < 1)||decide (p.2 < p.1)
theorem ux{a b:Int}:aa T (B cls kls fad) (n+1) 19 [.int a,.int b] M Q E=if qo (a,b)=true then E ⟨3,none⟩ M else Q .non M:=by
 simp[i7,bI];by_cases h1:a < 1
 ·simp[h1,qo,am]
 ·by_cases h2:b < a<;>simp[h1,h2,qo,am]
theorem Bt{i j:Int}(h:Wd kls M p q d cl ks ds)(hl:ks.length=ds.length):aw .In (.tup [.int i,.int j]) (.ref d) M Q=Q (.bl (decide ([i,j]∈ks))) M:=by
 have e:(getD ks ds [i,j]).isSome=decide ([i,j]∈ks):=by
  clear h
  induction ks generalizing ds with
  |nil=>cases ds<;>simp[getD]
  |cons k ks ih=>
   cases ds with
   |nil=>simp at hl
   |cons x ds=>
    simp only[getD];by_cases e:k=[i,j]
    ·simp[e]
    ·rw[if_neg e,ih (by simpa using hl)]
     simp[Ne.symm e]
 simp[aw,lZ,aD,aj,h.id,gu,eZ,gW,jt,eJ,e]
theorem lG{k:List Int}:∀{ks:List (List Int)},k∉ks->aq ks k=ks++[k]
 |[],_=>rfl
 |a::ks,h=>by
  have h1:a≠k:=fun e=>h (by simp[e])
  have h2:k∉ks:=fun e=>h (by simp[e])
  simp[aq,h1,lG h2]
noncomputable def way(l:Int)(m:Option Int):D:=.tup [.int l,oi m]
theorem uu{i j l:Int}{m:Option Int}(h:Wd kls M p q d cl ks ds)(hl:ks.length=ds.length)(hz:ks.length < 1000):aa T (B cls kls fad) (n+5) 22 [.ref p,.int i,.int j,.int l,oi m] M Q E =
  if okH cl.length i=true/\okH cl.length j=true/\i≠j then if [i,j]∈ks then E ⟨4,none⟩ M else if nv l m=true then E ⟨4,none⟩ M else Q .non (put M d (.dt (aq ks [i,j]) (ax ks ds [i,j] (way l m)))) else E ⟨2,none⟩ M:=by
 have hs:ks.length < PySem.sizeLine:=Nat.lt_of_lt_of_le hz (by decide)
 simp[fh,aX];rw[gv h (f:=24) (by decide) (by decide) (by decide),jF h]
 by_cases h1:okH cl.length i=true/\okH cl.length j=true/\i≠j
 ·simp[h1,am];rw[show cH (B cls kls fad) 8355170983792620267 (.ref p) M _=_ from u7 h];rw[Bt h hl];by_cases h2:[i,j]∈ks
  ·simp[h2,am]
  ·simp[h2];rw[pA];by_cases h3:nv l m=true
   ·simp[h3]
   ·simp[h3,am];rw[show cH (B cls kls fad) 8355170983792620267 (.ref p) M _=_ from u7 h];simp[bu,h.id,jt,eJ,hs,cV h.id,way]
 ·have h1':¬ (okH cl.length i=true/\okH cl.length j=true/\¬ i=j):=h1;simp[h1']
noncomputable def cD(p:Int×Int):D:=.tup [.int p.1,.int p.2]
structure Wy where
 i:Int
 j:Int
 l:Int
 m:Option Int
noncomputable def wD(w:Wy):D:=.tup [.int w.i,.int w.j,.int w.l,oi w.m]
theorem iK{M:MH}{a b:PySem.Addr}{x y z:DO}(h:a≠b):put (put (put M a x) b y) a z=put (put M a z) b y:=by
 funext c;unfold put;by_cases h1:c=a
 ·subst h1;simp[h]
 ·simp[h1]
theorem fY{M:MH}{a b c:PySem.Addr}{x y w z:DO}(h:a≠b)(h':a≠c):put (put (put (put M a x) b y) c w) a z=put (put (put M a z) b y) c w:=by
 funext e;unfold put;by_cases h1:e=a
 ·subst h1;simp[h,h']
 ·simp[h1]
theorem fP{R:MH->Prop}{f:Nat}{y:D}{i:Nat}{C:PySem.Addr}{ns:List Nat}{es:List D}(h:M p=some (.ins i C ns es)):eN (B cls kls fad) f y R (.ref p) M=((C=(B cls kls fad).kls i/\i < (B cls kls fad).nk/\(B cls kls fad).fok i f=true/\ns.length < 1000)/\R (put M p (.ins i C (cr f ns) (cq f y ns es)))):=by
 simp[eN,h]
noncomputable def pr(w:Wy):List Int:=[w.i,w.j]
noncomputable def wv(w:Wy):D:=way w.l w.m
structure Wy.good (n:Nat)(w:Wy):Prop where
 i:okH n w.i=true
 j:okH n w.j=true
 ne:w.i≠w.j
 l:nv w.l w.m=false
theorem l7{k:List Int}{v:D}:∀{ks:List (List Int)}{ds:List D},ks.length=ds.length->k∉ks->ax ks ds k v=ds++[v]
 |[],[],_,_=>rfl
 |a::ks,e::ds,hl,h=>by
  have h1:a≠k:=fun z=>h (by simp[z])
  have h2:k∉ks:=fun z=>h (by simp[z])
  simp[ax,h1,l7 (by simpa using hl) h2]
theorem j6{S:MH->Prop}(hS:S M){De:Ends3}{ES:St3->XN}{R:Prop}{x0 x1 x2 x5 x6 x7 x8:Option D}:∀(cks:List (Int×Int)) (x3 x4:Option D),(∀c∈cks,qo c=false)->(∀x y,De.nx [x0,x1,x2,x,y,x5,x6,x7,x8] M=R)->
  cz ⟨(B cls kls fad),aa T (B cls kls fad) (n+1)⟩ (.tup [3,4]) bG ES S De (cks.map cD) [x0,x1,x2,x3,x4,x5,x6,x7,x8] M=R
 |[],x3,x4,_,hR=>by simp[cw,hR,hS]
 |(c1,c2)::r,x3,x4,hc,hR=>by
  have ih:=j6 hS (De:=De) (ES:=ES) (R:=R) (x0:=x0) (x1:=x1) (x2:=x2) (x5:=x5) (x6:=x6) (x7:=x7) (x8:=x8) r (some (.int c1)) (some (.int c2)) (fun c h=>hc c (List.mem_cons_of_mem _ h)) hR
  have h':=hc (c1,c2) List.mem_cons_self;rw[List.map_cons,aU];simp only[bG,cD]at ih ⊢;rw[<-ih];simp[ux,h',hS]
theorem jc{S:MH->Prop}{Mb:MH}(hS:∀ks ds,S (put Mb d (.dt ks ds)))(hw:∀ks ds,Wd kls (put Mb d (.dt ks ds)) p q d cl ks ds){De:Ends3}{ES:St3->XN}{R:Prop}{x1 x2 x3 x4:Option D}:∀(wy:List Wy) (ks:List (List Int)) (ds:List D)(x5 x6 x7 x8:Option D),ks.length=ds.length->ks.length+wy.length < 500->
  (∀w∈wy,w.good cl.length)->(wy.map pr).Nodup->(∀w∈wy,pr w∉ks)->(∀x5 x6 x7 x8,De.nx [some (.ref p),x1,x2,x3,x4,x5,x6,x7,x8] (put Mb d (.dt (ks++wy.map pr) (ds++wy.map wv)))=R)->
  cz ⟨(B cls kls fad),aa T (B cls kls fad) (n+5)⟩ (.tup [5,6,7,8]) bM ES S De (wy.map wD) [some (.ref p),x1,x2,x3,x4,x5,x6,x7,x8] (put Mb d (.dt ks ds))=R
 |[],ks,ds,x5,x6,x7,x8,hl,hz,hg,hn,hk,hR=>by
  have:=hR x5 x6 x7 x8;simp at this;simp[cw,this,hS]
 |w::r,ks,ds,x5,x6,x7,x8,hl,hz,hg,hn,hk,hR=>by
  simp only[List.length_cons]at hz;have g:=hg w List.mem_cons_self;have hin:[w.i,w.j]∉ks:=hk w List.mem_cons_self;rw[List.map_cons,List.nodup_cons]at hn;have ih:=jc hS hw (De:=De) (ES:=ES) (R:=R) (x1:=x1) (x2:=x2) (x3:=x3) (x4:=x4) r (ks++[[w.i,w.j]]) (ds++[way w.l w.m]) (some (.int w.i)) (some (.int w.j)) (some (.int w.l)) (some (oi w.m)) (by simp[hl]) (by simp;omega) (fun v hv=>hg v (List.mem_cons_of_mem _ hv)) hn.2 (fun v hv=>by
   intro z;rcases List.mem_append.mp z with z|z
   ·exact hk v (List.mem_cons_of_mem _ hv) z
   ·exact hn.1 (by rw[show pr w=pr v from (List.mem_singleton.mp z).symm];exact List.mem_map_of_mem hv)) (fun a b c e=>by
    have:=hR a b c e;simpa [pr,wv] using this)
  rw[List.map_cons,aU];simp only[bM,wD]at ih ⊢;have h1:okH cl.length w.i=true/\okH cl.length w.j=true/\w.i≠w.j:=⟨g.i,g.j,g.ne⟩;simp[jH,hS];rw[gv (hw ks ds) (f:=22) (by decide) (by decide) (by decide),uu (hw ks ds) hl (by omega),if_pos h1,if_neg hin,g.l,if_neg Bool.false_ne_true,dm,lG hin,l7 hl hin]
  simpa using ih
noncomputable def wO(kls:Nat->PySem.Addr)(cks:List (Int×Int))(wy:List Wy):D:=.obj 6 (kls 6) [fC,fW] [.rol (cks.map cD),.dit (wy.map pr) (wy.map wv)]
theorem tM{cks:List (Int×Int)}{wy:List Wy}(hM:Fm M)(h1:1<=cks.length)(h6:cks.length<=6)(hc:∀c∈cks,qo c=false)(h2:wy.length < 400)(hw1:∀w∈wy,w.good cks.length)(hn:(wy.map pr).Nodup) :
  (∀p,M p=none->aa T (B cls kls fad) (n+6) 21 [.ref p,.rol (cks.map cD),.rol (wy.map wD)] (put M p (.ins 6 (kls 6) [] [])) (fun v M2=>v=.non/\bv Q (.ref p) M2) (fun i M'=>E i (del M' p)))=Q (wO kls cks wy) M:=by
 refine aJ hM fun p hp=>?_
 have hz:cks.length<=PySem.sizeLine:=Nat.le_trans (show cks.length<=1000 by omega) (by decide)
 have hB:¬ (cks.length:Int) < 1:=by omega
 have hC:¬ (6:Int) < cks.length:=by omega
 have hB':¬ cks.length < 1:=by omega
 have hC':¬ 6 < cks.length:=by omega
 have hne:¬ cks=[]:=fun z=>by simp[z]at h1
 simp[iz,bH,hB,hC,hB',hC',hne];refine iff_of_eq (j6 (S:=fun _=>True) trivial cks none none hc fun x y=>?_)
 simp[rBi,aD,aj,hz];refine iff_of_eq (aJ (hM.put _ _) fun q hq=>?_)
 obtain⟨hqp,hq⟩:=bw hq;rw[show eN (B cls kls fad) 136762133858116729320171 (.ref q) _ (.ref p) (put (put M p (.ins 6 (kls 6) [] [])) q (.lst (cks.map cD)))=_ from fP (by rw[ak (Ne.symm hqp),ai])]
 simp;rw[iK (Ne.symm hqp)];refine iff_of_eq (aJ ((hM.put _ _).put _ _) fun d hd=>?_)
 obtain⟨hdq,hd⟩:=bw hd;obtain⟨hdp,hd⟩:=bw hd;rw[show eN (B cls kls fad) 8355170983792620267 (.ref d) _ (.ref p) (put (put (put M p (.ins 6 (kls 6) [136762133858116729320171] [.ref q])) q (.lst (cks.map cD))) d (.dt [] []))=_ from fP (by rw[ak (Ne.symm hdp),ak (Ne.symm hqp),ai])]
 simp;rw[fY (Ne.symm hqp) (Ne.symm hdp)];have hw:∀ks ds,Wd kls (put (put (put M p (.ins 6 (kls 6) [fC,fW] [.ref q,.ref d])) q (.lst (cks.map cD))) d (.dt ks ds)) p q d (cks.map cD) ks ds:=fun ks ds=>
  ⟨by rw[ak (Ne.symm hdp),ak (Ne.symm hqp),ai],by rw[ak (Ne.symm hdq),ai],ai⟩
 refine iff_of_eq (jc (S:=fun _=>True) (fun ks ds=>trivial) hw wy [] [] none none none none rfl (by simp;omega) (by simpa using hw1) hn (fun w _ z=>by cases z) fun x5 x6 x7 x8=>?_)
 rw[List.nil_append,List.nil_append];simp only[bv];rw[(hw _ _).ip];simp only[dE];have e1:∀ks' ds',del (put (put (put M p (.ins 6 (kls 6) [fC,fW] [.ref q,.ref d])) q (.lst (cks.map cD))) d (.dt ks' ds')) p q=some (.lst (cks.map cD)):=fun ks' ds'=>by
  unfold del;rw[if_neg hqp];exact (hw ks' ds').iq
 rw[e1];have e2:∀ks' ds',del (del (put (put (put M p (.ins 6 (kls 6) [fC,fW] [.ref q,.ref d])) q (.lst (cks.map cD))) d (.dt ks' ds')) p) q d=some (.dt ks' ds'):=fun ks' ds'=>by
  unfold del;rw[if_neg hdq,if_neg hdp];exact (hw ks' ds').id
 simp only[e2];have e3:∀ks' ds',del (del (del (put (put (put M p (.ins 6 (kls 6) [fC,fW] [.ref q,.ref d])) q (.lst (cks.map cD))) d (.dt ks' ds')) p) q) d=M:=fun ks' ds'=>by
  funext a;unfold del put;by_cases a1:a=d
  ·subst a1;simp[hd]
  ·by_cases a2:a=q
   ·subst a2;simp[hq,a1]
   ·by_cases a3:a=p
    ·subst a3;simp[hp,a1,a2]
    ·simp[a1,a2,a3]
 rw[e3];rfl
theorem vT(ns:List Int)(k:Nat):∃x:Int,∀{n:Nat}{M:MH}{Q:VK3}{E:XN},aa T (B cls kls fad) (n+1) 29 [scr ns,.int k] M Q E=Q (.int x) M:=by
 by_cases h:k < ns.length
 ·obtain⟨x,hx⟩:=BG (cs:=ns) (i:=k) (by omega) (by omega)
  refine⟨x,?_⟩;intro n M Q E;have h':(k:Int) < ns.length:=by omega
  simp[eI,bq,scr,cM hx,h]
 ·refine⟨0,?_⟩;intro n M Q E;simp[eI,bq,scr,h]
theorem dN(lo:Int)(k:Nat):rng lo (k+1)=.int lo::rng (lo+1) k:=by
 simp only[rng,List.range_succ_eq_map,List.map_cons,List.map_map];congr 1
 ·simp
 ·apply List.map_congr_left;intro i _;simp;omega
variable {cks:List (Int×Int)}{wy:List Wy}
theorem o_c:cH (B cls kls fad) 136762133858116729320171 (wO kls cks wy) M Q=Q (.rol (cks.map cD)) M:=by simp[wO,fC,fW]
theorem o_w:cH (B cls kls fad) 8355170983792620267 (wO kls cks wy) M Q=Q (.dit (wy.map pr) (wy.map wv)) M:=by simp[wO,fC,fW]
theorem o_m{m f:Nat}{R:Nat->Prop}(hm:mth 6 m=some f)(h1:fC≠m)(h2:fW≠m):dG (B cls kls fad) m (wO kls cks wy) M R=R f:=by
 simp[wO,hm,h1,h2]
theorem o1{R:Nat->Prop}:dG (B cls kls fad) 31081607400 (wO kls cks wy) M R=R 25:=o_m (by decide) (by decide) (by decide)
theorem ql:aa T (B cls kls fad) (n+1) 25 [wO kls cks wy] M Q E=Q (.int cks.length) M:=by
 simp[eO,bo,o_c]
theorem li{i:Int}:aa T (B cls kls fad) (n+2) 26 [wO kls cks wy,.int i] M Q E=Q (.bl (okH cks.length i)) M:=by
 simp[cS,aQ,okH];by_cases h0:0<=i
 ·simp[h0,o1,ql]
 ·simp[h0]
theorem qH{k:List Int}:∀{wy:List Wy},(getD (wy.map pr) (wy.map wv) k).isSome=decide (k∈wy.map pr)
 |[]=>by simp[getD]
 |w::r=>by
  have ih:=qH (k:=k) (wy:=r);simp only[List.map_cons,getD];by_cases e:pr w=k
  ·simp[e]
  ·rw[if_neg e,ih];simp[Ne.symm e]
theorem wJ{i j:Int}:aw .In (.tup [.int i,.int j]) (.dit (wy.map pr) (wy.map wv)) M Q=Q (.bl (decide ([i,j]∈wy.map pr))) M:=by
 have e:=qH (k:=[i,j]) (wy:=wy);simp[aw,lZ,aD,aj,gu,eZ,gW,jt,eJ,e]
theorem mV{i j:Int}:aa T (B cls kls fad) (n+1) 27 [wO kls cks wy,.int i,.int j] M Q E=Q (.bl (decide ([i,j]∈wy.map pr))) M:=by
 simp only[gV,bt];simp[am,↓o_w,↓wJ]
end
end G
namespace G
open L2
section
variable {cls kls fad:Nat->PySem.Addr}{M:MH}{Q:VK3}{E:XN}{n:Nat}{p q:PySem.Addr}{cks:List (Int×Int)}{wy:List Wy}
theorem dR{i:Int}:aa T (B cls kls fad) (n+1) 0 [.int i] M Q E=Q (.bl true) M:=by
 simp[eR,bP]
theorem xW{a b:Int}{E:PySem.Addr->XN}(hM:Fm M):(∀p,M p=none->aa T (B cls kls fad) (n+2) 2 [.ref p,.int a,.int b] (put M p (.ins 1 (kls 1) [] [])) (fun v M2=>v=.non/\bv Q (.ref p) M2) (E p))=Q (.obj 1 (kls 1) [211529960,456806758904562] [.int a,.int b]) M:=
 aJ hM fun p hp=>by simp[jE,bT,aT,av,hp]
theorem uN{a b c d:Int}{E:PySem.Addr->XN}(hM:Fm M):(∀p,M p=none->aa T (B cls kls fad) (n+2) 4 [.ref p,.int a,.int b,.int c,.int d] (put M p (.ins 2 (kls 2) [] [])) (fun v M2=>v=.non/\bv Q (.ref p) M2) (E p))=Q (.obj 2 (kls 2) [211529960,456806758904562,32709062885,213725420] [.int a,.int b,.int c,.int d]) M:=
 aJ hM fun p hp=>by simp[iB,bJ,aT,av,hp]
theorem Ay{a b c:Int}{E:PySem.Addr->XN}(hM:Fm M):(∀p,M p=none->aa T (B cls kls fad) (n+2) 6 [.ref p,.int a,.int b,.int c] (put M p (.ins 3 (kls 3) [] [])) (fun v M2=>v=.non/\bv Q (.ref p) M2) (E p))=Q (.obj 3 (kls 3) [211529960,456806758904562,14324] [.int a,.int b,.int c]) M:=
 aJ hM fun p hp=>by simp[jB,bW,aT,av,hp]
theorem zh{a b:Int}{c:List D}{E:PySem.Addr->XN}(hM:Fm M):(∀p,M p=none->aa T (B cls kls fad) (n+2) 8 [.ref p,.int a,.int b,.tup c] (put M p (.ins 4 (kls 4) [] [])) (fun v M2=>v=.non/\bv Q (.ref p) M2) (E p))=Q (.obj 4 (kls 4) [211529960,456806758904562,3944367338220] [.int a,.int b,.tup c]) M:=
 aJ hM fun p hp=>by simp[jy,bS,aT,av,hp]
inductive Rw where
 |look (h r:Int)|sight (h r e l:Int)|send (h r t:Int)|take (h r a b:Int)
noncomputable def Rw.d:Rw->D
 |.look h r=>.tup [.str "look",.int h,.int r]
 |.sight h r e l=>.tup [.str "sight",.int h,.int r,.int e,.int l]
 |.send h r t=>.tup [.str "send",.int h,.int r,.int t]
 |.take h r a b=>.tup [.str "take",.int h,.int r,.tup [.int a,.int b]]
noncomputable def Rw.o(kls:Nat->PySem.Addr):Rw->D
 |.look h r=>.obj 1 (kls 1) [211529960,456806758904562] [.int h,.int r]
 |.sight h r e l=>.obj 2 (kls 2) [211529960,456806758904562,32709062885,213725420] [.int h,.int r,.int e,.int l]
 |.send h r t=>.obj 3 (kls 3) [211529960,456806758904562,14324] [.int h,.int r,.int t]
 |.take h r a b=>.obj 4 (kls 4) [211529960,456806758904562,3944367338220] [.int h,.int r,.tup [.int a,.int b]]
theorem mR{ns:List Int}{k:Int}(hM:Fm M)(hl:ns.length < 1000):aa T (B cls kls fad) (n+2) 10 [.tup (ns.map D.int),.int k] M Q E=Q (.bl (decide ((ns.length:Int)=k))) M:=by
 simp[ff,bL];by_cases h:(ns.length:Int)=k
 ·simp[h,ay];rw[fU (fun _=>.bl true) hM (by rw[List.length_map];omega) (fun d hd M' hM' Q'=>by
   obtain⟨i,_,rfl⟩:=List.mem_map.mp hd;simp[dR])]
  rw[ou (fun _=>true) (fun _ _=>rfl)]
  have:∀l:List Int,(l.all fun _=>true)=true:=fun l=>List.all_eq_true.mpr fun _ _=>rfl
  simp[this]
 ·simp[h]
theorem yP{a b k:Int}(hM:Fm M):aa T (B cls kls fad) (n+2) 10 [.tup [.int a,.int b],.int k] M Q E=Q (.bl (decide (2=k))) M:=mR (ns:=[a,b]) hM (by simp)
theorem FW{a b c k:Int}(hM:Fm M):aa T (B cls kls fad) (n+2) 10 [.tup [.int a,.int b,.int c],.int k] M Q E=Q (.bl (decide (3=k))) M:=mR (ns:=[a,b,c]) hM (by simp)
theorem G9{a b c d k:Int}(hM:Fm M):aa T (B cls kls fad) (n+2) 10 [.tup [.int a,.int b,.int c,.int d],.int k] M Q E=Q (.bl (decide (4=k))) M:=mR (ns:=[a,b,c,d]) hM (by simp)
theorem qS{a b:Int}(hM:Fm M):aa T (B cls kls fad) (n+3) 11 [.tup [.int a,.int b]] M Q E=Q (.bl true) M:=by
 simp[gL,cg,yP hM]
theorem gO(r:Rw)(hM:Fm M):aa T (B cls kls fad) (n+4) 12 [r.d] M Q E=Q (r.o kls) M:=by
 cases r with
 |look h r=>simp +decide [aR,aA,Rw.d,Rw.o,whole,HT.sIx,ar,yP hM,xW hM,oG,pH,oZ]
 |sight h r e l=>simp +decide [aR,aA,Rw.d,Rw.o,whole,HT.sIx,ar,G9 hM,uN hM,oG,pH,oZ,rN]
 |send h r t=>simp +decide [aR,aA,Rw.d,Rw.o,whole,HT.sIx,ar,FW hM,Ay hM,oG,pH,oZ,rN]
 |take h r a b=>simp +decide [aR,aA,Rw.d,Rw.o,whole,HT.sIx,ar,yP hM,qS hM,zh hM,oG,pH,oZ,rN]
end
end G
namespace G
open L2
section
variable {cls kls fad:Nat->PySem.Addr}{M:MH}{Q:VK3}{E:XN}{n:Nat}{p q a b d:PySem.Addr}{cks:List (Int×Int)}{wy:List Wy}
noncomputable abbrev fCn:Nat:=3982741043171
noncomputable abbrev fRd:Nat:=65196051402355442
noncomputable abbrev fUn:Nat:=487284377728885
structure St where
 kc:List Key
 dc:List D
 kr:List Key
 dr:List D
 ku:List (List Int)
 du:List D
noncomputable def HS(M0:MH)(a b d:PySem.Addr)(S:St):MH:=put (put (put M0 a (.dk S.kc S.dc)) b (.dk S.kr S.dr)) d (.dt S.ku S.du)
structure Ah (kls:Nat->PySem.Addr)(M0:MH)(p a b d:PySem.Addr):Prop where
 ip:M0 p=some (.ins 5 (kls 5) [fCn,fRd,fUn] [.ref a,.ref b,.ref d])
 pa:p≠a
 pb:p≠b
 pd:p≠d
 ab:a≠b
 ad:a≠d
 bd:b≠d
variable {M0:MH}{S:St}
theorem Ah.gp(h:Ah kls M0 p a b d):HS M0 a b d S p=some (.ins 5 (kls 5) [fCn,fRd,fUn] [.ref a,.ref b,.ref d]):=by
 unfold HS;rw[ak h.pd,ak h.pb,ak h.pa];exact h.ip
theorem Ah.ga(h:Ah kls M0 p a b d):HS M0 a b d S a=some (.dk S.kc S.dc):=by
 unfold HS;rw[ak h.ad,ak h.ab,ai]
theorem Ah.gb(h:Ah kls M0 p a b d):HS M0 a b d S b=some (.dk S.kr S.dr):=by
 unfold HS;rw[ak h.bd,ai]
theorem Ah.gd(h:Ah kls M0 p a b d):HS M0 a b d S d=some (.dt S.ku S.du):=ai
theorem Ah.sa(h:Ah kls M0 p a b d){x:List Key}{y:List D}:put (HS M0 a b d S) a (.dk x y)=HS M0 a b d {S with kc:=x,dc:=y}:=by
 unfold HS;rw[fY h.ab h.ad]
theorem Ah.sb(h:Ah kls M0 p a b d){x:List Key}{y:List D}:put (HS M0 a b d S) b (.dk x y)=HS M0 a b d {S with kr:=x,dr:=y}:=by
 unfold HS;rw[iK h.bd]
theorem Ah.sd(h:Ah kls M0 p a b d){x:List (List Int)}{y:List D}:put (HS M0 a b d S) d (.dt x y)=HS M0 a b d {S with ku:=x,du:=y}:=by
 unfold HS;rw[dm]
theorem Ah.keep(h:Ah kls M0 p a b d){S':St}:af (HS M0 a b d S) (HS M0 a b d S')=HS M0 a b d S':=by
 show af (HS M0 a b d S) (put (put (put M0 a (.dk S'.kc S'.dc)) b (.dk S'.kr S'.dr)) d (.dt S'.ku S'.du))=_;rw[cV h.gd,cV h.gb,cV h.ga];have e:af (HS M0 a b d S) M0=M0:=by
  funext x;unfold af;by_cases x1:x=d
  ·subst x1;simp[h.gd]
  ·by_cases x2:x=b
   ·subst x2;simp[h.gb]
   ·by_cases x3:x=a
    ·subst x3;simp[h.ga]
    ·have:HS M0 a b d S x=M0 x:=by unfold HS;rw[ak x1,ak x2,ak x3]
     rw[this];cases M0 x<;>rfl
 rw[e];rfl
theorem Ah.fc(h:Ah kls M0 p a b d):cH (B cls kls fad) fCn (.ref p) (HS M0 a b d S) Q=Q (.ref a) (HS M0 a b d S):=by
 simp[cH,h.gp,fS,fCn,fRd,fUn]
theorem Ah.fr(h:Ah kls M0 p a b d):cH (B cls kls fad) fRd (.ref p) (HS M0 a b d S) Q=Q (.ref b) (HS M0 a b d S):=by
 simp[cH,h.gp,fS,fCn,fRd,fUn]
theorem Ah.fu(h:Ah kls M0 p a b d):cH (B cls kls fad) fUn (.ref p) (HS M0 a b d S) Q=Q (.ref d) (HS M0 a b d S):=by
 simp[cH,h.gp,fS,fCn,fRd,fUn]
noncomputable def Rw.h:Rw->Int
 |.look h _=>h
 |.sight h _ _ _=>h
 |.send h _ _=>h
 |.take h _ _ _=>h
noncomputable def Rw.r:Rw->Int
 |.look _ r=>r
 |.sight _ r _ _=>r
 |.send _ r _=>r
 |.take _ r _ _=>r
theorem rK{r:Rw}:cH (B cls kls fad) 211529960 (r.o kls) M Q=Q (.int r.h) M:=by
 cases r<;>simp[Rw.o,Rw.h]
theorem qk{r:Rw}:cH (B cls kls fad) 456806758904562 (r.o kls) M Q=Q (.int r.r) M:=by
 cases r<;>simp[Rw.o,Rw.r]
theorem uI{ks:List Key}{ds:List D}{h c:Int}(hM:M a=some (.dk ks ds))(hz:ks.length < 1000)(hc:(getD ks ds (.inl h)).getD (.int 0)=.int c) :
  aa T (B cls kls fad) (n+1) 13 [.ref a,.int h] M Q E=Q (.tup [.int h,.int c]) (put M a (.dk (aq ks (.inl h)) (ax ks ds (.inl h) (.int (c+1))))):=by
 have hs:ks.length < PySem.sizeLine:=Nat.lt_of_lt_of_le hz (by decide)
 simp[mx,de,le hM,sC hM,hc,mo hM,hs,cV hM,am]
noncomputable def St.step(S:St)(c:Int)(r:Rw):St:=
 let T:St:={S with kc:=aq S.kc (.inl r.h),dc:=ax S.kc S.dc (.inl r.h) (.int (c+1)),kr:=aq S.kr (.inl r.h),dr:=ax S.kr S.dr (.inl r.h) (.int r.r)}
 match r with
 |.send h _ t=>{T with ku:=aq S.ku [h,c],du:=ax S.ku S.du [h,c] (.int t)}
 |.take _ _ i j=>{T with ku:=aH S.ku [i,j],du:=aV S.ku S.du [i,j]}
 |_=>T
noncomputable def Rw.there(r:Rw)(S:St):Prop:=match r with
 |.take h _ i j=>getD S.ku S.du [i,j]=some (.int h)
 |_=>True
theorem qB{r:Rw}{c:Int}(A:Ah kls M0 p a b d)(hc:(getD S.kc S.dc (.inl r.h)).getD (.int 0)=.int c)(z1:S.kc.length < 1000)(z2:S.kr.length < 1000)(z3:S.ku.length < 1000)(ht:r.there S) :
  aa T (B cls kls fad) (n+2) 15 [.ref p,r.o kls] (HS M0 a b d S) Q E=Q .non (HS M0 a b d (S.step c r)):=by
 have fc:=fun {S:St}{Q:VK3}=>A.fc (cls:=cls) (fad:=fad) (S:=S) (Q:=Q)
 have fr:=fun {S:St}{Q:VK3}=>A.fr (cls:=cls) (fad:=fad) (S:=S) (Q:=Q)
 have fu:=fun {S:St}{Q:VK3}=>A.fu (cls:=cls) (fad:=fad) (S:=S) (Q:=Q)
 have oh:=fun {M:MH}{Q:VK3}=>rK (cls:=cls) (fad:=fad) (kls:=kls) (M:=M) (Q:=Q) (r:=r)
 have or:=fun {M:MH}{Q:VK3}=>qk (cls:=cls) (fad:=fad) (kls:=kls) (M:=M) (Q:=Q) (r:=r)
 have cc:=fun {Q:VK3}{E:XN}=>uI (cls:=cls) (kls:=kls) (fad:=fad) (n:=n) (Q:=Q) (E:=E) (A.ga (S:=S)) z1 hc
 have s2:S.kr.length < PySem.sizeLine:=Nat.lt_of_lt_of_le z2 (by decide)
 have s3:S.ku.length < PySem.sizeLine:=Nat.lt_of_lt_of_le z3 (by decide)
 have ix:=fun {S:St}{i:Int}{y:D}{R:MH->Prop}=>mo (i:=i) (y:=y) (R:=R) (A.gb (S:=S))
 simp only[jA,bV];simp only[fCn]at fc;simp only[fRd]at fr;simp only[fUn]at fu;simp[↓fc,↓oh,↓cc,↓fr,↓or,A.sa,↓ix,s2,A.sb];cases r with
 |look h v=>simp[Rw.o,A.keep,St.step]
 |sight h v e l=>simp[Rw.o,A.keep,St.step]
 |send h v t=>
  simp[Rw.o,↓fu,bu,A.gd,jt,eJ,s3,A.sd,A.keep,St.step,Rw.h,Rw.r]
 |take h v i j=>
  have ht':getD S.ku S.du [i,j]=some (.int h):=ht;simp[Rw.o,↓fu,tyB,eZ,gW,rBm,A.gd,jt,eJ,ht',A.sd,A.keep,St.step,Rw.h,Rw.r]
end
end G
namespace G
open L2
section
variable {cls kls fad:Nat->PySem.Addr}{M:MH}{Q:VK3}{E:XN}{n:Nat}{p q a b d:PySem.Addr}{cks:List (Int×Int)}{wy:List Wy}{M0:MH}{S:St}{r:Rw}
noncomputable def flK(wy:List Wy)(S:St)(r:Rw):Option XE:=match r with
 |.look ..=>none
 |.sight _ _ e l=>if l < e then some ⟨1,none⟩ else none
 |.send h _ t=>if [h,t]∈wy.map pr then none else some ⟨4,none⟩
 |.take h _ i j=>match getD S.ku S.du [i,j] with
  |some (.int l)=>if l=h then none else some ⟨7,none⟩
  |_=>some ⟨7,none⟩
noncomputable def flC(H:Nat)(S:St)(r:Rw):Option XE:=if okH H r.h=true then (match getD S.kr S.dr (.inl r.h) with
 |some (.int l)=>if r.r < l then some ⟨6,some (245166316,.int l)⟩ else none
 |_=>none) else some ⟨2,none⟩
noncomputable def flt(H:Nat)(wy:List Wy)(S:St)(r:Rw):Option XE:=match flC H S r with
 |some i=>some i
 |none=>flK wy S r
noncomputable def eu(o:Option XE)(M:MH)(Q:VK3)(E:XN):Prop:=match o with
 |some i=>E i M
 |none=>Q .non M
noncomputable def allI(ds:List D):Prop:=∀d∈ds,∃l:Int,d=.int l
theorem l5{κ:Type}[DecidableEq κ]{k:κ}{d:D}:∀{ks:List κ}{ds:List D},getD ks ds k=some d->d∈ds
 |[],ds,h=>by simp[getD]at h
 |q::ks,[],h=>by simp[getD]at h
 |q::ks,x::ds,h=>by
  simp only[getD]at h;split at h
  ·cases h;exact List.mem_cons_self
  ·exact List.mem_cons_of_mem _ (l5 h)
theorem allI.get{κ:Type}[DecidableEq κ]{ks:List κ}{ds:List D}(h:allI ds)(k:κ):getD ks ds k=none\/∃l:Int,getD ks ds k=some (.int l):=by
 cases e:getD ks ds k with
 |none=>exact .inl rfl
 |some d=>obtain⟨l,rfl⟩:=h d (l5 e);exact .inr ⟨l,rfl⟩
theorem tY{ks:List Key}{ds:List D}{i:Int}(h:M a=some (.dk ks ds)):rBm .get (.ref a) [.int i] M Q=Q ((getD ks ds (.inl i)).getD .non) M:=by simp[rBm,gu,eZ,h,ng]
theorem t7{ks:List (List Int)}{ds:List D}{i j:Int}(h:M a=some (.dt ks ds)):rBm .get (.ref a) [.tup [.int i,.int j]] M Q=Q ((getD ks ds [i,j]).getD .non) M:=by simp[rBm,gu,eZ,gW,h,jt,eJ]
theorem ka(A:Ah kls M0 p a b d)(hr:allI S.dr):aa T (B cls kls fad) (n+3) 16 [wO kls cks wy,.ref p,r.o kls] (HS M0 a b d S) Q E=eu (flC cks.length S r) (HS M0 a b d S) Q E:=by
 have fr:=fun {S:St}{Q:VK3}=>A.fr (cls:=cls) (fad:=fad) (S:=S) (Q:=Q)
 have oh:=fun {M:MH}{Q:VK3}=>rK (cls:=cls) (fad:=fad) (kls:=kls) (M:=M) (Q:=Q) (r:=r)
 have or:=fun {M:MH}{Q:VK3}=>qk (cls:=cls) (fad:=fad) (kls:=kls) (M:=M) (Q:=Q) (r:=r)
 have om:∀{M:MH}{R:Nat->Prop},dG (B cls kls fad) 56782141471387880 (wO kls cks wy) M R=R 26:=fun {M R}=>o_m (by decide) (by decide) (by decide)
 have hh:=fun {M:MH}{Q:VK3}{E:XN}=>li (cls:=cls) (kls:=kls) (fad:=fad) (n:=n) (M:=M) (Q:=Q) (E:=E) (cks:=cks) (wy:=wy) (i:=r.h)
 have g1:=fun {i:Int}{Q:VK3}=>tY (i:=i) (Q:=Q) (A.gb (S:=S))
 simp only[fRd]at fr;simp only[fE,aW];unfold flC;by_cases h0:okH cks.length r.h=true
 ·rcases hr.get (ks:=S.kr) (.inl r.h:Key) with e|⟨l,e⟩
  ·simp[↓oh,↓om,↓hh,h0,↓fr,le (A.gb (S:=S)),↓g1,e,eu,D.isN]
  ·by_cases h1:r.r < l
   ·simp[↓oh,↓om,↓hh,h0,↓fr,le (A.gb (S:=S)),↓g1,e,↓or,h1,eu,D.isN,rXp,L2.cpF]
   ·simp[↓oh,↓om,↓hh,h0,↓fr,le (A.gb (S:=S)),↓g1,e,↓or,h1,eu,D.isN]
 ·simp[↓oh,↓om,↓hh,h0,eu,am]
theorem lv(A:Ah kls M0 p a b d)(hu:allI S.du):aa T (B cls kls fad) (n+2) 17 [wO kls cks wy,.ref p,r.o kls] (HS M0 a b d S) Q E=eu (flK wy S r) (HS M0 a b d S) Q E:=by
 have fu:=fun {S:St}{Q:VK3}=>A.fu (cls:=cls) (fad:=fad) (S:=S) (Q:=Q)
 have om:∀{M:MH}{R:Nat->Prop},dG (B cls kls fad) 535528667410664 (wO kls cks wy) M R=R 27:=fun {M R}=>o_m (by decide) (by decide) (by decide)
 have hw:=fun {M:MH}{Q:VK3}{E:XN}{i j:Int}=>mV (cls:=cls) (kls:=kls) (fad:=fad) (n:=n) (M:=M) (Q:=Q) (E:=E) (cks:=cks) (wy:=wy) (i:=i) (j:=j)
 have g1:=fun {i j:Int}{Q:VK3}=>t7 (i:=i) (j:=j) (Q:=Q) (A.gd (S:=S))
 have tg:tyB .get (.ref d) (HS M0 a b d S)=true:=by simp[tyB,eZ,gW,A.gd]
 simp only[fUn]at fu;simp only[f8,bg];cases r with
 |look h v=>simp[Rw.o,flK,eu]
 |sight h v e l=>
  by_cases h1:l < e<;>simp[Rw.o,flK,eu,h1,am]
 |send h v t=>
  by_cases h1:[h,t]∈wy.map pr
  ·simp[Rw.o,flK,eu,↓om,↓hw,h1]
  ·simp[Rw.o,flK,eu,↓om,↓hw,h1,am]
 |take h v i j=>
  rcases hu.get (ks:=S.ku) [i,j] with e|⟨l,e⟩
  ·have n1:∀{M:MH}{Q:VK3},aw .NotEq .non (.int h) M Q=Q (.bl true) M:=fun {M Q}=>by simp[aw,cG,rs,aj,plN,pl,eqD]
   simp[Rw.o,flK,eu,↓fu,tg,↓g1,e,↓n1,am]
  ·by_cases h1:l=h
   ·subst h1;simp[Rw.o,flK,eu,↓fu,tg,↓g1,e]
   ·simp[Rw.o,flK,eu,↓fu,tg,↓g1,e,h1,am]
theorem lW(hu:allI S.du)(h:flK wy S r=none):r.there S:=by
 cases r with
 |take h' v i j=>
  unfold flK at h;show getD S.ku S.du [i,j]=some (.int h');rcases hu.get (ks:=S.ku) [i,j] with e|⟨l,e⟩
  ·simp[e]at h
  ·simp[e]at h;rw[e,h]
 |_=>trivial
noncomputable def gY(c:Int->Nat)(h:Int):Int->Nat:=fun x=>if x=h then c x+1 else c x
structure SI (S:St)(c:Int->Nat)(m:Nat):Prop where
 l1:S.kc.length=S.dc.length
 l2:S.kr.length=S.dr.length
 l3:S.ku.length=S.du.length
 z1:S.kc.length<=m
 z2:S.kr.length<=m
 z3:S.ku.length<=m
 hc:∀h,(getD S.kc S.dc (.inl h)).getD (.int 0)=.int (c h)
 hr:allI S.dr
 hu:allI S.du
theorem lM{κ:Type}[DecidableEq κ]{k:κ}{y x:D}:∀{ks:List κ}{ds:List D},x∈ax ks ds k y->x=y\/x∈ds
 |[],ds,h=>by
  cases ds<;>simp[ax]at h<;>simp[h]
 |q::ks,[],h=>by simp[ax]at h;exact .inl h
 |q::ks,d::ds,h=>by
  simp only[ax]at h;split at h
  ·rcases List.mem_cons.mp h with h|h
   ·exact .inl h
   ·exact .inr (List.mem_cons_of_mem _ h)
  ·rcases List.mem_cons.mp h with h|h
   ·exact .inr (h▸List.mem_cons_self)
   ·rcases lM h with h|h
    ·exact .inl h
    ·exact .inr (List.mem_cons_of_mem _ h)
theorem allI.put{κ:Type}[DecidableEq κ]{ks:List κ}{ds:List D}(h:allI ds){k:κ}{i:Int}:allI (ax ks ds k (.int i)):=fun d hd=>by
 rcases lM hd with rfl|hd
 ·exact⟨i,rfl⟩
 ·exact h d hd
theorem j2{κ:Type}[DecidableEq κ]{k:κ}{x:D}:∀{ks:List κ}{ds:List D},x∈aV ks ds k->x∈ds
 |[],ds,h=>by simpa [aV] using h
 |q::ks,[],h=>by simp[aV]at h
 |q::ks,d::ds,h=>by
  simp only[aV]at h;split at h
  ·exact List.mem_cons_of_mem _ h
  ·rcases List.mem_cons.mp h with h|h
   ·exact h▸List.mem_cons_self
   ·exact List.mem_cons_of_mem _ (j2 h)
theorem jl{κ:Type}[DecidableEq κ]{k:κ}:∀{ks:List κ}{ds:List D},ks.length=ds.length->(aH ks k).length=(aV ks ds k).length/\(aH ks k).length<=ks.length
 |[],[],_=>by simp[aH,aV]
 |q::ks,d::ds,h=>by
  have ih:=jl (k:=k) (ks:=ks) (ds:=ds) (by simpa using h)
  simp only[aH,aV];split
  ·exact⟨by simpa using h,by simp⟩
  ·simp;exact ih
theorem SI.step{c:Int->Nat}{m:Nat}(I:SI S c m):SI (S.step (c r.h) r) (gY c r.h) (m+1):=by
 have p1:=cT (ks:=S.kc) (k:=(.inl r.h:Key));have p2:=cT (ks:=S.kr) (k:=(.inl r.h:Key));have z1:=I.z1;have z2:=I.z2;have z3:=I.z3;have base:∀(ku:List (List Int)) (du:List D),ku.length=du.length->ku.length<=m+1->allI du->SI {S with kc:=aq S.kc (.inl r.h),dc:=ax S.kc S.dc (.inl r.h) (.int (c r.h+1)),kr:=aq S.kr (.inl r.h),dr:=ax S.kr S.dr (.inl r.h) (.int r.r),ku:=ku,du:=du} (gY c r.h) (m+1):=fun ku du a1 a2 a3=>
  ⟨dY I.l1,dY I.l2,a1,by show (aq S.kc _).length<=_;omega,by show (aq S.kr _).length<=_;omega,a2,fun x=>by
   show (getD (aq S.kc _) (ax S.kc S.dc _ _) _).getD _=_;rw[fL I.l1];by_cases e:r.h=x
   ·subst e;simp[gY]
   ·have e2:¬ ((Sum.inl r.h:Key)=Sum.inl x):=fun z=>e (Sum.inl.inj z)
    rw[if_neg e2,I.hc x];simp[gY,Ne.symm e],I.hr.put,a3⟩
 cases r with
 |look h v=>exact base _ _ I.l3 (by omega) I.hu
 |sight h v e l=>exact base _ _ I.l3 (by omega) I.hu
 |send h v t=>
  exact base _ _ (dY I.l3) (Nat.le_trans cT (by omega)) I.hu.put
 |take h v i j=>
  obtain⟨d1,d2⟩:=jl (k:=[i,j]) I.l3;exact base _ _ d1 (by omega) fun d hd=>I.hu d (j2 hd)
noncomputable def aI(H:Nat)(wy:List Wy):St->(Int->Nat)->List Rw->Prop
 |_,_,[]=>True
 |S,c,r::rs=>flt H wy S r=none/\aI H wy (S.step (c r.h) r) (gY c r.h) rs
noncomputable def jC:St->(Int->Nat)->List Rw->St
 |S,_,[]=>S
 |S,c,r::rs=>jC (S.step (c r.h) r) (gY c r.h) rs
noncomputable def ya:(Int->Nat)->List Rw->(Int->Nat)
 |c,[]=>c
 |c,r::rs=>ya (gY c r.h) rs
theorem lr{H:Nat}(h:flt H wy S r=none):flC H S r=none/\flK wy S r=none:=by
 unfold flt at h;split at h
 ·cases h
 ·rename_i e;exact⟨e,h⟩
theorem t5{R:Nat->Prop}(A:Ah kls M0 p a b d):dG (B cls kls fad) 30815369061 (.ref p) (HS M0 a b d S) R=R 15:=by
 simp[dG,A.gp,cW,fCn,fRd,fUn]
theorem rR{m:Nat}{c:Int->Nat}{De:Ends3}{ES:St3->XN}{x1 x4:Option D}(A:Ah kls M0 p a b d)(I:SI S c m)(hm:m < 900)(hf:flt cks.length wy S r=none)(hM:Fm (HS M0 a b d S)) :
  ao ⟨(B cls kls fad),aa T (B cls kls fad) (n+4)⟩ aL De ES [some (wO kls cks wy),x1,some (.ref p),some r.d,x4] (HS M0 a b d S)=De.nx [some (wO kls cks wy),x1,some (.ref p),some r.d,some (r.o kls)] (HS M0 a b d (S.step (c r.h) r)):=by
 obtain⟨f1,f2⟩:=lr hf;have h1:=fun {Q:VK3}{E:XN}=>gO (cls:=cls) (kls:=kls) (fad:=fad) (n:=n) (Q:=Q) (E:=E) r hM
 have h2:=fun {Q:VK3}{E:XN}=>ka (cls:=cls) (fad:=fad) (n:=n+1) (Q:=Q) (E:=E) (cks:=cks) (wy:=wy) (r:=r) A I.hr
 have h3:=fun {Q:VK3}{E:XN}=>lv (cls:=cls) (fad:=fad) (n:=n+2) (Q:=Q) (E:=E) (cks:=cks) (wy:=wy) (r:=r) A I.hu
 have h4:=fun {Q:VK3}{E:XN}=>qB (cls:=cls) (fad:=fad) (n:=n+2) (Q:=Q) (E:=E) A (I.hc r.h) (by have:=I.z1;omega) (by have:=I.z2;omega) (by have:=I.z3;omega) (lW I.hu f2)
 have me:=fun {R:Nat->Prop}=>t5 (cls:=cls) (fad:=fad) (S:=S) (R:=R) A
 simp only[aL];simp[↓h1,↓h2,f1,eu,↓h3,f2,↓me,↓h4]
theorem Fm.hs(h:Fm M0):Fm (HS M0 a b d S):=((h.put _ _).put _ _).put _ _
theorem lJ{De:Ends3}{ES:St3->XN}{x1:Option D}{R:Prop}{tl:List D}(A:Ah kls M0 p a b d)(hM:Fm M0):∀(rs:List Rw)(S:St)(c:Int->Nat)(m:Nat)(x3 x4:Option D),SI S c m->m+rs.length < 900->aI cks.length wy S c rs->
  (∀x3 x4,cz ⟨(B cls kls fad),aa T (B cls kls fad) (n+4)⟩ (.name 3) aL ES (fun _=>True) De tl [some (wO kls cks wy),x1,some (.ref p),x3,x4] (HS M0 a b d (jC S c rs))=R)->
  cz ⟨(B cls kls fad),aa T (B cls kls fad) (n+4)⟩ (.name 3) aL ES (fun _=>True) De (rs.map Rw.d++tl) [some (wO kls cks wy),x1,some (.ref p),x3,x4] (HS M0 a b d S)=R
 |[],S,c,m,x3,x4,I,hm,hf,hR=>hR x3 x4
 |r::rs,S,c,m,x3,x4,I,hm,hf,hR=>by
  simp only[List.length_cons]at hm;have ih:=lJ (De:=De) (ES:=ES) (x1:=x1) (R:=R) (tl:=tl) A hM rs (S.step (c r.h) r) (gY c r.h) (m+1) (some r.d) (some (r.o kls)) I.step (by omega) hf.2 hR
  rw[List.map_cons,List.cons_append,aU];have one:=rR (cls:=cls) (fad:=fad) (n:=n) (De:={De with nx:=cz ⟨(B cls kls fad),aa T (B cls kls fad) (n+4)⟩ (.name 3) aL ES (fun _=>True) De (rs.map Rw.d++tl),ct:=cz ⟨(B cls kls fad),aa T (B cls kls fad) (n+4)⟩ (.name 3) aL ES (fun _=>True) De (rs.map Rw.d++tl),bk:=De.nx}) (ES:=ES) (x1:=x1) (x4:=x4) (wy:=wy) (cks:=cks) A I (by omega) hf.1 (Fm.hs hM)
  rw[true_and,g4];show ao _ _ _ _ [some (wO kls cks wy),x1,some (.ref p),some r.d,x4] _=R;rw[one];exact ih
end
end G
namespace G
open L2
section
variable {cls kls fad:Nat->PySem.Addr}{M:MH}{Q:VK3}{E:XN}{n:Nat}{p q a b d:PySem.Addr}{cks:List (Int×Int)}{wy:List Wy}{M0:MH}{S:St}{r:Rw}
noncomputable def S0:St:=⟨[],[],[],[],[],[]⟩
theorem si0:SI S0 (fun _=>0) 0:=⟨rfl,rfl,rfl,Nat.le_refl _,Nat.le_refl _,Nat.le_refl _,(fun _=>rfl),(fun _ h=>by cases h),(fun _ h=>by cases h)⟩
theorem pe{M:MH}{a b c e:PySem.Addr}{x y w u z:DO}(h:a≠b)(h':a≠c)(h2:a≠e):put (put (put (put (put M a x) b y) c w) e u) a z=put (put (put (put M a z) b y) c w) e u:=by
 funext k;unfold put;by_cases h1:k=a
 ·subst h1;simp[h,h',h2]
 ·simp[h1]
theorem jp{rows:List Rw}{tl:List D}{R:Prop}(hM:Fm M)(hl:rows.length < 400)(hf:aI cks.length wy S0 (fun _=>0) rows)
  (hR:∀(M0:MH) p a b d x3 x4,Ah kls M0 p a b d->Fm M0->(∀S,af M (HS M0 a b d S)=M)->
   cz ⟨(B cls kls fad),aa T (B cls kls fad) (n+4)⟩ (.name 3) aL (fun _ i M'=>E i (af M M')) (fun _=>True) {nx:=fun _ M'=>Q .non (af M M'),rt:=fun v M'=>Q v (af M M')} tl [some (wO kls cks wy),some (.rol (rows.map Rw.d++tl)),some (.ref p),x3,x4] (HS M0 a b d (jC S0 (fun _=>0) rows))=R) :
  aa T (B cls kls fad) (n+5) 18 [wO kls cks wy,.rol (rows.map Rw.d++tl)] M Q E=R:=by
 simp only[uS,g8];simp;refine iff_of_eq (aJ hM fun p hp=>?_)
 simp only[iL,bF];simp;refine iff_of_eq (aJ (hM.put _ _) fun a ha=>?_)
 obtain⟨hap,ha⟩:=bw ha;rw[show eN (B cls kls fad) 3982741043171 (.ref a) _ (.ref p) (put (put M p (.ins 5 (kls 5) [] [])) a (.dk [] []))=_ from fP (by rw[ak (Ne.symm hap),ai])]
 simp;rw[iK (Ne.symm hap)];refine iff_of_eq (aJ ((hM.put _ _).put _ _) fun b hb=>?_)
 obtain⟨hba,hb⟩:=bw hb;obtain⟨hbp,hb⟩:=bw hb;rw[show eN (B cls kls fad) 65196051402355442 (.ref b) _ (.ref p) (put (put (put M p (.ins 5 (kls 5) [3982741043171] [.ref a])) a (.dk [] [])) b (.dk [] []))=_ from fP (by rw[ak (Ne.symm hbp),ak (Ne.symm hap),ai])]
 simp;rw[fY (Ne.symm hap) (Ne.symm hbp)];refine iff_of_eq (aJ (((hM.put _ _).put _ _).put _ _) fun d hd=>?_)
 obtain⟨hdb,hd⟩:=bw hd;obtain⟨hda,hd⟩:=bw hd;obtain⟨hdp,hd⟩:=bw hd;rw[show eN (B cls kls fad) 487284377728885 (.ref d) _ (.ref p) (put (put (put (put M p (.ins 5 (kls 5) [3982741043171,65196051402355442] [.ref a,.ref b])) a (.dk [] [])) b (.dk [] [])) d (.dt [] []))=_ from fP (by rw[ak (Ne.symm hdp),ak (Ne.symm hbp),ak (Ne.symm hap),ai])]
 simp;rw[pe (Ne.symm hap) (Ne.symm hbp) (Ne.symm hdp)];have A:Ah kls (put M p (.ins 5 (kls 5) [fCn,fRd,fUn] [.ref a,.ref b,.ref d])) p a b d:=⟨ai,Ne.symm hap,Ne.symm hbp,Ne.symm hdp,Ne.symm hba,Ne.symm hda,Ne.symm hdb⟩;have kp:∀S,af M (HS (put M p (.ins 5 (kls 5) [fCn,fRd,fUn] [.ref a,.ref b,.ref d])) a b d S)=M:=fun S=>by
  funext k;unfold af HS put;by_cases k1:k=d
  ·subst k1;simp[hd]
  ·by_cases k2:k=b
   ·subst k2;simp[hb]
   ·by_cases k3:k=a
    ·subst k3;simp[ha]
    ·by_cases k4:k=p
     ·subst k4;simp[hp]
     ·simp[k1,k2,k3,k4];cases M k<;>rfl
 exact iff_of_eq (lJ (n:=n) (tl:=tl) A (hM.put _ _) rows S0 (fun _=>0) 0 none none si0 (by omega) hf fun x3 x4=>hR _ p a b d x3 x4 A (hM.put _ _) kp)
theorem rO{rows:List Rw}{tl:List D}{i:XE}(hM:Fm M)(hl:rows.length < 400)(hf:aI cks.length wy S0 (fun _=>0) rows)(I:∃c,SI (jC S0 (fun _=>0) rows) c rows.length)(h:flt cks.length wy (jC S0 (fun _=>0) rows) r=some i) :
  aa T (B cls kls fad) (n+5) 18 [wO kls cks wy,.rol (rows.map Rw.d++r.d::tl)] M Q E=E i M:=by
 obtain⟨c,I⟩:=I;refine jp hM hl hf fun M0 p a b d x3 x4 A F kp=>?_
 generalize jC S0 (fun _=>0) rows=S at I h
 rw[aU];have h1:=fun {Q:VK3}{E:XN}=>gO (cls:=cls) (kls:=kls) (fad:=fad) (n:=n) (Q:=Q) (E:=E) r (Fm.hs (a:=a) (b:=b) (d:=d) (S:=S) F)
 have h2:=fun {Q:VK3}{E:XN}=>ka (cls:=cls) (fad:=fad) (n:=n+1) (Q:=Q) (E:=E) (cks:=cks) (wy:=wy) (r:=r) A I.hr
 have h3:=fun {Q:VK3}{E:XN}=>lv (cls:=cls) (fad:=fad) (n:=n+2) (Q:=Q) (E:=E) (cks:=cks) (wy:=wy) (r:=r) A I.hu
 rw[true_and,g4];show ao _ _ _ _ [some (wO kls cks wy),_,some (.ref p),some r.d,x4] _=_;simp only[aL];unfold flt at h;cases e:flC cks.length S r with
 |some i'=>
  rw[e]at h;cases h;simp[↓h1,↓h2,e,eu,kp]
 |none=>
  rw[e]at h;have h:flK wy S r=some i:=h;simp[↓h1,↓h2,e,↓h3,h,eu,kp]
theorem qO{rows:List Rw}(hM:Fm M)(hl:rows.length < 400)(hf:aI cks.length wy S0 (fun _=>0) rows) :
  aa T (B cls kls fad) (n+5) 18 [wO kls cks wy,.rol (rows.map Rw.d)] M Q E=Q .non M:=by
 have:=jp (cls:=cls) (kls:=kls) (fad:=fad) (n:=n) (Q:=Q) (E:=E) (tl:=[]) (R:=Q .non M) hM hl hf fun M0 p a b d x3 x4 A F kp=>by simp[cw,kp]
 rwa [List.append_nil]at this
end
end G
namespace G
open L2
section
variable {cls kls fad:Nat->PySem.Addr}{M:MH}{Q:VK3}{E:XN}{n:Nat}{p q a b m:PySem.Addr}{cks:List (Int×Int)}{wy:List Wy}{M0:MH}{S:St}{r:Rw}{rows:List Rw}
inductive Gw where
 |ok (r:Rw)|bad (r:Rw) (j:Nat)
noncomputable def Rw.ps:Rw->List D
 |.look h r=>[.str "look",.int h,.int r]
 |.sight h r e l=>[.str "sight",.int h,.int r,.int e,.int l]
 |.send h r t=>[.str "send",.int h,.int r,.int t]
 |.take h r a b=>[.str "take",.int h,.int r,.tup [.int a,.int b]]
noncomputable def spl(r:Rw):Nat->List D
 |0=>r.ps.dropLast
 |j+1=>r.ps.set (j % r.ps.length) .non
noncomputable def Gw.d:Gw->D
 |.ok r=>r.d
 |.bad r j=>.tup (spl r j)
theorem zj:r.d=.tup r.ps:=by cases r<;>rfl
theorem gm(r:Rw)(j:Nat):spl r j=r.ps.dropLast\/∃k,k < r.ps.length/\spl r j=r.ps.set k .non:=by
 cases j with
 |zero=>exact .inl rfl
 |succ j=>exact .inr ⟨_,Nat.mod_lt _ (by cases r<;>simp[Rw.ps]),rfl⟩
theorem qd:aa T (B cls kls fad) (n+1) 0 [.non] M Q E=Q (.bl false) M:=by simp[eR,bP]
theorem rf{ds:List D}:aa T (B cls kls fad) (n+1) 0 [.tup ds] M Q E=Q (.bl false) M:=by simp[eR,bP]
noncomputable def isI:D->Bool
 |.int _=>true
 |_=>false
theorem A7{ds:List D}{k:Int}(hM:Fm M)(hl:ds.length < 1000)(hd:∀d∈ds,(∃i:Int,d=.int i)\/d=.non\/∃t,d=.tup t):aa T (B cls kls fad) (n+2) 10 [.tup ds,.int k] M Q E=Q (.bl (decide ((ds.length:Int)=k)&&ds.all isI)) M:=by
 simp[ff,bL];by_cases h:(ds.length:Int)=k
 ·simp[h,ay];rw[fU (fun d=>.bl (isI d)) hM (by omega) (fun d hd' M' hM' Q'=>by
   rcases hd d hd' with ⟨i,rfl⟩|rfl|⟨t,rfl⟩
   ·simp[dR,isI]
   ·simp[qd,isI]
   ·simp[rf,isI])]
  rw[ou isI (fun _ _=>rfl)]
  simp
 ·simp[h]
theorem Aj{s:PySem.Str}:aw .Eq .non (.str s) M Q=Q (.bl false) M:=by simp[aw,cG,L2.rs,aj,plN,eqD]
section
variable {ds:List D}{w:PySem.Str}{k:Int}
theorem CC{x:D}(h:atI ds 0=some x):aE (.tup ds) (.int 0) M Q=Q x M:=by simp[aE,aD,aj,h]
theorem GM(h:2<=ds.length):dg true (.tup ds) (some 1) none M Q=Q (.tup (ar ds (some 1) none)) M:=by
 have:whole ds.length (some 1) none=false:=by
  have e:HT.sIx ds.length 0 (some 1)=1:=by rw[show (1:Int)=((1:Nat):Int) from rfl,HT.sIx_nat];omega
  simp[whole,e]
 simp[this]
theorem CF(h:atI ds 0=some .non)(hl:2<=ds.length):aa T (B cls kls fad) (n+4) 12 [.tup ds] M Q E=E ⟨5,none⟩ M:=by
 have ix:=fun {M:MH}{Q:VK3}=>CC (M:=M) (Q:=Q) h
 have l0:¬ ds=[]:=fun z=>by rw[z]at hl;simp at hl
 simp +decide [aR,aA,↓ix,Aj,l0,am]
theorem B3(hw:(w = "look"/\k=2)\/(w = "sight"/\k=4)\/(w = "send"/\k=3))(h:atI ds 0=some (.str w))(hl:2<=ds.length)(ha:∀{Q:VK3}{E:XN},aa T (B cls kls fad) (n+3) 10 [.tup (ar ds (some 1) none),.int k] M Q E=Q (.bl false) M):aa T (B cls kls fad) (n+4) 12 [.tup ds] M Q E=E ⟨5,none⟩ M:=by
 have ix:=fun {M:MH}{Q:VK3}=>CC (M:=M) (Q:=Q) h
 have sl:=fun {M:MH}{Q:VK3}=>GM (M:=M) (Q:=Q) hl
 have l0:¬ ds=[]:=fun z=>by rw[z]at hl;simp at hl
 rcases hw with ⟨rfl,rfl⟩|⟨rfl,rfl⟩|⟨rfl,rfl⟩<;>simp +decide [aR,aA,↓ix,↓sl,↓ha,l0,am]
end
theorem zW{j:Nat}(hM:Fm M):aa T (B cls kls fad) (n+4) 12 [.tup (spl r j)] M Q E=E ⟨5,none⟩ M:=by
 have ca:=fun {ds:List D}{k:Int}{Q:VK3}{E:XN} (h1:ds.length < 1000) h2=>A7 (cls:=cls) (kls:=kls) (fad:=fad) (n:=n+1) (ds:=ds) (k:=k) (Q:=Q) (E:=E) hM h1 h2
 have a2:=fun {x y:D}{k:Int}{Q:VK3}{E:XN} h=>ca (ds:=[x,y]) (k:=k) (Q:=Q) (E:=E) (by simp) h
 have ln:∀{Q:VK3}{E:XN},aa T (B cls kls fad) (n+3) 11 [.non] M Q E=Q (.bl false) M:=fun {Q E}=>by simp[gL,cg]
 have w:∀{ds es:List D}{w:PySem.Str}{k:Int},((w = "look"/\k=2)\/(w = "sight"/\k=4)\/(w = "send"/\k=3))->atI ds 0=some (.str w)->2<=ds.length->ar ds (some 1) none=es->es.length < 1000->(∀d∈es,(∃i:Int,d=.int i)\/d=.non\/∃t,d=.tup t)->(decide ((es.length:Int)=k)&&es.all isI)=false->aa T (B cls kls fad) (n+4) 12 [.tup ds] M Q E=E ⟨5,none⟩ M:=fun {ds es w k} h1 h2 h3 h4 h5 h6 h7=>B3 h1 h2 h3 fun {Q E}=>by rw[h4,ca h5 h6,h7]
 rcases gm r j with e|⟨k,hk,e⟩
 ·rw[e];cases r with
  |look h v=>exact w (.inl ⟨rfl,rfl⟩) rfl (by simp[Rw.ps]) rfl (by simp[Rw.ps,ar,HT.sIx]) (by simp[Rw.ps,ar,HT.sIx]) (by simp[Rw.ps,ar,HT.sIx])
  |sight h v e l=>exact w (.inr (.inl ⟨rfl,rfl⟩)) rfl (by simp[Rw.ps]) rfl (by simp[Rw.ps,ar,HT.sIx]) (by simp[Rw.ps,ar,HT.sIx]) (by simp[Rw.ps,ar,HT.sIx])
  |send h v t=>exact w (.inr (.inr ⟨rfl,rfl⟩)) rfl (by simp[Rw.ps]) rfl (by simp[Rw.ps,ar,HT.sIx]) (by simp[Rw.ps,ar,HT.sIx]) (by simp[Rw.ps,ar,HT.sIx])
  |take h v x y=>simp +decide [aR,aA,Rw.ps,whole,HT.sIx,ar,am,a2,isI]
 ·rw[e];clear e;cases k with
  |zero=>exact CF (by cases r<;>rfl) (by cases r<;>simp[Rw.ps])
  |succ k=>
   cases r with
   |look h v=>
    have:k=0\/k=1:=by simp[Rw.ps]at hk;omega
    rcases this with rfl|rfl<;>exact w (.inl ⟨rfl,rfl⟩) rfl (by simp[Rw.ps]) rfl (by simp[Rw.ps,ar,HT.sIx]) (by simp[Rw.ps,ar,HT.sIx]) (by simp[Rw.ps,ar,HT.sIx,isI])
   |sight h v e l=>
    have:k=0\/k=1\/k=2\/k=3:=by simp[Rw.ps]at hk;omega
    rcases this with rfl|rfl|rfl|rfl<;>exact w (.inr (.inl ⟨rfl,rfl⟩)) rfl (by simp[Rw.ps]) rfl (by simp[Rw.ps,ar,HT.sIx]) (by simp[Rw.ps,ar,HT.sIx]) (by simp[Rw.ps,ar,HT.sIx,isI])
   |send h v t=>
    have:k=0\/k=1\/k=2:=by simp[Rw.ps]at hk;omega
    rcases this with rfl|rfl|rfl<;>exact w (.inr (.inr ⟨rfl,rfl⟩)) rfl (by simp[Rw.ps]) rfl (by simp[Rw.ps,ar,HT.sIx]) (by simp[Rw.ps,ar,HT.sIx]) (by simp[Rw.ps,ar,HT.sIx,isI])
   |take h v x y=>
    have:k=0\/k=1\/k=2:=by simp[Rw.ps]at hk;omega
    rcases this with rfl|rfl|rfl<;>simp +decide [aR,aA,Rw.ps,whole,HT.sIx,ar,am,a2,ln,isI]
theorem qL{tl:List D}{j:Nat}(hM:Fm M)(hl:rows.length < 400)(hf:aI cks.length wy S0 (fun _=>0) rows) :
  aa T (B cls kls fad) (n+5) 18 [wO kls cks wy,.rol (rows.map Rw.d++.tup (spl r j)::tl)] M Q E=E ⟨5,none⟩ M:=by
 refine jp hM hl hf fun M0 p a b d x3 x4 A F kp=>?_
 have h1:=fun {S:St}{Q:VK3}{E:XN}=>zW (cls:=cls) (kls:=kls) (fad:=fad) (n:=n) (r:=r) (j:=j) (Q:=Q) (E:=E) (Fm.hs (a:=a) (b:=b) (d:=d) (S:=S) F)
 rw[aU,true_and,g4];show ao _ _ _ _ [some (wO kls cks wy),_,some (.ref p),some (.tup (spl r j)),x4] _=_;simp only[aL];simp[↓h1,kp]
theorem im{ds:List D}{x:D}{k:Int}(hM:Fm M)(hx:atI ds 0=some x)(hk:(x=.str "look"/\k=3)\/(x=.str "sight"/\k=5)\/(x=.str "send"/\k=4)\/(x=.str "take"/\k=4)\/(x=.non/\k=0))
  (hp:pls ds=true):aa T (B cls kls fad) (n+1) 33 [.tup ds] M Q E=Q (.bl (decide ((ds.length:Int)=k)&&!(ds.any fun d=>eqD d .non))) M:=by
 have rn:∀{M:MH}{Q:VK3},aw .NotIn .non (.tup ds) M Q=Q (.bl (!(ds.any fun d=>eqD d .non))) M:=fun {M Q}=>by
  simp[aw,lZ,aD,aj,res,hp,plN]
 simp only[nw,dC];simp;refine iff_of_eq (aJ hM fun p hp=>?_)
 have ix:∀{M:MH}{Q:VK3},aE (.tup ds) (.int 0) M Q=Q x M:=fun {M Q}=>by simp[aE,aD,aj,hx]
 rw[ix];rcases hk with ⟨rfl,rfl⟩|⟨rfl,rfl⟩|⟨rfl,rfl⟩|⟨rfl,rfl⟩|⟨rfl,rfl⟩<;>simp +decide [rDl,ai,d9 hp,kM,uj,getD,↓rn]
 all_goals (split<;>rename_i h<;>simp[h])
end
end G
namespace G
open L2
section
variable {S:St}{r:Rw}{pre:List Rw}{c:Int->Nat}{H:Nat}{wy:List Wy}{i j:Int}
noncomputable def ofH(pre:List Rw)(h:Int):List Rw:=pre.filter fun r=>decide (r.h=h)
noncomputable def aY(pre:List Rw)(i j:Int):Option Rw:=if 0<=j then (ofH pre i)[j.toNat]? else none
noncomputable def Rw.tk(i j:Int):Rw->Bool
 |.take _ _ a b=>decide (a=i)&&decide (b=j)
 |_=>false
noncomputable def tkn(pre:List Rw)(i j:Int):Bool:=pre.any (Rw.tk i j)
noncomputable def Rw.un:Rw->Option D
 |.send _ _ t=>some (.int t)
 |_=>none
noncomputable def unF(pre:List Rw)(i j:Int):Option D:=if tkn pre i j=true then none else (aY pre i j).bind Rw.un
structure UI (pre:List Rw)(S:St)(c:Int->Nat):Prop where
 si:SI S c pre.length
 nd:S.ku.Nodup
 cc:∀h,c h=(ofH pre h).length
 kr:∀h,getD S.kr S.dr (.inl h)=(ofH pre h).getLast?.map fun r=>D.int r.r
 un:∀i j,getD S.ku S.du [i,j]=unF pre i j
 tk:∀i j,tkn pre i j=true->(aY pre i j).isSome=true
theorem lS{κ:Type}[DecidableEq κ]{k:κ}{v:D}:∀{ks:List κ}{ds:List D},getD ks ds k=some v->k∈ks
 |[],ds,h=>by simp[getD]at h
 |q::ks,[],h=>by simp[getD]at h
 |q::ks,d::ds,h=>by
  simp only[getD]at h;split at h
  ·rename_i e;rw[e];exact List.mem_cons_self
  ·exact List.mem_cons_of_mem _ (lS h)
theorem kh{κ:Type}[DecidableEq κ]{k x:κ}:∀{ks:List κ}{ds:List D},ks.Nodup->ks.length=ds.length->getD (aH ks k) (aV ks ds k) x=if k=x then none else getD ks ds x
 |[],[],_,_=>by simp[aH,aV,getD]
 |q::ks,d::ds,hn,hl=>by
  have ih:=kh (k:=k) (x:=x) (ks:=ks) (ds:=ds) (List.nodup_cons.mp hn).2 (by simpa using hl)
  simp only[aH,aV];by_cases e:q=k
  ·subst e;rw[if_pos rfl,if_pos rfl];by_cases e2:q=x
   ·subst e2;rw[if_pos rfl];cases z:getD ks ds q with
    |none=>rfl
    |some v=>exact absurd (lS z) (List.nodup_cons.mp hn).1
   ·rw[if_neg e2];simp[getD,e2]
  ·rw[if_neg e,if_neg e];by_cases e2:q=x
   ·subst e2;rw[if_neg (Ne.symm e)];simp[getD]
   ·simp only[getD,if_neg e2];exact ih
theorem jK{κ:Type}[DecidableEq κ]{k x:κ}:∀{ks:List κ},x∈aH ks k->x∈ks
 |[],h=>by simpa [aH] using h
 |q::ks,h=>by
  simp only[aH]at h;split at h
  ·exact List.mem_cons_of_mem _ h
  ·rcases List.mem_cons.mp h with h|h
   ·exact h▸List.mem_cons_self
   ·exact List.mem_cons_of_mem _ (jK h)
theorem lH{κ:Type}[DecidableEq κ]{k:κ}:∀{ks:List κ},ks.Nodup->(aH ks k).Nodup
 |[],_=>by simp[aH]
 |q::ks,h=>by
  simp only[aH];split
  ·exact (List.nodup_cons.mp h).2
  ·exact List.nodup_cons.mpr ⟨fun z=>(List.nodup_cons.mp h).1 (jK z),lH (List.nodup_cons.mp h).2⟩
theorem mf{κ:Type}[DecidableEq κ]{k x:κ}:∀{ks:List κ},x∈aq ks k->x=k\/x∈ks
 |[],h=>by simp[aq]at h;exact .inl h
 |q::ks,h=>by
  simp only[aq]at h;split at h
  ·exact .inr h
  ·rcases List.mem_cons.mp h with h|h
   ·exact .inr (h▸List.mem_cons_self)
   ·rcases mf h with h|h
    ·exact .inl h
    ·exact .inr (List.mem_cons_of_mem _ h)
theorem n6{κ:Type}[DecidableEq κ]{k:κ}:∀{ks:List κ},ks.Nodup->(aq ks k).Nodup
 |[],_=>by simp[aq]
 |q::ks,h=>by
  simp only[aq];split
  ·exact h
  ·rename_i e;refine List.nodup_cons.mpr ⟨fun z=>?_,n6 (List.nodup_cons.mp h).2⟩
   rcases mf z with z|z
   ·exact e z
   ·exact (List.nodup_cons.mp h).1 z
theorem fD:ofH (pre++[r]) i=if r.h=i then ofH pre i++[r] else ofH pre i:=by
 unfold ofH;rw[List.filter_append];by_cases e:r.h=i<;>simp[e]
theorem jj:aY (pre++[r]) i j=if r.h=i/\j=(ofH pre i).length then some r else aY pre i j:=by
 unfold aY;rw[fD];by_cases e:r.h=i
 ·rw[if_pos e];by_cases h0:0<=j
  ·rw[if_pos h0,if_pos h0];by_cases h1:j=(ofH pre i).length
   ·rw[if_pos ⟨e,h1⟩,h1];simp
   ·rw[if_neg fun z=>h1 z.2]
    by_cases h2:j.toNat < (ofH pre i).length
    ·rw[List.getElem?_append_left h2]
    ·rw[List.getElem?_append_right (by omega),List.getElem?_eq_none (by simp;omega),List.getElem?_eq_none (by omega)]
  ·rw[if_neg h0,if_neg h0,if_neg fun z=>h0 (by omega)]
 ·have e2:¬ (r.h=i/\j=(ofH pre i).length):=fun z=>e z.1
  rw[if_neg e,if_neg e2]
theorem g6:aY (pre++[r]) r.h ((ofH pre r.h).length:Nat)=some r:=by rw[jj,if_pos ⟨rfl,rfl⟩]
theorem hJ:tkn (pre++[r]) i j=(tkn pre i j||r.tk i j):=by simp[tkn]
theorem jL:aY pre i ((ofH pre i).length:Nat)=none:=by simp[aY]
theorem nj(U:UI pre S c):unF pre i ((ofH pre i).length:Nat)=none:=by
 unfold unF;rw[jL];split<;>rfl
theorem v8(U:UI pre S c):tkn pre i ((ofH pre i).length:Nat)=false:=by
 cases e:tkn pre i ((ofH pre i).length:Nat) with
 |false=>rfl
 |true=>have:=U.tk _ _ e;rw[jL]at this;cases this
theorem UI.step(U:UI pre S c)(hf:flt H wy S r=none):UI (pre++[r]) (S.step (c r.h) r) (gY c r.h):=by
 have th:=lW U.si.hu (lr hf).2;have si:=U.si.step (r:=r);have hk:∀h,getD (aq S.kr (.inl r.h)) (ax S.kr S.dr (.inl r.h) (.int r.r)) (.inl h)=(ofH (pre++[r]) h).getLast?.map fun r=>D.int r.r:=fun h=>by
  rw[fL U.si.l2,fD];by_cases e:r.h=h
  ·subst e;simp
  ·have e2:¬ ((Sum.inl r.h:Key)=Sum.inl h):=fun z=>e (Sum.inl.inj z)
   rw[if_neg e2,if_neg e];exact U.kr h
 have cc:∀h,gY c r.h h=(ofH (pre++[r]) h).length:=fun h=>by
  rw[fD];unfold gY;by_cases e:h=r.h
  ·subst e;simp[U.cc]
  ·rw[if_neg e,if_neg (Ne.symm e)];exact U.cc h
 have tk:∀i j,tkn (pre++[r]) i j=true->(aY (pre++[r]) i j).isSome=true:=fun i j h=>by
  rw[jj];split
  ·rfl
  ·rw[hJ,Bool.or_eq_true]at h;rcases h with h|h
   ·exact U.tk i j h
   ·cases r with
    |take h' v a b=>
     simp only[Rw.tk,Bool.and_eq_true,decide_eq_true_eq]at h;obtain⟨rfl,rfl⟩:=h;have e:getD S.ku S.du [a,b]=some (.int h'):=th;rw[U.un]at e;unfold unF at e;split at e
     ·cases e
     ·cases z:aY pre a b with
      |none=>rw[z]at e;cases e
      |some _=>rfl
    |_=>cases h
 have old:∀i j,r.tk i j=false->¬ (r.h=i/\j=(ofH pre i).length)->unF (pre++[r]) i j=unF pre i j:=fun i j h1 h2=>by
  unfold unF;rw[hJ,h1,Bool.or_false,jj,if_neg h2]
 have cl:pre.length+1=(pre++[r]).length:=by simp
 rw[cl]at si;cases r with
 |look h v=>
  refine⟨si,U.nd,cc,hk,fun i j=>?_,tk⟩
  show getD S.ku S.du [i,j]=_;rw[U.un];by_cases e:h=i/\j=(ofH pre i).length
  ·obtain⟨rfl,rfl⟩:=e;rw[nj U];unfold unF;rw[show aY (pre++[_]) h _=_ from g6];split<;>rfl
  ·exact (old i j rfl e).symm
 |sight h v e l=>
  refine⟨si,U.nd,cc,hk,fun i j=>?_,tk⟩
  show getD S.ku S.du [i,j]=_;rw[U.un];by_cases e:h=i/\j=(ofH pre i).length
  ·obtain⟨rfl,rfl⟩:=e;rw[nj U];unfold unF;rw[show aY (pre++[_]) h _=_ from g6];split<;>rfl
  ·exact (old i j rfl e).symm
 |send h v t=>
  refine⟨si,n6 U.nd,cc,hk,fun i j=>?_,tk⟩
  show getD (aq S.ku [h,(c h:Int)]) (ax S.ku S.du [h,(c h:Int)] (.int t)) [i,j]=_;rw[fL U.si.l3,U.un,U.cc];by_cases e:h=i/\j=(ofH pre i).length
  ·obtain⟨rfl,rfl⟩:=e;rw[if_pos rfl];unfold unF;rw[hJ,v8 U,show aY (pre++[_]) h _=_ from g6];rfl
  ·rw[if_neg fun z=>e (by
    simp only[List.cons.injEq,and_true]at z;exact⟨z.1,by rw[<-z.2,z.1]⟩)]
   exact (old i j rfl e).symm
 |take h v a b=>
  refine⟨si,lH U.nd,cc,hk,fun i j=>?_,tk⟩
  show getD (aH S.ku [a,b]) (aV S.ku S.du [a,b]) [i,j]=_;rw[kh U.nd U.si.l3];by_cases e0:a=i/\b=j
  ·obtain⟨rfl,rfl⟩:=e0;rw[if_pos rfl];unfold unF;rw[hJ];simp[Rw.tk]
  ·rw[if_neg fun z=>e0 (by simpa using z),U.un]
   have tf:(Rw.take h v a b).tk i j=false:=by
    simp only[Rw.tk];by_cases z:a=i
    ·have:¬ b=j:=fun y=>e0 ⟨z,y⟩
     simp[this]
    ·simp[z]
   by_cases e:h=i/\j=(ofH pre i).length
   ·obtain⟨rfl,rfl⟩:=e;rw[nj U];unfold unF;rw[show aY (pre++[_]) h _=_ from g6];split<;>rfl
   ·exact (old i j tf e).symm
theorem UI.run:∀(post pre:List Rw)(S:St)(c:Int->Nat),UI pre S c->aI H wy S c post->UI (pre++post) (jC S c post) (ya c post)
 |[],pre,S,c,U,_=>by rw[List.append_nil];exact U
 |r::post,pre,S,c,U,hf=>by
  have:=UI.run post (pre++[r]) _ _ (U.step hf.1) hf.2;rw[List.append_assoc]at this;exact this
theorem ui0:UI [] S0 (fun _=>0):=⟨si0,List.nodup_nil,(fun _=>rfl),(fun _=>rfl),(fun i j=>by unfold unF aY ofH tkn;simp[S0,getD]),(fun i j h=>by simp[tkn]at h)⟩
noncomputable abbrev RS(pre:List Rw):St:=jC S0 (fun _=>0) pre
theorem qW(hf:aI H wy S0 (fun _=>0) pre):UI pre (RS pre) (ya (fun _=>0) pre):=UI.run pre [] S0 (fun _=>0) ui0 hf
theorem j0:∀(rs:List Rw)(S:St)(c:Int->Nat)(k:Nat),aI H wy S c rs->aI H wy S c (rs.take k)
 |[],S,c,k,_=>by simp[aI]
 |r::rs,S,c,0,_=>trivial
 |r::rs,S,c,k+1,h=>⟨h.1,j0 rs _ _ k h.2⟩
theorem nW:∀(rs:List Rw)(S:St)(c:Int->Nat)(k:Nat)(x:Rw),aI H wy S c rs->rs[k]?=some x->flt H wy (jC S c (rs.take k)) x=none
 |[],S,c,k,x,_,e=>by simp at e
 |r::rs,S,c,0,x,h,e=>by simp at e;subst e;exact h.1
 |r::rs,S,c,k+1,x,h,e=>nW rs _ _ k x h.2 (by simpa using e)
noncomputable def Gw.fl(H:Nat)(wy:List Wy)(S:St):Gw->Option XE
 |.ok r=>flt H wy S r
 |.bad _ _=>some ⟨5,none⟩
theorem first:∀(gs:List Gw)(S:St)(c:Int->Nat),(∃rs,gs=rs.map Gw.ok/\aI H wy S c rs)\/∃rs g tl i,gs=rs.map Gw.ok++g::tl/\aI H wy S c rs/\g.fl H wy (jC S c rs)=some i
 |[],S,c=>.inl ⟨[],rfl,trivial⟩
 |.bad r j::gs,S,c=>.inr ⟨[],.bad r j,gs,_,rfl,trivial,rfl⟩
 |.ok r::gs,S,c=>by
  cases e:flt H wy S r with
  |some i=>exact .inr ⟨[],.ok r,gs,i,rfl,trivial,e⟩
  |none=>
   rcases first gs (S.step (c r.h) r) (gY c r.h) with ⟨rs,h1,h2⟩|⟨rs,g,tl,i,h1,h2,h3⟩
   ·exact .inl ⟨r::rs,by rw[h1];rfl,e,h2⟩
   ·exact .inr ⟨r::rs,g,tl,i,by rw[h1];rfl,⟨e,h2⟩,h3⟩
end
end G
namespace G
open L2
section
variable {cls kls fad:Nat->PySem.Addr}{M:MH}{Q:VK3}{E:XN}{n:Nat}{p q a b d m:PySem.Addr}{cks:List (Int×Int)}{wy:List Wy}{M0:MH}{S:St}{r:Rw}{rows pre:List Rw}{tl:List D}{i j:Int}
noncomputable def Rw.s:Rw->PySem.Str
 |.look ..=>"look"
 |.sight ..=>"sight"
 |.send ..=>"send"
 |.take ..=>"take"
theorem zb:aE r.d (.int 0) M Q=Q (.str r.s) M:=by cases r<;>simp[Rw.d,Rw.s]
theorem uQ:aE r.d (.int 1) M Q=Q (.int r.h) M:=by cases r<;>simp[Rw.d,Rw.h]
theorem yW:aE r.d (.int 2) M Q=Q (.int r.r) M:=by cases r<;>simp[Rw.d,Rw.r]
theorem ir{l:List D}{k:Nat}{x:D}(hq:M q=some (.lst l))(hk:l[k]?=some x):aE (.ref q) (.int (k:Int)) M Q=Q x M:=by
 rw[ik hq,cM (bC hk)]
noncomputable def i3(pre:List Rw)(i j:Int):D:=match aY pre i j with
 |some r=>r.d
 |none=>.tup [.str "look",.int i,.int 0]
theorem j5{W:WC}{De:Ends3}{ES:St3->XN}{R:Prop}{x1:Option D}(hq:M q=some (.lst (pre.map Rw.d++tl)))(h1:∀r,aY pre i j=some r->De.rt r.d M=R)(h2:aY pre i j=none->∀x3 x4,De.nx [some (.ref q),x1,some (.tup [.int i,.int j]),x3,x4] M=R) :
  ∀(todo done:List Rw)(x4:Option D)(k m:Int),k=done.length->m=(ofH done i).length->pre=done++todo->(j < 0\/m<=j)->
  cz W (.name 4) bp ES (fun _=>True) De (rng k todo.length) [some (.ref q),x1,some (.tup [.int i,.int j]),some (.int m),x4] M=R
 |[],done,x4,k,m,ek,em,e,hj=>by
  rw[List.append_nil]at e;subst e;have:aY pre i j=none:=by
   unfold aY;by_cases h0:0<=j
   ·rw[if_pos h0];exact List.getElem?_eq_none (by omega)
   ·rw[if_neg h0]
  have:=h2 this (some (.int m)) x4;simp[rng,cw,this]
 |r::todo,done,x4,k,m,ek,em,e,hj=>by
  have hk:(pre.map Rw.d++tl)[done.length]?=some r.d:=by rw[e];simp
  have la:∀{Q:VK3},aE (.ref q) (.int k) M Q=Q r.d M:=fun {Q}=>by rw[ek];exact ir hq hk
  have r1:=fun {M:MH}{Q:VK3}=>uQ (r:=r) (M:=M) (Q:=Q)
  have e2:pre=(done++[r])++todo:=by rw[e];simp
  have ih:=fun {m:Int}=>j5 (W:=W) (De:=De) (ES:=ES) (R:=R) (x1:=x1) hq h1 h2 todo (done++[r]) (some (.int k)) (k+1) m (by simp;omega)
  rw[List.length_cons,dN,aU];by_cases hh:r.h=i
  ·by_cases hm:m=j
   ·have hs:aY pre i j=some r:=by
     unfold aY;rw[if_pos (by omega),e]
     have:ofH (done++r::todo) i=ofH done i++r::ofH todo i:=by simp[ofH,hh]
     rw[this,<-hm,em,Int.toNat_natCast,List.getElem?_append_right (Nat.le_refl _)];simp
    have:=h1 r hs;simp[bp,↓la,↓r1,hh,hm,this]
   ·have:=ih (m:=m+1) (by rw[fD,if_pos hh];simp;omega) e2 (by omega)
    simp only[bp]at this ⊢;simp[↓la,↓r1,hh,hm,this]
  ·have:=ih (m:=m) (by rw[fD,if_neg hh];exact em) e2 hj
   simp only[bp]at this ⊢;simp[↓la,↓r1,hh,this]
theorem vS(hq:M q=some (.lst (pre.map Rw.d++tl)))(hl:pre.length < 1000):aa T (B cls kls fad) (n+1) 35 [.ref q,.int (pre.length:Nat),.tup [.int i,.int j]] M Q E=Q (i3 pre i j) M:=by
 have hb:(pre.length:Int) < 4611686018427387904:=by omega
 simp only[mE,dB];simp[hb];refine iff_of_eq (j5 (tl:=tl) (i:=i) (j:=j) (pre:=pre) hq (fun r hs=>?_) (fun hs x3 x4=>?_) pre [] none 0 0 rfl rfl rfl (by omega))
 ·simp[i3,hs]
 ·simp[i3,hs,am]
end
end G
namespace G
open L2
section
variable {cls kls fad:Nat->PySem.Addr}{M:MH}{Q:VK3}{E:XN}{n:Nat}{p q a b d m:PySem.Addr}{cks:List (Int×Int)}{wy:List Wy}{M0:MH}{S:St}{r:Rw}{rows pre:List Rw}{tl:List D}{i j:Int}
theorem nS(hM:Fm M):aa T (B cls kls fad) (n+1) 33 [r.d] M Q E=Q (.bl true) M:=by
 cases r with
 |look h v=>rw[Rw.d,im (x:=.str "look") (k:=3) hM rfl (by simp) (by simp[plN])];simp[eqD]
 |sight h v e l=>rw[Rw.d,im (x:=.str "sight") (k:=5) hM rfl (by simp) (by simp[plN])];simp[eqD]
 |send h v t=>rw[Rw.d,im (x:=.str "send") (k:=4) hM rfl (by simp) (by simp[plN])];simp[eqD]
 |take h v a b=>rw[Rw.d,im (x:=.str "take") (k:=4) hM rfl (by simp) (by simp[plN])];simp[eqD]
theorem oq{j:Nat}(hM:Fm M):aa T (B cls kls fad) (n+1) 33 [.tup (spl r j)] M Q E=Q (.bl false) M:=by
 have ck:=fun {ds:List D}{x:D}{k:Int}=>im (cls:=cls) (kls:=kls) (fad:=fad) (n:=n) (ds:=ds) (x:=x) (k:=k) (Q:=Q) (E:=E) hM
 rcases gm r j with e|⟨k,hk,e⟩
 ·rw[e];cases r with
  |look h v=>rw[ck (x:=.str "look") (k:=3) rfl (by simp) (by simp[plN,Rw.ps])];simp[Rw.ps]
  |sight h v e l=>rw[ck (x:=.str "sight") (k:=5) rfl (by simp) (by simp[plN,Rw.ps])];simp[Rw.ps]
  |send h v t=>rw[ck (x:=.str "send") (k:=4) rfl (by simp) (by simp[plN,Rw.ps])];simp[Rw.ps]
  |take h v a b=>rw[ck (x:=.str "take") (k:=4) rfl (by simp) (by simp[plN,Rw.ps])];simp[Rw.ps]
 ·rw[e];clear e;cases k with
  |zero=>cases r<;>(rw[ck (x:=.non) (k:=0) rfl (by simp) (by simp[plN,Rw.ps])];simp[Rw.ps])
  |succ k=>
   cases r with
   |look h v=>
    have:k=0\/k=1:=by simp[Rw.ps]at hk;omega
    rcases this with rfl|rfl<;>(rw[ck (x:=.str "look") (k:=3) rfl (by simp) (by simp[plN,Rw.ps])];simp[Rw.ps,eqD])
   |sight h v e l=>
    have:k=0\/k=1\/k=2\/k=3:=by simp[Rw.ps]at hk;omega
    rcases this with rfl|rfl|rfl|rfl<;>(rw[ck (x:=.str "sight") (k:=5) rfl (by simp) (by simp[plN,Rw.ps])];simp[Rw.ps,eqD])
   |send h v t=>
    have:k=0\/k=1\/k=2:=by simp[Rw.ps]at hk;omega
    rcases this with rfl|rfl|rfl<;>(rw[ck (x:=.str "send") (k:=4) rfl (by simp) (by simp[plN,Rw.ps])];simp[Rw.ps,eqD])
   |take h v a b=>
    have:k=0\/k=1\/k=2:=by simp[Rw.ps]at hk;omega
    rcases this with rfl|rfl|rfl<;>(rw[ck (x:=.str "take") (k:=4) rfl (by simp) (by simp[plN,Rw.ps])];simp[Rw.ps,eqD])
noncomputable def cQ(o:Option XE):PySem.Str:=match o with
 |none=>"fine"
 |some i=>if i.c=5 then "row" else if i.c=2 then "hand" else if i.c=6 then "back" else if i.c=1 then "ends" else if i.c=4 then "way" else "letter"
noncomputable def br(o:Option XE):D:=match o with
 |some ⟨_,some (_,x)⟩=>x
 |_=>.non
noncomputable def aF(o:Option XE):D:=.tup [.str (cQ o),br o]
noncomputable def hOf:D->Int
 |.tup (_::.int x::_)=>x
 |_=>0
noncomputable def rOf:D->D
 |.tup (_::_::x::_)=>x
 |_=>.non
theorem uv{x:D}:ar (pre.map Rw.d++x::tl) none (some (pre.length:Int))=pre.map Rw.d:=by
 unfold ar;rw[HT.sIx_none,HT.sIx_nat];simp
theorem qM{x:D}(hq:M q=some (.lst (pre.map Rw.d++x::tl)))(hl:pre.length < 1000):dg true (.ref q) none (some (pre.length:Int)) M Q=Q (.rol (pre.map Rw.d)) M:=by
 have hz:pre.length<=PySem.sizeLine:=Nat.le_trans (show pre.length<=1000 by omega) (by decide)
 simp[dg,aj,hq,cK,uv,hz]
theorem mZ{W:WC}(hM:Fm M)(hl:pre.length < 1000):gI W (.name 0) (.yes (.cmp .Eq (.ix (.var 0) (.con (.int 1))) (.ix (.var 1) (.con (.int 1))))) (.ix (.var 0) (.con (.int 2))) (fun _=>True) Q (pre.map Rw.d) [none,some r.d] M=Q (.rol ((ofH pre r.h).map fun x=>D.int x.r)) M:=by
 have i1:=fun {r:Rw}{M:MH}{Q:VK3}=>uQ (M:=M) (Q:=Q) (r:=r)
 have i2:=fun {r:Rw}{M:MH}{Q:VK3}=>yW (M:=M) (Q:=Q) (r:=r)
 rw[dj (fun d=>decide (hOf d=r.h)) rOf hM (by rw[List.length_map];omega) (fun d hd M' _ Q=>by
  obtain⟨x,_,rfl⟩:=List.mem_map.mp hd;have e:hOf x.d=x.h:=by cases x<;>rfl
  simp[↓i1,e]) (fun d hd _ M' _ Q=>by
  obtain⟨x,_,rfl⟩:=List.mem_map.mp hd;have e:rOf x.d=.int x.r:=by cases x<;>rfl
  simp[↓i2,e])]
 rw[List.filter_map,List.map_map];have e1:((fun d=>decide (hOf d=r.h))∘Rw.d)=fun x=>decide (x.h=r.h):=by
  funext x;have e:hOf x.d=x.h:=by cases x<;>rfl
  simp[e]
 have e2:(rOf∘Rw.d)=fun x=>D.int x.r:=by funext x;cases x<;>rfl
 rw[e1,e2];rfl
theorem mF{W:WC}{h v:Int}(hM:Fm M)(hl:pre.length < 1000):gI W (.name 0) (.yes (.and (.cmp .Eq (.ix (.var 0) (.con (.int 0))) (.con (.str "take"))) (.cmp .Eq (.ix (.var 0) (.con (.int 3))) (.ix (.var 1) (.con (.int 3)))))) (.var 0) (fun _=>True) Q (pre.map Rw.d) [none,some (Rw.take h v i j).d] M=Q (.rol ((pre.filter (Rw.tk i j)).map Rw.d)) M:=by
 have i0:=fun {r:Rw}{M:MH}{Q:VK3}=>zb (M:=M) (Q:=Q) (r:=r)
 have eq:∀x:Rw,(match x.d with|.tup [_,_,_,.tup [.int a,.int b]]=>decide (a=i)&&decide (b=j)|_=>false)=x.tk i j:=fun x=>by cases x<;>rfl
 rw[dj (fun d=>match d with|.tup [_,_,_,.tup [.int a,.int b]]=>decide (a=i)&&decide (b=j)|_=>false) (fun d=>d) hM (by rw[List.length_map];omega) (fun d hd M' _ Q=>by
  obtain⟨x,_,rfl⟩:=List.mem_map.mp hd;rw[eq x];cases x with
  |take h' v' a b=>simp +decide [Rw.d,aw,cG,L2.rs,aj,plN,eqD,cJ,Rw.tk]
  |_=>simp +decide [Rw.d,Rw.tk]) (fun d hd _ M' _ Q=>by simp)]
 rw[List.filter_map,List.map_id'];have e1:((fun d=>match d with|.tup [_,_,_,.tup [.int a,.int b]]=>decide (a=i)&&decide (b=j)|_=>false)∘Rw.d)=Rw.tk i j:=by funext x;exact eq x
 rw[e1]
theorem ul{l:List Rw}{op:Bool}:cG op (.rol (l.map Rw.d)) (.rol []) M Q=Q (.bl (op ^^ l.isEmpty)) M:=by
 have h:∀r:Rw,∀k,plN (k+2) r.d=true:=fun r k=>by cases r<;>simp[Rw.d,plN]
 have hp:(l.map Rw.d).all (plN 7)=true:=by rw[List.all_map];exact List.all_eq_true.mpr fun x _=>h x 5
 have hq:(l.map Rw.d).all (plN 8)=true:=by rw[List.all_map];exact List.all_eq_true.mpr fun x _=>h x 6
 have h8:pls (l.map Rw.d)=true:=hq;have e:eqD (.rol (l.map Rw.d)) (.rol [])=l.isEmpty:=by cases l<;>simp[eqD,cJ]
 simp only[cG,L2.rs,aj,h8,if_true];simp[plN,h,e]
theorem tL{l:List Rw}{op:Bool}:cG op (.rol (l.map fun x=>D.int x.r)) (.rol []) M Q=Q (.bl (op ^^ l.isEmpty)) M:=by
 have hq:pls (l.map fun x=>D.int x.r)=true:=by simp[plN]
 have hp:plN 8 (.rol (l.map fun x=>D.int x.r))=true:=by simp[plN]
 cases l<;>simp[cG,L2.rs,aj,plN,eqD,cJ]
theorem uE{l:List Rw}{x:Rw}(h:l.getLast?=some x):atI (l.map fun x=>D.int x.r) (-1)=some (.int x.r):=by
 have hne:l≠[]:=fun z=>by rw[z]at h;cases h
 have hl:0 < l.length:=List.length_pos_iff.mpr hne;have e:l[l.length - 1]?=some x:=by rw[<-List.getLast?_eq_getElem?];exact h
 unfold atI ixN;rw[if_neg (by decide),List.length_map,if_pos (by omega)]
 have:((-1:Int)+(l.length:Int)).toNat=l.length - 1:=by omega
 simp[this,e]
end
end G
namespace G
open L2
section
variable {cls kls fad:Nat->PySem.Addr}{M:MH}{Q:VK3}{E:XN}{n:Nat}{p q a b d m:PySem.Addr}{cks:List (Int×Int)}{wy:List Wy}{M0:MH}{S:St}{r:Rw}{rows pre:List Rw}{tl:List D}{i j:Int}{c:Int->Nat}{H:Nat}
noncomputable def pD(w:Wy):D:=.tup [.int w.i,.int w.j]
theorem sQ{h t:Int}:aw .NotIn (.tup [.int h,.int t]) (.rol (wy.map pD)) M Q=Q (.bl (!decide ([h,t]∈wy.map pr))) M:=by
 have e:(wy.map pD).any (fun d=>eqD d (.tup [.int h,.int t]))=decide ([h,t]∈wy.map pr):=by
  induction wy with
  |nil=>simp
  |cons w wy ih=>
   rw[List.map_cons,List.any_cons,ih,List.map_cons];simp only[pD,eqD,cJ,pr,List.mem_cons,List.cons.injEq,and_true];have e1:(h=w.i/\t=w.j)<->(w.i=h/\w.j=t):=⟨fun x=>⟨x.1.symm,x.2.symm⟩,fun x=>⟨x.1.symm,x.2.symm⟩⟩
   refine Bool.eq_iff_iff.mpr ?_;simp only[Bool.or_eq_true,Bool.and_eq_true,decide_eq_true_eq,e1,and_true]
 have p1:plN 8 (.tup [.int h,.int t])=true:=by simp[plN]
 have p2:(wy.map pD).all (plN 8)=true:=by simp[pD,plN]
 have r1:res M (.tup [.int h,.int t])=.tup [.int h,.int t]:=rfl;have s1:aD M (.rol (wy.map pD))=some (wy.map pD):=rfl;simp only[aw,lZ,s1,r1,p1,p2,true_and,e,Bool.true_xor]
theorem pU{j:Nat}{x y:D}(hM:Fm M)(hq:M q=some (.lst (pre.map Rw.d++.tup (spl r j)::tl))):aa T (B cls kls fad) (n+2) 36 [.ref q,.int (pre.length:Nat),x,y] M Q E=Q (aF (some ⟨5,none⟩)) M:=by
 have la:=fun {Q:VK3}=>ir (x:=.tup (spl r j)) (Q:=Q) (k:=pre.length) hq (by simp)
 have ck:=fun {Q:VK3}{E:XN}=>oq (cls:=cls) (kls:=kls) (fad:=fad) (n:=n) (Q:=Q) (E:=E) (r:=r) (j:=j) hM
 simp only[gN,b8];simp[↓la,↓ck,aF,cQ,br,am]
noncomputable def fZ:ISs:=.cons (.ifs (.and (.cmp .Eq (.ix (.var 4) (.con (.int 0))) (.con (.str "sight"))) (.cmp .Gt (.ix (.var 4) (.con (.int 3))) (.ix (.var 4) (.con (.int 4))))) (.cons (.ret (.tup (.cons (.con (.str "ends")) (.cons (.con .non) (.nil))))) (.nil)) (.nil)) (.cons (.ifs (.and (.cmp .Eq (.ix (.var 4) (.con (.int 0))) (.con (.str "send"))) (.cmp .NotIn (.tup (.cons (.ix (.var 4) (.con (.int 1))) (.cons (.ix (.var 4) (.con (.int 3))) (.nil)))) (.var 3))) (.cons (.ret (.tup (.cons (.con (.str "way")) (.cons (.con .non) (.nil))))) (.nil)) (.nil)) (.cons (.ifs (.cmp .Eq (.ix (.var 4) (.con (.int 0))) (.con (.str "take"))) (.cons (.set 6 (.call 35 (.cons (.var 0) (.cons (.var 1) (.cons (.ix (.var 4) (.con (.int 3))) (.nil)))))) (.cons (.set 7 (.comp true ["_law_other","_law_row_here"] [none,some 4] (.name 0) (.seq (.sl true (.var 0) (.no) (.yes (.var 1)))) (.yes (.and (.cmp .Eq (.ix (.var 0) (.con (.int 0))) (.con (.str "take"))) (.cmp .Eq (.ix (.var 0) (.con (.int 3))) (.ix (.var 1) (.con (.int 3)))))) (.var 0))) (.cons (.ifs (.or (.cmp .NotEq (.ix (.var 6) (.con (.int 0))) (.con (.str "send"))) (.or (.cmp .NotEq (.ix (.var 6) (.con (.int 3))) (.ix (.var 4) (.con (.int 1)))) (.cmp .NotEq (.var 7) (.lst true (.nil))))) (.cons (.ret (.tup (.cons (.con (.str "letter")) (.cons (.con .non) (.nil))))) (.nil)) (.nil)) (.nil)))) (.nil)) (.cons (.ret (.tup (.cons (.con (.str "fine")) (.cons (.con .non) (.nil))))) (.nil))))
theorem pQ:b8=.cons (.set 4 (.ix (.var 0) (.var 1))) (.cons (.ifs (.not (.val (.call 33 (.cons (.var 4) (.nil))))) (.cons (.ret (.tup (.cons (.con (.str "row")) (.cons (.con .non) (.nil))))) (.nil)) (.nil)) (.cons (.ifs (.or (.cmp .Lt (.ix (.var 4) (.con (.int 1))) (.con (.int 0))) (.cmp .GtE (.ix (.var 4) (.con (.int 1))) (.var 2))) (.cons (.ret (.tup (.cons (.con (.str "hand")) (.cons (.con .non) (.nil))))) (.nil)) (.nil)) (.cons (.set 5 (.comp true ["_law_other","_law_row_here"] [none,some 4] (.name 0) (.seq (.sl true (.var 0) (.no) (.yes (.var 1)))) (.yes (.cmp .Eq (.ix (.var 0) (.con (.int 1))) (.ix (.var 1) (.con (.int 1))))) (.ix (.var 0) (.con (.int 2))))) (.cons (.ifs (.and (.cmp .NotEq (.var 5) (.lst true (.nil))) (.cmp .Lt (.ix (.var 4) (.con (.int 2))) (.ix (.var 5) (.neg (.con (.int 1)))))) (.cons (.ret (.tup (.cons (.con (.str "back")) (.cons (.ix (.var 5) (.neg (.con (.int 1)))) (.nil))))) (.nil)) (.nil)) fZ)))):=rfl
theorem wV{De:Ends3}{ES:St3->XN}{x2 x5:Option D}(U:UI pre S c)(hM:Fm M)(hl:pre.length < 500)(hq:M q=some (.lst (pre.map Rw.d++r.d::tl))) :
  ao ⟨(B cls kls fad),aa T (B cls kls fad) (n+1)⟩ fZ De ES [some (.ref q),some (.int (pre.length:Nat)),x2,some (.rol (wy.map pD)),some r.d,x5,none,none] M=De.rt (aF (flK wy S r)) M:=by
 have iw:=fun {h t:Int}{Q:VK3}=>sQ (M:=M) (Q:=Q) (wy:=wy) (h:=h) (t:=t)
 simp only[fZ];cases r with
 |look h v=>simp +decide [Rw.d,flK,aF,cQ,br,am]
 |sight h v e l=>by_cases z:l < e<;>simp +decide [Rw.d,flK,aF,cQ,br,am,z]
 |send h v t=>by_cases z:[h,t]∈wy.map pr<;>simp +decide [Rw.d,flK,aF,cQ,br,am,↓iw,z]
 |take h v i j=>
  have cs:=fun {Q:VK3}{E:XN}=>vS (cls:=cls) (kls:=kls) (fad:=fad) (n:=n) (Q:=Q) (E:=E) (i:=i) (j:=j) hq (by omega)
  have sl:=fun {Q:VK3}=>qM (Q:=Q) hq (by omega)
  have tc:=fun {W:WC}{Q:VK3}=>mF (W:=W) (Q:=Q) (pre:=pre) (h:=h) (v:=v) (i:=i) (j:=j) hM (by omega)
  have er:=fun {M:MH}{Q:VK3}{l:List Rw}=>ul (M:=M) (Q:=Q) (l:=l) (op:=true)
  have i0:=fun {r:Rw}{M:MH}{Q:VK3}=>zb (M:=M) (Q:=Q) (r:=r)
  have te:(pre.filter (Rw.tk i j)).isEmpty=!tkn pre i j:=by
   unfold tkn;rw[Bool.eq_iff_iff];simp
  have r3:∀{M:MH}{Q:VK3},aE (Rw.take h v i j).d (.int 3) M Q=Q (.tup [.int i,.int j]) M:=fun {M Q}=>by simp[Rw.d]
  have r1:∀{M:MH}{Q:VK3},aE (Rw.take h v i j).d (.int 1) M Q=Q (.int h) M:=fun {M Q}=>by simp[Rw.d]
  have s0:(Rw.take h v i j).s = "take":=rfl;simp only[flK,U.un,unF];cases e:aY pre i j with
  |none=>
   have sd:i3 pre i j=.tup [.str "look",.int i,.int 0]:=by unfold i3;rw[e]
   simp +decide [↓i0,s0,↓r3,↓cs,sd,↓sl,ay,↓tc,aF,cQ,br,am]
  |some x=>
   have sd:i3 pre i j=x.d:=by unfold i3;rw[e]
   by_cases hs:x.s = "send"
   ·cases x with
    |send h' v' t=>
     have s3:∀{t:Int}{M:MH}{Q:VK3},aE (Rw.send h' v' t).d (.int 3) M Q=Q (.int t) M:=fun {t M Q}=>by simp[Rw.d]
     have er':∀{M:MH}{Q:VK3}{l:List Rw},aw .NotEq (.rol (l.map Rw.d)) (.rol []) M Q=Q (.bl (!l.isEmpty)) M:=fun {M Q l}=>by simp only[aw];rw[er];simp
     by_cases z:t=h
     ·cases k:tkn pre i j<;>simp +decide [↓i0,s0,Rw.s,↓r3,↓r1,↓s3,↓cs,sd,↓sl,ay,↓tc,↓er',te,k,Rw.un,z,aF,cQ,br,am]
     ·cases k:tkn pre i j<;>simp +decide [↓i0,s0,Rw.s,↓r3,↓r1,↓s3,↓cs,sd,↓sl,ay,↓tc,te,k,Rw.un,z,aF,cQ,br,am]
    |_=>exact absurd hs (by simp +decide [Rw.s])
   ·have hu:x.un=none:=by
     cases x with
     |send=>exact absurd rfl hs
     |_=>rfl
    have e0:(if tkn pre i j=true then none else (some x).bind Rw.un)=none:=by
     split
     ·rfl
     ·exact hu
    rw[e0];simp +decide [↓i0,s0,hs,↓r3,↓cs,sd,↓sl,ay,↓tc,aF,cQ,br,am]
theorem n8(U:UI pre S c)(hM:Fm M)(hl:pre.length < 500)(hq:M q=some (.lst (pre.map Rw.d++r.d::tl))) :
  aa T (B cls kls fad) (n+2) 36 [.ref q,.int (pre.length:Nat),.int H,.rol (wy.map pD)] M Q E=Q (aF (flt H wy S r)) M:=by
 have la:=fun {Q:VK3}=>ir (x:=r.d) (Q:=Q) (k:=pre.length) hq (by simp)
 have ck:=fun {Q:VK3}{E:XN}=>nS (cls:=cls) (kls:=kls) (fad:=fad) (n:=n) (Q:=Q) (E:=E) (r:=r) hM
 have i1:=fun {M:MH}{Q:VK3}=>uQ (M:=M) (Q:=Q) (r:=r)
 have i2:=fun {M:MH}{Q:VK3}=>yW (M:=M) (Q:=Q) (r:=r)
 have sl:=fun {Q:VK3}=>qM (Q:=Q) hq (by omega)
 have ac:=fun {W:WC}{Q:VK3}=>mZ (W:=W) (Q:=Q) (pre:=pre) (r:=r) hM (by omega)
 have en:∀{M:MH}{Q:VK3}{l:List Rw},aw .NotEq (.rol (l.map fun x=>D.int x.r)) (.rol []) M Q=Q (.bl (!l.isEmpty)) M:=fun {M Q l}=>by simp only[aw];rw[tL];simp
 have tl':=fun {De:Ends3}{ES:St3->XN}{x2 x5:Option D}=>wV (cls:=cls) (kls:=kls) (fad:=fad) (n:=n) (De:=De) (ES:=ES) (x2:=x2) (x5:=x5) (wy:=wy) U hM hl hq
 simp only[gN,pQ];unfold flt flC;by_cases h0:okH H r.h=true
 ·have o1:¬ r.h < 0/\¬ (H:Int)<=r.h:=by simp[okH]at h0;omega
  rw[if_pos h0,U.kr];cases e:(ofH pre r.h).getLast? with
  |some x=>
   have hne:(ofH pre r.h).isEmpty=false:=by cases z:ofH pre r.h<;>simp_all
   have al:=uE e;by_cases h1:r.r < x.r
   ·simp[↓la,↓ck,↓i1,o1.1,o1.2,↓sl,ay,↓ac,↓en,hne,↓i2,cM al,h1,aF,cQ,br,am]
   ·simp[↓la,↓ck,↓i1,o1.1,o1.2,↓sl,ay,↓ac,↓en,hne,↓i2,cM al,h1,↓tl',am]
  |none=>
   have hne:(ofH pre r.h).isEmpty=true:=by rw[List.getLast?_eq_none_iff.mp e];rfl
   simp[↓la,↓ck,↓i1,o1.1,o1.2,↓sl,ay,↓ac,↓en,hne,↓tl',am]
 ·have o1:r.h < 0\/(H:Int)<=r.h:=by simp[okH]at h0;omega
  rw[if_neg h0];by_cases z:r.h < 0
  ·simp[↓la,↓ck,↓i1,z,cQ,aF,br,am]
  ·have q2:(H:Int)<=r.h:=by omega
   simp[↓la,↓ck,↓i1,z,q2,cQ,aF,br,am]
end
end G
namespace G
open L2
section
variable {cls kls fad:Nat->PySem.Addr}{M:MH}{Q:VK3}{E:XN}{n:Nat}
structure PS (H:Nat)(i j:Nat) (ps:List (Nat×Nat)):Prop where
 nd:ps.Nodup
 gd:∀x∈ps,x.1 < H/\x.2 < H/\x.1≠x.2
 lo:∀x∈ps,x.1 < i\/(x.1=i/\x.2 < j)
noncomputable def qD(x:Nat×Nat):D:=.tup [.int x.1,.int x.2]
theorem CK{H one:Nat}(hH:H<=6)(ho:one < H)(ha:M a=none){De:Ends3}{ES:St3->XN}{y0 y1:Option D}:∀(k j:Nat) (ps:List (Nat×Nat)) (num:Int)(x5:Option D),j+k=H->ps.length+k < 400->PS H one j ps->0<=num->num < 10 ^ 12->
  (∀(ps':List (Nat×Nat)) (num':Int) x5,ps'.length<=ps.length+k->PS H (one+1) 0 ps'->0<=num'->num' < 10 ^ 12->De.nx [y0,y1,some (.ref a),some (.int num'),some (.int one),x5] (put M a (.lst (ps'.map qD))))->
  cz ⟨(B cls kls fad),aa T (B cls kls fad) n⟩ (.name 5) bR ES (fun _=>True) De (rng j k) [y0,y1,some (.ref a),some (.int num),some (.int one),x5] (put M a (.lst (ps.map qD)))
 |0,j,ps,num,x5,h1,h2,hW,n0,n1,hR=>by
  show cz _ _ _ _ _ _ [] _ _;rw[cw];refine⟨trivial,hR ps num _ (by omega) ⟨hW.nd,hW.gd,fun x hx=>?_⟩ n0 n1⟩
  rcases hW.lo x hx with h|h<;>omega
 |k+1,j,ps,num,x5,h1,h2,hW,n0,n1,hR=>by
  have c1:gG num num=True:=qm (by omega) (by omega) (by omega) (by omega)
  have c2:gG 48271 num=True:=qm (by decide) (by decide) (by omega) (by omega)
  have hm:0<=(num * num+48271 * num+(j:Int)) % 2147483647/\(num * num+48271 * num+(j:Int)) % 2147483647 < 2147483647:=⟨Int.emod_nonneg _ (by decide),Int.emod_lt_of_pos _ (by decide)⟩
  generalize hx:(num * num+48271 * num+(j:Int)) % 2147483647=x at hm;have lz:ps.length < PySem.sizeLine:=by rw[PySem.sizeLine_eq];omega
  rw[dN,aU];refine⟨trivial,?_⟩;have nx:=fun (ps':List (Nat×Nat)) (hw:ps'.length<=ps.length+1) (hW':PS H one (j+1) ps') (x5:Option D)=>CK hH ho ha (De:=De) (ES:=ES) (y0:=y0) (y1:=y1) k (j+1) ps' x x5 (by omega) (by omega) hW' hm.1 (by omega) (fun p2 n2 x hw2 hW2=>hR p2 n2 x (by omega) hW2)
  push_cast at nx
  generalize cz ⟨(B cls kls fad),aa T (B cls kls fad) n⟩ (.name 5) bR ES (fun _=>True) De (rng ((j:Int)+1) k)=K at nx ⊢
  simp only[bR];have sk:PS H one (j+1) ps:=⟨hW.nd,hW.gd,fun x hx=>by rcases hW.lo x hx with h|h<;>omega⟩
  by_cases e1:one=j
  ·subst e1;simp[c1,c2,hx,ba];exact nx ps (by omega) sk _
  ·have e1':¬ (one:Int)=(j:Int):=fun z=>e1 (by omega)
   by_cases e2:0 < x % 3
   ·simp[c1,c2,hx,ba,e1',e2,oS,ja,ai,lz,am];have hn:(one,j)∉ps:=fun z=>by rcases hW.lo _ z with h|h<;>simp at h<;>omega
    have:=nx (ps++[(one,j)]) (by simp) ⟨by
      rw[List.nodup_append];refine⟨hW.nd,by simp,fun a ha b hb=>?_⟩
      rw[List.mem_singleton.mp hb];exact fun z=>hn (z▸ha),fun x hx=>by
      rcases List.mem_append.mp hx with h|h
      ·exact hW.gd x h
      ·rw[List.mem_singleton.mp h];exact⟨ho,by show j < H;omega,e1⟩,fun x hx=>by
      rcases List.mem_append.mp hx with h|h
      ·rcases hW.lo x h with h|h<;>omega
      ·rw[List.mem_singleton.mp h];exact .inr ⟨rfl,by show j < j+1;omega⟩⟩
    simpa [qD] using this _
   ·simp[c1,c2,hx,ba,e1',e2];exact nx ps (by omega) sk _
theorem va{H:Nat}(hH:H<=6)(ha:M a=none){De:Ends3}{ES:St3->XN}{y1:Option D}:∀(k j:Nat) (ps:List (Nat×Nat)) (num:Int)(x4 x5:Option D),j+k=H->ps.length<=j * 6->PS H j 0 ps->0<=num->num < 10 ^ 12->
  (∀(ps':List (Nat×Nat)) (num':Int) x4 x5,ps'.length<=36->PS H H 0 ps'->De.nx [some (.int H),y1,some (.ref a),some (.int num'),x4,x5] (put M a (.lst (ps'.map qD))))->
  cz ⟨(B cls kls fad),aa T (B cls kls fad) n⟩ (.name 4) bQ ES (fun _=>True) De (rng j k) [some (.int H),y1,some (.ref a),some (.int num),x4,x5] (put M a (.lst (ps.map qD)))
 |0,j,ps,num,x4,x5,h1,h2,hW,n0,n1,hR=>by
  show cz _ _ _ _ _ _ [] _ _;rw[cw];have e:j=H:=by omega
  subst e;exact⟨trivial,hR ps num _ _ (by omega) hW⟩
 |k+1,j,ps,num,x4,x5,h1,h2,hW,n0,n1,hR=>by
  have hb4:(H:Int) < 4611686018427387904:=by omega
  rw[dN,aU];refine⟨trivial,?_⟩;have nx:=fun (ps':List (Nat×Nat)) (num:Int) (hw:ps'.length<=(j+1) * 6) (hW':PS H (j+1) 0 ps') (n0:0<=num) (n1:num < 10 ^ 12) (x5:Option D)=>va hH ha (De:=De) (ES:=ES) (y1:=y1) k (j+1) ps' num (some (.int j)) x5 (by omega) hw hW' n0 n1 hR
  push_cast at nx
  generalize cz ⟨(B cls kls fad),aa T (B cls kls fad) n⟩ (.name 4) bQ ES (fun _=>True) De (rng ((j:Int)+1) k)=K at nx ⊢
  simp only[bQ];simp[hb4];have key:=CK (cls:=cls) (kls:=kls) (fad:=fad) (n:=n) hH (one:=j) (by omega) ha (De:={De with nx:=K,ct:=K,bk:=De.nx}) (ES:=ES) (y0:=some (.int H)) (y1:=y1) H 0 ps num x5 (by omega) (by omega) hW n0 n1 (fun ps' num' x5 hw hW2 n0 n1=>nx ps' num' (by omega) hW2 n0 n1 _)
  simpa using key
theorem zR{c:Int}{H:Nat}(hH:H<=6)(h:∀ps:List (Nat×Nat),ps.length<=36->PS H H 0 ps->Q (.rol (ps.map qD)) M):aa T (B cls kls fad) (n+1) 30 [.int H,.int c] M Q E:=by
 have h0:=Int.emod_nonneg c (show (2147483647:Int)≠0 by decide)
 have h1:=Int.emod_lt_of_pos c (show (0:Int) < 2147483647 by decide)
 have hb4:(H:Int) < 4611686018427387904:=by omega
 simp[nc,db,hb4,ba];intro a ha;refine va hH ha H 0 [] _ none none (by omega) (by simp) ⟨by simp,fun x hx=>(by cases hx),fun x hx=>(by cases hx)⟩ (by omega) (by omega) (fun ps num x4 x5 l1 l2=>?_)
 have z:ps.length<=PySem.sizeLine:=by rw[PySem.sizeLine_eq];omega
 simp[bv,ai,d9 ha,ha,z];exact h ps l1 l2
theorem kJ{k m:Nat}(h:k < m):ixN m (k:Int)=some k:=by
 have h1:(k:Int) < m:=by omega
 simp[ixN,h]
theorem wP{C:List Int}{k:Nat}(h:k < C.length):atI (C.map D.int) (k:Int)=some (.int (C.getD k 0)):=bC (by simp[h])
noncomputable def mD(p:Int×Int):D:=.tup [.int p.1,.int p.2]
theorem pV{l:List Int}{op:Bool}:cG op (.rol (l.map D.int)) (.rol []) M Q=Q (.bl (op ^^ l.isEmpty)) M:=by
 have hp:plN 8 (.rol (l.map D.int))=true:=by simp[plN]
 have hq:pls (l.map D.int)=true:=by simp[plN]
 cases l<;>simp[cG,rs,aj,plN,eqD,cJ]
theorem GW{l:List (Int×Int)}{op:Bool}:cG op (.rol (l.map mD)) (.rol []) M Q=Q (.bl (op ^^ l.isEmpty)) M:=by
 have hq:pls (l.map mD)=true:=by simp[plN,mD]
 have hp:plN 8 (.rol (l.map mD))=true:=by simp[plN,mD]
 cases l<;>simp[cG,rs,aj,plN,eqD,cJ,mD]
theorem AT(h mm r c:Int)(tos:List Int)(mine:List (Int×Int)):∃x:Rw,∀{n:Nat}{M:MH}{Q:VK3}{E:XN},aa T (B cls kls fad) (n+1) 31 [.tup [.int h,.int mm],.int r,.rol (tos.map D.int),.rol (mine.map mD),.int c] M Q E=Q x.d M:=by
 have e1:∀{M:MH}{Q:VK3},aw .Eq (.rol (tos.map D.int)) (.rol []) M Q=Q (.bl (tos.isEmpty)) M:=fun {M Q}=>by simp only[aw];rw[pV];simp
 have e2:∀{M:MH}{Q:VK3},aw .NotEq (.rol (tos.map D.int)) (.rol []) M Q=Q (.bl (!tos.isEmpty)) M:=fun {M Q}=>by simp only[aw];rw[pV];simp
 have e3:∀{M:MH}{Q:VK3},aw .NotEq (.rol (mine.map mD)) (.rol []) M Q=Q (.bl (!mine.isEmpty)) M:=fun {M Q}=>by simp only[aw];rw[GW];simp
 by_cases k1:c / 6 % 7 < 2
 ·refine⟨.look h r,?_⟩;intro n M Q E;simp[bx,aP,ba,k1,am,Rw.d]
 ·by_cases k2:c / 6 % 7=2/\tos.isEmpty=true
  ·refine⟨.look h r,?_⟩;intro n M Q E;simp[bx,aP,ba,k1,k2.1,↓e1,k2.2,am,Rw.d]
  ·by_cases k3:3 < c / 6 % 7/\mine≠[]
   ·obtain⟨k3,k4⟩:=k3;have hlen:(0:Int) < mine.length:=by
     cases mine with
     |nil=>exact absurd rfl k4
     |cons=>simp
    obtain⟨j,hj⟩:∃j:Nat,c / 42 % (mine.length:Int)=j:=⟨(c / 42 % (mine.length:Int)).toNat,by have:=Int.emod_nonneg (c / 42) (show (mine.length:Int)≠0 by omega);omega⟩
    have hj2:j < mine.length:=by have:=Int.emod_lt_of_pos (c / 42) hlen;omega
    refine⟨.take h r mine[j].1 mine[j].2,?_⟩;intro n M Q E;have hat:atI (mine.map mD) (j:Int)=some (mD mine[j]):=bC (by simp[hj2])
    have hemp:mine.isEmpty=false:=by cases mine<;>simp_all
    have k5:¬ c / 6 % 7=2:=by omega
    simp[bx,aP,ba,k1,k3,k5,↓e3,hemp,hj,cM hat,am,Rw.d,mD,show ¬ (mine.length:Int)=0 by omega,show 0 < mine.length by omega]
   ·have k3':3 < c / 6 % 7->mine.isEmpty=true:=fun z=>by
     cases mine with
     |nil=>rfl
     |cons x r=>exact absurd ⟨z,by simp⟩ k3
    by_cases k6:tos=[]
    ·subst k6;have k7:¬ c / 6 % 7=2:=fun z=>k2 ⟨z,rfl⟩
     refine⟨.sight h r (c / 42 % 10 ^ 30 - 500) (c / 42 % 10 ^ 30 - 500+c / 5 % 3),?_⟩;intro n M Q E;have e2':∀{M:MH}{Q:VK3},aw .NotEq (.rol []) (.rol []) M Q=Q (.bl false) M:=fun {M Q}=>by have:=@e2 M Q;simpa using this
     simp only[List.map_nil];by_cases k5:3 < c / 6 % 7
     ·simp[bx,aP,ba,gZ,k1,k5,k7,↓e3,↓e2',k3' k5,am,Rw.d]
     ·simp[bx,aP,ba,gZ,k1,k5,k7,↓e2',am,Rw.d]
    ·have hlen:(0:Int) < tos.length:=by
      cases tos with
      |nil=>exact absurd rfl k6
      |cons=>simp
     have hemp:tos.isEmpty=false:=by cases tos<;>simp_all
     obtain⟨j,hj⟩:∃j:Nat,c / 42 % (tos.length:Int)=j:=⟨(c / 42 % (tos.length:Int)).toNat,by have:=Int.emod_nonneg (c / 42) (show (tos.length:Int)≠0 by omega);omega⟩
     have hj2:j < tos.length:=by have:=Int.emod_lt_of_pos (c / 42) hlen;omega
     have hat:atI (tos.map D.int) (j:Int)=some (.int tos[j]):=bC (by simp[hj2])
     refine⟨.send h r tos[j],?_⟩;intro n M Q E;have w1:¬ (tos.length:Int)=0:=by omega
     have w2:0 < tos.length:=by omega
     by_cases k7:c / 6 % 7=2
     ·simp[bx,aP,ba,k7,↓e1,↓e2,hemp,hj,cM hat,am,Rw.d,w1,w2]
     ·by_cases k5:3 < c / 6 % 7
      ·simp[bx,aP,ba,k1,k5,k7,↓e3,↓e2,hemp,k3' k5,hj,cM hat,am,Rw.d,w1,w2]
      ·simp[bx,aP,ba,k1,k5,k7,↓e2,hemp,hj,cM hat,am,Rw.d,w1,w2]
noncomputable def lD(p:Int×Int×Int):D:=.tup [.tup [.int p.1,.int p.2.1],.int p.2.2]
theorem BX(a b c d:D)(i:Int)(h0:0<=i)(h3:i < 4):∃x,(x=a\/x=b\/x=c\/x=d)/\∀{M:MH}{Q:VK3},aE (.rol [a,b,c,d]) (.int i) M Q=Q x M:=by
 have:i=0\/i=1\/i=2\/i=3:=by omega
 rcases this with rfl|rfl|rfl|rfl
 ·exact⟨a,.inl rfl,by intro M Q;simp⟩
 ·exact⟨b,.inr (.inl rfl),by intro M Q;simp⟩
 ·exact⟨c,.inr (.inr (.inl rfl)),by intro M Q;simp⟩
 ·exact⟨d,.inr (.inr (.inr rfl)),by intro M Q;simp⟩
structure LS (M:MH)(H:Nat)(a b d a4:PySem.Addr)(rd mn:List Int) (ls:List (Int×Int×Int)) (rs:List Rw)(M':MH):Prop where
 h1:rd.length=H
 h2:mn.length=H
 ia:M' a=some (.lst (rd.map D.int))
 ib:M' b=some (.lst (mn.map D.int))
 ic:M' a4=some (.lst (ls.map lD))
 id:M' d=some (.lst (rs.map Rw.d))
 ab:a≠b
 ac:a≠a4
 ad:a≠d
 bc:b≠a4
 bd:b≠d
 cd:a4≠d
 old:∀x o,M x=some o->M' x=some o
 fa:M a=none
 fb:M b=none
 fc:M a4=none
 fd:M d=none
 fm:Fm M'
variable {H:Nat}{a b d a4:PySem.Addr}{rd mn:List Int}{ls:List (Int×Int×Int)}{rs:List Rw}{M':MH}
theorem cC{p:PySem.Addr}{o:DO}(h:∀x u,M x=some u->M' x=some u)(hp:M p=none):∀x u,M x=some u->put M' p o x=some u:=fun x u e=>by
 rw[ak (fun z=>by rw[z,hp]at e;cases e)];exact h x u e
theorem LS.sa(I:LS M H a b d a4 rd mn ls rs M'){rd':List Int}(h:rd'.length=H):LS M H a b d a4 rd' mn ls rs (put M' a (.lst (rd'.map D.int))):=
 ⟨h,I.h2,ai,by rw[ak (Ne.symm I.ab)];exact I.ib,by rw[ak (Ne.symm I.ac)];exact I.ic,by rw[ak (Ne.symm I.ad)];exact I.id,I.ab,I.ac,I.ad,I.bc,I.bd,I.cd,cC I.old I.fa,I.fa,I.fb,I.fc,I.fd,I.fm.put _ _⟩
theorem LS.sb(I:LS M H a b d a4 rd mn ls rs M'){mn':List Int}(h:mn'.length=H):LS M H a b d a4 rd mn' ls rs (put M' b (.lst (mn'.map D.int))):=
 ⟨I.h1,h,by rw[ak I.ab];exact I.ia,ai,by rw[ak (Ne.symm I.bc)];exact I.ic,by rw[ak (Ne.symm I.bd)];exact I.id,I.ab,I.ac,I.ad,I.bc,I.bd,I.cd,cC I.old I.fb,I.fa,I.fb,I.fc,I.fd,I.fm.put _ _⟩
theorem LS.sc(I:LS M H a b d a4 rd mn ls rs M'){ls':List (Int×Int×Int)}:LS M H a b d a4 rd mn ls' rs (put M' a4 (.lst (ls'.map lD))):=
 ⟨I.h1,I.h2,by rw[ak I.ac];exact I.ia,by rw[ak I.bc];exact I.ib,ai,by rw[ak (Ne.symm I.cd)];exact I.id,I.ab,I.ac,I.ad,I.bc,I.bd,I.cd,cC I.old I.fc,I.fa,I.fb,I.fc,I.fd,I.fm.put _ _⟩
theorem LS.sn(I:LS M H a b d a4 rd mn ls rs M'){ls':List (Int×Int×Int)}{p:PySem.Addr}(hp:M' p=none):LS M H a b d p rd mn ls' rs (put M' p (.lst (ls'.map lD))):=by
 have n1:a≠p:=fun z=>by have:=I.ia;rw[z,hp]at this;cases this
 have n2:b≠p:=fun z=>by have:=I.ib;rw[z,hp]at this;cases this
 have n3:d≠p:=fun z=>by have:=I.id;rw[z,hp]at this;cases this
 have fp:M p=none:=by
  cases e:M p with
  |none=>rfl
  |some o=>have:=I.old _ _ e;rw[hp]at this;cases this
 exact⟨I.h1,I.h2,by rw[ak n1];exact I.ia,by rw[ak n2];exact I.ib,ai,by rw[ak n3];exact I.id,I.ab,n1,I.ad,n2,I.bd,Ne.symm n3,cC I.old fp,I.fa,I.fb,fp,I.fd,I.fm.put _ _⟩
theorem LS.sd(I:LS M H a b d a4 rd mn ls rs M'){x:Rw}:LS M H a b d a4 rd mn ls (rs++[x]) (put M' d (.lst ((rs++[x]).map Rw.d))):=
 ⟨I.h1,I.h2,by rw[ak I.ad];exact I.ia,by rw[ak I.bd];exact I.ib,by rw[ak I.cd];exact I.ic,ai,I.ab,I.ac,I.ad,I.bc,I.bd,I.cd,cC I.old I.fd,I.fa,I.fb,I.fc,I.fd,I.fm.put _ _⟩
theorem oj{W:WC}{e:IE}{De:Ends3}{E:XN}{σ:St3}{p:PySem.Addr}{ds:List D}(h:M p=some (.lst ds)):oS W e De E σ (.ref p) M=wpE W e σ M (ja p De σ) E:=by
 unfold oS;simp only[h];rfl
theorem lp{De:Ends3}{σ:St3}{p:PySem.Addr}{ds:List D}{y:D}(h:M p=some (.lst ds)):ja p De σ y M=(ds.length < PySem.sizeLine/\De.nx σ (put M p (.lst (ds++[y])))):=by
 unfold ja;simp only[h]
theorem lT{mm:Nat}(hmm:mm < 400)(hH:0 < H){ps:List (Nat×Nat)}(hps:ps.length<=36){De:Ends3}{ES:St3->XN}{cl:Option D}(hR:∀rd mn ls (rs:List Rw) a4 M' x7 x8 x9 x10 x11 x12,rs.length=mm->LS M H a b d a4 rd mn ls rs M'->De.nx [some (.int H),some (.rol (ps.map qD)),cl,some (.ref a),some (.ref b),some (.ref a4),some (.ref d),x7,x8,x9,x10,x11,x12] M'):∀(cs:List Int) {rd mn ls a4 M'} {rs:List Rw} (x7 x8 x9 x10 x11 x12:Option D),rs.length+cs.length=mm->ls.length<=rs.length->LS M H a b d a4 rd mn ls rs M'->
  cz ⟨(B cls kls fad),aa T (B cls kls fad) (n+1)⟩ (.name 7) cx ES (fun _=>True) De (cs.map D.int) [some (.int H),some (.rol (ps.map qD)),cl,some (.ref a),some (.ref b),some (.ref a4),some (.ref d),x7,x8,x9,x10,x11,x12] M'
 |[],rd,mn,ls,a4,M',rs,x7,x8,x9,x10,x11,x12,hl,hz,I=>by
  rw[List.map_nil,cw];exact⟨trivial,hR _ _ _ _ _ _ _ _ _ _ _ _ (by simpa using hl) I⟩
 |c::cs,rd,mn,ls,a4,M',rs,x7,x8,x9,x10,x11,x12,hl,hz,I=>by
  simp only[List.length_cons]at hl;have hm0:0<=c % (H:Int):=Int.emod_nonneg _ (by omega)
  have hm1:c % (H:Int) < H:=Int.emod_lt_of_pos _ (by omega)
  obtain⟨k,hk⟩:∃k:Nat,c % (H:Int)=k:=⟨(c % (H:Int)).toNat,by omega⟩
  have hkH:k < H:=by omega
  have hkr:k < rd.length:=by rw[I.h1];omega
  have hkm:k < mn.length:=by rw[I.h2];omega
  obtain⟨g,hg1,hg⟩:=BX (.int 0) (.int 1) (.int (c / 42 % 50)) (.int (c / 42 % 1000000000000000000000000000000)) (c / 7 % 4) (by omega) (by omega)
  obtain⟨g,rfl⟩:∃i:Int,g=.int i:=by rcases hg1 with h|h|h|h<;>exact⟨_,h⟩
  have hx:atI (rd.map D.int) (k:Int)=some (.int rd[k]):=bC (by simp[hkr])
  have hi:ixN (rd.map D.int).length (k:Int)=some k:=kJ (by simpa using hkr)
  have I1:LS M H a b d a4 (rd.set k (rd[k]+g)) mn ls rs (put M' a (.lst ((rd.set k (rd[k]+g)).map D.int))):=I.sa (by simpa using I.h1)
  have e1:(rd.map D.int).set k (.int (rd[k]+g))=(rd.set k (rd[k]+g)).map D.int:=by simp[List.map_set]
  have hx2:atI ((rd.set k (rd[k]+g)).map D.int) (k:Int)=some (.int (rd[k]+g)):=bC (by simp[hkr])
  have hHi:(0:Int) < H:=by omega
  have hHz:¬ (H:Int)=0:=by omega
  have hmx:atI (mn.map D.int) (k:Int)=some (.int (mn.getD k 0)):=wP hkm;generalize hM1:put M' a (.lst ((rd.set k (rd[k]+g)).map D.int))=M1 at I1;obtain⟨tos,htos⟩:∃tos:List Int,tos=(ps.filter fun p=>decide ((p.1:Int)=(k:Int))).map fun p=>((p.2:Nat):Int):=⟨_,rfl⟩
  obtain⟨mine,hmine⟩:∃mine:List (Int×Int),mine=(ls.filter fun p=>decide (p.2.2=(k:Int))).map fun p=>(p.1,p.2.1):=⟨_,rfl⟩
  obtain⟨row,hr3⟩:=AT (cls:=cls) (kls:=kls) (fad:=fad) (k:Int) (mn.getD k 0) (rd[k]+g) c tos mine;have hr3':∀{M:MH}{Q:VK3}{E:XN},aa T (B cls kls fad) (n+1) 31 [.tup [.int k,.int (mn.getD k 0)],.int (rd[k]+g),.rol (tos.map D.int),.rol (mine.map mD),.int c] M Q E=Q row.d M:=hr3;have hls:ls.length < 400:=by omega
  have hct:∀{Q:VK3},gI ⟨(B cls kls fad),aa T (B cls kls fad) (n+1)⟩ (.tup [0,1]) (.yes (.cmp .Eq (.var 0) (.var 2))) (.var 1) (fun _=>True) Q (ps.map qD) [none,none,some (.int k)] M1=Q (.rol (tos.map D.int)) M1:=fun {Q}=>by
   rw[d8 (fun σ=>∃a b,σ=[a,b,some (.int k)]) (fun d=>match d with
     |.tup [a,b]=>[some a,some b,some (.int k)]
     |_=>[]) (fun d=>match d with
     |.tup [.int t,_]=>decide (t=(k:Int))
     |_=>false) (fun d=>match d with
     |.tup [_,x]=>x
     |_=>.non) ⟨_,_,rfl⟩ I1.fm (by simp;omega) (fun d hd=>by
      obtain⟨p,_,rfl⟩:=List.mem_map.mp hd;refine⟨⟨_,_,rfl⟩,fun σ ⟨a,b,e⟩ M k=>?_⟩
      subst e;simp[wpG,qD]) (fun d hd M' hE Q=>by
      obtain⟨p,_,rfl⟩:=List.mem_map.mp hd;simp[qD]) (fun d hd _ M' hE Q=>by
      obtain⟨p,_,rfl⟩:=List.mem_map.mp hd;simp[qD]) (fun M' hE=>trivial)]
   rw[htos];rw[List.filter_map,List.map_map,List.map_map];rfl
  have hcomp:∀{Q:VK3},gI ⟨(B cls kls fad),aa T (B cls kls fad) (n+1)⟩ (.tup [0,1]) (.yes (.cmp .Eq (.var 1) (.var 2))) (.var 0) (fun M=>M a4=some (.lst (ls.map lD))) Q (ls.map lD) [none,none,some (.int k)] M1=Q (.rol (mine.map mD)) M1:=fun {Q}=>by
   rw[d8 (fun σ=>∃a b,σ=[a,b,some (.int k)]) (fun d=>match d with
     |.tup [a,b]=>[some a,some b,some (.int k)]
     |_=>[]) (fun d=>match d with
     |.tup [_,.int t]=>decide (t=(k:Int))
     |_=>false) (fun d=>match d with
     |.tup [x,_]=>x
     |_=>.non) ⟨_,_,rfl⟩ I1.fm (by simp;omega) (fun d hd=>by
      obtain⟨p,_,rfl⟩:=List.mem_map.mp hd;refine⟨⟨_,_,rfl⟩,fun σ ⟨a,b,e⟩ M k=>?_⟩
      subst e;simp[wpG,lD]) (fun d hd M' hE Q=>by
      obtain⟨p,_,rfl⟩:=List.mem_map.mp hd;simp[lD]) (fun d hd _ M' hE Q=>by
      obtain⟨p,_,rfl⟩:=List.mem_map.mp hd;simp[lD]) (fun M' hE=>hE.2 _ _ I1.ic)]
   rw[hmine];rw[List.filter_map,List.map_map,List.map_map];rfl
  rw[List.map_cons,aU];refine⟨trivial,?_⟩;generalize hK:cz ⟨(B cls kls fad),aa T (B cls kls fad) (n+1)⟩ (.name 7) cx ES (fun _=>True) De (cs.map D.int)=K
  simp only[cx];have q1:∀{Q:VK3},aE (.ref a) (.int (k:Int)) M' Q=Q (.int rd[k]) M':=fun {Q}=>by rw[ik I.ia,cM hx]
  have q2:∀{R:MH->Prop},bu (.ref a) (.int (k:Int)) (.int (rd[k]+g)) M' R=R M1:=fun {R}=>by rw[gt I.ia hi,e1,hM1]
  have q3:∀{Q:VK3},aE (.ref a) (.int (k:Int)) M1 Q=Q (.int (rd[k]+g)) M1:=fun {Q}=>by rw[ik I1.ia,cM hx2]
  have q0:∀{M:MH}{Q:VK3},jz .Mod (.int c) (.int H) M Q=Q (.int k) M:=fun {M Q}=>by simp[hHi,hH,hk,hHz]
  have w1:∀{Q:VK3},aE (.ref b) (.int (k:Int)) M1 Q=Q (.int (mn.getD k 0)) M1:=fun {Q}=>by rw[ik I1.ib,cM hmx]
  generalize hmk:mn.getD k 0=mk at hr3' hmx w1;simp[↓q0,↓q1,↓q2,↓hg,ba,gZ,am];simp[↓w1,ay,↓hct,qz I1.ic,↓hcomp,↓q3,↓hr3',↓zb,am];have him:ixN (mn.map D.int).length (k:Int)=some k:=kJ (by simpa using hkm)
  have em:(mn.map D.int).set k (.int (mk+1))=(mn.set k (mk+1)).map D.int:=by simp[List.map_set]
  have hsz:rs.length < PySem.sizeLine:=Nat.lt_of_lt_of_le (show rs.length < 1000 by omega) (by decide)
  have hsl:ls.length < PySem.sizeLine:=Nat.lt_of_lt_of_le (show ls.length < 1000 by omega) (by decide)
  have fin:∀{ls':List (Int×Int×Int)}{p:PySem.Addr}{M2:MH},ls'.length<=rs.length+1->LS M H a b d p (rd.set k (rd[k]+g)) mn ls' rs M2->
    ao ⟨(B cls kls fad),aa T (B cls kls fad) (n+1)⟩ (.cons (.ixset (.var 4) (.var 8) (.bin .Add (.ix (.var 4) (.var 8)) (.con (.int 1)))) (.cons (.app (.var 6) (.var 12)) .nil)) {nx:=K,rt:=De.rt,bk:=De.nx,ct:=K} ES
     [some (.int H),some (.rol (ps.map qD)),cl,some (.ref a),some (.ref b),some (.ref p),some (.ref d),some (.int c),some (.int k),some (.tup [.int k,.int mk]),some (.rol (tos.map D.int)),some (.rol (mine.map mD)),some row.d] M2:=fun {ls' p M2} hl' I2=>by
   have ih:=lT hmm hH hps (ES:=ES) hR cs (some (.int c)) (some (.int k)) (some (.tup [.int k,.int mk])) (some (.rol (tos.map D.int))) (some (.rol (mine.map mD))) (some row.d) (rs:=rs++[row]) (by simp;omega) (by simp;exact hl') ((I2.sb (mn':=mn.set k (mk+1)) (by simpa using I2.h2)).sd)
   rw[hK]at ih;have hdd:put M2 b (.lst ((mn.set k (mk+1)).map D.int)) d=some (.lst (rs.map Rw.d)):=by rw[ak (Ne.symm I2.bd)];exact I2.id
   have w1:∀{Q:VK3},aE (.ref b) (.int (k:Int)) M2 Q=Q (.int mk) M2:=fun {Q}=>by rw[ik I2.ib,cM hmx]
   have w2:∀{R:MH->Prop},bu (.ref b) (.int (k:Int)) (.int (mk+1)) M2 R=R (put M2 b (.lst ((mn.set k (mk+1)).map D.int))):=fun {R}=>by rw[gt I2.ib him,em]
   generalize put M2 b (.lst ((mn.set k (mk+1)).map D.int))=M3 at ih hdd w2;simp[↓w1,↓w2];rw[oj hdd];simp;rw[lp hdd];simp[hsz];simpa using ih
  have d1:¬ PySem.Str.ofString "take"=PySem.Str.ofString "send":=by decide
  have d2:¬ PySem.Str.ofString "send"=PySem.Str.ofString "take":=by decide
  have d3:¬ PySem.Str.ofString "look"=PySem.Str.ofString "take":=by decide
  have d4:¬ PySem.Str.ofString "look"=PySem.Str.ofString "send":=by decide
  have d5:¬ PySem.Str.ofString "sight"=PySem.Str.ofString "take":=by decide
  have d6:¬ PySem.Str.ofString "sight"=PySem.Str.ofString "send":=by decide
  cases hrow:row with
  |take h r x y=>
   subst hrow;have n1:¬ (Rw.take h r x y).s=PySem.Str.ofString "send":=d1;have n2:(Rw.take h r x y).s=PySem.Str.ofString "take":=rfl;rw[if_neg n1,if_pos n2];intro p hp;rw[eo (fun σ=>∃a,σ=[a,some (Rw.take h r x y).d]) (fun d=>[some d,some (Rw.take h r x y).d]) (fun d=>match d with
     |.tup [y',_]=>!eqD y' (.tup [.int x,.int y])
     |_=>false) (fun d=>d) _ [] _ ⟨_,rfl⟩ I1.fm hp (by simp;exact Nat.lt_of_lt_of_le (show ls.length < 1000 by omega) (by decide)) (fun M' hE=>hE.2 _ _ I1.ic) (fun d hd=>⟨⟨_,rfl⟩,fun σ ⟨a,e⟩ M k=>by subst e;rfl⟩) (fun d hd M' hE Q=>by
      obtain⟨p,_,rfl⟩:=List.mem_map.mp hd;simp[lD,Rw.d,aw,cG,L2.rs,aj,plN]) (fun d hd _ M' hE Q=>by simp)]
   have ef:((ls.map lD).filter fun d=>match d with
     |.tup [y',_]=>!eqD y' (.tup [.int x,.int y])
     |_=>false).map (fun d=>d)=(ls.filter fun p=>!eqD (.tup [.int p.1,.int p.2.1]) (.tup [.int x,.int y])).map lD:=by
    rw[List.filter_map,List.map_id'];rfl
   rw[List.nil_append,ef];have:=fin (ls':=ls.filter fun p=>!eqD (.tup [.int p.1,.int p.2.1]) (.tup [.int x,.int y])) (by have:=List.length_filter_le (fun p:Int×Int×Int=>!eqD (.tup [.int p.1,.int p.2.1]) (.tup [.int x,.int y])) ls;omega) (I1.sn hp)
   simp at this;exact this
  |send h r x=>
   subst hrow;have n1:(Rw.send h r x).s=PySem.Str.ofString "send":=rfl;have r3:∀{M:MH}{Q:VK3},aE (Rw.send h r x).d (.int 3) M Q=Q (.int x) M:=fun {M Q}=>by simp[Rw.d]
   rw[if_pos n1,oj I1.ic];simp[↓r3,am];rw[lp I1.ic];have r0:∀{M:MH}{Q:VK3},aE (Rw.send h r x).d (.int 0) M Q=Q (.str "send") M:=fun {M Q}=>by simp[Rw.d]
   simp[hsl,↓r0,d2];have:=fin (ls':=ls++[((k:Int),mk,x)]) (by simp;exact hz) I1.sc
   simpa [lD] using this
  |look h r=>
   subst hrow;rw[if_neg (show ¬ (Rw.look h r).s=PySem.Str.ofString "send" from d4),if_neg (show ¬ (Rw.look h r).s=PySem.Str.ofString "take" from d3)];have:=fin (by omega) I1
   simpa [↓w1] using this
  |sight h r e l=>
   subst hrow;rw[if_neg (show ¬ (Rw.sight h r e l).s=PySem.Str.ofString "send" from d6),if_neg (show ¬ (Rw.sight h r e l).s=PySem.Str.ofString "take" from d5)];have:=fin (by omega) I1
   simpa [↓w1] using this
theorem AZ(hH:0 < H)(h6:H < 10){ps:List (Nat×Nat)}(hps:ps.length<=36)(cs:List Int)(hl:cs.length < 300)(hM:Fm M)(hQ:∀(rs:List Rw) q M',rs.length=cs.length->M' q=some (.lst (rs.map Rw.d))->Fm M'->Q (.ref q) M'):aa T (B cls kls fad) (n+2) 32 [.int H,.rol (ps.map qD),.rol (cs.map D.int)] M Q E:=by
 have hf:(List.replicate H [D.int 0]).flatten=(List.replicate H (0:Int)).map D.int:=by
  induction H with
  |zero=>rfl
  |succ k _=>simp[List.flatten_replicate_singleton]
 have hs:H<=PySem.sizeLine:=Nat.le_trans (show H<=1000 by omega) (by decide)
 have hb1 : -(2 ^ 63)<=(H:Int):=by omega
 have hb2:(H:Int) < 9223372036854775808:=by omega
 have hb3:(H:Int) < 4611686018427387904:=by omega
 simp[pE,d7,hb3,ay];intro a ha;rw[eo (fun σ=>∃x,σ=[x,some (.rol (cs.map D.int))]) (fun d=>[some d,some (.rol (cs.map D.int))]) (fun _=>true) (fun d=>match d with
   |.int i=>if h:i.toNat < cs.length then .int (cs[i.toNat] % 2001 - 1000) else .int 0
   |_=>.non) _ [] _ ⟨_,rfl⟩ hM ha (by simp[rng];exact Nat.lt_of_le_of_lt (show H<=1000 by omega) (by decide)) (fun M' hE=>trivial) (fun d hd=>⟨⟨_,rfl⟩,fun σ ⟨a,e⟩ M k=>by subst e;rfl⟩) (fun d hd M' hE Q=>rfl) (fun d hd _ M' hE Q=>by
    simp only[rng,List.mem_map,List.mem_range]at hd;obtain⟨i,hi,rfl⟩:=hd;simp only[Int.zero_add,Int.toNat_natCast];by_cases h:i < cs.length
    ·have hat:atI (cs.map D.int) (i:Int)=some (.int cs[i]):=bC (by simp[h])
     simp[h,cM hat]
    ·simp[h])]
 have ef:∃rd:List Int,rd.length=H/\((rng 0 H).filter fun _=>true).map (fun d=>match d with
   |.int i=>if h:i.toNat < cs.length then .int (cs[i.toNat] % 2001 - 1000) else .int 0
   |_=>.non)=rd.map D.int:=by
  refine⟨(List.range H).map fun i=>if h:i < cs.length then cs[i] % 2001 - 1000 else 0,by simp,?_⟩
  rw[List.filter_eq_self.mpr (fun _ _=>rfl)]
  simp only[rng,List.map_map];apply List.map_congr_left;intro i _;simp only[Function.comp,Int.zero_add,Int.toNat_natCast];split<;>rfl
 obtain⟨rd0,hrd0,ef⟩:=ef;rw[List.nil_append,ef];simp[gT,aj,am,hb1,hb2,hs,hf];intro b hb c hc d hd;obtain⟨hba,hb'⟩:=bw hb;obtain⟨hcb,hc'⟩:=bw hc;obtain⟨hca,hc''⟩:=bw hc';obtain⟨hdc,hd'⟩:=bw hd;obtain⟨hdb,hd''⟩:=bw hd';obtain⟨hda,hd3⟩:=bw hd'';refine lT (mm:=cs.length) (by omega) (a:=a) (b:=b) (d:=d) (M:=M) hH hps (fun rd mn ls rs a4 M' x6 x7 x8 x9 x10 x11 hl I=>?_) cs (rd:=rd0) (mn:=List.replicate H 0) (ls:=[]) (rs:=[]) (a4:=c) _ _ _ _ _ _ (by simp) (by simp) ?_
 ·simp;exact hQ rs d M' hl I.id I.fm
 ·refine⟨hrd0,by simp,?_,?_,?_,?_,Ne.symm hba,Ne.symm hca,Ne.symm hda,Ne.symm hcb,Ne.symm hdb,Ne.symm hdc,?_,ha,hb',hc'',hd3,(((hM.put _ _).put _ _).put _ _).put _ _⟩
  ·rw[ak (Ne.symm hda),ak (Ne.symm hca),ak (Ne.symm hba),ai]
  ·rw[ak (Ne.symm hdb),ak (Ne.symm hcb),ai];simp
  ·rw[ak (Ne.symm hdc),ai];rfl
  ·rw[ai];rfl
  ·exact cC (cC (cC (cC (fun _ _ e=>e) ha) hb') hc'') hd3
end
end G
namespace G
open L2
section
variable {cls kls fad:Nat->PySem.Addr}{M:MH}{Q:VK3}{E:XN}{n:Nat}{q:PySem.Addr}{r:Rw}{gs:List Gw}{c:Int}{H:Nat}
theorem Bg(a b c d e:Int)(i:Int)(h0:0<=i)(h3:i < 5):∃x:Int,∀{M:MH}{Q:VK3},aE (.rol [.int a,.int b,.int c,.int d,.int e]) (.int i) M Q=Q (.int x) M:=by
 have:i=0\/i=1\/i=2\/i=3\/i=4:=by omega
 rcases this with rfl|rfl|rfl|rfl|rfl
 ·exact⟨a,by intro M Q;simp⟩
 ·exact⟨b,by intro M Q;simp⟩
 ·exact⟨c,by intro M Q;simp⟩
 ·exact⟨d,by intro M Q;simp⟩
 ·exact⟨e,by intro M Q;exact cM rfl⟩
theorem Ea(a b c:Int)(i:Int)(h0:0<=i)(h3:i < 3):∃x:Int,∀{M:MH}{Q:VK3},aE (.rol [.int a,.int b,.int c]) (.int i) M Q=Q (.int x) M:=by
 have:i=0\/i=1\/i=2:=by omega
 rcases this with rfl|rfl|rfl
 ·exact⟨a,by intro M Q;simp⟩
 ·exact⟨b,by intro M Q;simp⟩
 ·exact⟨c,by intro M Q;simp⟩
theorem Bh(a b:D)(i:Int)(h0:0<=i)(h3:i < 2):∃x,(x=a\/x=b)/\∀{M:MH}{Q:VK3},aE (.rol [a,b]) (.int i) M Q=Q x M:=by
 have:i=0\/i=1:=by omega
 rcases this with rfl|rfl
 ·exact⟨a,.inl rfl,by intro M Q;simp⟩
 ·exact⟨b,.inr rfl,by intro M Q;simp⟩
noncomputable def Rw.setH:Rw->Int->Rw
 |.look _ r,h=>.look h r
 |.sight _ r e l,h=>.sight h r e l
 |.send _ r t,h=>.send h r t
 |.take _ r a b,h=>.take h r a b
noncomputable def Rw.setR:Rw->Int->Rw
 |.look h _,r=>.look h r
 |.sight h _ e l,r=>.sight h r e l
 |.send h _ t,r=>.send h r t
 |.take h _ a b,r=>.take h r a b
theorem Bd{h:Int}:(∀{M:MH}{Q:VK3},dg true r.d none (some 1) M Q=Q (.tup (ar r.ps none (some 1))) M)/\(∀{M:MH}{Q:VK3},dg true r.d (some 2) none M Q=Q (.tup (ar r.ps (some 2) none)) M)/\
  (ar r.ps none (some 1)++[.int h])++ar r.ps (some 2) none=(r.setH h).ps:=by
 refine⟨?_,?_,?_⟩<;>cases r<;>simp[Rw.d,Rw.ps,Rw.setH,whole,HT.sIx,ar]
theorem C0{v:Int}:(∀{M:MH}{Q:VK3},dg true r.d none (some 2) M Q=Q (.tup (ar r.ps none (some 2))) M)/\(∀{M:MH}{Q:VK3},dg true r.d (some 3) none M Q=Q (.tup (ar r.ps (some 3) none)) M)/\
  (ar r.ps none (some 2)++[.int v])++ar r.ps (some 3) none=(r.setR v).ps:=by
 refine⟨?_,?_,?_⟩<;>cases r<;>simp[Rw.d,Rw.ps,Rw.setR,whole,HT.sIx,ar]
theorem D7{k:Nat}(hk:k < r.ps.length):(∀{M:MH}{Q:VK3},dg true r.d none (some (k:Int)) M Q=Q (.tup (r.ps.take k)) M)/\(∀{M:MH}{Q:VK3},dg true r.d (some ((k:Int)+1)) none M Q=Q (.tup (r.ps.drop (k+1))) M)/\r.ps.take k++[.non]++r.ps.drop (k+1)=spl r (k+1):=by
 have e:spl r (k+1)=r.ps.set k .non:=by show r.ps.set (k % r.ps.length) .non=_;rw[Nat.mod_eq_of_lt hk]
 rw[e];cases r with
 |look h v=>
  have:k=0\/k=1\/k=2:=by simp[Rw.ps]at hk;omega
  rcases this with rfl|rfl|rfl<;>refine⟨?_,?_,?_⟩<;>simp[Rw.d,Rw.ps,whole,HT.sIx,ar]
 |sight h v e l=>
  have:k=0\/k=1\/k=2\/k=3\/k=4:=by simp[Rw.ps]at hk;omega
  rcases this with rfl|rfl|rfl|rfl|rfl<;>refine⟨?_,?_,?_⟩<;>simp[Rw.d,Rw.ps,whole,HT.sIx,ar]
 |send h v t=>
  have:k=0\/k=1\/k=2\/k=3:=by simp[Rw.ps]at hk;omega
  rcases this with rfl|rfl|rfl|rfl<;>refine⟨?_,?_,?_⟩<;>simp[Rw.d,Rw.ps,whole,HT.sIx,ar]
 |take h v a b=>
  have:k=0\/k=1\/k=2\/k=3:=by simp[Rw.ps]at hk;omega
  rcases this with rfl|rfl|rfl|rfl<;>refine⟨?_,?_,?_⟩<;>simp[Rw.d,Rw.ps,whole,HT.sIx,ar]
theorem BE:∀{M:MH}{Q:VK3},dg true r.d none (some (-1)) M Q=Q (.tup (spl r 0)) M:=fun {M Q}=>by
 cases r<;>simp[Rw.d,Rw.ps,spl,whole,HT.sIx,ar]
theorem eQ:3<=r.ps.length/\r.ps.length<=5:=by cases r<;>simp[Rw.ps]
theorem Ci:∀{M:MH}{Q:VK3},rBi .len [r.d] M Q=Q (.int (r.ps.length:Nat)) M:=fun {M Q}=>by cases r<;>simp[Rw.d,Rw.ps]
noncomputable def ch7:ISs:=.cons (.ifs (.cmp .Eq (.var 3) (.con (.int 7))) (.cons (.set 8 (.bin .Mod (.bin .FloorDiv (.var 2) (.con (.int 13))) (.bi .len (.cons (.var 5) (.nil))))) (.cons (.ixset (.var 0) (.var 4) (.ix (.lst true (.cons (.sl true (.var 5) (.no) (.yes (.neg (.con (.int 1))))) (.cons (.cat true (.cat true (.sl true (.var 5) (.no) (.yes (.var 8))) (.tup (.cons (.con .non) (.nil)))) (.sl true (.var 5) (.yes (.bin .Add (.var 8) (.con (.int 1)))) (.no))) (.nil)))) (.bin .Mod (.bin .FloorDiv (.var 2) (.con (.int 90))) (.con (.int 2))))) (.nil))) (.nil)) .nil
noncomputable def ch6:ISs:=.cons (.ifs (.cmp .Eq (.var 3) (.con (.int 6))) (.cons (.expr (.bm .insert (.var 0) (.cons (.var 4) (.cons (.var 5) (.nil))))) (.nil)) (.nil)) ch7
noncomputable def ch5:ISs:=.cons (.ifs (.cmp .Eq (.var 3) (.con (.int 5))) (.cons (.ixset (.var 0) (.var 4) (.tup (.cons (.con (.str "take")) (.cons (.ix (.var 5) (.con (.int 1))) (.cons (.ix (.var 5) (.con (.int 2))) (.cons (.tup (.cons (.bin .Sub (.bin .Mod (.bin .FloorDiv (.var 2) (.con (.int 13))) (.con (.int 8))) (.con (.int 1))) (.cons (.bin .Sub (.bin .Mod (.bin .FloorDiv (.var 2) (.con (.int 17))) (.con (.int 12))) (.con (.int 1))) (.nil)))) (.nil))))))) (.nil)) (.nil)) ch6
noncomputable def ch4:ISs:=.cons (.ifs (.cmp .Eq (.var 3) (.con (.int 4))) (.cons (.ixset (.var 0) (.var 4) (.tup (.cons (.con (.str "send")) (.cons (.ix (.var 5) (.con (.int 1))) (.cons (.ix (.var 5) (.con (.int 2))) (.cons (.bin .Sub (.bin .Mod (.bin .FloorDiv (.var 2) (.con (.int 13))) (.con (.int 9))) (.con (.int 1))) (.nil))))))) (.nil)) (.nil)) ch5
noncomputable def ch3:ISs:=.cons (.ifs (.cmp .Eq (.var 3) (.con (.int 3))) (.cons (.ixset (.var 0) (.var 4) (.tup (.cons (.con (.str "sight")) (.cons (.ix (.var 5) (.con (.int 1))) (.cons (.ix (.var 5) (.con (.int 2))) (.cons (.var 6) (.cons (.bin .Sub (.var 6) (.bin .Mult (.bin .Mod (.bin .FloorDiv (.var 2) (.con (.int 13))) (.con (.int 3))) (.bin .Add (.con (.int 1)) (.var 6)))) (.nil)))))))) (.nil)) (.nil)) ch4
noncomputable def ch2:ISs:=.cons (.ifs (.cmp .Eq (.var 3) (.con (.int 2))) (.cons (.ixset (.var 0) (.var 4) (.cat true (.cat true (.sl true (.var 5) (.no) (.yes (.con (.int 2)))) (.tup (.cons (.bin .Sub (.bin .Sub (.ix (.var 5) (.con (.int 2))) (.con (.int 1))) (.ix (.lst true (.cons (.con (.int 0)) (.cons (.var 6) (.cons (.bin .Pow (.con (.int 10)) (.con (.int 40))) (.nil))))) (.bin .Mod (.bin .FloorDiv (.var 2) (.con (.int 13))) (.con (.int 3))))) (.nil)))) (.sl true (.var 5) (.yes (.con (.int 3))) (.no)))) (.nil)) (.nil)) ch3
noncomputable def ch1:ISs:=.cons (.ifs (.cmp .Eq (.var 3) (.con (.int 1))) (.cons (.set 7 (.ix (.lst true (.cons (.neg (.con (.int 1))) (.cons (.var 1) (.cons (.bin .Add (.var 1) (.var 6)) (.cons (.bin .Sub (.neg (.con (.int 1))) (.var 6)) (.cons (.bin .Mod (.var 6) (.var 1)) (.nil))))))) (.bin .Mod (.bin .FloorDiv (.var 2) (.con (.int 13))) (.con (.int 5))))) (.cons (.ixset (.var 0) (.var 4) (.cat true (.cat true (.sl true (.var 5) (.no) (.yes (.con (.int 1)))) (.tup (.cons (.var 7) (.nil)))) (.sl true (.var 5) (.yes (.con (.int 2))) (.no)))) (.nil))) (.nil)) ch2
theorem qf:cu=.cons (.set 3 (.bin .Mod (.var 2) (.con (.int 9)))) (.cons (.set 4 (.bin .Mod (.bin .FloorDiv (.var 2) (.con (.int 9))) (.bi .len (.cons (.var 0) (.nil))))) (.cons (.set 5 (.ix (.var 0) (.var 4))) (.cons (.set 6 (.bin .Mod (.bin .FloorDiv (.var 2) (.con (.int 11))) (.bin .Pow (.con (.int 10)) (.con (.int 9))))) (.cons (.ifs (.not (.val (.call 33 (.cons (.var 5) (.nil))))) (.cons (.retN) (.nil)) (.nil)) ch1)))):=rfl
section
variable {W:WC}{De:Ends3}{ES:St3->XN}{y0 y1 y2 y4 y5 y6 y7 y8:Option D}{K:Int}
theorem sk{k:Int}{b r:ISs}(h:K≠k):ao W (.cons (.ifs (.cmp .Eq (.var 3) (.con (.int k))) b .nil) r) De ES [y0,y1,y2,some (.int K),y4,y5,y6,y7,y8] M=ao W r De ES [y0,y1,y2,some (.int K),y4,y5,y6,y7,y8] M:=by simp[h]
theorem ov7(h:K < 7):ao W ch7 De ES [y0,y1,y2,some (.int K),y4,y5,y6,y7,y8] M=De.nx [y0,y1,y2,some (.int K),y4,y5,y6,y7,y8] M:=by unfold ch7;rw[sk (by omega)];simp
theorem ov6(h:K < 6):ao W ch6 De ES [y0,y1,y2,some (.int K),y4,y5,y6,y7,y8] M=De.nx [y0,y1,y2,some (.int K),y4,y5,y6,y7,y8] M:=by unfold ch6;rw[sk (by omega),ov7 (by omega)]
theorem ov5(h:K < 5):ao W ch5 De ES [y0,y1,y2,some (.int K),y4,y5,y6,y7,y8] M=De.nx [y0,y1,y2,some (.int K),y4,y5,y6,y7,y8] M:=by unfold ch5;rw[sk (by omega),ov6 (by omega)]
theorem ov4(h:K < 4):ao W ch4 De ES [y0,y1,y2,some (.int K),y4,y5,y6,y7,y8] M=De.nx [y0,y1,y2,some (.int K),y4,y5,y6,y7,y8] M:=by unfold ch4;rw[sk (by omega),ov5 (by omega)]
theorem ov3(h:K < 3):ao W ch3 De ES [y0,y1,y2,some (.int K),y4,y5,y6,y7,y8] M=De.nx [y0,y1,y2,some (.int K),y4,y5,y6,y7,y8] M:=by unfold ch3;rw[sk (by omega),ov4 (by omega)]
theorem ov2(h:K < 2):ao W ch2 De ES [y0,y1,y2,some (.int K),y4,y5,y6,y7,y8] M=De.nx [y0,y1,y2,some (.int K),y4,y5,y6,y7,y8] M:=by unfold ch2;rw[sk (by omega),ov3 (by omega)]
theorem pr2(h:2<=K):ao W ch1 De ES [y0,y1,y2,some (.int K),y4,y5,y6,y7,y8] M=ao W ch2 De ES [y0,y1,y2,some (.int K),y4,y5,y6,y7,y8] M:=by rw[show ch1=.cons _ ch2 from rfl,sk (by omega)]
theorem pr3(h:3<=K):ao W ch1 De ES [y0,y1,y2,some (.int K),y4,y5,y6,y7,y8] M=ao W ch3 De ES [y0,y1,y2,some (.int K),y4,y5,y6,y7,y8] M:=by rw[pr2 (by omega),show ch2=.cons _ ch3 from rfl,sk (by omega)]
theorem pr4(h:4<=K):ao W ch1 De ES [y0,y1,y2,some (.int K),y4,y5,y6,y7,y8] M=ao W ch4 De ES [y0,y1,y2,some (.int K),y4,y5,y6,y7,y8] M:=by rw[pr3 (by omega),show ch3=.cons _ ch4 from rfl,sk (by omega)]
theorem pr5(h:5<=K):ao W ch1 De ES [y0,y1,y2,some (.int K),y4,y5,y6,y7,y8] M=ao W ch5 De ES [y0,y1,y2,some (.int K),y4,y5,y6,y7,y8] M:=by rw[pr4 (by omega),show ch4=.cons _ ch5 from rfl,sk (by omega)]
theorem pr6(h:6<=K):ao W ch1 De ES [y0,y1,y2,some (.int K),y4,y5,y6,y7,y8] M=ao W ch6 De ES [y0,y1,y2,some (.int K),y4,y5,y6,y7,y8] M:=by rw[pr5 (by omega),show ch5=.cons _ ch6 from rfl,sk (by omega)]
theorem pr7(h:7<=K):ao W ch1 De ES [y0,y1,y2,some (.int K),y4,y5,y6,y7,y8] M=ao W ch7 De ES [y0,y1,y2,some (.int K),y4,y5,y6,y7,y8] M:=by rw[pr6 (by omega),show ch6=.cons _ ch7 from rfl,sk (by omega)]
end
theorem qJ{t:Nat}(hM:Fm M)(hq:M q=some (.lst (gs.map Gw.d)))(hgl:0 < gs.length)(ht:c / 9 % (gs.length:Int)=t)(hx:(gs.map Gw.d)[t]?=some r.d):aa T (B cls kls fad) (n+2) 34 [.ref q,.int H,.int c] M Q E=ao ⟨(B cls kls fad),aa T (B cls kls fad) (n+1)⟩ ch1 {nx:=fun _ M'=>Q .non (af M M'),rt:=fun v M'=>Q v (af M M')} (fun _ i M'=>E i (af M M')) [some (.ref q),some (.int H),some (.int c),some (.int (c % 9)),some (.int t),some r.d,some (.int (c / 11 % 1000000000)),none,none] M:=by
 have la:=fun {Q:VK3}=>ir (Q:=Q) hq hx
 have hln:∀{Q:VK3},rBi .len [.ref q] M Q=Q (.int (gs.length:Nat)) M:=fun {Q}=>by simp[rBi,aD,aj,hq]
 have w1:¬ (gs.length:Int)=0:=by omega
 have ck:=fun {Q:VK3}{E:XN}=>nS (cls:=cls) (kls:=kls) (fad:=fad) (n:=n) (Q:=Q) (E:=E) (r:=r) hM
 simp only[fQ,qf];simp[ba,↓hln,w1,hgl,ht,↓la,gZ,↓ck,am]
theorem ss (hM : Fm M) (hH : 1 <= H) (hq : M q = some (.lst (gs.map Gw.d))) (hg : gs ≠ []) (hl : gs.length < 400) : ∃ gs' : List Gw, gs'.length <= gs.length + 1 /\ ∀ {n : Nat} {Q : VK3} {E : XN}, aa T (B cls kls fad) (n + 2) 34 [.ref q, .int H, .int c] M Q E = Q .non (put M q (.lst (gs'.map Gw.d))) := by
  have hgl : 0 < gs.length := List.length_pos_iff.mpr hg;obtain ⟨t, ht⟩ : ∃ t : Nat, c / 9 % (gs.length : Int) = t := ⟨(c / 9 % (gs.length : Int)).toNat, by have := Int.emod_nonneg (c / 9) (show (gs.length : Int) ≠ 0 by omega); omega⟩
  have htl : t < gs.length := by have := Int.emod_lt_of_pos (c / 9) (show (0 : Int) < gs.length by omega); omega
  have hx : (gs.map Gw.d)[t]? = some gs[t].d := by simp [htl]
  have la := fun {Q : VK3} => ir (Q := Q) hq hx
  have hln : ∀ {Q : VK3}, rBi .len [.ref q] M Q = Q (.int (gs.length : Nat)) M := fun {Q} => by simp [rBi, aD, aj, hq]
  have hix : ixN (gs.map Gw.d).length (t : Int) = some t := kJ (by simpa using htl)
  have w1 : ¬ (gs.length : Int) = 0 := by omega
  have self : put M q (.lst (gs.map Gw.d)) = M := by funext k; unfold put; split; · rename_i e; rw [e, hq]
                                                     . rfl
  have set : ∀ {g : Gw} {R : MH -> Prop}, bu (.ref q) (.int (t : Int)) g.d M R = R (put M q (.lst ((gs.set t g).map Gw.d))) := fun {g R} => by rw [gt hq hix, List.map_set]
  have kp : ∀ {o : DO}, af M (put M q o) = put M q o := fun {o} => by rw [cV hq, c5]
  cases hgt : gs[t] with
  | bad r j =>
    rw [hgt] at la;have ck := fun {n : Nat} {Q : VK3} {E : XN} => oq (cls := cls) (kls := kls) (fad := fad) (n := n) (Q := Q) (E := E) (r := r) (j := j) hM
    refine ⟨gs, Nat.le_succ _, ?_⟩;intro n Q E;simp only [fQ, qf];simp [ba, ↓hln, w1, hgl, ht, ↓la, Gw.d, gZ, ↓ck, c5, self, am]
  | ok r =>
    rw [hgt] at hx;have hd := fun {n : Nat} {Q : VK3} {E : XN} => qJ (cls := cls) (kls := kls) (fad := fad) (n := n) (Q := Q) (E := E) (H := H) (c := c) (r := r) hM hq hgl ht hx
    have i1 := fun {M : MH} {Q : VK3} => uQ (M := M) (Q := Q) (r := r)
    have i2 := fun {M : MH} {Q : VK3} => yW (M := M) (Q := Q) (r := r)
    have hk : c % 9 = 0 \/ c % 9 = 1 \/ c % 9 = 2 \/ c % 9 = 3 \/ c % 9 = 4 \/ c % 9 = 5 \/ c % 9 = 6 \/ c % 9 = 7 \/ c % 9 = 8 := by omega
    rcases hk with h | h | h | h | h | h | h | h | h
    . refine ⟨gs, Nat.le_succ _, ?_⟩
      intro n Q E;rw [hd, h];unfold ch1;rw [sk (by decide), ov2 (by decide)]
      simp [c5, self]
    . obtain ⟨x, hx⟩ := Bg (-1) H (H + c / 11 % 1000000000) (-1 - c / 11 % 1000000000) (c / 11 % 1000000000 % H) (c / 13 % 5) (by omega) (by omega)
      obtain ⟨e1, e2, e3⟩ := Bd (r := r) (h := x);refine ⟨gs.set t (.ok (r.setH x)), by simp, ?_⟩
      intro n Q E;have st := fun {R : MH -> Prop} => set (g := .ok (r.setH x)) (R := R)
      rw [show (Gw.ok (r.setH x)).d = .tup (r.setH x).ps from zj, <- e3] at st;have w2 : ¬ (H : Int) = 0 := by omega
      have w3 : 0 < H := by omega
      have z1 : (ar r.ps none (some 1)).length <= 5 := by have := eQ (r := r); unfold ar; rw [List.length_take, List.length_drop]; omega
      have z2 : (ar r.ps (some 2) none).length <= 5 := by have := eQ (r := r); unfold ar; rw [List.length_take, List.length_drop]; omega
      have z3 : (ar r.ps none (some 1)).length + 1 <= PySem.sizeLine := Nat.le_trans (show _ <= 1000 by omega) (by decide)
      have z4 : (ar r.ps none (some 1)).length + 1 + (ar r.ps (some 2) none).length <= PySem.sizeLine := Nat.le_trans (show _ <= 1000 by omega) (by decide)
      simp only [List.append_assoc, List.singleton_append] at st;rw [hd, h];unfold ch1;have ov := fun {W : WC} {De : Ends3} {ES : St3 -> XN} {y0 y1 y2 y4 y5 y6 y7 y8 : Option D} {M : MH} => ov2 (W := W) (De := De) (ES := ES) (y0 := y0) (y1 := y1) (y2 := y2) (y4 := y4) (y5 := y5) (y6 := y6) (y7 := y7) (y8 := y8) (M := M) (K := 1) (by decide)
      simp [↓ov, ba, gZ, w2, w3, ↓hx, ↓e1, ↓e2, z3, z4, ↓st, kp, am]
    . obtain ⟨x, hx⟩ := Ea 0 (c / 11 % 1000000000) 10000000000000000000000000000000000000000 (c / 13 % 3) (by omega) (by omega)
      obtain ⟨e1, e2, e3⟩ := C0 (r := r) (v := r.r - 1 - x);refine ⟨gs.set t (.ok (r.setR (r.r - 1 - x))), by simp, ?_⟩
      intro n Q E;have st := fun {R : MH -> Prop} => set (g := .ok (r.setR (r.r - 1 - x))) (R := R)
      rw [show (Gw.ok (r.setR (r.r - 1 - x))).d = .tup (r.setR (r.r - 1 - x)).ps from zj, <- e3] at st;have z1 : (ar r.ps none (some 2)).length <= 5 := by have := eQ (r := r); unfold ar; rw [List.length_take, List.length_drop]; omega
      have z2 : (ar r.ps (some 3) none).length <= 5 := by have := eQ (r := r); unfold ar; rw [List.length_take, List.length_drop]; omega
      have z3 : (ar r.ps none (some 2)).length + 1 <= PySem.sizeLine := Nat.le_trans (show _ <= 1000 by omega) (by decide)
      have z4 : (ar r.ps none (some 2)).length + 1 + (ar r.ps (some 3) none).length <= PySem.sizeLine := Nat.le_trans (show _ <= 1000 by omega) (by decide)
      simp only [List.append_assoc, List.singleton_append] at st;rw [hd, h, pr2 (by decide)]
      unfold ch2;have ov := fun {W : WC} {De : Ends3} {ES : St3 -> XN} {y0 y1 y2 y4 y5 y6 y7 y8 : Option D} {M : MH} => ov3 (W := W) (De := De) (ES := ES) (y0 := y0) (y1 := y1) (y2 := y2) (y4 := y4) (y5 := y5) (y6 := y6) (y7 := y7) (y8 := y8) (M := M) (K := 2) (by decide)
      simp [↓ov, ba, gZ, ↓hx, ↓i2, ↓e1, ↓e2, z3, z4, ↓st, kp, am]
    . refine ⟨gs.set t (.ok (.sight r.h r.r (c / 11 % 1000000000) (c / 11 % 1000000000 - c / 13 % 3 * (1 + c / 11 % 1000000000)))), by simp, ?_⟩
      intro n Q E;have st := fun {R : MH -> Prop} => set (g := .ok (.sight r.h r.r (c / 11 % 1000000000) (c / 11 % 1000000000 - c / 13 % 3 * (1 + c / 11 % 1000000000)))) (R := R)
      simp only [Gw.d, Rw.d] at st;rw [hd, h, pr3 (by decide)]
      unfold ch3;have ov := fun {W : WC} {De : Ends3} {ES : St3 -> XN} {y0 y1 y2 y4 y5 y6 y7 y8 : Option D} {M : MH} => ov4 (W := W) (De := De) (ES := ES) (y0 := y0) (y1 := y1) (y2 := y2) (y4 := y4) (y5 := y5) (y6 := y6) (y7 := y7) (y8 := y8) (M := M) (K := 3) (by decide)
      have cm : gG (c / 13 % 3) (1 + c / 11 % 1000000000) = True := qm (by omega) (by omega) (by omega) (by omega)
      simp [↓ov, ba, gZ, ↓i1, ↓i2, cm, ↓st, kp, am]
    . refine ⟨gs.set t (.ok (.send r.h r.r (c / 13 % 9 - 1))), by simp, ?_⟩
      intro n Q E;have st := fun {R : MH -> Prop} => set (g := .ok (.send r.h r.r (c / 13 % 9 - 1))) (R := R)
      simp only [Gw.d, Rw.d] at st;rw [hd, h, pr4 (by decide)]
      unfold ch4;have ov := fun {W : WC} {De : Ends3} {ES : St3 -> XN} {y0 y1 y2 y4 y5 y6 y7 y8 : Option D} {M : MH} => ov5 (W := W) (De := De) (ES := ES) (y0 := y0) (y1 := y1) (y2 := y2) (y4 := y4) (y5 := y5) (y6 := y6) (y7 := y7) (y8 := y8) (M := M) (K := 4) (by decide)
      simp [↓ov, ba, gZ, ↓i1, ↓i2, ↓st, kp, am]
    . refine ⟨gs.set t (.ok (.take r.h r.r (c / 13 % 8 - 1) (c / 17 % 12 - 1))), by simp, ?_⟩
      intro n Q E;have st := fun {R : MH -> Prop} => set (g := .ok (.take r.h r.r (c / 13 % 8 - 1) (c / 17 % 12 - 1))) (R := R)
      simp only [Gw.d, Rw.d] at st;rw [hd, h, pr5 (by decide)]
      unfold ch5;have ov := fun {W : WC} {De : Ends3} {ES : St3 -> XN} {y0 y1 y2 y4 y5 y6 y7 y8 : Option D} {M : MH} => ov6 (W := W) (De := De) (ES := ES) (y0 := y0) (y1 := y1) (y2 := y2) (y4 := y4) (y5 := y5) (y6 := y6) (y7 := y7) (y8 := y8) (M := M) (K := 5) (by decide)
      simp [↓ov, ba, gZ, ↓i1, ↓i2, ↓st, kp, am]
    . refine ⟨gs.take t ++ .ok r :: gs.drop t, by simp; omega, ?_⟩
      intro n Q E;have ins : ∀ {Q : VK3}, rBm .insert (.ref q) [.int (t : Int), r.d] M Q = Q .non (put M q (.lst ((gs.take t ++ .ok r :: gs.drop t).map Gw.d))) := fun {Q} => by
        have z1 : gs.length < PySem.sizeLine := Nat.lt_of_lt_of_le (show gs.length < 1000 by omega) (by decide)
        have z2 : -4611686018427387904 <= (t : Int) := by omega
        have z3 : (t : Int) < 4611686018427387904 := by omega
        have e : pO (gs.map Gw.d) t r.d = (gs.take t ++ .ok r :: gs.drop t).map Gw.d := by
          have ei : eL (gs.map Gw.d).length (t : Int) = t := by unfold eL; rw [if_neg (by omega), List.length_map]; omega
          unfold pO;rw [ei];simp [Gw.d, List.map_take, List.map_drop]
        simp [rBm, hq, z1, z2, z3, e]
      have ty : tyB .insert (.ref q) M = true := by simp [tyB, isLstM, hq]
      have hlm : isLstM (.ref q) M = true := by simp [isLstM, hq]
      rw [hd, h, pr6 (by decide)]
      unfold ch6;have ov := fun {W : WC} {De : Ends3} {ES : St3 -> XN} {y0 y1 y2 y4 y5 y6 y7 y8 : Option D} {M : MH} => ov7 (W := W) (De := De) (ES := ES) (y0 := y0) (y1 := y1) (y2 := y2) (y4 := y4) (y5 := y5) (y6 := y6) (y7 := y7) (y8 := y8) (M := M) (K := 6) (by decide)
      simp [↓ov, ba, gZ, ty, hlm, ↓ins, kp, am]
    . obtain ⟨k, hk⟩ : ∃ k : Nat, c / 13 % (r.ps.length : Int) = k := ⟨(c / 13 % (r.ps.length : Int)).toNat, by have := Int.emod_nonneg (c / 13) (show (r.ps.length : Int) ≠ 0 by have := eQ (r := r); omega); omega⟩
      have hkl : k < r.ps.length := by have := Int.emod_lt_of_pos (c / 13) (show (0 : Int) < r.ps.length by have := eQ (r := r); omega); omega
      obtain ⟨e1, e2, e3⟩ := D7 hkl;obtain ⟨x, hx1, hx⟩ := Bh (.tup (spl r 0)) (.tup (spl r (k + 1))) (c / 90 % 2) (by omega) (by omega)
      obtain ⟨j, rfl⟩ : ∃ j, x = .tup (spl r j) := by rcases hx1 with h | h <;> exact ⟨_, h⟩
      refine ⟨gs.set t (.bad r j), by simp, ?_⟩
      intro n Q E;have st : ∀ {R : MH -> Prop}, bu (.ref q) (.int (t : Int)) (.tup (spl r j)) M R = R (put M q (.lst ((gs.set t (.bad r j)).map Gw.d))) := set (g := .bad r j);have cl := fun {M : MH} {Q : VK3} => BE (r := r) (M := M) (Q := Q)
      have ld := fun {M : MH} {Q : VK3} => Ci (r := r) (M := M) (Q := Q)
      have pl := eQ (r := r);have w2 : ¬ (r.ps.length : Int) = 0 := by omega
      have w3 : 0 < r.ps.length := by omega
      rw [<- e3] at hx;simp only [List.append_assoc, List.singleton_append] at hx;have z1 : min k r.ps.length + 1 <= PySem.sizeLine := Nat.le_trans (show _ <= 1000 by omega) (by decide)
      have z2 : min k r.ps.length + 1 + (r.ps.length - (k + 1)) <= PySem.sizeLine := Nat.le_trans (show _ <= 1000 by omega) (by decide)
      rw [hd, h, pr7 (by decide)]
      unfold ch7;simp [ba, gZ, ↓ld, hk, w2, w3, ↓cl, ↓e1, ↓e2, z1, z2, ↓hx, ↓st, kp, am]
    . refine ⟨gs, Nat.le_succ _, ?_⟩
      intro n Q E;rw [hd, h, pr7 (by decide)]
      unfold ch7;rw [sk (by decide)]
      simp [c5, self]
end
end G
namespace G
open L2
section
variable {cls kls fad:Nat->PySem.Addr}{M:MH}{Q:VK3}{E:XN}{n:Nat}{q:PySem.Addr}{r:Rw}{gs:List Gw}{H:Nat}{wy:List Wy}{cks:List (Int×Int)}{rs:List Rw}{rest tl:List D}
theorem qx:(rs.map Gw.ok).map Gw.d=rs.map Rw.d:=by rw[List.map_map];rfl
theorem ij{De:Ends3}{ES:St3->XN}{R:Prop}{k:Nat}(hM:Fm M)(hq:M q=some (.lst (rs.map Rw.d++rest)))(hl:rs.length < 400)(hf:aI H wy S0 (fun _=>0) rs)
  (hR:∀x4 x5 (m:Int),m=rs.length->cz ⟨(B cls kls fad),aa T (B cls kls fad) (n+2)⟩ (.name 3) bN ES (fun _=>True) De (rng m k) [some (.ref q),some (.int H),some (.rol (wy.map pD)),x4,x5] M=R) :
  ∀(todo done:List Rw)(x4 x5:Option D)(m:Int)(len:Nat),m=done.length->len=todo.length+k->rs=done++todo->
  cz ⟨(B cls kls fad),aa T (B cls kls fad) (n+2)⟩ (.name 3) bN ES (fun _=>True) De (rng m len) [some (.ref q),some (.int H),some (.rol (wy.map pD)),x4,x5] M=R
 |[],done,x4,x5,m,len,em,el,e=>by
  rw[List.append_nil]at e;rw[List.length_nil,Nat.zero_add]at el;subst el;exact hR x4 x5 m (by rw[em,e])
 |x::todo,done,x4,x5,m,len,em,el,e=>by
  have e2:rs=(done++[x])++todo:=by rw[e];simp
  have td:rs.take done.length=done:=by rw[e];simp
  have xd:rs[done.length]?=some x:=by rw[e];simp
  have U:=qW (j0 rs S0 (fun _=>0) done.length hf)
  have fx:=nW rs S0 (fun _=>0) done.length x hf xd
  rw[td]at U fx;have hq2:M q=some (.lst (done.map Rw.d++x.d::(todo.map Rw.d++rest))):=by rw[hq,e];simp
  have cf:∀{Q:VK3}{E:XN},aa T (B cls kls fad) (n+2) 36 [.ref q,.int m,.int H,.rol (wy.map pD)] M Q E=Q (aF none) M:=fun {Q E}=>by
   rw[em,n8 (wy:=wy) (H:=H) U hM (by rw[e,List.length_append]at hl;omega) hq2,fx]
  have ih:=ij (De:=De) (ES:=ES) (R:=R) (k:=k) hM hq hl hf hR todo (done++[x]) (some (.int m)) (some (aF none)) (m+1) (todo.length+k) (by simp;omega) rfl e2
  rw[List.length_cons,show todo.length+1+k=(todo.length+k)+1 by omega]at el
  rw[el,dN,aU];simp only[bN,aF,cQ,br]at ih cf ⊢;simp[↓cf,ih]
theorem yM(hM:Fm M)(hq:M q=some (.lst (rs.map Rw.d)))(hl:rs.length < 400)(hf:aI H wy S0 (fun _=>0) rs) :
  aa T (B cls kls fad) (n+3) 37 [.ref q,.int H,.rol (wy.map pD)] M Q E=Q (aF none) M:=by
 have hb:(rs.length:Int) < 4611686018427387904:=by omega
 have hln:∀{Q:VK3},rBi .len [.ref q] M Q=Q (.int (rs.length:Nat)) M:=fun {Q}=>by simp[rBi,aD,aj,hq]
 simp only[kf,cX];simp[↓hln,hb];refine iff_of_eq (ij (n:=n) (k:=0) (rest:=[]) (rs:=rs) hM (by rw[List.append_nil];exact hq) hl hf (fun x4 x5 m em=>?_) rs [] none none 0 rs.length rfl rfl rfl)
 simp[rng,cw,aF,cQ,br,am]
theorem xV{g:Gw}{tl:List Gw}{i:XE}(hM:Fm M)(hq:M q=some (.lst ((rs.map Gw.ok++g::tl).map Gw.d)))(hl:(rs.map Gw.ok++g::tl).length < 400)(hf:aI H wy S0 (fun _=>0) rs)(hi:g.fl H wy (RS rs)=some i)(hw:cQ (some i)≠"fine") :
  aa T (B cls kls fad) (n+3) 37 [.ref q,.int H,.rol (wy.map pD)] M Q E=Q (aF (some i)) M:=by
 rw[List.map_append,qx,List.map_cons]at hq;have hl2:rs.length+tl.length+1 < 400:=by simp at hl;omega
 obtain⟨N,hN⟩:∃N:Nat,N=rs.length+(tl.length+1):=⟨_,rfl⟩;have hln:∀{Q:VK3},rBi .len [.ref q] M Q=Q (.int (N:Nat)) M:=fun {Q}=>by
  have:(rs.map Rw.d++g.d::tl.map Gw.d).length=N:=by simp;omega
  simp only[rBi,aD,aj,hq,this]
 have hb:(N:Int) < 4611686018427387904:=by omega
 have cf:∀{m:Int}{Q:VK3}{E:XN},m=rs.length->aa T (B cls kls fad) (n+2) 36 [.ref q,.int m,.int H,.rol (wy.map pD)] M Q E=Q (aF (some i)) M:=fun {m Q E} em=>by
  rw[em];cases g with
  |ok r=>
   rw[n8 (qW hf) hM (by omega) hq]
   rw[show flt H wy (RS rs) r=some i from hi]
  |bad r j=>
   rw[pU hM hq];cases (show some (⟨5,none⟩:XE)=some i from hi);rfl
 simp only[kf,cX];simp[↓hln,hb];refine iff_of_eq (ij (n:=n) (k:=tl.length+1) (rest:=g.d::tl.map Gw.d) (rs:=rs) hM hq (by omega) hf (fun x4 x5 m em=>?_) rs [] none none 0 N rfl hN rfl)
 have cf':=fun {Q:VK3}{E:XN}=>cf (Q:=Q) (E:=E) em
 rw[dN,aU];simp only[bN,aF]at cf' ⊢;simp[↓cf',hw]
noncomputable def mk6(w:PySem.Str):D:=.rol [.bl (decide (w = "row")),.bl (decide (w = "hand")),.bl (decide (w = "back")),.bl (decide (w = "ends")),.bl (decide (w = "way")),.bl (decide (w = "letter"))]
theorem kO{w:PySem.Str}(hM:Fm M):aa T (B cls kls fad) (n+1) 38 [.str w] M Q E=Q (mk6 w) M:=by
 simp only[lq,cN];simp[ay,am];rw[fU (fun d=>match d with|.str s=>.bl (decide (w=s))|_=>.non) hM (by simp) (fun d hd M' _ Q'=>by
  simp only[List.mem_cons,List.not_mem_nil,or_false]at hd;rcases hd with rfl|rfl|rfl|rfl|rfl|rfl<;>simp)]
 rw[c5];rfl
theorem sK(hM:Fm M)(hl:rs.length < 400)(hf:aI cks.length wy S0 (fun _=>0) rs):aa T (B cls kls fad) (n+6) 39 [wO kls cks wy,.rol (rs.map Rw.d)] M Q E=Q (.tup [.bl true,mk6 "fine",.non]) M:=by
 have cm:=fun {w:PySem.Str}{Q:VK3}{E:XN}=>kO (cls:=cls) (kls:=kls) (fad:=fad) (n:=n+4) (w:=w) (Q:=Q) (E:=E) hM
 have cc:=fun {Q:VK3}{E:XN}=>qO (cls:=cls) (kls:=kls) (fad:=fad) (n:=n) (Q:=Q) (E:=E) hM hl hf
 simp only[fG,bK];simp[↓cm,↓cc,am]
noncomputable def XOk(i:XE):Prop:=(∃l:Int,i=⟨6,some (245166316,.int l)⟩)\/i=⟨5,none⟩\/i=⟨2,none⟩\/i=⟨1,none⟩\/i=⟨4,none⟩\/i=⟨7,none⟩
theorem xx{i:XE}{S:St}(hr:allI S.dr)(h:flt H wy S r=some i):XOk i:=by
 unfold flt flC at h;by_cases h0:okH H r.h=true
 ·rw[if_pos h0]at h;rcases hr.get (ks:=S.kr) (.inl r.h:Key) with e|⟨l,e⟩
  ·simp only[e]at h;cases r<;>simp[flK]at h
   ·obtain⟨_,rfl⟩:=h;simp[XOk]
   ·obtain⟨_,rfl⟩:=h;simp[XOk]
   ·split at h
    ·split at h
     ·cases h
     ·cases h;simp[XOk]
    ·cases h;simp[XOk]
  ·simp only[e]at h;by_cases h1:r.r < l
   ·simp only[if_pos h1]at h;cases h;exact .inl ⟨l,rfl⟩
   ·simp only[if_neg h1]at h;cases r<;>simp[flK]at h
    ·obtain⟨_,rfl⟩:=h;simp[XOk]
    ·obtain⟨_,rfl⟩:=h;simp[XOk]
    ·split at h
     ·split at h
      ·cases h
      ·cases h;simp[XOk]
     ·cases h;simp[XOk]
 ·rw[if_neg h0]at h;cases h;simp[XOk]
theorem uF{l:List D}{i:XE}(hM:Fm M)(hi:XOk i)(hc:∀{Q:VK3}{E:XN},aa T (B cls kls fad) (n+5) 18 [wO kls cks wy,.rol l] M Q E=E i M):aa T (B cls kls fad) (n+6) 39 [wO kls cks wy,.rol l] M Q E=Q (.tup [.bl true,mk6 (cQ (some i)),br (some i)]) M:=by
 have cm:=fun {w:PySem.Str}{Q:VK3}{E:XN}=>kO (cls:=cls) (kls:=kls) (fad:=fad) (n:=n+4) (w:=w) (Q:=Q) (E:=E) hM
 have kp:∀{e:PySem.Addr}{o:DO},M e=none->af M (put M e o)=M:=fun {e o} he=>by
  funext k;unfold af put;by_cases k1:k=e
  ·subst k1;simp[he]
  ·simp[k1];cases M k<;>rfl
 simp only[fG,bK];rcases hi with ⟨l,rfl⟩|rfl|rfl|rfl|rfl|rfl
 all_goals
  simp[↓cm,↓hc];refine iff_of_eq (aJ hM fun e he=>?_)
  simp +decide [km,ai,fF,aj,cK,am,kp he,mk6,cQ,br]
end
end G
namespace G
open L2
section
variable {cls kls fad:Nat->PySem.Addr}{M:MH}{Q:VK3}{E:XN}{n:Nat}{q:PySem.Addr}{gs:List Gw}{H:Nat}
theorem pS(ns:List Int)(lo:Option Int)(k:Nat):∃cs:List Int,ar (ns.map D.int) lo (some (k:Int))=cs.map D.int/\cs.length<=k:=by
 refine⟨(ns.drop (HT.sIx ns.length 0 lo)).take (HT.sIx ns.length ns.length (some (k:Int)) - HT.sIx ns.length 0 lo),?_,?_⟩
 ·simp[ar,List.map_take,List.map_drop]
 ·have:HT.sIx ns.length ns.length (some (k:Int))<=k:=by rw[HT.sIx_nat];omega
  rw[List.length_take];omega
theorem ra{r:Rw}{k:Nat}:∀d∈r.ps,plN (k+1) d=true:=by cases r<;>simp[Rw.ps,plN]
theorem BF{k:Nat}(g:Gw):plN (k+2) g.d=true:=by
 have key:∀{ds:List D},(∀d∈ds,plN (k+1) d=true)->plN (k+2) (.tup ds)=true:=fun {ds} h=>by
  simp only[plN];exact List.all_eq_true.mpr h
 cases g with
 |ok r=>rw[show (Gw.ok r).d=.tup r.ps from zj];exact key ra
 |bad r j=>
  refine key fun d hd=>?_
  rcases gm r j with e|⟨i,_,e⟩
  ·rw[e]at hd;exact ra d (List.dropLast_subset _ hd)
  ·rw[e]at hd;rcases List.mem_or_eq_of_mem_set hd with h|h
   ·exact ra d h
   ·rw[h];rfl
theorem nR{k:Nat}:(gs.map Gw.d).all (plN (k+2))=true:=by
 rw[List.all_map];exact List.all_eq_true.mpr fun g _=>BF g
theorem yt(hq:M q=some (.lst (gs.map Gw.d))):aw .NotEq (.ref q) (.rol []) M Q=Q (.bl (!gs.isEmpty)) M:=by
 have h8:pls (gs.map Gw.d)=true:=nR (k:=6);have h7:(gs.map Gw.d).all (plN 7)=true:=nR (k:=5);simp only[aw,cG,L2.rs,aj,hq,h8,if_true];cases gs<;>simp_all [plN,eqD,cJ]
theorem zY(hq:M q=some (.lst (gs.map Gw.d))):aw .NotEq (.rol (gs.map Gw.d)) (.ref q) M Q=Q (.bl false) M:=by
 have h8:pls (gs.map Gw.d)=true:=nR (k:=6);have h7:(gs.map Gw.d).all (plN 7)=true:=nR (k:=5);have p1:plN 8 (.rol (gs.map Gw.d))=true:=h7;simp only[aw,cG,L2.rs,aj,hq,h8,if_true];simp[iO 8 p1,show pl (.rol (gs.map Gw.d))=true from p1]
theorem iW(hH:1<=H){De:Ends3}{ES:St3->XN}{x0 x2 x5 x6 x7 x8 x9 x10 x11:Option D}:∀(cs:List Int)(gs:List Gw)(M:MH)(x4:Option D),Fm M->M q=some (.lst (gs.map Gw.d))->gs.length+cs.length < 200->
  (∀(gs':List Gw) M' y4,Fm M'->M' q=some (.lst (gs'.map Gw.d))->gs'.length < 200->De.nx [x0,some (.int H),x2,some (.ref q),y4,x5,x6,x7,x8,x9,x10,x11] M')->
  cz ⟨(B cls kls fad),aa T (B cls kls fad) (n+2)⟩ (.name 4) fO ES (fun _=>True) De (cs.map D.int) [x0,some (.int H),x2,some (.ref q),x4,x5,x6,x7,x8,x9,x10,x11] M
 |[],gs,M,x4,hM,hq,hl,hR=>by
  rw[List.map_nil,cw];exact⟨trivial,hR gs M x4 hM hq (by simpa using hl)⟩
 |c::cs,gs,M,x4,hM,hq,hl,hR=>by
  simp only[List.length_cons]at hl;have nn:=fun {Q:VK3}=>yt (Q:=Q) hq
  rw[List.map_cons,aU];refine⟨trivial,?_⟩;rw[g4];show ao _ _ _ _ [x0,some (.int H),x2,some (.ref q),some (.int c),x5,x6,x7,x8,x9,x10,x11] _;by_cases hg:gs=[]
  ·have ih:=iW hH (De:=De) (ES:=ES) (x0:=x0) (x2:=x2) (x5:=x5) (x6:=x6) (x7:=x7) (x8:=x8) (x9:=x9) (x10:=x10) (x11:=x11) cs gs M (some (.int c)) hM hq (by omega) hR
   simp only[fO];simp[↓nn,hg];subst hg;exact ih
  ·obtain⟨gs',l1,hc⟩:=ss (cls:=cls) (kls:=kls) (fad:=fad) (c:=c) hM hH hq hg (by omega)
   have hc:∀{Q:VK3}{E:XN},aa T (B cls kls fad) (n+2) 34 [.ref q,.int H,.int c] M Q E=Q .non (put M q (.lst (gs'.map Gw.d))):=hc;have ih:=iW hH (De:=De) (ES:=ES) (x0:=x0) (x2:=x2) (x5:=x5) (x6:=x6) (x7:=x7) (x8:=x8) (x9:=x9) (x10:=x10) (x11:=x11) cs gs' (put M q (.lst (gs'.map Gw.d))) (some (.int c)) (hM.put _ _) ai (by omega) hR
   have he:gs.isEmpty=false:=by cases gs<;>simp_all
   simp only[fO];simp[↓nn,he,↓hc];exact ih
noncomputable def wq(x:Nat×Nat):Wy:=⟨x.1,x.2,0,none⟩
noncomputable def cpF(d:D):D:=match d with
 |.tup [a,b]=>.tup [a,b,.int 0,.non]
 |_=>.non
theorem main(cls kls fad:Nat->PySem.Addr)(ns:List Int)(hl:ns.length<=63):aa (L.map FL.fb) (B cls kls fad) 7 40 [scr ns] (fun _=>none) (fun d _=>d=.bl true) (fun _ _=>False):=by
 rw[GF];simp only[BC,ol];obtain⟨c0,h0⟩:=vT (cls:=cls) (kls:=kls) (fad:=fad) ns 0;have h0':∀{M:MH}{Q:VK3}{E:XN},aa T (B cls kls fad) 6 29 [scr ns,.int 0] M Q E=Q (.int c0) M:=h0;obtain⟨H,hH⟩:∃H:Nat,1+c0 % 6=H:=⟨(1+c0 % 6).toNat,by omega⟩
 have H2:1<=H:=by omega
 have H6:H<=6:=by omega
 simp[h0',ba,hH];refine zR (n:=5) H6 fun ps l36 hW=>?_
 obtain⟨cs,hcs,hcl⟩:=pS ns (some 5) 60;have hcs:ar (ns.map D.int) (some 5) (some 60)=cs.map D.int:=hcs;have hzc:cs.length<=PySem.sizeLine:=by rw[PySem.sizeLine_eq];omega
 simp[dg,aj,cK,scr,hcs,hzc];refine AZ (n:=4) (by omega) (by omega) l36 cs (by omega) Fm.nil fun rs0 q M1 hrl hq F1=>?_
 obtain⟨ds,hds,hdl⟩:=pS ns (some 1) 4;have hds:ar (ns.map D.int) (some 1) (some 4)=ds.map D.int:=hds;have hzd:ds.length<=PySem.sizeLine:=by rw[PySem.sizeLine_eq];omega
 simp[dg,aj,cK,hds,hzd];have hq:M1 q=some (.lst ((rs0.map Gw.ok).map Gw.d)):=by rw[qx];exact hq
 refine iW (n:=4) H2 ds (rs0.map Gw.ok) M1 none F1 hq (by simp;omega) fun gs M y4 hM hq hl=>?_
 have hz:H<=PySem.sizeLine:=by rw[PySem.sizeLine_eq];omega
 obtain⟨cks,hcks⟩:∃cks,cks=List.replicate H ((1:Int),(2:Int)):=⟨_,rfl⟩;have lk:cks.length=H:=by rw[hcks];exact List.length_replicate
 have er:∀{M:MH}{Q:VK3},gT true (.rol [.tup [.int 1,.int 2]]) (.int H) M Q=Q (.rol (cks.map cD)) M:=fun {M Q}=>by
  have e:(List.replicate H [D.tup [.int 1,.int 2]]).flatten=cks.map cD:=by
   rw[hcks,List.map_replicate];clear hz hW H2 H6 hH lk hcks
   induction H with
   |zero=>rfl
   |succ k ih=>rw[List.replicate_succ,List.flatten_cons,ih];rfl
  have a1 : -9223372036854775808<=(H:Int):=by omega
  have a2:(H:Int) < 9223372036854775808:=by omega
  have a3:cks.length<=PySem.sizeLine:=by rw[lk];exact hz
  simp[gT,aj,cK,e,a1,a2,hz,a3]
 simp[↓er,ay,am];rw[d8 (fun σ=>∃a b,σ=[a,b]) (fun d=>match d with
   |.tup [a,b]=>[some a,some b]
   |_=>[]) (fun _=>true) cpF ⟨_,_,rfl⟩ hM (by
    simp;omega) (fun d hd=>by
    obtain⟨x,hp,rfl⟩:=List.mem_map.mp hd;refine⟨⟨_,_,rfl⟩,fun σ ⟨a,b,e⟩ M k=>?_⟩
    subst e;simp[wpG,qD]) (fun d hd M' hE Q=>rfl) (fun d hd _ M' hE Q=>by
    obtain⟨x,hp,rfl⟩:=List.mem_map.mp hd;simp[cpF,qD,am])]
 obtain⟨wy,hwy⟩:∃wy,wy=ps.map wq:=⟨_,rfl⟩;have ef:((ps.map qD).filter fun _=>true).map cpF=wy.map wD:=by
  rw[List.filter_eq_self.mpr (fun _ _=>rfl),hwy,List.map_map,List.map_map]
  rfl
 have ep:ps.map qD=wy.map pD:=by rw[hwy,List.map_map];rfl
 rw[ef,ep];have lw:wy.length < 400:=by rw[hwy,List.length_map];omega
 have hg:∀w∈wy,w.good cks.length:=fun w hw=>by
  rw[hwy]at hw;obtain⟨x,hx,rfl⟩:=List.mem_map.mp hw;obtain⟨g1,g2,g3⟩:=hW.gd x hx;rw[lk];exact⟨by simp[okH,wq];omega,by simp[okH,wq];omega,fun e=>g3 (Int.ofNat_inj.mp e),rfl⟩
 have nd:(wy.map pr).Nodup:=by
  rw[hwy,List.map_map];refine List.Pairwise.map _ (fun x y h e=>h ?_) hW.nd
  simp[pr,wq]at e;exact Prod.ext (by omega) (by omega)
 have mk:=fun {Q:VK3}{E:XN}=>tM (cls:=cls) (kls:=kls) (fad:=fad) (M:=M) (n:=0) (Q:=Q) (E:=E) (cks:=cks) (wy:=wy) hM (by omega) (by omega) (fun c hc=>by rw[hcks]at hc;rw[List.eq_of_mem_replicate hc];rfl) lw hg nd
 rw[show ∀{Q:VK3},(∀p,M p=none->aa T (B cls kls fad) 6 21 [.ref p,.rol (cks.map cD),.rol (wy.map wD)] (put M p (.ins 6 (kls 6) [] [])) (fun v M2=>v=.non/\bv Q (.ref p) M2) fun i M'=>False)=Q (wO kls cks wy) M from fun {Q}=>mk (E:=fun _ _=>False)]
 have zg:gs.length<=PySem.sizeLine:=by rw[PySem.sizeLine_eq];omega
 have hls:∀{Q:VK3},rBi (.list true) [.ref q] M Q=Q (.rol (gs.map Gw.d)) M:=fun {Q}=>by simp[rBi,aD,aj,hq,cK,zg]
 have el:=fun {Q:VK3}=>zY (Q:=Q) hq
 have cm:=fun {w:PySem.Str}{Q:VK3}{E:XN}=>kO (cls:=cls) (kls:=kls) (fad:=fad) (n:=5) (w:=w) (Q:=Q) (E:=E) hM
 have nm:∀{w:PySem.Str}{Q:VK3},aw .NotEq (mk6 w) (mk6 w) M Q=Q (.bl false) M:=fun {w Q}=>by
  have p1:plN 8 (mk6 w)=true:=by simp[mk6,plN]
  have e:L2.rs M (mk6 w)=mk6 w:=by simp[mk6,L2.rs,aj,plN]
  simp only[aw,cG,e];simp[iO 8 p1,show pl (mk6 w)=true from p1]
 have fin:∀o:Option XE,(br o=.non\/∃l:Int,br o=.int l)->(∀{Q:VK3}{E:XN},aa T (B cls kls fad) 6 37 [.ref q,.int H,.rol (wy.map pD)] M Q E=Q (aF o) M)->(∀{Q:VK3}{E:XN},aa T (B cls kls fad) 6 39 [wO kls cks wy,.rol (gs.map Gw.d)] M Q E=Q (.tup [.bl true,mk6 (cQ o),br o]) M)->
   aa T (B cls kls fad) 6 37 [.ref q,.int H,.rol (wy.map pD)] M (jH [6,7] [some (.rol (ns.map D.int)),some (.int H),some (.rol (wy.map pD)),some (.ref q),y4,some (wO kls cks wy),none,none,none,none,none,none] fun σ' M'=>
    ao {toWB:=B cls kls fad,call:=aa T (B cls kls fad) 6} (.cons (.set 8 (.bi (.list true) (.cons (.var 3) .nil))) (.cons (.unp [9,10,11] (.call 39 (.cons (.var 5) (.cons (.var 8) .nil)))) (.cons (.ifs (.or (.not (.val (.var 9))) (.or (.cmp .NotEq (.var 10) (.call 38 (.cons (.var 6) .nil))) (.cmp .NotEq (.var 8) (.var 3)))) (.cons (.ret (.con (.bl false))) .nil) .nil) (.cons (.ret (.and (.cmp .Eq (.var 11) (.var 7)) (.not (.isB (.var 11) .bool)))) .nil))))
     {nx:=fun x M'=>False,rt:=fun d x=>d=.bl true} (fun x i M'=>False) σ' M') (fun i M'=>False):=fun o ho hd hc=>by
  rw[hd];unfold aF;rw[show ∀{k:St3->MH->Prop}{y0 y1 y2 y3 y4 y5 y6 y7 y8 y9 y10 y11:Option D}{u v:D},jH [6,7] [y0,y1,y2,y3,y4,y5,y6,y7,y8,y9,y10,y11] k (.tup [u,v]) M=k [y0,y1,y2,y3,y4,y5,some u,some v,y8,y9,y10,y11] M from by intros;simp[jH]]
  simp[↓hls,↓hc];rw[show ∀{k:St3->MH->Prop}{y0 y1 y2 y3 y4 y5 y6 y7 y8 y9 y10 y11:Option D}{u v w:D},jH [9,10,11] [y0,y1,y2,y3,y4,y5,y6,y7,y8,y9,y10,y11] k (.tup [u,v,w]) M=k [y0,y1,y2,y3,y4,y5,y6,y7,y8,some u,some v,some w] M from by intros;simp[jH]]
  simp[↓cm,↓nm,↓el];rcases ho with e|⟨l,e⟩<;>simp[e,aw,cG,L2.rs,aj,plN,eqD]
 rcases first (H:=H) (wy:=wy) gs S0 (fun _=>0) with ⟨rs,e1,e2⟩|⟨rs,g,tl,i,e1,e2,e3⟩
 ·have hq':M q=some (.lst (rs.map Rw.d)):=by rw[hq,e1,qx]
  have hlr:rs.length < 400:=by rw[e1,List.length_map]at hl;omega
  refine fin none (.inl rfl) (fun {Q E}=>yM (n:=3) hM hq' hlr e2) fun {Q E}=>?_
  rw[e1,qx];exact sK (n:=0) hM hlr (by rw[lk];exact e2)
 ·have U:=qW e2;have hlr:rs.length < 400:=by rw[e1]at hl;simp at hl;omega
  have hi:XOk i:=by
   cases g with
   |ok r=>exact xx U.si.hr (show flt H wy (RS rs) r=some i from e3)
   |bad r j=>cases (show some (⟨5,none⟩:XE)=some i from e3);exact .inr (.inl rfl)
  have hw:cQ (some i)≠"fine":=by rcases hi with ⟨l,rfl⟩|rfl|rfl|rfl|rfl|rfl<;>simp +decide [cQ]
  have hlast:br (some i)=.non\/∃l:Int,br (some i)=.int l:=by rcases hi with ⟨l,rfl⟩|rfl|rfl|rfl|rfl|rfl<;>first|exact .inl rfl|exact .inr ⟨_,rfl⟩
  refine fin (some i) hlast (fun {Q E}=>xV (n:=3) hM (by rw[hq,e1]) (by rw[<-e1];omega) e2 e3 hw) fun {Q E}=>?_
  refine uF (n:=0) hM hi fun {Q E}=>?_
  rw[e1,List.map_append,qx,List.map_cons];cases g with
  |ok r=>exact rO (n:=0) hM hlr (by rw[lk];exact e2) ⟨_,U.si⟩ (by rw[lk];exact e3)
  |bad r j=>
   cases (show some (⟨5,none⟩:XE)=some i from e3);exact qL (n:=0) hM hlr (by rw[lk];exact e2)
end
end G
open PySem PySem.W PyProof.Rows
set_option maxRecDepth 100000 in
set_option maxHeartbeats 0 in
theorem PySem.Challenge.cw_driftmeet_k18_the_first_fault_holds : PySem.Challenge.rw_driftmeet_k18_the_first_fault.Holds := by
 w_on;o_law
 refine holds_open (q:=HD.view) (loose:=HD.loose) (Xt:=HD.Xt) (XP:=XL HD.view []) (Yf:=Hook.obs (kHook HD.K HD.as HD.as_eq)) (Ya:=Hook.val (kHook HD.K HD.as HD.as_eq)) (YP:=Hook.says (kHook HD.K HD.as HD.as_eq)) (N:=9500) HD.left (Hook.of (kHook HD.K HD.as HD.as_eq)) (Hook.keeps (kHook HD.K HD.as HD.as_eq)) (fun s e=>xl_of s (Bool.and_eq_true_iff.mp e).1) XL.keeps (by rfl) (by rfl) (by rfl) (fun s e=>recFacts_of (Bool.and_eq_true_iff.mp e).2) (by kernel_rfl) (by first|assumption|decide +kernel) (by decide +kernel) ⟨rfl,rfl,rfl,rfl,rfl,by decide +kernel⟩ ?hw ?hc
 (case hw=>w_witness2)
 k_fill
 refine L2.walkD (l:=PySem.Challenge.rw_driftmeet_k18_the_first_fault) (k:=7) (f:=40) (fl:=G.l_law) (x:="_law_script") (L:=G.L) (nm:=G.nm) (BB:=G.B) rfl rfl ⟨rfl,by decide,by decide⟩ (fun w h Y=>PySem.W.kIn_of Y) rfl rfl rfl rfl ?F (fun cls kls fad ns hl=>G.main cls kls fad ns hl)
 case F=>
  intro w mg h KX Gn
  refine' G.top_mk KX Gn ?gl0 ?x6 ?xi6 ?xl6 ?xw6 ?xz6 ?xd6 ?xk6 ?xt6
  (case gl0=>k_is)
  (case x6=>kernel_rfl)
  (case xi6=>k_is)
  (case xl6=>k_is)
  (case xw6=>rfl)
  (case xz6=>kernel_rfl)
  (case xd6=>k_is)
  (case xk6=>k_is)
  (case xt6=>k_is)
  all_goals exact⟨0,0,0,0⟩
