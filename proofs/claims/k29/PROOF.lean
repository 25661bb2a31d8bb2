import PyProof.Rows.All
import Wide.All
import OpenK.AllK
import Wide.FinOn
import Lean
import PyProof.EqAt
import PyProof.EqKinds
import PyProof.TupleCall
import PySem.Challenge.RW_driftmeet_k29_long_nets
set_option Elab.async false
set_option linter.all false
set_option maxRecDepth 100000
namespace L2
open PySem PySem.Spec PyProof.Rows
noncomputable abbrev Key:=Sum Int Str
noncomputable def iJ:Key->Value->Bool
 |.inl k,v=>Value.isInt k v
 |.inr x,v=>Value.isStrOf x v
noncomputable def DN(w:World):Key->Int
 |.inl k=>hashInt k
 |.inr x=>hashStr w x
theorem aA:∀{k:Key}{v:Value},iJ k v=true->(∃i t,k=Sum.inl i/\v=Value.int i t)\/(∃x t,k=Sum.inr x/\v=Value.str x t)
 |.inl i,v,h=>by
  obtain⟨t,e⟩:=Value.isInt_shape (k:=i) (v:=v) h;exact .inl ⟨i,t,rfl,e⟩
 |.inr x,v,h=>by
  obtain⟨t,e⟩:=Value.isStrOf_shape (x:=x) (v:=v) h;exact .inr ⟨x,t,rfl,e⟩
theorem nJ(i:Int)(t:Tok):iJ (.inl i) (.int i t)=true:=by simp[iJ,Value.isInt]
theorem nS(x:Str)(t:Tok):iJ (.inr x) (.str x t)=true:=by simp[iJ,Value.isStrOf]
theorem wx(a b:Int):decide ((Sum.inl a:Key)=Sum.inl b)=(a == b):=by
 by_cases e:a=b
 ·subst e;simp
 ·have h:¬ (Sum.inl a:Key)=Sum.inl b:=fun q=>e (Sum.inl.inj q)
  rw[decide_eq_false h];exact (beq_eq_false_iff_ne.mpr e).symm
theorem wG(a b:Str):decide ((Sum.inr a:Key)=Sum.inr b)=decide (a=b):=by
 by_cases e:a=b
 ·subst e;simp
 ·have h:¬ (Sum.inr a:Key)=Sum.inr b:=fun q=>e (Sum.inr.inj q)
  rw[decide_eq_false h,decide_eq_false e]
theorem wW(a:Int)(b:Str):decide ((Sum.inl a:Key)=Sum.inr b)=false:=decide_eq_false (fun q=>nomatch q)
theorem vm(a:Str)(b:Int):decide ((Sum.inr a:Key)=Sum.inl b)=false:=decide_eq_false (fun q=>nomatch q)
noncomputable def az(prog:Program)(w:World):PySem.KeyKind prog w Key where
 is:=iJ
 hash:=DN w
 inj:=fun v a b ha hb=>by
  rcases aA ha with ⟨i,t,rfl,rfl⟩|⟨x,t,rfl,rfl⟩
  ·rcases aA hb with ⟨j,u,rfl,e⟩|⟨y,u,rfl,e⟩
   ·injection e with e1 _;rw[e1]
   ·exact nomatch e
  ·rcases aA hb with ⟨j,u,rfl,e⟩|⟨y,u,rfl,e⟩
   ·exact nomatch e
   ·injection e with e1 _;rw[e1]
 byValue:=fun k v h=>by
  rcases aA h with ⟨i,t,rfl,rfl⟩|⟨x,t,rfl,rfl⟩<;>rfl
 pyHash:=fun hv h=>by
  rcases aA hv with ⟨i,t,rfl,rfl⟩|⟨x,t,rfl,rfl⟩
  ·exact wpAny_pyHash_int h
  ·exact wpAny_pyHash_str h
 eqBool:=fun hu hv h=>by
  rcases aA hu with ⟨i,t,rfl,rfl⟩|⟨x,t,rfl,rfl⟩
  ·rcases aA hv with ⟨j,u,rfl,rfl⟩|⟨y,u,rfl,rfl⟩
   ·rw[wx]at h;exact wpAny_eqBool_int h
   ·rw[wW]at h;exact SeqAt.EqAt.int_str i t y u _ _ _ _ h
  ·rcases aA hv with ⟨j,u,rfl,rfl⟩|⟨y,u,rfl,rfl⟩
   ·rw[vm]at h;exact SeqAt.EqAt.str_int x t j u _ _ _ _ h
   ·rw[wG]at h;exact wpAny_eqBool_str h
 «strs»:=fun k x t v h=>by
  rcases aA h with ⟨i,u,rfl,e⟩|⟨y,u,rfl,e⟩
  ·exact nomatch e
  ·injection e with e1 _
   subst e1;cases v<;>rfl
theorem ly(prog:Program)(w:World)(i:Int)(t:Tok):(az prog w).is (.inl i) (.int i t)=true:=nJ i t
theorem km(prog:Program)(w:World)(x:Str)(t:Tok):(az prog w).is (.inr x) (.str x t)=true:=nS x t
end L2
namespace L2
open PySem PySem.Spec PyProof.Rows
inductive V where
 |non|bl (b:Bool)|int (i:Int)|str (x:Str)|byt (b:Array UInt8)|flt (b:UInt64)|ref (a:Addr)|ty (n:String)
 deriving DecidableEq
noncomputable def RelV:V->Value->Prop
 |.non,u=>u=Value.none
 |.bl b,u=>u=Value.bool b
 |.int i,u=>∃t,u=Value.int i t
 |.str x,u=>∃t,u=Value.str x t
 |.byt b,u=>∃t,u=Value.bytes b t
 |.flt b,u=>∃t,u=Value.float b t
 |.ref a,u=>u=Value.ref a
 |.ty n,u=>u=Value.type n
noncomputable abbrev Vals:List V->List Value->Prop:=Paired RelV
theorem Vals.length{xs:List V}{us:List Value}(r:Vals xs us):xs.length=us.length:=Paired.length r
theorem Vals.get:∀{xs:List V}{us:List Value}{i:Nat}{x:V},Vals xs us->xs[i]?=some x->∃u,us[i]?=some u/\RelV x u
 |_,_,_,_,.nil,e=>by simp at e
 |_,_,0,_,.cons r _,e=>by simp at e;subst e;exact⟨_,rfl,r⟩
 |_,_,i+1,x,.cons _ t,e=>by
  obtain⟨u,h1,h2⟩:=Vals.get (i:=i) (x:=x) t (by simpa using e)
  exact⟨u,by simpa using h1,h2⟩
theorem Vals.set(r:RelV x u):∀{xs:List V}{us:List Value} (i:Nat),Vals xs us->Vals (xs.set i x) (us.set i u)
 |_,_,_,.nil=>.nil
 |_,_,0,.cons _ t=>.cons r t
 |_,_,i+1,.cons q t=>.cons q (Vals.set r i t)
theorem Vals.append:∀{xs ys:List V}{us ws:List Value},Vals xs us->Vals ys ws->Vals (xs++ys) (us++ws)
 |_,_,_,_,.nil,s=>s
 |_,_,_,_,.cons r t,s=>.cons r (Vals.append t s)
theorem Vals.take:∀{xs:List V}{us:List Value} (n:Nat),Vals xs us->Vals (xs.take n) (us.take n)
 |_,_,0,_=>.nil
 |_,_,_+1,.nil=>.nil
 |_,_,n+1,.cons r t=>.cons r (Vals.take n t)
theorem Vals.drop:∀{xs:List V}{us:List Value} (n:Nat),Vals xs us->Vals (xs.drop n) (us.drop n)
 |_,_,0,r=>r
 |_,_,_+1,.nil=>.nil
 |_,_,n+1,.cons _ t=>Vals.drop n t
noncomputable def RelO:Option V->Option Value->Prop
 |some v,some u=>RelV v u
 |none,none=>True
 |_,_=>False
noncomputable def KV:List (κ×V)->List (κ×Value)->Prop:=Paired fun (p:κ×V) (q:κ×Value)=>p.1=q.1/\RelV p.2 q.2
noncomputable def kV:Key->V
 |.inl i=>.int i
 |.inr x=>.str x
inductive HO where
 |lst (xs:List V)
 |tup (xs:List V)
 |dK (kvs:List (Key×V))|dT (kvs:List (List Key×V))
 |set (S:Int->Bool) (n:Nat)
 |ins (C dx:Addr) (fs:List (Str×V))
 |own (x:Addr)
 |xd (fs:List (Str×V))
 |met (f x:Addr)
 |rng (lo hi:Int)
 |frz (o:Obj) (u:HO)
 |tbl (ps:Array Value)
 |ext (φ:Heap->Prop)
noncomputable abbrev Hp:=Addr->Option HO
noncomputable def upd(H:Hp)(a:Addr)(o:HO):Hp:=fun b=>if b=a then some o else H b
theorem ae:upd H a o a=some o:=by unfold upd;rw[if_pos rfl]
theorem aa(h:b≠a):upd H a o b=H b:=by unfold upd;rw[if_neg h]
theorem cq{H:Hp}{a b:Addr}{o u:HO}(h:H a=some o)(h':H b=some u)(d:o≠u):a≠b:=by
 intro e;subst e;rw[h]at h';exact d (Option.some.inj h')
theorem au{H:Hp}{a b:Addr}{o:HO}(h:H a=some o)(h':H b=none):a≠b:=by
 intro e;subst e;rw[h]at h';cases h'
section
variable (P:Program) (w:World)
noncomputable def ObjOk(H:Hp)(h:Heap)(a:Addr):HO->Prop
 |.lst xs=>xs.length<=sizeLine/\∃(its:List Value) (n:Nat),Vals xs its/\h.get? a=some {cls:=.type "list",data:=.seq its.toArray n}
 |.tup xs=>xs.length<=sizeLine/\∃its:List Value,Vals xs its/\IsTup h a its.toArray
 |.dK kvs=>kvs.length<=sizeLine/\(a == sysModules)=false/\∃vs,KV kvs vs/\h.DictOf (az P w) a vs
 |.dT kvs=>kvs.length<=sizeLine/\(a == sysModules)=false/\∃xs:List (List Key×Addr×Value),
   Paired (fun (p:List Key×V) (q:List Key×Addr×Value)=>p.1=q.1/\H q.2.1=some (.tup (p.1.map kV))/\RelV p.2 q.2.2) kvs xs/\
   ∃o es ep,h.get? a=some o/\o.ExactDict/\o.data=.dict es ep/\es.toList=xs.map (entryOfKey (tupleKind (az P w)))/\(xs.map (·.1)).Nodup
 |.set S n=>h.SetOf (intKind P w) a S n
 |.ins C dx fs=>H dx=some (.own a)/\fs.length<=1000/\dx≠a/\h.get? a=some (PySem.W.instObj C dx)/\
   ∃mA,h.Ns1 dx mA/\(∀f,RelO (fs.lookup f) (mA f))/\PySem.Within mA (fs.map (·.1))
 |.own _=>∃o,h.get? a=some o
 |.xd fs=>∃mA,h.Ns1 a mA/\∀f,RelO (fs.lookup f) (mA f)
 |.rng lo hi=>∃t u v,h.get? a=some {cls:=.type "range",data:=.fields #[.int lo t,.int hi u,.int 1 v]}
 |.frz o u=>h.get? a=some o/\ObjOk H h a u
 |.tbl ps=>h.get? a=some {cls:=.none,data:=.fields ps}
 |.met f x=>h.get? a=some (PySem.W.methodObj (.ref f) (.ref x))
 |.ext φ=>φ h/\(∃o,h.get? a=some o)/\∀h1 h2:Heap,φ h1->(∀o,h1.get? a=some o->h2.get? a=some o)->φ h2
noncomputable def HOk(H:Hp)(h:Heap):Prop:=∀a o,H a=some o->ObjOk P w H h a o
end
section
variable {P:Program}{w:World}{H H':Hp}{h h':Heap}{a:Addr}{o:HO}
theorem ObjOk.lt(x:ObjOk P w H h a o):a < h.objs.size:=by
 cases o with
 |lst xs=>obtain⟨_,_,_,_,e⟩:=x;exact Heap.lt_size e
 |tup xs=>obtain⟨_,_,_,p⟩:=x;exact p.lt
 |dK kvs=>obtain⟨_,_,_,_,o,_,_,e,_⟩:=x;exact Heap.lt_size e
 |dT kvs=>obtain⟨_,_,_,_,o,_,_,e,_⟩:=x;exact Heap.lt_size e
 |set S n=>obtain⟨o,_,_,_,e,_⟩:=x;exact Heap.lt_size e
 |ins C dx fs=>obtain⟨_,_,_,e,_⟩:=x;exact Heap.lt_size e
 |own y=>obtain⟨_,e⟩:=x;exact Heap.lt_size e
 |xd fs=>obtain⟨_,⟨_,_,_,e,_⟩,_⟩:=x;exact Heap.lt_size e
 |rng lo hi=>obtain⟨_,_,_,e⟩:=x;exact Heap.lt_size e
 |frz ob u=>obtain⟨e,_⟩:=x;exact Heap.lt_size e
 |tbl ps=>exact Heap.lt_size (show h.get? a=some _ from x)
 |met f y=>exact Heap.lt_size (show h.get? a=some _ from x)
 |ext φ=>obtain⟨_,⟨_,e⟩,_⟩:=x;exact Heap.lt_size e
theorem Paired.mapP:∀{l₁:List α}{l₂:List β},Paired F l₁ l₂->(∀a b,F a b->G a b)->Paired G l₁ l₂
 |_,_,.nil,_=>.nil
 |_,_,.cons r t,f=>.cons (f _ _ r) (Paired.mapP t f)
theorem ObjOk.stay(x:ObjOk P w H h a o)(k:∀b u,(b=a\/H b=some (.own a))->h.get? b=some u->h'.get? b=some u)
  (ho:∀b,H b=some (.own a)->H' b=some (.own a)) (ht:∀b xs,H b=some (.tup xs)->H' b=some (.tup xs)):ObjOk P w H' h' a o:=by
 induction o with
 |lst xs=>obtain⟨z,its,n,r,e⟩:=x;exact⟨z,its,n,r,k _ _ (.inl rfl) e⟩
 |tup xs=>obtain⟨z,its,r,ob,e,c⟩:=x;exact⟨z,its,r,ob,k _ _ (.inl rfl) e,c⟩
 |dK kvs=>obtain⟨z,y,vs,r,ob,es,ep,e,c⟩:=x;exact⟨z,y,vs,r,ob,es,ep,k _ _ (.inl rfl) e,c⟩
 |dT kvs=>
  obtain⟨z,y,xs,r,ob,es,ep,e,c⟩:=x;exact⟨z,y,xs,Paired.mapP r fun p q z=>⟨z.1,ht _ _ z.2.1,z.2.2⟩,ob,es,ep,k _ _ (.inl rfl) e,c⟩
 |set S n=>obtain⟨ob,es,ep,t,e,c⟩:=x;exact⟨ob,es,ep,t,k _ _ (.inl rfl) e,c⟩
 |ins C dx fs=>
  obtain⟨d,z,ne,e,mA,⟨od,es,ep,e2,c⟩,r⟩:=x;exact⟨ho _ d,z,ne,k _ _ (.inl rfl) e,mA,⟨od,es,ep,k _ _ (.inr d) e2,c⟩,r⟩
 |own y=>obtain⟨ob,e⟩:=x;exact⟨ob,k _ _ (.inl rfl) e⟩
 |xd fs=>obtain⟨mA,⟨od,es,ep,e,c⟩,r⟩:=x;exact⟨mA,⟨od,es,ep,k _ _ (.inl rfl) e,c⟩,r⟩
 |rng lo hi=>obtain⟨t,u,v,e⟩:=x;exact⟨t,u,v,k _ _ (.inl rfl) e⟩
 |frz ob u ih=>obtain⟨e,q⟩:=x;exact⟨k _ _ (.inl rfl) e,ih q⟩
 |tbl ps=>
  have e:h.get? a=some {cls:=.none,data:=.fields ps}:=x;show h'.get? a=some {cls:=.none,data:=.fields ps};exact k a _ (.inl rfl) e
 |met f y=>
  have e:h.get? a=some (PySem.W.methodObj (.ref f) (.ref y)):=x;show h'.get? a=some (PySem.W.methodObj (.ref f) (.ref y));exact k a _ (.inl rfl) e
 |ext φ=>obtain⟨p,⟨o,e⟩,st⟩:=x;exact⟨st _ _ p fun o q=>k _ _ (.inl rfl) q,⟨o,k _ _ (.inl rfl) e⟩,st⟩
theorem HOk.lt(x:HOk P w H h)(e:H a=some o):a < h.objs.size:=(x a o e).lt
theorem HOk.fresh(x:HOk P w H h)(e:h.objs.size<=a):H a=none:=by
 cases q:H a with
 |none=>rfl
 |some u=>exact absurd (Nat.lt_of_lt_of_le (x.lt q) e) (Nat.lt_irrefl _)
theorem HOk.kept(x:HOk P w H h)(k:∀b u,h.get? b=some u->h'.get? b=some u):HOk P w H h':=fun a o e=>
 (x a o e).stay (fun b u _ q=>k b u q) (fun _ q=>q) fun _ _ q=>q
theorem HOk.laid(x:HOk P w H h)(k:∀b u,h.get? b=some u->h'.get? b=some u)(hp:h.objs.size<=a)(new:ObjOk P w (upd H a o) h' a o):HOk P w (upd H a o) h':=fun b u e=>by
 have hn:=x.fresh hp;by_cases hb:b=a
 ·subst hb;rw[ae]at e;cases e;exact new
 ·rw[aa hb]at e;exact (x b u e).stay (fun c v _ q=>k c v q) (fun c q=>by rw[aa (au q hn)];exact q) fun c xs q=>by rw[aa (au q hn)];exact q
end
noncomputable def Rd(H:Hp)(a:Addr)(u:HO):Prop:=H a=some u\/∃o,H a=some (.frz o u)
theorem Rd.ok{P:Program}{w:World}{H:Hp}{h:Heap}{a:Addr}{u:HO}(r:Rd H a u)(x:HOk P w H h):ObjOk P w H h a u:=by
 rcases r with r|⟨o,r⟩
 ·exact x a u r
 ·obtain⟨_,q⟩:=x a _ r;exact q
noncomputable def Mut:Option HO->Prop
 |some (.lst _)=>True
 |some (.dK _)=>True
 |some (.dT _)=>True
 |some (.set _ _)=>True
 |some (.ins _ _ _)=>True
 |some (.ext _)=>True
 |_=>False
section
variable {P:Program}{w:World}{h h':Heap}{x e:Addr}
theorem HOk.write(ok:HOk P w H h)(mu:Mut (H x))(he:e=x\/H e=some (.own x))(k:∀b u,b≠e->h.get? b=some u->h'.get? b=some u)(heo:∃u,h'.get? e=some u)
  (new:ObjOk P w (upd H x o') h' x o'):HOk P w (upd H x o') h':=fun b u q=>by
 have nown:∀c y,H c=some (.own y)->c≠x:=fun c y r z=>by subst z;rw[r]at mu;exact mu
 have Ap:∀c xs,H c=some (.tup xs)->c≠x:=fun c xs r z=>by subst z;rw[r]at mu;exact mu
 by_cases hb:b=x
 ·subst hb;rw[ae]at q;cases q;exact new
 ·rw[aa hb]at q;by_cases hbe:b=e
  ·have q':H b=some (.own x):=by
    rcases he with z|z
    ·exact absurd (hbe.trans z) hb
    ·rw[hbe];exact z
   rw[q]at q';cases q';obtain⟨v,hv⟩:=heo;exact⟨v,by rw[hbe];exact hv⟩
  ·refine (ok b u q).stay (fun c v hc r=>k c v ?_ r) (fun c r=>by rw[aa (nown c b r)];exact r) fun c xs r=>by rw[aa (Ap c xs r)];exact r
   rcases hc with rfl|hc
   ·exact hbe
   ·rintro rfl;rcases he with z|z
    ·exact nown c b hc z
    ·rw[hc]at z;cases z;exact hb rfl
end
structure Un (fs ex:List Addr)(H H':Hp)(h h':Heap):Prop where
 keep:∀b o,h.get? b=some o->H b=none->b∉fs->b∉ex->h'.get? b=some o
 slot:∀b o,h.get? b=some o->H b=none->b∈fs->b∉ex->∃sl,h'.get? b=some {o with slots:=sl}
 free:∀b o,h.get? b=some o->H b=none->b∉ex->H' b=none
 there:∀b o,h.get? b=some o->b∉ex->∃o',h'.get? b=some o'
 tups:∀b xs,H b=some (.tup xs)->H' b=some (.tup xs)
 frzs:∀b o u,H b=some (.frz o u)->H' b=some (.frz o u)
 tbls:∀b ps,H b=some (.tbl ps)->∃more,H' b=some (.tbl (ps++more))
section
variable {fs fs' ex ex':List Addr}{H H1 H2:Hp}{h h1 h2 h':Heap}{a x e:Addr}{o:HO}
theorem Un.any(u:Un fs ex H H1 h h1)(q:h.get? b=some ob)(n:H b=none)(hx:b∉ex):∃sl,h1.get? b=some {ob with slots:=sl}:=by
 by_cases hb:b∈fs
 ·exact u.slot b ob q n hb hx
 ·exact⟨ob.slots,u.keep b ob q n hb hx⟩
theorem Un.trans(a:Un fs ex H H1 h h1)(b:Un fs ex H1 H2 h1 h2):Un fs ex H H2 h h2 where
 keep:=fun c ob q n hc hx=>b.keep c ob (a.keep c ob q n hc hx) (a.free c ob q n hx) hc hx
 slot:=fun c ob q n hc hx=>by
  obtain⟨sl,e1⟩:=a.slot c ob q n hc hx;obtain⟨sl',e2⟩:=b.slot c _ e1 (a.free c ob q n hx) hc hx;exact⟨sl',e2⟩
 free:=fun c ob q n hx=>by
  obtain⟨o',e1⟩:=a.there c ob q hx;exact b.free c o' e1 (a.free c ob q n hx) hx
 there:=fun c ob q hx=>by
  obtain⟨o',e1⟩:=a.there c ob q hx;exact b.there c o' e1 hx
 tups:=fun c xs q=>b.tups c xs (a.tups c xs q)
 frzs:=fun c ob xs q=>b.frzs c ob xs (a.frzs c ob xs q)
 tbls:=fun c ps q=>by
  obtain⟨m1,e1⟩:=a.tbls c ps q;obtain⟨m2,e2⟩:=b.tbls c _ e1;exact⟨m1++m2,by rw[e2,Array.append_assoc]⟩
theorem Un.kept(k:∀b u,h.get? b=some u->h'.get? b=some u):Un fs ex H H h h':=
 ⟨fun b ob q _ _ _=>k b ob q,fun b ob q _ _ _=>⟨ob.slots,k b ob q⟩,fun _ _ _ n _=>n,fun b ob q _=>⟨ob,k b ob q⟩,fun _ _ q=>q,fun _ _ _ q=>q,fun _ ps q=>⟨#[],by rw[q];simp⟩⟩
theorem Un.refl:Un fs ex H H h h:=Un.kept fun _ _ q=>q
theorem Un.laid(k:∀b u,h.get? b=some u->h'.get? b=some u)(hp:h.objs.size<=a)(hn:H a=none):Un fs ex H (upd H a o) h h' where
 keep:=fun b u q _ _ _=>k b u q
 slot:=fun b u q _ _ _=>⟨u.slots,k b u q⟩
 free:=fun b u q n _=>by rw[aa (Nat.ne_of_lt (Nat.lt_of_lt_of_le (Heap.lt_size q) hp))];exact n
 there:=fun b u q _=>⟨u,k b u q⟩
 tups:=fun b xs q=>by rw[aa (au q hn)];exact q
 frzs:=fun b u xs q=>by rw[aa (au q hn)];exact q
 tbls:=fun b ps q=>⟨#[],by rw[aa (au q hn),q];simp⟩
theorem Un.write(mu:Mut (H x))(he:e=x\/H e=some (.own x))(k:∀b u,b≠e->h.get? b=some u->h'.get? b=some u)(heo:∃u,h'.get? e=some u):Un fs ex H (upd H x o) h h':=by
 have hx:∀b,H b=none->b≠x:=fun b n z=>by subst z;rw[n]at mu;exact mu
 have hb:∀b,H b=none->b≠e:=fun b n z=>by
  subst z;rcases he with r|r
  ·exact hx b n r
  ·rw[n]at r;cases r
 have hm:∀b u,H b=some u->¬ Mut (some u)->b≠x:=fun b u q nm z=>by subst z;rw[q]at mu;exact nm mu
 refine⟨fun b u q n _ _=>k b u (hb b n) q,fun b u q n _ _=>⟨u.slots,k b u (hb b n) q⟩,fun b u q n _=>by rw[aa (hx b n)];exact n,fun b u q _=>?_,
  fun b xs q=>by rw[aa (hm b _ q fun z=>z)];exact q,fun b u xs q=>by rw[aa (hm b _ q fun z=>z)];exact q,fun b ps q=>⟨#[],by rw[aa (hm b _ q fun z=>z),q];simp⟩⟩
 by_cases hbe:b=e
 ·subst hbe;exact heo
 ·exact⟨u,k b u hbe q⟩
end
noncomputable def trk(h:Heap)(H:Hp):List Addr:=(List.range h.objs.size).filter fun a=>(H a).isSome
noncomputable def jM(h:Heap)(H:Hp):Heap:=PySem.W.hideAll h (trk h H)
theorem oo(h:Heap)(H:Hp):(jM h H).objs.size=h.objs.size:=PySem.W.hideAll_size _ _
theorem pP{h:Heap}(e:h.get? b=some o)(n:H b=none):(jM h H).get? b=some o:=
 PySem.W.hideAll_get _ e fun hm=>by
  have q:(H b).isSome=true:=(List.mem_filter.mp hm).2;rw[n]at q;simp at q
theorem rF{h:Heap}(e:(jM h H).get? b=some o):h.get? b=some o/\H b=none:=by
 have e':h.get? b=some o:=PySem.W.of_hideAll (trk h H) e;refine⟨e',?_⟩;cases q:H b with
 |none=>rfl
 |some x=>
  have hm:b∈trk h H:=List.mem_filter.mpr ⟨List.mem_range.mpr (Heap.lt_size e'),by simp[q]⟩
  have z:(jM h H).get? b=none:=PySem.W.hideAll_none (trk h H) hm;rw[z]at e;cases e
noncomputable def sr(g h:Heap)(L:Addr):List (Addr×Obj):=(List.range h.objs.size).filterMap fun a=>if a=L\/(g.get? a).isSome=true then none else (h.get? a).map fun o=>(a,o)
noncomputable def rest(g h:Heap)(L d:Addr):List (Addr×Obj):=(sr g h L).filter fun p=>decide (p.1≠d)
end L2
namespace L2
open PySem PySem.Spec PyProof.Rows
structure Mod (K:PySem.W.Frag)(mg:Str->Option Value)(base:Heap):Prop where
 kin:K.In base
 glob:base.Ns mainGlobals mg
 blt:∃mb,base.Ns builtinsNs mb/\∀x:Str,x≠"__name__"->mb x=bootBuiltins x
 nolimit:base.NoLimit
structure Cx where
 prog:Program
 w:World
 K:PySem.W.Frag
 mg:Str->Option Value
 base:Heap
 A:Around
 N:List Str
 s₀:Shared
 H₀:Hp
 env:Env
 outer:List Env
 stack:List Env
 ex:List Addr
 fn:Str->Bool
 calm:Bool
 pn:List (Addr×Obj)
 xe:Value->Shared->Prop
noncomputable def frs(l:List Env):List Addr:=l.filterMap (·.frame)
noncomputable abbrev Cx.fs(X:Cx):List Addr:=frs X.outer
noncomputable def Vis(sc:Scope)(x:Str):Prop:=sc.names.lookup x=some .local\/sc.names.lookup x=some .cell\/sc.names.lookup x=some .free
noncomputable def Loc(sc:Scope)(x:Str):Prop:=sc.names.lookup x=some .local\/sc.names.lookup x=some .cell
noncomputable def yT(env:Env)(h:Heap)(m:Str->Option Value)(x:Str)(u:Value):Prop:=
 (env.kindOf x=some .local/\m x=some u)\/((env.kindOf x=some .cell\/env.kindOf x=some .free)/\∃c,env.cells.lookup x=some c/\h.IsCell c (some u))
structure Cx.Ok (X:Cx):Prop where
 mod:Mod X.K X.mg X.base
 kind:X.env.scope.kind=.function
 glob:X.env.globals=mainGlobals
 blt:X.env.builtins=builtinsNs
 above:X.s₀.heap.objs.size<=X.env.locals
 inj:∀x y c,X.env.cells.lookup x=some c->X.env.cells.lookup y=some c->x=y
 has:∀x,(X.env.kindOf x=some .cell\/X.env.kindOf x=some .free)->∃c,X.env.cells.lookup x=some c
 cab:∀x c,X.fn x=true->X.env.cells.lookup x=some c->X.s₀.heap.objs.size<=c
 hd:X.calm=true->X.A.handled=none
 frames:X.A.frames=some X.stack
 stk:X.stack=X.outer\/(X.stack=X.env::X.outer/\X.env.frame=some X.env.locals)
 exf:∀b∈X.ex,b≠X.env.locals/\∀x c,X.env.cells.lookup x=some c->c≠b
 bs:∀b o,X.base.get? b=some o->X.s₀.heap.get? b=some o/\X.H₀ b=none
 bsz:X.base.objs.size<=X.s₀.heap.objs.size
 noex:∀b o,X.base.get? b=some o->b∉X.ex
 exfs:∀b∈X.ex,b∉X.fs
 funs:X.s₀.heap.FunFrames X.base X.outer
 frf:∀b∈X.fs,X.H₀ b=none
structure Inv (X:Cx) (pins:List (Addr×Obj)) (σ:List (Option V)) (H:Hp)(s:Shared):Prop where
 ok:X.Ok
 os:s.os=X.s₀.os
 bare:AllBare s.gens
 base:Un X.fs X.ex X.H₀ H X.s₀.heap s.heap
 loc:∃m,s.heap.Ns X.env.locals m/\∀(i:Nat)(x:Str)(v:V),X.N[i]?=some x->σ[i]?=some (some v)->Vis X.env.scope x->∃u,RelV v u/\yT X.env s.heap m x u
 cell:∀x c,X.env.cells.lookup x=some c->∃v,s.heap.IsCell c v
 free:H X.env.locals=none
 freeC:∀x c,X.env.cells.lookup x=some c->H c=none
 pin:∀p∈X.pn++pins,s.heap.get? p.1=some p.2/\H p.1=none/\p.1≠X.env.locals/\p.1∉X.fs/\∀v,p.2.data≠.cell v
 hok:HOk X.prog X.w H s.heap
 len:σ.length=X.N.length
section
variable {X:Cx}{σ:List (Option V)}{s:Shared}{h':Heap}
theorem Cx.Ok.nofr(ok:X.Ok)(e:X.base.get? b=some o):b∉X.fs:=fun hb=>by
 have:=(ok.funs.mem hb).1;rw[e]at this;cases this
theorem Inv.bs(I:Inv X pins σ H s):∀b o,X.base.get? b=some o->s.heap.get? b=some o/\H b=none:=fun b o e=>
 ⟨I.base.keep b o (I.ok.bs b o e).1 (I.ok.bs b o e).2 (I.ok.nofr e) (I.ok.noex b o e),I.base.free b o (I.ok.bs b o e).1 (I.ok.bs b o e).2 (I.ok.noex b o e)⟩
theorem Inv.bk(I:Inv X pins σ H s):∀b o,X.base.get? b=some o->s.heap.get? b=some o:=fun b o e=>(I.bs b o e).1
theorem Inv.mod(I:Inv X pins σ H s):Mod X.K X.mg X.base:=I.ok.mod
theorem Inv.kIn(I:Inv X pins σ H s):X.K.In s.heap:=I.ok.mod.kin.keeps I.bk
theorem Inv.nolimit(I:Inv X pins σ H s):s.heap.NoLimit:=I.ok.mod.nolimit.keeps I.bk
theorem Inv.lt(I:Inv X pins σ H s):X.env.locals < s.heap.objs.size:=let ⟨_,hn,_⟩:=I.loc;hn.lt
theorem Inv.sz(I:Inv X pins σ H s):X.s₀.heap.objs.size<=s.heap.objs.size:=Nat.le_trans I.ok.above (Nat.le_of_lt I.lt)
theorem Inv.nofs(I:Inv X pins σ H s)(h:s.heap.objs.size<=a):a∉X.fs:=fun hb=>by
 obtain⟨_,o,ho,_⟩:=I.ok.funs.mem hb;exact absurd (Nat.lt_of_lt_of_le (Heap.lt_size ho) (Nat.le_trans I.sz h)) (Nat.lt_irrefl _)
theorem Inv.cne(I:Inv X pins σ H s):∀x c,X.env.cells.lookup x=some c->c≠X.env.locals:=fun x c e z=>by
 obtain⟨v,o,ho,hd⟩:=I.cell x c e;obtain⟨m,⟨o',es,ep,ho',hd',_⟩,_⟩:=I.loc;rw[z,ho']at ho;cases ho;rw[hd']at hd;cases hd
theorem Inv.funs(I:Inv X pins σ H s):s.heap.FunFrames X.base X.outer:=by
 have all:∀(l:List Env),(∀b∈frs l,b∈X.fs)->X.s₀.heap.FunFrames X.base l->s.heap.FunFrames X.base l:=by
  intro l
  induction l with
  |nil=>intro _ _;trivial
  |cons env r ih=>
   intro hs hl;obtain⟨hk,⟨L,o,hf,hn,ho,hd⟩,hr⟩:=hl;have hL:L∈X.fs:=hs L (by unfold frs;rw[List.filterMap_cons,hf];exact List.mem_cons_self)
   obtain⟨sl,e⟩:=I.base.slot L o ho (I.ok.frf L hL) hL fun z=>I.ok.exfs L z hL
   exact⟨hk,⟨L,_,hf,hn,e,hd⟩,ih (fun b hb=>hs b (by unfold frs;rw[List.filterMap_cons,hf];exact List.mem_cons_of_mem _ hb)) hr⟩
 exact all X.outer (fun _ hb=>hb) I.ok.funs
theorem Inv.stack(I:Inv X pins σ H s):s.heap.FunFrames X.base X.stack:=by
 rcases I.ok.stk with e|⟨e,hf⟩
 ·rw[e];exact I.funs
 ·rw[e];obtain⟨m,hn,_⟩:=I.loc;refine .cons (by rw[I.ok.kind];decide) hf hn ?_ I.funs
  exact Heap.get?_none_of_le (Nat.le_trans I.ok.bsz I.ok.above)
theorem Inv.stkSub(I:Inv X pins σ H s):∀b∈frs X.stack,b∈X.env.locals::X.fs:=fun b hb=>by
 rcases I.ok.stk with e|⟨e,hf⟩
 ·rw[e]at hb;exact List.mem_cons_of_mem _ hb
 ·rw[e]at hb;unfold frs at hb;rw[List.filterMap_cons,hf]at hb;exact hb
theorem Inv.stkFree(I:Inv X pins σ H s):∀b∈frs X.stack,H b=none:=fun b hb=>by
 rcases List.mem_cons.mp (I.stkSub b hb) with e|hb
 ·rw[e];exact I.free
 ·obtain⟨_,o,ho,_⟩:=I.ok.funs.mem hb;exact I.base.free b o ho (I.ok.frf b hb) fun z=>I.ok.exfs b z hb
theorem Inv.step{g':Array GenState}{t':Nat}{d':Drawn}{ch:List Addr}(I:Inv X pins σ H s)
  (hch:∀b∈ch,(b∈X.ex\/X.s₀.heap.objs.size<=b)/\b≠X.env.locals/\(∀x c,X.env.cells.lookup x=some c->c≠b)/\∀p∈X.pn++pins,p.1≠b)
  (keep:∀b o,b≠X.env.locals->b∉X.fs->b∉ch->s.heap.get? b=some o->H b=none->h'.get? b=some o)
  (slot:∀b o,b≠X.env.locals->b∈X.fs->b∉ch->s.heap.get? b=some o->H b=none->∃sl,h'.get? b=some {o with slots:=sl}) (free:∀b o,b∉ch->s.heap.get? b=some o->H b=none->H' b=none)
  (there:∀b o,b∉ch->s.heap.get? b=some o->∃o',h'.get? b=some o')
  (tups:∀b xs,H b=some (.tup xs)->H' b=some (.tup xs)) (frzs:∀b o u,H b=some (.frz o u)->H' b=some (.frz o u)) (tbls:∀b ps,H b=some (.tbl ps)->∃more,H' b=some (.tbl (ps++more)))
  (ns:∀m,s.heap.Ns X.env.locals m->h'.Ns X.env.locals m)(hok:HOk X.prog X.w H' h')(hg:AllBare g') :
  Inv X pins σ H' {s with heap:=h',gens:=g',drawn:=d',toks:=t'}:=by
 have neL:∀b o,X.s₀.heap.get? b=some o->b≠X.env.locals:=fun b o e=>Nat.ne_of_lt (Nat.lt_of_lt_of_le (Heap.lt_size e) I.ok.above)
 have neC:∀b o,X.s₀.heap.get? b=some o->b∉X.ex->b∉ch:=fun b o e hx hb=>by
  rcases (hch b hb).1 with z|z
  ·exact hx z
  ·exact absurd (Nat.lt_of_lt_of_le (Heap.lt_size e) z) (Nat.lt_irrefl _)
 have cellK:∀x c,X.env.cells.lookup x=some c->∀v,s.heap.IsCell c v->h'.IsCell c v:=fun x c e v ⟨o,ho,hd⟩=>by
  have nch:c∉ch:=fun z=>(hch c z).2.2.1 x c e rfl
  by_cases hc:c∈X.fs
  ·obtain⟨sl,q⟩:=slot c o (I.cne x c e) hc nch ho (I.freeC x c e);exact⟨_,q,hd⟩
  ·exact⟨o,keep c o (I.cne x c e) hc nch ho (I.freeC x c e),hd⟩
 refine⟨I.ok,I.os,hg,⟨fun b o e n hb hx=>?_,fun b o e n hb hx=>?_,fun b o e n hx=>?_,fun b o e hx=>?_,fun b xs e=>tups b xs (I.base.tups b xs e),fun b o xs e=>frzs b o xs (I.base.frzs b o xs e),fun b ps e=>?_⟩,?_,fun x c e=>?_,?_,fun x c e=>?_,fun p hp=>?_,hok,I.len⟩
 ·exact keep b o (neL b o e) hb (neC b o e hx) (I.base.keep b o e n hb hx) (I.base.free b o e n hx)
 ·obtain⟨sl,e1⟩:=I.base.slot b o e n hb hx;obtain⟨sl',e2⟩:=slot b _ (neL b o e) hb (neC b o e hx) e1 (I.base.free b o e n hx);exact⟨sl',e2⟩
 ·obtain⟨o',e1⟩:=I.base.there b o e hx;exact free b o' (neC b o e hx) e1 (I.base.free b o e n hx)
 ·obtain⟨o',e1⟩:=I.base.there b o e hx;exact there b o' (neC b o e hx) e1
 ·obtain⟨m1,e1⟩:=I.base.tbls b ps e;obtain⟨m2,e2⟩:=tbls b _ e1;exact⟨m1++m2,by rw[e2,Array.append_assoc]⟩
 ·obtain⟨m,hn,hl⟩:=I.loc;refine⟨m,ns m hn,fun i x v e1 e2 e3=>?_⟩
  obtain⟨u,r,l⟩:=hl i x v e1 e2 e3;refine⟨u,r,?_⟩;rcases l with l|⟨k,c,e,z⟩
  ·exact .inl l
  ·exact .inr ⟨k,c,e,cellK x c e _ z⟩
 ·obtain⟨v,z⟩:=I.cell x c e;exact⟨v,cellK x c e v z⟩
 ·obtain⟨m,⟨o,_,_,ho,_⟩,_⟩:=I.loc;exact free _ o (fun z=>(hch _ z).2.1 rfl) ho I.free
 ·obtain⟨v,o,ho,hd⟩:=I.cell x c e;exact free c o (fun z=>(hch c z).2.2.1 x c e rfl) ho (I.freeC x c e)
 ·obtain⟨e,n,ne,nf,d⟩:=I.pin p hp;have nch:p.1∉ch:=fun z=>(hch p.1 z).2.2.2 p hp rfl
  exact⟨keep p.1 p.2 ne nf nch e n,free p.1 p.2 nch e n,ne,nf,d⟩
theorem Inv.un{t':Nat}(I:Inv X pins σ H s)(u:Un X.fs [] H H' s.heap h')(hok:HOk X.prog X.w H' h'):Inv X pins σ H' {s with heap:=h',toks:=t'}:=by
 obtain⟨m,⟨o,es,ep,ho,r⟩,_⟩:=id I.loc;obtain⟨sl,hL⟩:=u.any ho I.free (by simp)
 exact I.step (g':=s.gens) (d':=s.drawn) (ch:=[]) (fun _ z=>nomatch z) (fun b o _ hb _ e n=>u.keep b o e n hb (by simp)) (fun b o _ hb _ e n=>u.slot b o e n hb (by simp)) (fun b o _ e n=>u.free b o e n (by simp)) (fun b o _ e=>u.there b o e (by simp)) u.tups u.frzs u.tbls (fun m' hm=>by
  obtain⟨o',es',ep',ho',r'⟩:=hm;rw[ho]at ho';cases ho';exact⟨_,es',ep',hL,r'⟩) hok I.bare
theorem Inv.call{g':Array GenState}{t':Nat}{d':Drawn}{ch:List Addr}(I:Inv X pins σ H s)(u:Un (frs X.stack) ch H H' s.heap h')(hok:HOk X.prog X.w H' h')(hg:AllBare g')
  (hch:∀b∈ch,(b∈X.ex\/X.s₀.heap.objs.size<=b)/\b≠X.env.locals/\(∀x c,X.env.cells.lookup x=some c->c≠b)/\∀p∈X.pn++pins,p.1≠b) :
  Inv X pins σ H' {s with heap:=h',gens:=g',drawn:=d',toks:=t'}:=by
 obtain⟨m,⟨o,es,ep,ho,r⟩,_⟩:=id I.loc;obtain⟨sl,hL⟩:=u.any ho I.free fun z=>(hch _ z).2.1 rfl
 exact I.step (ch:=ch) hch (fun b o hL hb hc e n=>u.keep b o e n (fun z=>(List.mem_cons.mp (I.stkSub b z)).elim hL hb) hc) (fun b o _ _ hc e n=>u.any e n hc) (fun b o hc e n=>u.free b o e n hc) (fun b o hc e=>u.there b o e hc) u.tups u.frzs u.tbls (fun m' hm=>by
  obtain⟨o',es',ep',ho',r'⟩:=hm;rw[ho]at ho';cases ho';exact⟨_,es',ep',hL,r'⟩) hok hg
theorem Inv.turned{t':Nat}{it:Addr}(I:Inv X pins σ H s)(k:∀b o,b≠it->s.heap.get? b=some o->h'.get? b=some o)(hn:H it=none)(hL:it≠X.env.locals)
  (h1:it∈X.ex\/X.s₀.heap.objs.size<=it) (h2:∀x c,X.env.cells.lookup x=some c->c≠it) (h3:∀p∈X.pn++pins,p.1≠it):Inv X pins σ H {s with heap:=h',toks:=t'}:=by
 have nit:∀b u,H b=some u->b≠it:=fun b u e z=>by rw[z,hn]at e;cases e
 refine I.step (g':=s.gens) (d':=s.drawn) (ch:=[it]) (fun b hb=>?_) (fun b o _ _ hc e _=>k b o (fun z=>hc (by simp[z])) e) (fun b o _ _ hc e _=>⟨o.slots,k b o (fun z=>hc (by simp[z])) e⟩) (fun _ _ _ _ n=>n)
  (fun b o hc e=>⟨o,k b o (fun z=>hc (by simp[z])) e⟩) (fun _ _ e=>e) (fun _ _ _ e=>e) (fun b ps e=>⟨#[],by rw[e];simp⟩) (fun m hm=>?_) (fun b u e=>?_) I.bare
 ·have e:b=it:=by simpa using hb
  subst e;exact⟨h1,hL,h2,h3⟩
 ·obtain⟨o,es,ep,ho,r⟩:=hm;exact⟨o,es,ep,k _ o (Ne.symm hL) ho,r⟩
 ·refine (I.hok b u e).stay (fun c v hc q=>k c v ?_ q) (fun _ q=>q) fun _ _ q=>q
  rcases hc with z|z
  ·rw[z];exact nit b u e
  ·exact nit c _ z
theorem Inv.tok(I:Inv X pins σ H s)(t:Nat):Inv X pins σ H {s with toks:=t}:=I.un (h':=s.heap) (t':=t) Un.refl I.hok
theorem Inv.kept(I:Inv X pins σ H s)(k:∀b u,s.heap.get? b=some u->h'.get? b=some u):Inv X pins σ H {s with heap:=h',toks:=t'}:=I.un (Un.kept k) (I.hok.kept k)
theorem Inv.laid(I:Inv X pins σ H s)(k:∀b u,s.heap.get? b=some u->h'.get? b=some u)(hp:s.heap.objs.size<=a)(new:ObjOk X.prog X.w (upd H a o) h' a o) :
  Inv X pins σ (upd H a o) {s with heap:=h',toks:=t'}:=I.un (Un.laid k hp (I.hok.fresh hp)) (I.hok.laid k hp new)
theorem Inv.write(I:Inv X pins σ H s)(mu:Mut (H x))(he:e=x\/H e=some (.own x))(k:∀b u,b≠e->s.heap.get? b=some u->h'.get? b=some u)(heo:∃u,h'.get? e=some u)
  (new:ObjOk X.prog X.w (upd H x o) h' x o):Inv X pins σ (upd H x o) {s with heap:=h',toks:=t'}:=I.un (Un.write mu he k heo) (I.hok.write mu he k heo new)
theorem Inv.pins_of(I:Inv X pins σ H s)(h:∀p∈pins',s.heap.get? p.1=some p.2/\H p.1=none/\p.1≠X.env.locals/\p.1∉X.fs/\∀v,p.2.data≠.cell v):Inv X pins' σ H s:=
 ⟨I.ok,I.os,I.bare,I.base,I.loc,I.cell,I.free,I.freeC,fun p hp=>(List.mem_append.mp hp).elim (fun z=>I.pin p (List.mem_append_left _ z)) (h p),I.hok,I.len⟩
theorem gL{N:List Str}(hN:N.Nodup){i j:Nat}{x:Str}(a:N[i]?=some x)(b:N[j]?=some x):i=j:=by
 obtain⟨h1,e1⟩:=List.getElem?_eq_some_iff.mp a;obtain⟨h2,e2⟩:=List.getElem?_eq_some_iff.mp b;exact (List.getElem_inj hN).mp (e1.trans e2.symm)
theorem nE{M:Model}{A:Around}{E:Value->Shared->Prop}{i:Nat}{x:Str}{v:V}{u:Value}{Q:Unit->Shared->Prop}(I:Inv X pins σ H s)(hN:X.N.Nodup)(hi:X.N[i]?=some x)(hx:Loc X.env.scope x)(r:RelV v u)
  (h:∀s',Inv X pins (σ.set i (some v)) H s'->(∃a,Heap.SameBut a s.heap s'.heap/\(a=X.env.locals\/X.env.cells.lookup x=some a))->Q () s') (hf:X.fn x=true\/X.env.scope.names.lookup x=some .local:=by first|exact .inl rfl|exact .inr rfl|assumption):wpAny M A (storeName X.env x u) Q E s:=by
 obtain⟨m,hn,hl⟩:=id I.loc;have hcls:(X.env.scope.kind == .class||(X.env.scope.kind == .module&&X.env.locals != X.env.globals))=false:=by rw[I.ok.kind];rfl
 have hiσ:i < σ.length:=by rw[I.len];exact (List.getElem?_eq_some_iff.mp hi).1
 have cne:=I.cne;have tracked:∀{a:Addr}{h':Heap},(∃o,s.heap.get? a=some o/\H a=none)->Heap.SameBut a s.heap h'->HOk X.prog X.w H h':=fun {a h'} ha hs b ob e=>by
  obtain⟨_,_,hfree⟩:=ha;refine (I.hok b ob e).stay (fun c w' hc q=>(hs.2 c ?_).trans q) (fun _ q=>q) fun _ _ q=>q
  rintro rfl;rcases hc with rfl|hc
  ·rw[hfree]at e;cases e
  ·rw[hfree]at hc;cases hc
 rcases hx with hk|hk
 ·refine wpAny_storeName_local hk hn (fun h' hn' hs=>?_) hcls
  obtain⟨oL,_,_,hoL,_⟩:=id hn;refine h _ ⟨I.ok,I.os,I.bare,⟨fun b o e n hb hx=>?_,fun b o e n hb hx=>?_,I.base.free,fun b o e hx=>?_,I.base.tups,I.base.frzs,I.base.tbls⟩,⟨_,hn',fun j y v' e1 e2 e3=>?_⟩,fun y c e=>?_,I.free,I.freeC,fun p hp=>?_,tracked ⟨oL,hoL,I.free⟩ hs,by simpa using I.len⟩ ⟨_,hs,.inl rfl⟩
  ·exact (hs.2 b (Nat.ne_of_lt (Nat.lt_of_lt_of_le (Heap.lt_size e) I.ok.above))).trans (I.base.keep b o e n hb hx)
  ·obtain⟨sl,e1⟩:=I.base.slot b o e n hb hx;exact⟨sl,(hs.2 b (Nat.ne_of_lt (Nat.lt_of_lt_of_le (Heap.lt_size e) I.ok.above))).trans e1⟩
  ·obtain⟨o',e1⟩:=I.base.there b o e hx;exact⟨o',(hs.2 b (Nat.ne_of_lt (Nat.lt_of_lt_of_le (Heap.lt_size e) I.ok.above))).trans e1⟩
  ·by_cases hj:j=i
   ·subst hj;rw[hi]at e1;cases e1;rw[List.getElem?_set_self hiσ]at e2;cases e2;exact⟨u,r,.inl ⟨hk,by simp⟩⟩
   ·rw[List.getElem?_set_ne (Ne.symm hj)]at e2;obtain⟨u',r',q⟩:=hl j y v' e1 e2 e3;refine⟨u',r',?_⟩;rcases q with ⟨k,e⟩|⟨k,c,e,z⟩
    ·refine .inl ⟨k,?_⟩;have:y≠x:=fun e=>hj (gL hN e1 (e▸hi))
     simp[this,e]
    ·exact .inr ⟨k,c,e,z.sameBut hs (cne y c e)⟩
  ·obtain⟨w',z⟩:=I.cell y c e;exact⟨w',z.sameBut hs (cne y c e)⟩
  ·obtain⟨e,n,ne,nf,d⟩:=I.pin p hp;exact⟨(hs.2 p.1 ne).trans e,n,ne,nf,d⟩
 ·have hfn:X.fn x=true:=by
   rcases hf with z|z
   ·exact z
   ·rw[z]at hk;cases hk
  obtain⟨c,hc⟩:=I.ok.has x (.inl hk);obtain⟨w',z⟩:=I.cell x c hc;refine wpAny_storeName_cell I.ok.kind hk hc z (fun h' hc' hs=>?_)
  obtain⟨oc,hoc,hocd⟩:=id z;refine h {s with heap:=h'} ⟨I.ok,I.os,I.bare,⟨fun b o e n hb hx=>?_,fun b o e n hb hx=>?_,I.base.free,fun b o e hx=>?_,I.base.tups,I.base.frzs,I.base.tbls⟩,⟨m,hn.sameBut hs (Ne.symm (cne x c hc)),fun j y v' e1 e2 e3=>?_⟩,fun y c' e=>?_,I.free,I.freeC,fun p hp=>?_,tracked ⟨oc,hoc,I.freeC x c hc⟩ hs,by simpa using I.len⟩ ⟨c,hs,.inr hc⟩
  ·exact (hs.2 b (Nat.ne_of_lt (Nat.lt_of_lt_of_le (Heap.lt_size e) (I.ok.cab x c hfn hc)))).trans (I.base.keep b o e n hb hx)
  ·obtain⟨sl,e1⟩:=I.base.slot b o e n hb hx;exact⟨sl,(hs.2 b (Nat.ne_of_lt (Nat.lt_of_lt_of_le (Heap.lt_size e) (I.ok.cab x c hfn hc)))).trans e1⟩
  ·obtain⟨o',e1⟩:=I.base.there b o e hx;exact⟨o',(hs.2 b (Nat.ne_of_lt (Nat.lt_of_lt_of_le (Heap.lt_size e) (I.ok.cab x c hfn hc)))).trans e1⟩
  ·by_cases hj:j=i
   ·subst hj;rw[hi]at e1;cases e1;rw[List.getElem?_set_self hiσ]at e2;cases e2;exact⟨u,r,.inr ⟨.inl hk,c,hc,hc'⟩⟩
   ·rw[List.getElem?_set_ne (Ne.symm hj)]at e2;obtain⟨u',r',q⟩:=hl j y v' e1 e2 e3;refine⟨u',r',?_⟩;rcases q with q|⟨k,c',e,z'⟩
    ·exact .inl q
    ·refine .inr ⟨k,c',e,z'.sameBut hs ?_⟩;rintro rfl;exact hj (gL hN e1 (I.ok.inj _ _ _ e hc▸hi))
  ·by_cases hcc:c'=c
   ·subst hcc;exact⟨_,hc'⟩
   ·obtain⟨w2,z2⟩:=I.cell y c' e;exact⟨w2,z2.sameBut hs hcc⟩
  ·obtain⟨e,n,ne,nf,d⟩:=I.pin p hp;refine⟨(hs.2 p.1 ?_).trans e,n,ne,nf,d⟩;intro q;rw[q,hoc]at e;have q':oc=p.2:=Option.some.inj e;exact d w' (by rw[<-q'];exact hocd)
theorem ic(I:Inv X pins σ H s)(hN:X.N.Nodup)(hi:X.N[i]?=some x)(hx:Loc X.env.scope x)(r:RelV v u)
  (h:∀s',Inv X pins (σ.set i (some v)) H s'->Q () s') (hf:X.fn x=true\/X.env.scope.names.lookup x=some .local:=by first|exact .inl rfl|exact .inr rfl|assumption):wpAny M A (storeName X.env x u) Q E s:=
 nE I hN hi hx r (fun s' I' _=>h s' I') hf
theorem Inv.call'{s':Shared}(I:Inv X pins σ H s)(ho:s'.os=s.os)(u:Un (frs X.stack) ch H H' s.heap s'.heap)(hok:HOk X.prog X.w H' s'.heap)(hg:AllBare s'.gens)
  (hch:∀b∈ch,(b∈X.ex\/X.s₀.heap.objs.size<=b)/\b≠X.env.locals/\(∀x c,X.env.cells.lookup x=some c->c≠b)/\∀p∈X.pn++pins,p.1≠b):Inv X pins σ H' s':=by
 obtain⟨h',g',d',t',o'⟩:=s';have e:o'=s.os:=ho;subst e;exact I.call (g':=g') (t':=t') (d':=d') u hok hg hch
end
noncomputable abbrev XK:=Value->Option Addr->Hp->Prop
noncomputable abbrev St:=List (Option V)
noncomputable abbrev VK:=V->Hp->Prop
noncomputable abbrev TE:=St->Hp->VK->Prop
noncomputable abbrev TT:=St->Hp->(Bool->Hp->Prop)->Prop
noncomputable abbrev TA:=St->Hp->(List V->Hp->Prop)->Prop
structure Ends where
 nx:St->Hp->Prop
 rt:VK
 bk:St->Hp->Prop:=fun _ _=>False
 ct:St->Hp->Prop:=fun _ _=>False
noncomputable abbrev TS:=Ends->St->Hp->Prop
noncomputable def EP(X:Cx)(pins:List (Addr×Obj))(σ:St)(Q:VK)(u:Value)(s':Shared):Prop:=∃v H',Inv X pins σ H' s'/\RelV v u/\Q v H'
noncomputable def TP(X:Cx)(pins:List (Addr×Obj))(σ:St)(Q:Bool->Hp->Prop)(b:Bool)(s':Shared):Prop:=∃H',Inv X pins σ H' s'/\Q b H'
noncomputable def AP(X:Cx)(pins:List (Addr×Obj))(σ:St)(Q:List V->Hp->Prop)(us:List Value)(s':Shared):Prop:=∃vs H',Inv X pins σ H' s'/\Vals vs us/\Q vs H'
noncomputable def SP(X:Cx)(pins:List (Addr×Obj))(D:Ends)(f:Flow)(s':Shared):Prop:=
 match f with
 |.next=>∃σ' H',Inv X pins σ' H' s'/\D.nx σ' H'
 |.brk=>∃σ' H',Inv X pins σ' H' s'/\D.bk σ' H'
 |.cont=>∃σ' H',Inv X pins σ' H' s'/\D.ct σ' H'
 |.ret u=>∃v σ' H',Inv X pins σ' H' s'/\RelV v u/\D.rt v H'
noncomputable def PE(X:Cx)(e:Expr)(t:TE):Prop:=
 ∀(pins:List (Addr×Obj)) (s:Shared)(σ:St)(H:Hp)(Q:VK),Inv X pins σ H s->t σ H Q->wpAny (model X.prog X.w) X.A (eval e X.env) (EP X pins σ Q) X.xe s
noncomputable def PT(X:Cx)(e:Expr)(t:TT):Prop:=
 ∀(pins:List (Addr×Obj)) (s:Shared)(σ:St)(H:Hp)(Q:Bool->Hp->Prop),Inv X pins σ H s->t σ H Q->wpAny (model X.prog X.w) X.A (isTrue e X.env (eval e X.env)) (TP X pins σ Q) X.xe s
noncomputable def PW(X:Cx)(e:Expr)(t:TT):Prop:=
 ∀(whole:Sem Value) (pins:List (Addr×Obj)) (s:Shared)(σ:St)(H:Hp)(Q:Bool->Hp->Prop),Inv X pins σ H s->t σ H Q->wpAny (model X.prog X.w) X.A (isTrue e X.env whole) (TP X pins σ Q) X.xe s
theorem PW.pt(h:PW X e t):PT X e t:=h _
noncomputable def PA(X:Cx)(es:List Expr)(t:TA):Prop:=
 ∀(pos:Pos) (pins:List (Addr×Obj)) (s:Shared)(σ:St)(H:Hp)(Q:List V->Hp->Prop),Inv X pins σ H s->t σ H Q->wpAny (model X.prog X.w) X.A (spliced (backTo pos (starEach es X.env))) (AP X pins σ Q) X.xe s
noncomputable def PS(X:Cx)(st:Stmt)(t:TS):Prop:=
 ∀(pins:List (Addr×Obj)) (s:Shared)(σ:St)(H:Hp)(D:Ends),Inv X pins σ H s->t D σ H->wpAny (model X.prog X.w) X.A (exec st X.env) (SP X pins D) X.xe s
noncomputable def PSs(X:Cx)(st:List Stmt)(t:TS):Prop:=
 ∀(pins:List (Addr×Obj)) (s:Shared)(σ:St)(H:Hp)(D:Ends),Inv X pins σ H s->t D σ H->wpAny (model X.prog X.w) X.A (execs st X.env) (SP X pins D) X.xe s
theorem thn{α:Type}{t:Sem α}{Q Q':α->Shared->Prop}{M:Model}{A:Around}{E:Value->Shared->Prop}{s:Shared}(h:wpAny M A t Q E s)(hQ:∀a s,Q a s->Q' a s):wpAny M A t Q' E s:=wpAny_mono h hQ fun _ _ x=>x
end L2
namespace L2
open PySem PySem.Spec PyProof.Rows
section
variable {X:Cx}
theorem bin{a b:Expr}{ta tb:TE}(ha:PE X a ta)(hb:PE X b tb){pins:List (Addr×Obj)}{s:Shared}{σ:St}{H:Hp}{R:V->V->Hp->Prop}(I:Inv X pins σ H s)(h:ta σ H fun x H1=>tb σ H1 fun y H2=>R x y H2)
  {α:Type}{Q:α->Shared->Prop}{f:Value->Value->Sem α}
  (hf:∀v u s2 x y H2,Inv X pins σ H2 s2->RelV x v->RelV y u->R x y H2->wpAny (model X.prog X.w) X.A (f v u) Q X.xe s2) :
  wpAny (model X.prog X.w) X.A (eval a X.env) (fun v s₁=>wpAny (model X.prog X.w) X.A (eval b X.env) (fun u s₂=>wpAny (model X.prog X.w) X.A (f v u) Q X.xe s₂) X.xe s₁) X.xe s:=by
 refine thn (ha pins s σ H _ I h) fun v s1 ⟨x,H1,I1,r1,q1⟩=>?_
 refine thn (hb pins s1 σ H1 _ I1 q1) fun u s2 ⟨y,H2,I2,r2,q2⟩=>?_
 exact hf v u s2 x y H2 I2 r1 r2 q2
noncomputable def ra(i:Nat):TE:=fun σ H Q=>∃v,σ[i]?=some (some v)/\Q v H
noncomputable def tC(v:V):TE:=fun _ H Q=>Q v H
theorem jr(hN:X.N[i]?=some x)(hv:Vis X.env.scope x)(hd:(x == ("__debug__" : Str))=false:=by decide)(hcd:(x == ("__classdict__" : Str))=false:=by decide):PE X (.Name x pos) (ra i):=by
 intro pins s σ H Q I h;obtain⟨v,e,h⟩:=h;obtain⟨m,hn,hl⟩:=I.loc;obtain⟨u,r,l⟩:=hl i x v hN e hv;have fin:EP X pins σ Q u s:=⟨v,H,I,r,h⟩;rcases l with ⟨hk,hm⟩|⟨hk,c,hc,hcell⟩
 ·exact wpAny_Name (wpAny_loadName_local I.ok.kind hk hn hm fin) hd
 ·rcases hk with hk|hk
  ·exact wpAny_Name (wpAny_loadName_cell I.ok.kind hk hc hcell fin) hd
  ·exact wpAny_Name (wpAny_loadName_free I.ok.kind hk hc hcell fin hcd) hd
theorem lI{i j pos}:PE X (.Constant (.int i) j pos) (tC (.int i)):=fun _ _ _ H _ I h=>wpAny_Constant_int ⟨.int i,H,I.tok _,⟨_,rfl⟩,h⟩
theorem yP{b j pos}:PE X (.Constant (.bool b) j pos) (tC (.bl b)):=fun _ _ _ H _ I h=>Constant_bool ⟨.bl b,H,I,rfl,h⟩
theorem wp{j pos}:PE X (.Constant .none j pos) (tC .non):=fun _ _ _ H _ I h=>Constant_none ⟨.non,H,I,rfl,h⟩
theorem pi{x j pos}:PE X (.Constant (.str x) j pos) (tC (.str x)):=fun _ _ _ H _ I h=>Calls.Constant_str ⟨.str x,H,I.tok _,⟨_,rfl⟩,h⟩
noncomputable def Gl(X:Cx)(x:Str):Prop:=X.env.kindOf x=some .globalImplicit
theorem bo(I:Inv X pins σ H s)(hg:Gl X x)(hm:X.mg x=some u)(h:Q u s)
  (hd:(x == ("__debug__" : Str))=false:=by decide):wpAny (model X.prog X.w) X.A (eval (.Name x pos) X.env) Q E s:=
 Calls.Name_function_global I.ok.kind hg (Calls.loadGlobal_global (by rw[I.ok.glob];exact I.mod.glob.keeps I.bk) hm h) hd
theorem cI(I:Inv X pins σ H s)(hg:Gl X x)(hm:X.mg x=none)(hv:bootBuiltins x=some u)(h:Q u s)
  (hn:x≠"__name__":=by decide) (hd:(x == ("__debug__" : Str))=false:=by decide):wpAny (model X.prog X.w) X.A (eval (.Name x pos) X.env) Q E s:=by
 obtain⟨mb,h1,h2⟩:=I.mod.blt;exact Calls.Name_function_global I.ok.kind hg (Calls.loadGlobal_builtin (by rw[I.ok.glob];exact I.mod.glob.keeps I.bk) hm (by rw[I.ok.blt];exact h1.keeps I.bk) ((h2 x hn).trans hv) h) hd
theorem rV(hg:Gl X x)(hm:X.mg x=some u)(r:RelV v u)(hd:(x == ("__debug__" : Str))=false:=by decide):PE X (.Name x pos) (tC v):=
 fun _ _ _ H _ I h=>bo I hg hm ⟨v,H,I,r,h⟩ hd
theorem tN(hg:Gl X x)(hm:X.mg x=none)(hv:bootBuiltins x=some u)(r:RelV v u)(hn:x≠"__name__":=by decide)(hd:(x == ("__debug__" : Str))=false:=by decide):PE X (.Name x pos) (tC v):=
 fun _ _ _ H _ I h=>cI I hg hm hv ⟨v,H,I,r,h⟩ hn hd
variable {a b:Expr}{ta tb:TE}{pos:Pos}
noncomputable def tB(t:TE):TT:=fun σ H Q=>t σ H fun x H1=>∃c,x=.bl c/\Q c H1
theorem wm{e:Expr}(h:PE X e t)(he:∀whole,isTrue e X.env whole=(do let v<-whole;standAt e.pos;holding [v] (truthy v)):=by intro _;rfl):PT X e (tB t):=by
 intro pins s σ H Q I hw;refine isTrue_plain (thn (h pins s σ H _ I hw) fun v s1 ⟨x,H1,I1,r1,q1⟩=>?_) (he _)
 obtain⟨d,rfl,q⟩:=q1;cases r1;exact wpAny_truthy_bool ⟨H1,I1,q⟩
variable {tA tB':TT}{rest:List Expr}
noncomputable def DD(t u:TT):TT:=fun σ H Q=>t σ H fun c H1=>if c=true then u σ H1 Q else Q false H1
noncomputable def tOr(t u:TT):TT:=fun σ H Q=>t σ H fun c H1=>if c=true then Q true H1 else u σ H1 Q
noncomputable def DF(t:TT):TT:=fun σ H Q=>t σ H fun c H1=>Q (!c) H1
theorem rh(ha:PT X a tA):PW X (.BoolOp .And [a] pos) tA:=by
 intro wh pins s σ H Q I h;refine isTrue_and (thn (ha pins s σ H Q I h) fun c s1 e=>?_)
 cases c with
 |true=>exact isTrue_and_nil e
 |false=>exact e
theorem wV(ha:PT X a tA):PW X (.BoolOp .Or [a] pos) tA:=by
 intro wh pins s σ H Q I h;refine isTrue_or (thn (ha pins s σ H Q I h) fun c s1 e=>?_)
 cases c with
 |false=>exact isTrue_or_nil e
 |true=>exact e
theorem uC(ha:PT X a tA)(hb:PW X (.BoolOp .And (b::rest) pos) tB'):PW X (.BoolOp .And (a::b::rest) pos) (DD tA tB'):=by
 intro wh pins s σ H Q I h;refine isTrue_and (thn (ha pins s σ H _ I h) fun c s1 ⟨H1,I1,q1⟩=>?_)
 cases c with
 |true=>exact hb wh pins s1 σ H1 Q I1 q1
 |false=>exact⟨H1,I1,q1⟩
theorem yR(ha:PT X a tA)(hb:PW X (.BoolOp .Or (b::rest) pos) tB'):PW X (.BoolOp .Or (a::b::rest) pos) (tOr tA tB'):=by
 intro wh pins s σ H Q I h;refine isTrue_or (thn (ha pins s σ H _ I h) fun c s1 ⟨H1,I1,q1⟩=>?_)
 cases c with
 |true=>exact⟨H1,I1,q1⟩
 |false=>exact hb wh pins s1 σ H1 Q I1 q1
theorem xJ(ha:PT X a tA):PT X (.UnaryOp .Not a pos) (DF tA):=by
 intro pins s σ H Q I h;exact isTrue_not (ha pins s σ H (fun c H1=>Q (!c) H1) I h)
noncomputable def z8(ta tb:TE):TE:=fun σ H Q=>ta σ H fun x H1=>∃c,x=.bl c/\if c=true then tb σ H1 Q else Q (.bl false) H1
noncomputable def Dm(ta tb:TE):TE:=fun σ H Q=>ta σ H fun x H1=>∃c,x=.bl c/\if c=true then Q (.bl true) H1 else tb σ H1 Q
noncomputable def zH(ta:TE):TE:=fun σ H Q=>ta σ H fun x H1=>∃c,x=.bl c/\Q (.bl (!c)) H1
theorem uv{op}(h:PE X a t):PE X (.BoolOp op [a] pos) t:=fun pins s σ H Q I hw=>BoolOp_one (h pins s σ H Q I hw)
theorem v6(ha:PE X a ta)(hb:PE X (.BoolOp .And (b::rest) pos) tb):PE X (.BoolOp .And (a::b::rest) pos) (z8 ta tb):=by
 intro pins s σ H Q I h;refine BoolOp_and (thn (ha pins s σ H _ I h) fun v s1 ⟨x,H1,I1,r1,q1⟩=>?_)
 obtain⟨c,rfl,q1⟩:=q1;cases r1;refine wpAny_truthy_bool ?_;cases c with
 |true=>exact hb pins s1 σ H1 Q I1 q1
 |false=>exact⟨.bl false,H1,I1,rfl,q1⟩
theorem AA(ha:PE X a ta)(hb:PE X (.BoolOp .Or (b::rest) pos) tb):PE X (.BoolOp .Or (a::b::rest) pos) (Dm ta tb):=by
 intro pins s σ H Q I h;refine BoolOp_or (thn (ha pins s σ H _ I h) fun v s1 ⟨x,H1,I1,r1,q1⟩=>?_)
 obtain⟨c,rfl,q1⟩:=q1;cases r1;refine wpAny_truthy_bool ?_;cases c with
 |false=>exact hb pins s1 σ H1 Q I1 q1
 |true=>exact⟨.bl true,H1,I1,rfl,q1⟩
theorem xK(ha:PE X a ta):PE X (.UnaryOp .Not a pos) (zH ta):=by
 intro pins s σ H Q I h;refine UnaryOp_ (thn (ha pins s σ H _ I h) fun v s1 ⟨x,H1,I1,r1,q1⟩=>?_)
 obtain⟨c,rfl,q1⟩:=q1;cases r1;exact not_of (wpAny_truthy_bool ⟨.bl (!c),H1,I1,rfl,q1⟩)
noncomputable def tIf(t:TT)(ta tb:TE):TE:=fun σ H Q=>t σ H fun c H1=>if c=true then ta σ H1 Q else tb σ H1 Q
theorem pO(hc:PT X c tA)(ha:PE X a ta)(hb:PE X b tb):PE X (.IfExp c a b pos) (tIf tA ta tb):=by
 intro pins s σ H Q I h;refine wpAny_IfExp (thn (hc pins s σ H _ I h) fun d s1 ⟨H1,I1,q1⟩=>?_)
 cases d with
 |true=>exact ha pins s1 σ H1 Q I1 q1
 |false=>exact hb pins s1 σ H1 Q I1 q1
end
end L2
namespace L2
open PySem PySem.Spec PyProof.Rows
noncomputable def SqL(K:PySem.W.Frag)(H:Hp)(a:Addr)(xs:List V):Prop:=
 Rd H a (.lst xs)\/
  ∃(o:Obj) (its:Array Value) (n:Nat),K.lookup a=some o/\o.cls=.type "list"/\o.dict=none/\o.data=.seq its n/\its.size<=sizeLine/\Vals xs its.toList
noncomputable def SqT(K:PySem.W.Frag)(H:Hp)(a:Addr)(xs:List V):Prop:=
 Rd H a (.tup xs)\/
  ∃(o:Obj) (its:Array Value) (n:Nat),K.lookup a=some o/\o.cls=.type "tuple"/\o.data=.seq its n/\its.size<=sizeLine/\Vals xs its.toList
noncomputable def B7:Value->Option V
 |.none=>some .non
 |.bool b=>some (.bl b)
 |.int i _=>some (.int i)
 |.str x _=>some (.str x)
 |.bytes b _=>some (.byt b)
 |.float b _=>some (.flt b)
 |.ref a=>some (.ref a)
 |.type n=>some (.ty n)
 |_=>none
theorem RelV.abs(r:RelV x u):B7 u=some x:=by
 cases x with
 |non=>cases r;rfl
 |bl _=>cases r;rfl
 |int _=>obtain⟨t,rfl⟩:=r;rfl
 |str _=>obtain⟨t,rfl⟩:=r;rfl
 |byt _=>obtain⟨t,rfl⟩:=r;rfl
 |flt _=>obtain⟨t,rfl⟩:=r;rfl
 |ref _=>cases r;rfl
 |ty _=>cases r;rfl
theorem RelV.inj(r:RelV x u)(q:RelV y u):x=y:=Option.some.inj (r.abs.symm.trans q.abs)
theorem Vals.inj:∀{xs ys:List V}{us:List Value},Vals xs us->Vals ys us->xs=ys
 |_,_,_,.nil,.nil=>rfl
 |_,_,_,.cons r t,.cons r' t'=>by rw[r.inj r',Vals.inj t t']
section
variable {X:Cx}{s:Shared}{a:Addr}{xs ys:List V}
theorem SqL.of{K:PySem.W.Frag}(h:H a=some (.lst xs)):SqL K H a xs:=.inl (.inl h)
theorem SqT.of{K:PySem.W.Frag}(h:H a=some (.tup xs)):SqT K H a xs:=.inl (.inl h)
theorem Inv.list(I:Inv X pins σ H s)(h:SqL X.K H a xs):∃its:List Value,Vals xs its/\PlainL s.heap a its.toArray/\xs.length<=sizeLine:=by
 rcases h with h|⟨o,its,n,hk,hc,hd,hs,hz,r⟩
 ·obtain⟨z,its,n,r,e⟩:=h.ok I.hok;exact⟨its,r,⟨_,n,e,rfl,rfl,rfl⟩,z⟩
 ·refine⟨its.toList,r,⟨o,n,I.kIn a o hk,hc,hd,by simpa using hs⟩,?_⟩
  have e:=r.length;simp only[Array.length_toList]at e;omega
theorem Inv.tuple(I:Inv X pins σ H s)(h:SqT X.K H a xs):∃its:List Value,Vals xs its/\IsTup s.heap a its.toArray/\xs.length<=sizeLine:=by
 rcases h with h|⟨o,its,n,hk,hc,hs,hz,r⟩
 ·obtain⟨z,its,r,p⟩:=h.ok I.hok;exact⟨its,r,p,z⟩
 ·refine⟨its.toList,r,⟨o,I.kIn a o hk,hc,n,by simpa using hs⟩,?_⟩
  have e:=r.length;simp only[Array.length_toList]at e;omega
theorem Inv.list_inj(I:Inv X pins σ H s)(h:SqL X.K H a xs)(h':SqL X.K H a ys):xs=ys:=by
 obtain⟨its,r,⟨o,n,e,_,_,d⟩,_⟩:=I.list h;obtain⟨its',r',⟨o',n',e',_,_,d'⟩,_⟩:=I.list h';rw[e]at e';cases e';rw[d]at d';injection d' with d1 _
 have:its=its':=by simpa using congrArg Array.toList d1
 subst this;exact r.inj r'
theorem Inv.tuple_inj(I:Inv X pins σ H s)(h:SqT X.K H a xs)(h':SqT X.K H a ys):xs=ys:=by
 obtain⟨its,r,⟨o,e,_,n,d⟩,_⟩:=I.tuple h;obtain⟨its',r',⟨o',e',_,n',d'⟩,_⟩:=I.tuple h';rw[e]at e';cases e';rw[d]at d';injection d' with d1 _
 have:its=its':=by simpa using congrArg Array.toList d1
 subst this;exact r.inj r'
end
noncomputable abbrev Cx.wish(X:Cx)(E:Value->Shared->Prop):Cx:={X with xe:=E}
noncomputable abbrev Cx.nox(X:Cx):Cx:=X.wish fun _ _=>False
theorem Cx.Ok.wish{X:Cx}(ok:X.Ok)(E:Value->Shared->Prop):(X.wish E).Ok:=
 ⟨ok.mod,ok.kind,ok.glob,ok.blt,ok.above,ok.inj,ok.has,ok.cab,ok.hd,ok.frames,ok.stk,ok.exf,ok.bs,ok.bsz,ok.noex,ok.exfs,ok.funs,ok.frf⟩
theorem Cx.Ok.unwish{X:Cx}(ok:(X.wish E).Ok):X.Ok:=
 ⟨ok.mod,ok.kind,ok.glob,ok.blt,ok.above,ok.inj,ok.has,ok.cab,ok.hd,ok.frames,ok.stk,ok.exf,ok.bs,ok.bsz,ok.noex,ok.exfs,ok.funs,ok.frf⟩
section
variable {X:Cx}{s:Shared}
theorem Inv.wish(I:Inv X pins σ H s)(E:Value->Shared->Prop):Inv (X.wish E) pins σ H s:=⟨I.ok.wish E,I.os,I.bare,I.base,I.loc,I.cell,I.free,I.freeC,I.pin,I.hok,I.len⟩
theorem Inv.unwish(I:Inv (X.wish E) pins σ H s):Inv X pins σ H s:=⟨I.ok.unwish,I.os,I.bare,I.base,I.loc,I.cell,I.free,I.freeC,I.pin,I.hok,I.len⟩
theorem SP.unwish{D:Ends}(h:SP (X.wish E) pins D f s'):SP X pins D f s':=by
 cases f with
 |next=>obtain⟨σ',H',I,q⟩:=h;exact⟨σ',H',I.unwish,q⟩
 |brk=>obtain⟨σ',H',I,q⟩:=h;exact⟨σ',H',I.unwish,q⟩
 |cont=>obtain⟨σ',H',I,q⟩:=h;exact⟨σ',H',I.unwish,q⟩
 |ret u=>obtain⟨v,σ',H',I,r,q⟩:=h;exact⟨v,σ',H',I.unwish,r,q⟩
theorem PE.nox(h:PE X.nox e t):PE X e t:=fun pins s σ H Q I hw=>
 wpAny_mono (h pins s σ H Q (I.wish _) hw) (fun _ _ ⟨v,H',I',r,q⟩=>⟨v,H',I'.unwish,r,q⟩) fun _ _ z=>False.elim z
theorem PT.nox(h:PT X.nox e t):PT X e t:=fun pins s σ H Q I hw=>
 wpAny_mono (h pins s σ H Q (I.wish _) hw) (fun _ _ ⟨H',I',q⟩=>⟨H',I'.unwish,q⟩) fun _ _ z=>False.elim z
theorem PSs.nox{st:List Stmt}(h:PSs X.nox st t):PSs X st t:=fun pins s σ H D I hw=>
 wpAny_mono (h pins s σ H D (I.wish _) hw) (fun _ _ q=>q.unwish) fun _ _ z=>False.elim z
end
section
variable {X:Cx}{st:Stmt}{rest:List Stmt}{t u:TS}{e:Expr}{te:TE}{pos:Pos}
noncomputable def tNext:TS:=fun D σ H=>D.nx σ H
noncomputable def Dk(t u:TS):TS:=fun D σ H=>t {D with nx:=u D} σ H
theorem pss_nil:PSs X [] tNext:=fun _ _ σ H _ I h=>wpAny_execs_nil ⟨σ,H,I,h⟩
theorem kf(h1:PS X st t)(h2:PSs X rest u):PSs X (st::rest) (Dk t u):=by
 intro pins s σ H D I h;refine wpAny_execs_cons (thn (h1 pins s σ H {D with nx:=u D} I h) fun f s1 q=>?_)
 cases f with
 |next=>
  obtain⟨σ',H',I',q⟩:=q;exact h2 pins s1 σ' H' D I' q
 |ret v=>exact q
 |brk=>exact q
 |cont=>exact q
theorem sh(h1:PS X st t):PSs X [st] t:=by
 intro pins s σ H D I h;refine wpAny_execs_cons (thn (h1 pins s σ H D I h) fun f s1 q=>?_)
 cases f with
 |next=>exact wpAny_execs_nil q
 |ret v=>exact q
 |brk=>exact q
 |cont=>exact q
theorem Inv.quiet(I:Inv X pins σ H s):interactive X.env=false:=by simp[interactive,I.ok.kind]
noncomputable def zT(te:TE):TS:=fun D σ H=>te σ H fun _ H1=>D.nx σ H1
theorem jJ(he:PE X e te)(hs:swapsWith e none pos.line X.env=pure false:=by rfl):PS X (.Expr e pos) (zT te):=by
 intro pins s σ H D I h;exact wpAny_Expr_any (thn (he pins s σ H _ I h) fun v s1 ⟨x,H1,I1,r1,q1⟩=>⟨σ,H1,I1,q1⟩) I.quiet hs
noncomputable def Do(te:TE):TS:=fun D σ H=>te σ H D.rt
theorem uW(he:PE X e te):PS X (.Return (some e) pos) (Do te):=by
 intro pins s σ H D I h;exact wpAny_Return_some (thn (he pins s σ H _ I h) fun v s1 ⟨x,H1,I1,r1,q1⟩=>⟨x,σ,H1,I1,r1,q1⟩)
noncomputable def tRetN:TS:=fun D _ H=>D.rt .non H
theorem ps_retN:PS X (.Return none pos) tRetN:=fun _ _ σ H _ I h=>wpAny_Return_none ⟨.non,σ,H,I,rfl,h⟩
noncomputable def Dn(c:TT)(t u:TS):TS:=fun D σ H=>c σ H fun b H1=>if b=true then t D σ H1 else u D σ H1
theorem zy(hc:PT X c tc)(ha:PSs X a t)(hb:PSs X b u):PS X (.If c a b pos) (Dn tc t u):=by
 intro pins s σ H D I h;refine wpAny_If (thn (hc pins s σ H _ I h) fun d s1 ⟨H1,I1,q1⟩=>?_)
 cases d with
 |true=>exact ha pins s1 σ H1 D I1 q1
 |false=>exact hb pins s1 σ H1 D I1 q1
end
noncomputable abbrev TG:=V->St->Hp->(St->Hp->Prop)->Prop
noncomputable abbrev TGs:=List V->St->Hp->(St->Hp->Prop)->Prop
noncomputable def PG(X:Cx)(target:Expr)(t:TG):Prop:=
 ∀(pins:List (Addr×Obj)) (s:Shared)(σ:St)(H:Hp)(v:V)(u:Value)(Q:St->Hp->Prop),Inv X pins σ H s->RelV v u->t v σ H Q->
  wpAny (model X.prog X.w) X.A (assign target X.env u) (fun _ s'=>∃σ' H',Inv X pins σ' H' s'/\Q σ' H') X.xe s
noncomputable def PGs(X:Cx)(ts:List Expr)(t:TGs):Prop:=
 ∀(pins:List (Addr×Obj)) (s:Shared)(σ:St)(H:Hp)(vs:List V)(us:List Value)(Q:St->Hp->Prop),Inv X pins σ H s->Vals vs us->t vs σ H Q->
  wpAny (model X.prog X.w) X.A (assignInOrder ((assignEach ts X.env).map (·.2)) us) (fun _ s'=>∃σ' H',Inv X pins σ' H' s'/\Q σ' H') X.xe s
noncomputable abbrev TSet:=V->V->V->Hp->(Hp->Prop)->Prop
noncomputable def wE(X:Cx)(t:TSet):Prop:=
 ∀(pins:List (Addr×Obj)) (s:Shared)(σ:St)(H:Hp)(o i v:V)(ov iv u:Value)(Q:Hp->Prop),Inv X pins σ H s->RelV o ov->RelV i iv->RelV v u->t o i v H Q->
  wpAny (model X.prog X.w) X.A (setItem ov iv u) (fun _ s'=>∃H',Inv X pins σ H' s'/\Q H') X.xe s
section
variable {X:Cx}{pos:Pos}
noncomputable def my(i:Nat):TG:=fun v σ H Q=>Q (σ.set i (some v)) H
theorem gp(hN:X.N.Nodup)(hi:X.N[i]?=some x)(hx:Loc X.env.scope x)(hf:X.fn x=true\/X.env.scope.names.lookup x=some .local:=by first|exact .inl rfl|exact .inr rfl|assumption):PG X (.Name x pos) (my i):=by
 intro pins s σ H v u Q I r h;exact wpAny_assign_Name (ic I hN hi hx r (fun s' I'=>⟨_,H,I',h⟩) hf)
noncomputable def gNil:TGs:=fun vs σ H Q=>vs=[]/\Q σ H
noncomputable def zW(t:TG)(u:TGs):TGs:=fun vs σ H Q=>∃v r,vs=v::r/\t v σ H fun σ' H'=>u r σ' H' Q
theorem re:PGs X [] gNil:=by
 intro pins s σ H vs us Q I r h;obtain⟨e,h⟩:=h;subst e;cases r;exact assignInOrder_nil ⟨σ,H,I,h⟩
theorem pX(h1:PG X e t)(h2:PGs X es u)
  (hs:(assignEach (e::es) X.env).map (·.2)=assign e X.env::(assignEach es X.env).map (·.2):=by rfl):PGs X (e::es) (zW t u):=by
 intro pins s σ H vs us Q I r h;obtain⟨v,vr,e1,h⟩:=h;subst e1;cases r with
 |cons r rr=>
  rw[hs];refine assignInOrder_cons (thn (h1 pins s σ H _ _ _ I r h) fun _ s1 ⟨σ1,H1,I1,q1⟩=>?_)
  exact h2 pins s1 σ1 H1 _ _ Q I1 rr q1
noncomputable def Cz(K:PySem.W.Frag)(n:Nat)(t:TGs):TG:=fun v σ H Q=>∃a xs,v=.ref a/\SqT K H a xs/\xs.length=n/\t xs σ H Q
theorem wb(hc:X.calm=true)(h:PGs X es t)
  (hn:(assignEach es X.env).length=n:=by rfl) (hst:(assignEach es X.env).findIdx? (·.1)=none:=by rfl):PG X (.Tuple es k pos) (Cz X.K n t):=by
 intro pins s σ H v u Q I r hw;obtain⟨a,xs,e1,hq,hl,hw⟩:=hw;subst e1;cases r;obtain⟨its,rv,ht,hz⟩:=I.tuple hq;refine assign_Tuple_tuple (I.ok.hd hc) ht (by simp[hn,<-hl,rv.length]) hst fun h' hx=>?_
 have I1:Inv X pins σ H {s with heap:=h'}:=I.kept (t':=s.toks) fun b o e=>hx b o (Nat.ne_of_lt (Heap.lt_size e)) e
 exact h pins _ σ H xs _ Q I1 (by simpa using rv) hw
noncomputable def Cd(to ti:TE)(t:TSet):TG:=fun v σ H Q=>to σ H fun o H1=>ti σ H1 fun i H2=>t o i v H2 fun H3=>Q σ H3
theorem vA(ho:PE X o to)(hi:PE X i ti)(hs:wE X t)
  (ha:∀v,assign (.Subscript o i pos) X.env v=(do
   let ov<-holding [v] (eval o X.env)
   let iv<-holding [v,ov] (eval i X.env)
   standAt pos
   holding [v,ov,iv] (setItem ov iv v)
   release [v,ov,iv] []):=by intro _;rfl):PG X (.Subscript o i pos) (Cd to ti t):=by
 intro pins s σ H v u Q I r h;rw[ha];refine wpAny_bind (wpAny_holding (thn (ho pins s σ H _ I h) fun ov s1 ⟨x,H1,I1,r1,q1⟩=>?_))
 refine wpAny_bind (wpAny_holding (thn (hi pins s1 σ H1 _ I1 q1) fun iv s2 ⟨y,H2,I2,r2,q2⟩=>?_))
 refine wpAny_bind (wpAny_standAt (wpAny_bind (wpAny_holding (thn (hs pins s2 σ H2 x y v ov iv u _ I2 r1 r2 r q2) fun _ s3 ⟨H3,I3,q3⟩=>?_))))
 exact wpAny_release ⟨σ,H3,I3,q3⟩
noncomputable def uZ(te:TE)(g:TG):TS:=fun D σ H=>te σ H fun x H1=>g x σ H1 D.nx
theorem u0(he:PE X e te)(hg:PG X tg g)(hs:swapsWithSole [tg] e pos.line X.env=pure false:=by rfl)(hw:swappedStores [tg] e X.env=pure none:=by rfl)
  (h1:(assignEach [tg] X.env).map (·.2)=[assign tg X.env]:=by rfl):PS X (.Assign [tg] e pos) (uZ te g):=by
 intro pins s σ H D I h;refine wpAny_Assign_stores (thn (he pins s σ H _ I h) fun v s1 ⟨x,H1,I1,r1,q1⟩=>?_) hs hw
 rw[h1];exact thn (hg pins s1 σ H1 x v _ I1 r1 q1) fun _ s2 q=>q
theorem uy(hN:X.N.Nodup)(hi:X.N[i]?=some x)(hx:Loc X.env.scope x)(he:PE X e te)(hs:swapsWith e (some (.Name x pos')) pos.line X.env=pure false:=by rfl)(hf:X.fn x=true\/X.env.scope.names.lookup x=some .local:=by first|exact .inl rfl|exact .inr rfl|assumption) :
  PS X (.Assign [.Name x pos'] e pos) (uZ te (my i)):=by
 intro pins s σ H D I h;refine wpAny_Assign_Name (thn (he pins s σ H _ I h) fun v s1 ⟨y,H1,I1,r1,q1⟩=>?_) hs
 exact ic I1 hN hi hx r1 (fun s2 I2=>⟨_,H1,I2,q1⟩) hf
end
section
variable {X:Cx}{pos:Pos}
noncomputable def v9(c:TT)(tb:TS):TS:=fun D σ H=>∃W:Nat->St->Hp->Prop,(∃m,W m σ H)/\∀m σ H,W m σ H->
 c σ H fun b H1=>if b=true then ∃N:St->Hp->Prop,(∀σ' H',N σ' H'->∃m',m' < m/\W m' σ' H')/\tb {D with nx:=N,ct:=N,bk:=D.nx} σ H1 else D.nx σ H1
theorem oY(hp:PassesOwn (model X.prog X.w) X.A X.env X.xe)(hc:PT X c tc)(hb:PSs X body tb):PS X (.While c body [] pos) (v9 tc tb):=by
 intro pins s σ H D I h;obtain⟨W,⟨m0,w0⟩,iE⟩:=h;refine wpAny_While (codeAny_whileLoop (fun n s'=>∃σ' H',Inv X pins σ' H' s'/\W n σ' H') ?_ m0 ⟨σ,H,I,w0⟩)
 rintro n s1 ⟨σ1,H1,I1,w1⟩;refine wpAny_passesOwn hp (thn (hc pins s1 σ1 H1 _ I1 (iE n σ1 H1 w1)) fun b s2 ⟨H2,I2,q2⟩=>?_)
 cases b with
 |true=>
  obtain⟨N,hN,q2⟩:=q2;rw[if_pos rfl];refine wpAny_passesOwn hp (thn (hb pins s2 σ1 H2 _ I2 q2) fun f s3 q3=>?_)
  cases f with
  |next=>
   obtain⟨σ3,H3,I3,n3⟩:=q3;obtain⟨m',hm,w3⟩:=hN σ3 H3 n3;exact⟨m',hm,σ3,H3,I3,w3⟩
  |cont=>
   obtain⟨σ3,H3,I3,n3⟩:=q3;obtain⟨m',hm,w3⟩:=hN σ3 H3 n3;exact⟨m',hm,σ3,H3,I3,w3⟩
  |brk=>exact q3
  |ret v=>exact q3
 |false=>
  rw[if_neg Bool.false_ne_true];exact wpAny_execs_nil ⟨σ1,H2,I2,q2⟩
end
structure It where
 go:Nat->Hp->Prop
 yld:Nat->Hp->V->Hp->Prop
 stop:Nat->Hp->Prop
noncomputable def jP(X:Cx)(pins:List (Addr×Obj))(H:Hp)(b:Addr):Prop:=
 H b=none/\b≠X.env.locals/\b∉X.fs/\(b∈X.ex\/X.s₀.heap.objs.size<=b)/\(∀x c,X.env.cells.lookup x=some c->c≠b)/\∀p∈X.pn++pins,p.1≠b
theorem Inv.fpOk{s:Shared}(I:Inv X pins σ H s)(hb:s.heap.objs.size<=b)(hn:H' b=none):jP X pins H' b:=by
 refine⟨hn,Nat.ne_of_gt (Nat.lt_of_lt_of_le I.lt hb),I.nofs hb,.inr (Nat.le_trans I.sz hb),fun x c e z=>?_,fun p hp z=>?_⟩
 ·obtain⟨v,q⟩:=I.cell x c e;exact absurd (Nat.lt_of_lt_of_le q.lt (by rw[z];exact hb)) (Nat.lt_irrefl _)
 ·exact absurd (Nat.lt_of_lt_of_le (Heap.lt_size (I.pin p hp).1) (by rw[z];exact hb)) (Nat.lt_irrefl _)
structure Turn (P:Program)(w:World)(K:PySem.W.Frag)(tg:Expr)(J:It)(fp:List Addr)(it:Addr)(tn:Nat->Heap->Prop):Prop where
 mem:it∈fp
 obj:∀i h,tn i h->∀b∈fp,∃o,h.get? b=some o/\∀v,o.data≠.cell v
 keep:∀i h h',tn i h->(∀b∈fp,∀o,h.get? b=some o->h'.get? b=some o)->tn i h'
 item:∀(X:Cx),X.prog=P->X.w=w->X.K=K->X.calm=true->∀(i:Nat) (pins:List (Addr×Obj)) (s:Shared)(σ:St)(H:Hp)(E:Value->Shared->Prop),Inv X pins σ H s->(∀b∈fp,jP X pins H b)->tn i s.heap->J.go i H->
  wpAny (model P w) X.A (pyNext (.ref it)) (fun r s1=>∃u,r=some u/\
   wpAny (model P w) X.A (letOwnedTupleGo tg (.ref it) u) (fun _ s2=>∃x H',Inv X pins σ H' s2/\RelV x u/\J.yld i H x H'/\tn (i+1) s2.heap/\∀b∈fp,H' b=none) E s1) E s
 done:∀(X:Cx),X.prog=P->X.w=w->X.K=K->X.calm=true->∀(i:Nat) (pins:List (Addr×Obj)) (s:Shared)(σ:St)(H:Hp)(E:Value->Shared->Prop),Inv X pins σ H s->(∀b∈fp,jP X pins H b)->tn i s.heap->J.stop i H->
  wpAny (model P w) X.A (pyNext (.ref it)) (fun r s1=>r=none/\Inv X pins σ H s1) E s
 self:∀(A:Around)(i:Nat)(s:Shared)(Q:Value->Shared->Prop)(E:Value->Shared->Prop),tn i s.heap->Q (.ref it) s->wpAny (model P w) A (pyIter (.ref it)) Q E s
noncomputable abbrev TI:=St->Hp->(It->Hp->Prop)->Prop
noncomputable def PIE(X:Cx)(pins:List (Addr×Obj))(σ:St)(tg:Expr)(R:It->Hp->Prop)(itv:Value)(s2:Shared):Prop:=
 ∃(it:Addr)(fp:List Addr)(tn:Nat->Heap->Prop)(J:It)(H':Hp),itv=.ref it/\Inv X pins σ H' s2/\Turn X.prog X.w X.K tg J fp it tn/\tn 0 s2.heap/\(∀b∈fp,jP X pins H' b)/\R J H'
noncomputable def PI(X:Cx)(tg iter:Expr)(wi:TI):Prop:=
 ∀(pins:List (Addr×Obj)) (s:Shared)(σ:St)(H:Hp)(R:It->Hp->Prop),Inv X pins σ H s->wi σ H R->
  wpAny (model X.prog X.w) X.A (eval iter X.env) (fun v s1=>wpAny (model X.prog X.w) X.A (pyIter v) (PIE X pins σ tg R) X.xe s1) X.xe s
theorem m9 {s : Shared} {o : Obj} (ho : s.heap.get? it = some o) (hc : o.cls = .type n) (hd : o.data = .fields vs)
    (hn : ["enumerate", "zip", "dict_itemiterator", "dict_reverseitemiterator", "odict_iterator", "itertools.zip_longest", "itertools.pairwise"].contains n = false) (hQ : Q () s) : wpAny M A (letOwnedTupleGo tg (.ref it) u) Q E s := by
  unfold letOwnedTupleGo;cases tg <;> first
    | exact wpAny_pure hQ
    | (cases u <;> first
        | exact wpAny_pure hQ
        | (refine wpAny_bind (wpAny_load ho ?_)
           rw [hc, hd];show wpAny M A (if (["enumerate", "zip", "dict_itemiterator", "dict_reverseitemiterator", "odict_iterator", "itertools.zip_longest", "itertools.pairwise"].contains n && vs[0]? == some (rawInt _)) = true then _ else _) Q E s
           rw [if_neg (by intro h; rw [hn, Bool.false_and] at h; cases h)]
           exact wpAny_pure hQ))
noncomputable def Itl(K:PySem.W.Frag)(a:Addr):It:=
 ⟨fun i H=>∃xs x,SqL K H a xs/\xs[i]?=some x,fun i H x H'=>H'=H/\∀xs,SqL K H a xs->xs[i]?=some x,fun i H=>∃xs,SqL K H a xs/\xs.length<=i⟩
noncomputable def Itt(K:PySem.W.Frag)(a:Addr):It:=
 ⟨fun i H=>∃xs x,SqT K H a xs/\xs[i]?=some x,fun i H x H'=>H'=H/\∀xs,SqT K H a xs->xs[i]?=some x,fun i H=>∃xs,SqT K H a xs/\xs.length<=i⟩
noncomputable def Itr(lo:Int)(n:Nat):It:=⟨fun i _=>i < n,fun i H x H'=>H'=H/\x=.int (lo+i),fun i _=>n<=i⟩
theorem nZ{K:PySem.W.Frag}(a it:Addr):Turn P w K tg (Itl K a) [it] it (fun i h=>h.IsListIter it a i) where
 mem:=by simp
 obj:=fun i h st b hb=>by
  have e:b=it:=by simpa using hb
  subst e;obtain⟨o,e,c,d⟩:=st;exact⟨o,e,fun v z=>by rw[d]at z;cases z⟩
 keep:=fun i h h' st k=>st.at fun o e=>k it (by simp) o e
 item:=by
  intro X hP hw hK hc i pins s σ H E I hf st hg;subst hP hw hK;obtain⟨xs,x,hq,hx⟩:=hg;obtain⟨its,rv,p,hz⟩:=I.list hq;obtain⟨u,hu,ru⟩:=rv.get hx;obtain⟨f0,f1,f2,f3,f4,f5⟩:=hf it (by simp)
  refine wpAny_pyNext_list_item st p.isList (x:=u) (by simpa using hu) fun h' st' sb=>?_
  have I1:Inv X pins σ H {s with heap:=h'}:=I.turned (t':=s.toks) (fun b o hb e=>(sb.2 b hb).trans e) f0 f1 f3 f4 f5
  obtain⟨o,e,c,d⟩:=id st';exact⟨u,rfl,m9 (s:={s with heap:=h'}) e c d (by decide) ⟨x,H,I1,ru,⟨rfl,fun ys hy=>by rw[I.list_inj hy hq];exact hx⟩,st',fun b hb=>(hf b hb).1⟩⟩
 done:=by
  intro X hP hw hK hc i pins s σ H E I hf st hg;subst hP hw hK;obtain⟨xs,hq,hx⟩:=hg;obtain⟨its,rv,p,hz⟩:=I.list hq;obtain⟨f0,f1,f2,f3,f4,f5⟩:=hf it (by simp)
  have hl:=rv.length;exact wpAny_pyNext_list_end (I.ok.hd hc) st p.isList (by simp;omega) fun h' eb=>⟨rfl,I.turned (t':=s.toks) (fun b o hb e=>eb b o hb e) f0 f1 f3 f4 f5⟩
 self:=fun _ _ _ _ _ st h=>wpAny_pyIter_listiter st h
theorem lQ{K:PySem.W.Frag}(a it:Addr):Turn P w K tg (Itt K a) [it] it (fun i h=>h.IsTupleIter it a i) where
 mem:=by simp
 obj:=fun i h st b hb=>by
  have e:b=it:=by simpa using hb
  subst e;obtain⟨o,e,c,d⟩:=st;exact⟨o,e,fun v z=>by rw[d]at z;cases z⟩
 keep:=fun i h h' st k=>st.at fun o e=>k it (by simp) o e
 item:=by
  intro X hP hw hK hc i pins s σ H E I hf st hg;subst hP hw hK;obtain⟨xs,x,hq,hx⟩:=hg;obtain⟨its,rv,p,hz⟩:=I.tuple hq;obtain⟨u,hu,ru⟩:=rv.get hx;obtain⟨f0,f1,f2,f3,f4,f5⟩:=hf it (by simp)
  refine wpAny_pyNext_tuple_item st (show s.heap.IsTuple a its.toArray from p) (x:=u) (by simpa using hu) fun h' st' sb=>?_
  have I1:Inv X pins σ H {s with heap:=h'}:=I.turned (t':=s.toks) (fun b o hb e=>(sb.2 b hb).trans e) f0 f1 f3 f4 f5
  obtain⟨o,e,c,d⟩:=id st';exact⟨u,rfl,m9 (s:={s with heap:=h'}) e c d (by decide) ⟨x,H,I1,ru,⟨rfl,fun ys hy=>by rw[I.tuple_inj hy hq];exact hx⟩,st',fun b hb=>(hf b hb).1⟩⟩
 done:=by
  intro X hP hw hK hc i pins s σ H E I hf st hg;subst hP hw hK;obtain⟨xs,hq,hx⟩:=hg;obtain⟨its,rv,p,hz⟩:=I.tuple hq;obtain⟨f0,f1,f2,f3,f4,f5⟩:=hf it (by simp)
  have hl:=rv.length;exact wpAny_pyNext_tuple_end (I.ok.hd hc) st (show s.heap.IsTuple a its.toArray from p) (by simp;omega) fun h' eb=>⟨rfl,I.turned (t':=s.toks) (fun b o hb e=>eb b o hb e) f0 f1 f3 f4 f5⟩
 self:=fun _ _ _ _ _ st h=>wpAny_pyIter_tupleiter st h
theorem md{K:PySem.W.Frag}(it:Addr)(lo:Int)(n:Nat):Turn P w K tg (Itr lo n) [it] it (fun i h=>IsRangeIter h it (lo+(i:Nat) * 1) ((n:Int) - (i:Nat)) 1) where
 mem:=by simp
 obj:=fun i h st b hb=>by
  have e:b=it:=by simpa using hb
  subst e;exact⟨_,st,fun v z=>by
   have z':Data.fields _=Data.cell v:=z;cases z'⟩
 keep:=fun i h h' st k=>k it (by simp) _ st
 item:=by
  intro X hP hw hK hc i pins s σ H E I hf st hg;subst hP hw hK;obtain⟨f0,f1,f2,f3,f4,f5⟩:=hf it (by simp)
  have W:=Walks.range (prog:=X.prog) (w:=X.w) (I.ok.hd hc) it lo 1 n;refine W.item i s _ _ hg st fun v h' tk hv st' kk=>?_
  obtain⟨t,rfl⟩:=hv;have I1:Inv X pins σ H {s with heap:=h',toks:=tk}:=I.turned (fun b o hb e=>kk b o (by simpa using hb) e) f0 f1 f3 f4 f5
  refine⟨_,rfl,m9 (s:={s with heap:=h',toks:=tk}) (n:="range_iterator") st' rfl rfl (by decide) ⟨.int (lo+i),H,I1,⟨t,?_⟩,⟨rfl,rfl⟩,st',fun b hb=>(hf b hb).1⟩⟩
  rw[Int.mul_one]
 done:=by
  intro X hP hw hK hc i pins s σ H E I hf st hg;subst hP hw hK;obtain⟨f0,f1,f2,f3,f4,f5⟩:=hf it (by simp)
  exact wpAny_pyNext_range_end (I.ok.hd hc) st (by have:n<=i:=hg;omega) fun h' eb=>⟨rfl,I.turned (t':=s.toks) (fun b o hb e=>eb b o hb e) f0 f1 f3 f4 f5⟩
 self:=fun _ _ _ _ _ st h=>wpAny_pyIter_rangeiter st h
end L2
namespace L2
open PySem PySem.Spec PyProof.Rows
section
variable {X:Cx}
theorem pc{s:Shared}{lo:Int}(I:Inv X pins σ H s)(h1 : -(2 ^ 62)<=lo)(h2:lo < 2 ^ 62)(h3 : -(2 ^ 62)<=hi)(h4:hi < 2 ^ 62)
  (q:R (Itr lo (hi - lo).toNat) H):wpAny (model X.prog X.w) X.A (pyIter (.ref s.heap.objs.size)) (PIE X pins σ tg R) E {s with heap:=s.heap.push {cls:=.type "range",data:=.fields #[.int lo t,.int hi u,.int 1 v]},toks:=tk}:=by
 refine wpAny_pyIter_range (IsRange.new ..) (small_one h1 h2 h3 h4) ?_;have I1:Inv X pins σ H {s with heap:=s.heap.push {cls:=.type "range",data:=.fields #[.int lo t,.int hi u,.int 1 v]},toks:=tk}:=I.kept fun b o e=>Heap.get?_push_of_some _ e
 refine⟨(s.heap.push {cls:=.type "range",data:=.fields #[.int lo t,.int hi u,.int 1 v]}).objs.size,[(s.heap.push {cls:=.type "range",data:=.fields #[.int lo t,.int hi u,.int 1 v]}).objs.size],_,_,H,rfl,
  I1.kept (t':=tk) fun b o e=>Heap.get?_push_of_some _ e,md _ lo (hi - lo).toNat,?_,fun b hb=>?_,q⟩
 ·have e1:lo+((0:Nat):Int) * 1=lo:=by simp
  have e2:(((hi - lo).toNat:Nat):Int) - ((0:Nat):Int)=Builtin.Range.rangeSize lo hi 1:=by rw[rangeSize_one];split<;>omega
  show IsRangeIter _ _ (lo+((0:Nat):Int) * 1) ((((hi - lo).toNat:Nat):Int) - ((0:Nat):Int)) 1;rw[e1,e2];exact Heap.get?_push_size _ rfl
 ·have e:b=(s.heap.push {cls:=.type "range",data:=.fields #[.int lo t,.int hi u,.int 1 v]}).objs.size:=by simpa using hb
  subst e;exact I1.fpOk (Nat.le_refl _) (I1.hok.fresh (Nat.le_refl _))
noncomputable def Ab(ta:TA):TI:=fun σ H R=>ta σ H fun vs H1=>∃j:Int,vs=[.int j]/\-(2 ^ 62)<=j/\j < 2 ^ 62/\R (Itr 0 j.toNat) H1
theorem nY(hg:Gl X "range")(hm:X.mg "range"=none)(ha:PA X [a] ta)(hs:starEach [a] X.env=[(false,eval a X.env)]:=by rfl):PI X tg (.Call (.Name "range" p) [a] [] pos) (Ab ta):=by
 intro pins s σ H R I h;refine Call_ (cI I hg hm boot_range (PyProof.Rows.callWith_type1 (thn (ha pos pins s σ H _ I h) fun us s1 ⟨vs,H1,I1,r1,q1⟩=>?_) hs rfl))
 obtain⟨j,e,q1,q2,q⟩:=q1;subst e;cases r1 with
 |cons r rr=>
  cases rr;obtain⟨t,rfl⟩:=r;exact call_range_1 (pc I1 (by omega) (by omega) q1 q2 (by simpa using q))
noncomputable def CQ(wi:TI)(g:TG)(tb:TS):TS:=fun D σ H=>wi σ H fun J H1=>∃W:Nat->Nat->St->Hp->Prop,(∃m,W 0 m σ H1)/\∀i m σ H,W i m σ H->
 (J.stop i H/\D.nx σ H)\/(J.go i H/\∃N:St->Hp->Prop,(∀σ' H',N σ' H'->∃m',m' < m/\W (i+1) m' σ' H')/\∀x H',J.yld i H x H'->g x σ H' fun σ2 H2=>tb {D with nx:=N,ct:=N,bk:=D.nx} σ2 H2)
noncomputable def gS(fp:List Addr)(h:Heap):List (Addr×Obj):=fp.filterMap fun b=>(h.get? b).map fun o=>(b,o)
theorem cK{h:Heap}(hb:b∈fp)(e:h.get? b=some o):(b,o)∈gS fp h:=List.mem_filterMap.mpr ⟨b,hb,by rw[e];rfl⟩
theorem n9{h:Heap}{p:Addr×Obj}(hp:p∈gS fp h):p.1∈fp/\h.get? p.1=some p.2:=by
 obtain⟨b,hb,e⟩:=List.mem_filterMap.mp hp;cases q:h.get? b with
 |none=>rw[q]at e;cases e
 |some o=>
  rw[q]at e;have e':(b,o)=p:=Option.some.inj e;subst e';exact⟨hb,q⟩
theorem Inv.pinned{s:Shared}(I:Inv X pins σ H s)(hf:∀b∈fp,jP X pins H b)(ho:∀b∈fp,∃o,s.heap.get? b=some o/\∀v,o.data≠.cell v):Inv X (pins++gS fp s.heap) σ H s:=
 I.pins_of fun p hp=>(List.mem_append.mp hp).elim (fun z=>I.pin p (List.mem_append_right _ z)) fun z=>by
  obtain⟨hb,e⟩:=n9 z;obtain⟨f0,f1,f2,_⟩:=hf p.1 hb;obtain⟨o,e',d⟩:=ho p.1 hb;rw[e]at e';cases e';exact⟨e,f0,f1,f2,d⟩
theorem Inv.unpinned(I:Inv X (pins++pl) σ H s):Inv X pins σ H s:=I.pins_of fun p hp=>I.pin p (List.mem_append_right _ (List.mem_append_left _ hp))
theorem lT(hp:PassesOwn (model X.prog X.w) X.A X.env X.xe)(hc:X.calm=true)(hi:PI X tg iter wi)(hg:PG X tg g)(hb:PSs X body tb)
  (hs:∀x,foldedSetIterable iter X.env x=pure x:=by intro _;rfl):PS X (.For tg iter body [] pos) (CQ wi g tb):=by
 intro pins s σ H D I h;refine wpAny_For (thn (hi pins s σ H _ I h) fun v s1 h1=>thn h1 fun itv s2 h2=>?_) hs
 obtain⟨it,fp,tn,J,H2,e,I2,T,st2,f2,W,⟨m0,w0⟩,iE⟩:=h2;subst e;have stat:∀{H':Hp},(∀b∈fp,H' b=none)->∀b∈fp,jP X pins H' b:=fun hn b hb=>⟨hn b hb,(f2 b hb).2⟩
 refine codeAny_forLoop_any (fun n s'=>∃i σ' H',Inv X pins σ' H' s'/\tn i s'.heap/\(∀b∈fp,H' b=none)/\W i n σ' H') ?_ m0 ⟨0,σ,H2,I2,st2,fun b hb=>(f2 b hb).1,w0⟩
 rintro n s3 ⟨i,σ3,H3,I3,st3,fr3,w3⟩;rcases iE i n σ3 H3 w3 with ⟨stop,qn⟩|⟨go,N,hN,step⟩
 ·refine wpAny_passesOwn hp (thn (T.done X rfl rfl rfl hc i pins s3 σ3 H3 X.xe I3 (stat fr3) st3 stop) fun r s4 ⟨hr,I4⟩=>?_)
  subst hr;exact wpAny_execs_nil ⟨σ3,H3,I4,qn⟩
 ·refine wpAny_passesOwn hp (thn (T.item X rfl rfl rfl hc i pins s3 σ3 H3 X.xe I3 (stat fr3) st3 go) fun r s4 ⟨u,hr,h4⟩=>?_)
  subst hr;refine wpAny_passesOwn hp (thn h4 fun _ s5 ⟨x,H5,I5,r5,y5,st5,fr5⟩=>?_)
  have I5':=I5.pinned (stat fr5) (T.obj _ _ st5);refine wpAny_passesOwn hp (thn (hg _ s5 σ3 H5 x u _ I5' r5 (step x H5 y5)) fun _ s6 ⟨σ6,H6,I6,q6⟩=>?_)
  refine wpAny_passesOwn hp (thn (hb _ s6 σ6 H6 _ I6 q6) fun f s7 q7=>?_)
  have again:∀{σ7:St}{H7:Hp},Inv X (pins++gS fp s5.heap) σ7 H7 s7->N σ7 H7->∃m,m < n/\∃i σ' H',Inv X pins σ' H' s7/\tn i s7.heap/\(∀b∈fp,H' b=none)/\W i m σ' H':=fun {σ7 H7} I7 n7=>by
   obtain⟨m',hm,w7⟩:=hN σ7 H7 n7;refine⟨m',hm,i+1,σ7,H7,I7.unpinned,T.keep _ _ _ st5 fun b hb o e=>(I7.pin (b,o) (List.mem_append_right _ (List.mem_append_right _ (cK hb e)))).1,fun b hb=>?_,w7⟩
   obtain⟨o,e,d⟩:=T.obj _ _ st5 b hb;exact (I7.pin (b,o) (List.mem_append_right _ (List.mem_append_right _ (cK hb e)))).2.1
  cases f with
  |next=>obtain⟨σ7,H7,I7,n7⟩:=q7;exact again I7 n7
  |cont=>obtain⟨σ7,H7,I7,n7⟩:=q7;exact again I7 n7
  |brk=>obtain⟨σ7,H7,I7,q7⟩:=q7;exact⟨σ7,H7,I7.unpinned,q7⟩
  |ret v=>obtain⟨x7,σ7,H7,I7,r7,q7⟩:=q7;exact⟨x7,σ7,H7,I7.unpinned,r7,q7⟩
end
end L2
namespace L2
open PySem PySem.Spec PyProof.Rows
noncomputable abbrev R2:=V->V->Hp->VK->Prop
noncomputable def OpR(X:Cx)(f:Value->Value->Sem Value)(r:R2):Prop:=
 ∀(pins:List (Addr×Obj)) (s:Shared)(σ:St)(H:Hp)(x y:V)(v u:Value)(Q:VK),Inv X pins σ H s->RelV x v->RelV y u->r x y H Q->
  wpAny (model X.prog X.w) X.A (f v u) (EP X pins σ Q) X.xe s
noncomputable def UnR(X:Cx)(f:Value->Sem Value)(r:V->Hp->VK->Prop):Prop:=
 ∀(pins:List (Addr×Obj)) (s:Shared)(σ:St)(H:Hp)(x:V)(v:Value)(Q:VK),Inv X pins σ H s->RelV x v->r x H Q->
  wpAny (model X.prog X.w) X.A (f v) (EP X pins σ Q) X.xe s
noncomputable def CallR(X:Cx)(f:Value)(r:List V->Hp->VK->Prop):Prop:=
 ∀(pins:List (Addr×Obj)) (s:Shared)(σ:St)(H:Hp)(xs:List V)(us:List Value)(Q:VK),Inv X pins σ H s->Vals xs us->r xs H Q->
  wpAny (model X.prog X.w) X.A (call f us) (EP X pins σ Q) X.xe s
noncomputable def tOp(r:R2)(ta tb:TE):TE:=fun σ H Q=>ta σ H fun x H1=>tb σ H1 fun y H2=>r x y H2 Q
noncomputable def tUn(r:V->Hp->VK->Prop)(ta:TE):TE:=fun σ H Q=>ta σ H fun x H1=>r x H1 Q
noncomputable def rI(C:Int->Int->Prop)(g:Int->Int->V):R2:=fun x y H Q=>∃i j,x=.int i/\y=.int j/\C i j/\Q (g i j) H
noncomputable def rI0(g:Int->Int->V):R2:=fun x y H Q=>∃i j,x=.int i/\y=.int j/\Q (g i j) H
noncomputable def rU(g:Int->V):V->Hp->VK->Prop:=fun x H Q=>∃i,x=.int i/\Q (g i) H
section
variable {X:Cx}{a b c:Expr}{ta tb tc:TE}{pos:Pos}
theorem uV(ha:PE X a ta)(hb:PE X b tb){pins:List (Addr×Obj)}{s:Shared}{σ:St}{H:Hp}{R:V->V->Hp->Prop}(I:Inv X pins σ H s)
  (h:ta σ H fun x H1=>tb σ H1 fun y H2=>R x y H2) {Q:Value->Shared->Prop}{f:Value->Value->Sem Value}
  (hf:∀v u s2 x y H2,Inv X pins σ H2 s2->RelV x v->RelV y u->R x y H2->wpAny (model X.prog X.w) X.A (f v u) Q X.xe s2) :
  wpAny (model X.prog X.w) X.A (eval a X.env) (fun v s₁=>wpAny (model X.prog X.w) X.A (eval b X.env) (fun u s₂=>wpAny (model X.prog X.w) X.A (f v u) Q X.xe s₂) X.xe s₁) X.xe s:=by
 refine thn (ha pins s σ H _ I h) fun v s1 ⟨x,H1,I1,r1,q1⟩=>?_
 refine thn (hb pins s1 σ H1 _ I1 q1) fun u s2 ⟨y,H2,I2,r2,q2⟩=>?_
 exact hf v u s2 x y H2 I2 r1 r2 q2
theorem yo{op:Operator}{r:R2}(ho:OpR X (binaryOp op) r)(ha:PE X a ta)(hb:PE X b tb):PE X (.BinOp a op b pos) (tOp r ta tb):=by
 intro pins s σ H Q I h;exact wpAny_BinOp (uV ha hb I h fun v u s2 x y H2 I2 rx ry q=>ho pins s2 σ H2 x y v u Q I2 rx ry q)
theorem zB(ho:UnR X (unaryOp op) r)(ha:PE X a ta):PE X (.UnaryOp op a pos) (tUn r ta):=by
 intro pins s σ H Q I h;exact UnaryOp_ (thn (ha pins s σ H _ I h) fun v s1 ⟨x,H1,I1,r1,q1⟩=>ho pins s1 σ H1 x v Q I1 r1 q1)
theorem opI{f:Value->Value->Sem Value}{C:Int->Int->Prop}{g:Int->Int->Int}
  (rule:∀(i j:Int)(t u:Tok)(s:Shared)(Q:Value->Shared->Prop)(E:Value->Shared->Prop),C i j->Q (.int (g i j) s.toks) {s with toks:=s.toks+1}->wpAny (model X.prog X.w) X.A (f (.int i t) (.int j u)) Q E s) :
  OpR X f (rI C fun i j=>.int (g i j)):=by
 intro pins s σ H x y v u Q I rx ry h;obtain⟨i,j,rfl,rfl,hc,q⟩:=h;obtain⟨t,rfl⟩:=rx;obtain⟨t',rfl⟩:=ry;exact rule i j t t' s _ _ hc ⟨.int (g i j),H,I.tok _,⟨_,rfl⟩,q⟩
theorem uJ{f:Value->Value->Sem Value}{g:Int->Int->Int}
  (rule:∀(i j:Int)(t u:Tok)(s:Shared)(Q:Value->Shared->Prop)(E:Value->Shared->Prop),Q (.int (g i j) s.toks) {s with toks:=s.toks+1}->wpAny (model X.prog X.w) X.A (f (.int i t) (.int j u)) Q E s) :
  OpR X f (rI0 fun i j=>.int (g i j)):=by
 intro pins s σ H x y v u Q I rx ry h;obtain⟨i,j,rfl,rfl,q⟩:=h;obtain⟨t,rfl⟩:=rx;obtain⟨t',rfl⟩:=ry;exact rule i j t t' s _ _ ⟨.int (g i j),H,I.tok _,⟨_,rfl⟩,q⟩
theorem tI{f:Value->Value->Sem Value}{g:Int->Int->Bool}
  (rule:∀(i j:Int)(t u:Tok)(s:Shared)(Q:Value->Shared->Prop)(E:Value->Shared->Prop),Q (.bool (g i j)) s->wpAny (model X.prog X.w) X.A (f (.int i t) (.int j u)) Q E s) :
  OpR X f (rI0 fun i j=>.bl (g i j)):=by
 intro pins s σ H x y v u Q I rx ry h;obtain⟨i,j,rfl,rfl,q⟩:=h;obtain⟨t,rfl⟩:=rx;obtain⟨t',rfl⟩:=ry;exact rule i j t t' s _ _ ⟨.bl (g i j),H,I,rfl,q⟩
noncomputable def pK(i j:Int):Prop:=0<=j/\j<=1000000/\i.natAbs < 2 ^ 64
theorem lJ(k:Nat):(0:Int)<=2 ^ k:=by
 rw[two_pow_cast];exact Int.natCast_nonneg _
theorem xI:OpR X (binaryOp .Add) (rI0 fun i j=>.int (i+j)):=uJ fun _ _ _ _ _ _ _ q=>add_int q
theorem vo:OpR X (binaryOp .Sub) (rI0 fun i j=>.int (i - j)):=uJ fun _ _ _ _ _ _ _ q=>sub_int q
theorem vq:OpR X (binaryOp .Mod) (rI (fun _ j=>0 < j) fun i j=>.int (i % j)):=opI fun i j _ _ _ _ _ hc q=>by
 have h1:(0:Int) < j:=hc;exact mod_int' (by omega) (by rw[Int.fmod_eq_emod_of_nonneg i (by omega)];exact q)
theorem xu:OpR X (binaryOp .Pow) (rI pK fun i j=>.int (i ^ j.toNat)):=opI fun _ _ _ _ _ _ _ hc q=>pow_int_small hc.1 hc.2.1 hc.2.2 q
theorem wZ:OpR X (binaryOp .RShift) (rI (fun _ j=>0<=j) fun i j=>.int (i / 2 ^ j.toNat)):=opI fun i j _ _ _ _ _ hc q=>
 rshift_int hc (by rw[Int.fdiv_eq_ediv_of_nonneg i (lJ _)];exact q)
theorem uR:OpR X (binaryOp .BitAnd) (rI0 fun i j=>.int (Builtin.bitAnd i j)):=uJ fun _ _ _ _ _ _ _ q=>and_int q
theorem unI{f:Value->Sem Value}{g:Int->Int}
  (rule:∀(i:Int)(t:Tok)(s:Shared)(Q:Value->Shared->Prop)(E:Value->Shared->Prop),Q (.int (g i) s.toks) {s with toks:=s.toks+1}->wpAny (model X.prog X.w) X.A (f (.int i t)) Q E s) :
  UnR X f (rU fun i=>.int (g i)):=by
 intro pins s σ H x v Q I rx h;obtain⟨i,rfl,q⟩:=h;obtain⟨t,rfl⟩:=rx;exact rule i t s _ _ ⟨.int (g i),H,I.tok _,⟨_,rfl⟩,q⟩
theorem xA:UnR X (unaryOp .USub) (rU fun i=>.int (-i)):=unI fun _ _ _ _ _ q=>neg_int q
end
section
variable {X:Cx}{a b c:Expr}{ta tb tc:TE}{pos:Pos}
theorem jO(I:Inv X pins σ H s)(q:Q (.bl k) H)(e:k=k'):EP X pins σ Q (.bool k') s:=by
 subst e;exact⟨.bl k,H,I,rfl,q⟩
theorem zM:OpR X (compareOp .Lt) (rI0 fun i j=>.bl (decide (i < j))):=tI fun _ _ _ _ _ _ _ q=>lt_int q
theorem Au:OpR X (compareOp .LtE) (rI0 fun i j=>.bl (decide (i<=j))):=tI fun _ _ _ _ _ _ _ q=>le_int q
theorem yc:OpR X (compareOp .Gt) (rI0 fun i j=>.bl (decide (j < i))):=tI fun _ _ _ _ _ _ _ q=>gt_int q
theorem Az:OpR X (compareOp .GtE) (rI0 fun i j=>.bl (decide (j<=i))):=tI fun _ _ _ _ _ _ _ q=>ge_int q
theorem nO:OpR X (compareOp .In) (fun x y H Q=>∃i j,x=.str i/\y=.str j/\Q (.bl (!(Builtin.Str.occurrences j i 0 j.length 1).isEmpty)) H):=by
 intro pins s σ H x y v u Q I rx ry h;obtain⟨i,j,rfl,rfl,q⟩:=h;obtain⟨t,rfl⟩:=rx;obtain⟨t',rfl⟩:=ry;exact in_str (jO I q rfl)
theorem u7:OpR X (compareOp .Is) (fun x y H Q=>y=.non/\Q (.bl (decide (x=.non))) H):=by
 intro pins s σ H x y v u Q I rx ry h;obtain⟨rfl,q⟩:=h;cases ry;refine is_none_gen (jO I q ?_);cases x<;>first
  |(cases rx;rfl)
  |(obtain⟨t,rfl⟩:=rx;rfl)
theorem rO:OpR X (compareOp .IsNot) (fun x y H Q=>y=.non/\Q (.bl (!decide (x=.non))) H):=by
 intro pins s σ H x y v u Q I rx ry h;obtain⟨rfl,q⟩:=h;cases ry;refine isnot_none_gen (jO I q ?_);cases x<;>first
  |(cases rx;rfl)
  |(obtain⟨t,rfl⟩:=rx;rfl)
theorem jt:OpR X (compareOp .NotIn) (fun x y H Q=>∃i j,x=.str i/\y=.str j/\Q (.bl (!(!(Builtin.Str.occurrences j i 0 j.length 1).isEmpty))) H):=by
 intro pins s σ H x y v u Q I rx ry h;obtain⟨i,j,rfl,rfl,q⟩:=h;obtain⟨t,rfl⟩:=rx;obtain⟨t',rfl⟩:=ry;exact notIn_str (jO I q rfl)
theorem OpR.or(h:OpR X f r)(h':OpR X f r'):OpR X f (fun x y H Q=>r x y H Q\/r' x y H Q):=by
 intro pins s σ H x y v u Q I rx ry q;rcases q with q|q
 ·exact h pins s σ H x y v u Q I rx ry q
 ·exact h' pins s σ H x y v u Q I rx ry q
theorem rX{op:CmpOp}{r:R2}(ho:OpR X (compareOp op) r)(ha:PE X a ta)(hb:PE X b tb)(hm:behindInMarks op b=false):PE X (.Compare a [op] [b] pos) (tOp r ta tb):=by
 intro pins s σ H Q I h;exact wpAny_Compare1 (uV ha hb I h fun v u s2 x y H2 I2 rx ry q=>ho pins s2 σ H2 x y v u Q I2 rx ry q) hm
noncomputable def qk(t:TE):TT:=fun σ H Q=>t σ H fun x H'=>∃k,x=.bl k/\Q k H'
theorem sv(ho:OpR X (compareOp op) r)(ha:PE X a ta)(hb:PE X b tb)(hm:behindInMarks op b=false):PT X (.Compare a [op] [b] pos) (qk (tOp r ta tb)):=by
 intro pins s σ H Q I h;refine wpAny_isTrue_Compare1 (thn (ha pins s σ H _ I h) fun v s1 ⟨x,H1,I1,r1,q1⟩=>thn (hb pins s1 σ H1 _ I1 q1) fun u s2 ⟨y,H2,I2,r2,q2⟩=>
  thn (ho pins s2 σ H2 x y v u _ I2 r1 r2 q2) fun c s3 ⟨z,H3,I3,r3,k,e,q3⟩=>?_) hm
 subst e;cases r3;exact wpAny_truthy_bool ⟨H3,I3,q3⟩
noncomputable def uL(r r':R2)(ta tb tc:TE):TE:=fun σ H Q=>ta σ H fun x H1=>tb σ H1 fun y H2=>r x y H2 fun z H3=>∃k,z=.bl k/\
 (if k=true then tc σ H3 fun w' H4=>r' y w' H4 Q else Q (.bl false) H3)
theorem oS(ho:OpR X (compareOp op) r)(ho':OpR X (compareOp op') r')(ha:PE X a ta)(hb:PE X b tb)(hc:PE X c tc)
  (hm:lastMarks [op,op'] [b,c]=false:=by with_unfolding_all rfl):PT X (.Compare a [op,op'] [b,c] pos) (qk (uL r r' ta tb tc)):=by
 intro pins s σ H Q I h;refine isTrue_chain (thn (ha pins s σ H _ I h) fun v s1 ⟨x,H1,I1,r1,q1⟩=>test_link (thn (hb pins s1 σ H1 _ I1 q1) fun u s2 ⟨y,H2,I2,r2,q2⟩=>
  thn (ho pins s2 σ H2 x y v u _ I2 r1 r2 q2) fun d s3 ⟨z,H3,I3,r3,k,e,q3⟩=>?_)) hm
 subst e;cases r3;refine wpAny_truthy_bool ?_;cases k with
 |false=>
  obtain⟨k',e',q'⟩:=q3;cases e';exact ite_ff ⟨H3,I3,q'⟩
 |true=>
  refine ite_tt (test_last (thn (hc pins s3 σ H3 _ I3 q3) fun w' s4 ⟨z',H4,I4,r4,q4⟩=>thn (ho' pins s4 σ H4 y z' u w' _ I4 r2 r4 q4) fun d' s5 ⟨z2,H5,I5,r5,k2,e2,q5⟩=>?_))
  subst e2;cases r5;exact wpAny_truthy_bool ⟨H5,I5,q5⟩
theorem ft:(sizeLine:Nat) < 2 ^ 63:=by rw[sizeLine_eq];decide
theorem lM:OpR X (binaryOp .Add) (fun x y H Q=>∃i j,x=.str i/\y=.str j/\i.length+j.length<=sizeLine/\Q (.str (i++j)) H):=by
 intro pins s σ H x y v u Q I rx ry h;obtain⟨i,j,rfl,rfl,hz,q⟩:=h;obtain⟨t,rfl⟩:=rx;obtain⟨t',rfl⟩:=ry;exact add_str (fun t' tk=>⟨.str (i++j),H,I.tok _,⟨_,rfl⟩,q⟩) hz
theorem dD(r:Vals [x] us):∃u,us=[u]/\RelV x u:=by
 cases r with
 |cons r1 r2=>cases r2;exact⟨_,rfl,r1⟩
theorem tY(r:Vals [x,y] us):∃u w',us=[u,w']/\RelV x u/\RelV y w':=by
 cases r with
 |cons r1 r2=>
  cases r2 with
  |cons r3 r4=>cases r4;exact⟨_,_,rfl,r1,r3⟩
theorem nW(hc:X.calm=true):CallR X (.builtin "max") (fun xs H Q=>∃i j,xs=[.int i,.int j]/\Q (.int (if j > i then j else i)) H):=by
 intro pins s σ H xs us Q I r h;obtain⟨i,j,rfl,q⟩:=h;obtain⟨u,w',rfl,⟨t,rfl⟩,⟨t',rfl⟩⟩:=tY r;refine max_two_ints (I.ok.hd hc) fun h' tk k=>⟨_,H,I.kept k,?_,q⟩
 by_cases hj:j > i
 ·rw[if_pos hj,if_pos hj];exact⟨_,rfl⟩
 ·rw[if_neg hj,if_neg hj];exact⟨_,rfl⟩
theorem oF(hc:X.calm=true):CallR X (.builtin "min") (fun xs H Q=>∃i j,xs=[.int i,.int j]/\Q (.int (if j < i then j else i)) H):=by
 intro pins s σ H xs us Q I r h;obtain⟨i,j,rfl,q⟩:=h;obtain⟨u,w',rfl,⟨t,rfl⟩,⟨t',rfl⟩⟩:=tY r;refine min_two_ints (I.ok.hd hc) fun h' tk k=>⟨_,H,I.kept k,?_,q⟩
 by_cases hj:j < i
 ·rw[if_pos hj,if_pos hj];exact⟨_,rfl⟩
 ·rw[if_neg hj,if_neg hj];exact⟨_,rfl⟩
end
end L2
namespace L2
open PySem PySem.Spec PyProof.Rows
structure ObjM (h:Heap)(x dx C:Addr)(mA:Str->Option Value):Prop where
 obj:h.get? x=some (PySem.W.instObj C dx)
 ns:h.Ns1 dx mA
 ne:dx≠x
theorem iY{h:Heap}(n:h.Ns1 dx mA):∃od,h.get? dx=some od/\∀name,PySem.W.lookIn name od=some (mA name):=by
 obtain⟨o,es,ep,ho,hd,hk,_,hm⟩:=n;refine⟨o,ho,fun name=>?_⟩
 have e:=hm name;unfold nsFind findBy at e;rw[<-Array.find?_toList]at e;unfold PySem.W.lookIn;rw[hd];dsimp only;split
 ·rename_i y q;rw[q]at e;exact congrArg some e
 ·rename_i q;rw[q]at e;have a:es.toList.any (·.refKey)=false:=by
   rw[List.any_eq_false];intro y hy;obtain⟨z,t,hkey⟩:=hk y (Array.mem_toList_iff.mp hy);simp[DictEntry.refKey,hkey]
  have a':¬ es.toList.any (·.refKey)=true:=by rw[a];exact Bool.false_ne_true
  rw[if_neg a'];exact congrArg some e
theorem ObjM.look(I:ObjM h x dx C mA):∃od,PySem.W.InstAt h x (PySem.W.instObj C dx) C (some od)/\∀name,PySem.W.lookIn name od=some (mA name):=
 let ⟨od,ho,hl⟩:=iY I.ns
 ⟨od,⟨I.obj,rfl,rfl,ho⟩,hl⟩
section
variable {w:World}{A:Around}{s:Shared}{K:PySem.W.Frag}{x:Addr}
theorem r0(X:K.In s.heap)(I:ObjM s.heap x dx C mA)(hg:PySem.W.plainGet K C name=true)(hh:PySem.W.hasDictIn K C=true)
  (ha:PySem.W.findIn K (.ref C) name=some none) (hv:mA name=some v) (hv':PySem.W.handedIn v=true) (h:Q v {s with toks:=s.toks+1}) :
  wpAny (model prog w) A (getAttr (.ref x) name expr) Q E s:=by
 obtain⟨od,J,hl⟩:=I.look;exact PySem.W.get_value X J (PySem.W.plainGet_of hg).1 (PySem.W.findObj_own hh ha rfl (by rw[hl,hv])) hv' h
theorem pJ(X:K.In s.heap)(I:ObjM s.heap x dx C mA)(hg:PySem.W.plainGet K C name=true)
  (hf:PySem.W.findIn K (.ref C) name=some (some (.ref f))) (ht:PySem.W.isFn K (.ref f)=true) (hv:mA name=none) (h:Q (.ref f,[.ref x]) s) :
  wpAny (model prog w) A (getMethod (.ref x) name pl) Q E s:=by
 obtain⟨od,J,hl⟩:=I.look;exact PySem.W.method_fn X J (PySem.W.plainGet_of hg).1 (PySem.W.plainGet_of hg).2 hf (beq_iff_eq.mp ht) (by show (PySem.W.lookIn name od).map (·.isSome)=some false;rw[hl,hv];rfl) h
theorem tL{ns:List Str}(X:K.In s.heap)(I:ObjM s.heap x dx C mA)
  (hs:PySem.W.findIn K (.ref C) "__setattr__"=some (some (.builtin "object.__setattr__"))) (hp:PySem.W.plainOver K C=true) (ht:PySem.W.takerIn K C name=some none) (hh:PySem.W.hasDictIn K C=true)
  (hw:PySem.Within mA ns) (hsz:ns.length<=sizeLine)
  (h:∀h',ObjM h' x dx C (fun y=>if y=name then some v else mA y)->Heap.SameBut dx s.heap h'->Q () {s with heap:=h',toks:=s.toks+2}) :
  wpAny (model prog w) A (setAttr (.ref x) name v) Q E s:=by
 obtain⟨od,J,hl⟩:=I.look;refine PySem.W.set_plain X J hs (PySem.W.osa_open (s:={s with toks:=s.toks+1}) (r:=none) X J hp ht fun b=>?_)
 obtain⟨cd,hc,hd'⟩:=PySem.W.any_some hh;have hx:s.heap.get? x=some ⟨.ref C,some dx,.plain,#[]⟩:=I.obj;refine wpAny_bind (wpAny_pure (wpAny_bind (wpAny_bind (wpAny_loadPart hx (wpAny_bind (PySem.W.Looks.here (s:={s with toks:=s.toks+1}) (PySem.W.looks_clsIn X hc) ?_))))))
 rw[hd'];refine wpAny_pure (a:=some dx) (wpAny_bind (wpAny_pure (wpAny_bind ?_)));refine wpAny_nsSet1 (s:={s with toks:=s.toks+1}) I.ns fun h' hn2 hs2=>?_
 obtain⟨oD,esD,epD,hoD,hdD,hcD⟩:=hn2.count (PySem.Within.cons name v hw);refine wpAny_bind (wpAny_lookBehind hoD (by rw[hdD];exact pastItsLine_dict (Nat.le_trans hcD (by rw[List.length_cons];omega))) ?_)
 exact wpAny_pure (h _ ⟨(hs2.2 _ (Ne.symm I.ne)).trans I.obj,hn2,I.ne⟩ hs2)
theorem qJ(X:K.In s.heap)(hm:PySem.W.makesIn K C=true)
  (hi:PySem.W.findIn K (.ref C) "__init__"=some (some (.ref f))) (hf:PySem.W.typeIn K (.ref f)=some (.type "function"))
  (h:codeAny (model prog w) (A.under (.builtin "type.__call__" ⟨.ref C::vs,kw⟩)) (.call (.ref f) ⟨.ref (s.heap.objs.size+1)::vs,kw⟩) (PySem.W.InitBack (s.heap.objs.size+1) R)
   {s with heap:=(s.heap.push PySem.W.emptyDict).push (PySem.W.instObj C s.heap.objs.size)}) :
  codeAny (model prog w) A (.call (.ref C) ⟨vs,kw⟩) R s:=by
 obtain⟨hh,g,d,t,os⟩:=s;exact PySem.W.make_core (PySem.W.makes_of X hm) (PySem.W.looks_findIn X hi) (fun self=>PySem.W.bind_fn X self hf) (.inl rfl) h
end
noncomputable def cw(f:Str)(v:V):List (Str×V)->List (Str×V)
 |[]=>[(f,v)]
 |(g,x)::r=>if g=f then (g,v)::r else (g,x)::cw f v r
theorem fy(f g:Str)(v:V):∀fs:List (Str×V),(cw f v fs).lookup g=if g=f then some v else fs.lookup g
 |[]=>by
  show List.lookup g [(f,v)]=_;by_cases h:g=f
  ·have hb:(g == f)=true:=beq_iff_eq.mpr h;simp only[List.lookup,hb,if_pos h]
  ·have hb:(g == f)=false:=beq_eq_false_iff_ne.mpr h;simp only[List.lookup,hb,if_neg h]
 |(k,x)::r=>by
  have ih:=fy f g v r;rw[show cw f v ((k,x)::r)=(if k=f then (k,v)::r else (k,x)::cw f v r) from rfl]
  by_cases hk:k=f
  ·rw[if_pos hk];by_cases h:g=k
   ·have hb:(g == k)=true:=beq_iff_eq.mpr h;simp only[List.lookup,hb,if_pos (h.trans hk)]
   ·have hb:(g == k)=false:=beq_eq_false_iff_ne.mpr h;simp only[List.lookup,hb,if_neg (fun e:g=f=>h (e.trans hk.symm))]
  ·rw[if_neg hk];by_cases h:g=k
   ·have hb:(g == k)=true:=beq_iff_eq.mpr h;simp only[List.lookup,hb,if_neg (fun e:g=f=>hk (h.symm.trans e))]
   ·have hb:(g == k)=false:=beq_eq_false_iff_ne.mpr h;simp only[List.lookup,hb];exact ih
theorem eT(f:Str)(v:V):∀fs:List (Str×V),f∈(cw f v fs).map (·.1)/\∀g,g∈fs.map (·.1)->g∈(cw f v fs).map (·.1)
 |[]=>⟨by simp[cw],fun g h=>by simp at h⟩
 |(k,x)::r=>by
  obtain⟨i1,i2⟩:=eT f v r;rw[show cw f v ((k,x)::r)=(if k=f then (k,v)::r else (k,x)::cw f v r) from rfl]
  by_cases hk:k=f
  ·rw[if_pos hk];subst hk;exact⟨by simp,fun g h=>by simpa using h⟩
  ·rw[if_neg hk];refine⟨?_,fun g h=>?_⟩
   ·rw[List.map_cons];exact List.mem_cons_of_mem _ i1
   ·rw[List.map_cons]at h ⊢;rcases List.mem_cons.mp h with e|e
    ·exact List.mem_cons.mpr (.inl e)
    ·exact List.mem_cons_of_mem _ (i2 g e)
theorem fE(f:Str)(v:V):∀fs:List (Str×V),(cw f v fs).length<=fs.length+1
 |[]=>by simp[cw]
 |(k,x)::r=>by
  have ih:=fE f v r;rw[show cw f v ((k,x)::r)=(if k=f then (k,v)::r else (k,x)::cw f v r) from rfl]
  by_cases hk:k=f
  ·rw[if_pos hk,List.length_cons,List.length_cons];omega
  ·rw[if_neg hk,List.length_cons,List.length_cons];omega
theorem RelO.some_of(r:RelO (some v) o):∃u,o=some u/\RelV v u:=by
 cases o with
 |none=>exact (show False from r).elim
 |some u=>exact⟨u,rfl,r⟩
theorem RelO.none_of(r:RelO none o):o=none:=by
 cases o with
 |none=>rfl
 |some u=>exact (show False from r).elim
theorem iN(r:RelV v u):PySem.W.handedIn u=true:=by
 cases v with
 |non=>cases (show u=Value.none from r);rfl
 |bl b=>cases (show u=Value.bool b from r);rfl
 |int i=>obtain⟨t,e⟩:=(show ∃t,u=Value.int i t from r);cases e;rfl
 |str x=>obtain⟨t,e⟩:=(show ∃t,u=Value.str x t from r);cases e;rfl
 |byt b=>obtain⟨t,e⟩:=(show ∃t,u=Value.bytes b t from r);cases e;rfl
 |flt b=>obtain⟨t,e⟩:=(show ∃t,u=Value.float b t from r);cases e;rfl
 |ref a=>cases (show u=Value.ref a from r);rfl
 |ty n=>cases (show u=Value.type n from r);rfl
section
variable {P:Program}{w:World}{h h':Heap}{a:Addr}{fs:List (Str×V)}
theorem rb(hok:HOk P w H h)(e:H a=some (.ins C dx fs)):∃mA,ObjM h a dx C mA/\(∀f,RelO (fs.lookup f) (mA f))/\PySem.Within mA (fs.map (·.1))/\fs.length<=1000/\H dx=some (.own a):=by
 obtain⟨d,z,ne,ob,mA,n,r,q⟩:=(show ObjOk P w H h a (.ins C dx fs) from hok a _ e);exact⟨mA,⟨ob,n,ne⟩,r,q,z,d⟩
end
structure Cls (K:PySem.W.Frag)(C:Addr):Prop where
 pg:PySem.W.plainGet K C Str.empty=true
 hd:PySem.W.hasDictIn K C=true
 po:PySem.W.plainOver K C=true
 sa:PySem.W.findIn K (.ref C) "__setattr__"=some (some (.builtin "object.__setattr__"))
theorem Cls.get{K:PySem.W.Frag}{C:Addr}(c:Cls K C)(f:Str):PySem.W.plainGet K C f=true:=c.pg
noncomputable def NoAttr(K:PySem.W.Frag)(C:Addr)(f:Str):Prop:=PySem.W.findIn K (.ref C) f=some none
theorem NoAttr.taker{K:PySem.W.Frag}(n:NoAttr K C f):PySem.W.takerIn K C f=some none:=by
 unfold PySem.W.takerIn;rw[show PySem.W.findIn K (.ref C) f=some none from n];rfl
structure Meth (K:PySem.W.Frag)(C:Addr)(m:Str)(f:Addr):Prop where
 at_:PySem.W.findIn K (.ref C) m=some (some (.ref f))
 fn:PySem.W.isFn K (.ref f)=true
 kp:PySem.W.keepIn K (.ref f)=true
section
variable {X:Cx}{s:Shared}{a:Addr}{fs:List (Str×V)}{A:Around}
theorem ma(I:Inv X pins σ H s)(e:H a=some (.ins C dx fs))(c:Cls X.K C)(n:NoAttr X.K C f)(hl:fs.length < 1000)(ry:RelV y u)
  (h:∀s',Inv X pins σ (upd H a (.ins C dx (cw f y fs))) s'->Q () s'):wpAny (model X.prog X.w) A (setAttr (.ref a) f u) Q E s:=by
 obtain⟨mA,O,r,wi,_,ho⟩:=rb I.hok e;have hz:(fs.map (·.1)).length<=sizeLine:=by rw[List.length_map,sizeLine_eq];omega
 refine tL I.kIn O c.sa c.po n.taker c.hd wi hz fun h' O' sb=>h _ ?_
 have hd:∃o,h'.get? dx=some o:=let ⟨o,_,_,e',_⟩:=O'.ns;⟨o,e'⟩
 refine I.write (x:=a) (e:=dx) (by rw[e];exact True.intro) (.inr ho) (fun b q hb z=>(sb.2 b hb).trans z) hd ?_
 refine⟨by rw[aa O.ne];exact ho,?_,O.ne,O'.obj,_,O'.ns,fun g=>?_,fun g hg=>?_⟩
 ·have:=fE f y fs;omega
 ·show RelO ((cw f y fs).lookup g) (if g=f then some u else mA g)
  rw[fy];by_cases q:g=f
  ·rw[if_pos q,if_pos q];exact ry
  ·rw[if_neg q,if_neg q];exact r g
 ·by_cases q:g=f
  ·rw[q];exact (eT f y fs).1
  ·refine (eT f y fs).2 g (wi g fun z=>hg ?_)
   show (if g=f then some u else mA g)=none
   rw[if_neg q];exact z
theorem Inv.made(I:Inv X pins σ H s):Inv X pins σ (upd (upd H s.heap.objs.size (.own (s.heap.objs.size+1))) (s.heap.objs.size+1) (.ins C s.heap.objs.size []))
  {s with heap:=(s.heap.push PySem.W.emptyDict).push (PySem.W.instObj C s.heap.objs.size)}:=by
 have e1:(s.heap.push PySem.W.emptyDict).get? s.heap.objs.size=some PySem.W.emptyDict:=Heap.get?_push_size s.heap rfl;have e2:((s.heap.push PySem.W.emptyDict).push (PySem.W.instObj C s.heap.objs.size)).get? (s.heap.objs.size+1)=some (PySem.W.instObj C s.heap.objs.size):=by
  have:=Heap.get?_push_size (s.heap.push PySem.W.emptyDict) (o:=PySem.W.instObj C s.heap.objs.size) rfl
  rwa [Heap.size_push]at this
 have e3:(s.heap.push PySem.W.emptyDict).Ns s.heap.objs.size (fun _=>none):=⟨PySem.W.emptyDict,#[],_,e1,rfl,(fun e he=>absurd he (by simp)),fun _=>rfl⟩
 have I1:=I.laid (a:=s.heap.objs.size) (o:=.own (s.heap.objs.size+1)) (h':=s.heap.push PySem.W.emptyDict) (t':=s.toks) (fun b u q=>Heap.get?_push_of_some _ q) (Nat.le_refl _) ⟨_,e1⟩
 refine I1.laid (a:=s.heap.objs.size+1) (o:=.ins C s.heap.objs.size []) (t':=s.toks) (fun b u q=>Heap.get?_push_of_some _ q) (Nat.le_of_eq (Heap.size_push _ _)) ?_
 have ne:s.heap.objs.size≠s.heap.objs.size+1:=Nat.ne_of_lt (Nat.lt_succ_self _);refine⟨by rw[aa ne,ae],Nat.zero_le _,ne,e2,fun _=>none,(Heap.Ns1.of_empty e3).at fun o q=>Heap.get?_push_of_some _ q,fun _=>True.intro,fun y hy=>absurd rfl hy⟩
theorem mX(hb:attributeBase e f env (eval e env)=eval e env)
  (h:wpAny (model prog w) A (eval e env) (fun o s₁=>wpAny (model prog w) A (getAttr o f true) Q E s₁) E s):wpAny (model prog w) A (eval (.Attribute e f pos) env) Q E s:=
 Attribute_any_ h (by rw[arm_eval_Attribute,hb])
end
noncomputable def Cv(K:PySem.W.Frag)(ta tv:TE)(f:Str):TS:=fun D σ H=>tv σ H fun y H1=>ta σ H1 fun x H2=>∃a C dx fs,x=.ref a/\H2 a=some (.ins C dx fs)/\Cls K C/\NoAttr K C f/\fs.length < 1000/\
 D.nx σ (upd H2 a (.ins C dx (cw f y fs)))
section
variable {X:Cx}{o:Expr}{pos:Pos}
theorem vt(ha:PE X o ta)(hv:PE X value tv)(hs:swapsWith value (some (.Attribute o f pos')) pos.line X.env=pure false):PS X (.Assign [.Attribute o f pos'] value pos) (Cv X.K ta tv f):=by
 intro pins s σ H D I h;refine plainObj_wpAny_Assign_Attribute (thn (hv pins s σ H _ I h) fun u s1 ⟨y,H1,I1,ry,q⟩=>thn (ha pins s1 σ H1 _ I1 q) fun ov s2 ⟨x,H2,I2,rx,a,C,dx,fs,ex,ea,c,n,l,q2⟩=>?_) hs
 subst ex;obtain rfl:ov=Value.ref a:=rx;exact ma I2 ea c n l ry fun s3 I3=>⟨σ,_,I3,q2⟩
end
section
variable {X:Cx}{s:Shared}{A:Around}{c:Value}{b:Bool}
end
end L2
namespace L2
open PySem PySem.Spec PyProof.Rows
structure Room (k:Nat)(A:Around):Prop where
 hd:A.handled=none
 dp:A.depth+3 * k+5 < recursionLimit
 un:A.units+16 * k+200 < cLine
theorem Room.mono(r:Room k A)(h:j<=k):Room j A:=⟨r.hd,by have:=r.dp;omega,by have:=r.un;omega⟩
theorem Room.deeper{A:Around}(r:Room (k+1) A)(env:Env):Room k (A.deeper env):=
 ⟨r.hd,by have:=r.dp;show A.depth+1+3 * k+5 < _;omega,by have:=r.un;show A.units+3+16 * k+200 < _;omega⟩
theorem mo{A:Around}:(A.under (.builtin "type.__call__" ⟨.ref C::us,kw⟩)).depth=A.depth+1:=by
 first|rfl|simp[Around.under,Code.weight,Code.isCreation,Code.isGuard,Code.isCaller,Code.frames,Code.isFrame,guardIds]
theorem lL{A:Around}:(A.under (.builtin "type.__call__" ⟨.ref C::us,kw⟩)).units=A.units+1:=by
 first|rfl|simp[Around.under,Code.cUnits,Code.frames,Code.isFrame]
theorem Room.make{A:Around}(r:Room (k+1) A)(C:Addr)(us:List Value)(kw:List (Str×Value)):Room k (A.under (.builtin "type.__call__" ⟨.ref C::us,kw⟩)):=
 ⟨r.hd,by have:=r.dp;rw[mo];omega,by have:=r.un;rw[lL];omega⟩
theorem Room.depth{A:Around}(r:Room k A):A.depth < recursionLimit:=by have:=r.dp;omega
theorem Room.units{A:Around}(r:Room k A):A.units+64 < cLine:=by have:=r.un;omega
noncomputable def tNil:TA:=fun _ H Q=>Q [] H
noncomputable def t8(ta:TE)(tr:TA):TA:=fun σ H Q=>ta σ H fun x H1=>tr σ H1 fun xs H2=>Q (x::xs) H2
section
variable {X:Cx}{pos:Pos}
theorem pa_nil:PA X [] tNil:=fun _ _ _ _ H Q I h=>Calls.spliced_nil ⟨[],H,I,.nil,h⟩
theorem aT(ha:PE X e te)(hr:PA X es t)(hs:starEach (e::es) X.env=(false,eval e X.env)::starEach es X.env:=by rfl):PA X (e::es) (t8 te t):=by
 intro pos pins s σ H Q I h;rw[hs];show wpAny _ _ (spliced ((false,eval e X.env)::backTo pos (starEach es X.env))) _ _ s;refine Calls.spliced_cons (thn (ha pins s σ H _ I h) fun u s1 ⟨x,H1,I1,r1,q1⟩=>?_)
 exact thn (hr pos pins s1 σ H1 _ I1 q1) fun us s2 ⟨xs,H2,I2,r2,q2⟩=>⟨x::xs,H2,I2,.cons r1 r2,q2⟩
noncomputable def C7(t:TA):TE:=fun σ H Q=>t σ H fun xs H1=>xs.length<=sizeLine/\∀p,H1 p=none->Q (.ref p) (upd H1 p (.tup xs))
noncomputable def DE(t:TA):TE:=fun σ H Q=>t σ H fun xs H1=>xs.length<=sizeLine/\∀p,H1 p=none->Q (.ref p) (upd H1 p (.lst xs))
theorem xb{x1}(h:PA X es t):PE X (.Tuple es x1 pos) (C7 t):=by
 intro pins s σ H Q I hq;refine wpAny_Tuple_spliced (thn (h pos pins s σ H _ I hq) fun us s1 ⟨xs,H1,I1,r,z,q⟩=>⟨by rw[<-r.length];exact z,?_⟩)
 have hf:H1 s1.heap.objs.size=none:=I1.hok.fresh (Nat.le_refl _);refine⟨.ref s1.heap.objs.size,upd H1 s1.heap.objs.size (.tup xs),I1.laid (t':=s1.toks) (fun b u e=>Heap.get?_push_of_some _ e) (Nat.le_refl _) ?_,rfl,q _ hf⟩
 exact⟨z,us,r,⟨_,Heap.get?_push_size _ rfl,rfl,_,rfl⟩⟩
theorem vC(h:PA X es t):PE X (.List es pos) (DE t):=by
 intro pins s σ H Q I hq;refine wpAny_List_spliced (thn (h pos pins s σ H _ I hq) fun us s1 ⟨xs,H1,I1,r,z,q⟩=>⟨by rw[<-r.length];exact z,?_⟩)
 have hf:H1 s1.heap.objs.size=none:=I1.hok.fresh (Nat.le_refl _);refine⟨.ref s1.heap.objs.size,upd H1 s1.heap.objs.size (.lst xs),I1.laid (t':=s1.toks) (fun b u e=>Heap.get?_push_of_some _ e) (Nat.le_refl _) ?_,rfl,q _ hf⟩
 exact⟨z,us,0,r,Heap.get?_push_size _ rfl⟩
end
noncomputable abbrev Sp:=List V->Hp->VK->XK->Prop
noncomputable abbrev CXT:=List Env->Hp->Shared->XK->Value->Shared->Prop
structure Env0 (P:Program)(w:World)(K:PySem.W.Frag)(mg:Str->Option Value)(base:Heap)(A:Around)(outer:List Env)(s:Shared)(H:Hp):Prop where
 frames:A.frames=some outer
 mod:Mod K mg base
 bs:∀b o,base.get? b=some o->s.heap.get? b=some o/\H b=none
 bsz:base.objs.size<=s.heap.objs.size
 funs:s.heap.FunFrames base outer
 frf:∀b∈frs outer,H b=none
 hok:HOk P w H s.heap
 bare:AllBare s.gens
noncomputable def CE(outer:List Env)(P:Program)(w:World)(H:Hp)(s:Shared)(Q:VK)(u:Value)(s':Shared):Prop:=
 ∃v H',s'.os=s.os/\AllBare s'.gens/\Un (frs outer) [] H H' s.heap s'.heap/\HOk P w H' s'.heap/\RelV v u/\Q v H'
noncomputable def CR(CX:CXT)(outer:List Env)(P:Program)(w:World)(H:Hp)(s:Shared)(Q:VK)(E:XK)(r:Result)(s':Shared):Prop:=
 match r with
 |.ok (.ret u)=>CE outer P w H s Q u s'
 |.ok _=>False
 |.error e=>CX outer H s E e s'
structure FnOk (P:Program)(w:World)(K:PySem.W.Frag)(mg:Str->Option Value)(base:Heap)(CX:CXT)(k:Nat)(f:Addr)(fd:FuncData)(ps:List Str)(sp:Sp):Prop where
 len:∀vs H Q E,sp vs H Q E->vs.length=ps.length
 run:∀(A:Around)(outer:List Env)(s:Shared)(H:Hp)(args:Args)(us:List Value)(vs:List V)(Q:VK)(E:XK),Room k A->Env0 P w K mg base A outer s H->BindsTo s fd args (ps.zip us)->Vals vs us->sp vs H Q E->
  codeAny (model P w) A (.call (.ref f) args) (CR CX outer P w H s Q E) s
theorem Env0.make{K:PySem.W.Frag}{A:Around}(e:Env0 P w K mg base A outer s H)(C:Addr)(us:List Value)(kw:List (Str×Value)) :
  Env0 P w K mg base (A.under (.builtin "type.__call__" ⟨.ref C::us,kw⟩)) outer s H:=⟨by first|exact e.frames|(simpa [Around.under,Code.envs,Code.isFrame,pushEnvs] using e.frames),e.mod,e.bs,e.bsz,e.funs,e.frf,e.hok,e.bare⟩
section
variable {X:Cx}{s:Shared}
theorem Inv.env0(I:Inv X pins σ H s):Env0 X.prog X.w X.K X.mg X.base X.A X.stack s H:=
 ⟨I.ok.frames,I.ok.mod,I.bs,Nat.le_trans I.ok.bsz I.sz,I.stack,I.stkFree,I.hok,I.bare⟩
theorem Inv.after(I:Inv X pins σ H s)(h:CE X.stack X.prog X.w H s Q u s'):EP X pins σ Q u s':=by
 obtain⟨v,H',os,bare,un,hok,r,q⟩:=h;obtain⟨hh,g,d,t,os'⟩:=s';obtain rfl:os'=s.os:=os;exact⟨v,H',I.call (h':=hh) (g':=g) (d':=d) (t':=t) (ch:=[]) un hok bare (fun b z=>absurd z (by simp)),r,q⟩
end
noncomputable def Binds(K:PySem.W.Frag)(fd:FuncData)(ps:List Str)(ds:List Value):Prop:=
 ∀(s:Shared)(us:List Value),K.In s.heap->(us++ds).length=ps.length->BindsTo s fd ⟨us,[]⟩ (ps.zip (us++ds))
theorem Binds.all{K:PySem.W.Frag}{ps:List Str}(h:∀us:List Value,us.length=ps.length->bindArgs fd ⟨us,[]⟩=pure (ps.zip us)):Binds K fd ps []:=fun s us _ hl=>by
 rw[List.append_nil]at hl ⊢;exact .of_eq (h us hl)
noncomputable def v5(CX:CXT)(X:Cx)(E:XK):Prop:=∀(pins:List (Addr×Obj)) (σ:St)(H:Hp)(s:Shared)(e:Value)(s':Shared),Inv X pins σ H s->CX X.stack H s E e s'->X.xe e s'
section
variable {X:Cx}{k:Nat}{ps:List Str}{x:Str}{p pos apos:Pos}{o:Expr}
structure Mk (K:PySem.W.Frag)(C f:Addr):Prop where
 makes:PySem.W.makesIn K C=true
 init:PySem.W.findIn K (.ref C) "__init__"=some (some (.ref f))
 fn:PySem.W.isFn K (.ref f)=true
 kp:PySem.W.keepIn K (.ref C)=true
end
section
variable {X:Cx}{k:Nat}{ps ks:List Str}{x:Str}{p pos apos:Pos}{o:Expr}
end
structure FnScope (N P:List Str)(sc:Scope):Prop where
 kind:sc.kind=.function
 co:sc.isCoroutine=false
 gen:sc.isGenerator=false
 nd:N.Nodup
 pre:N.take P.length=P
 par:∀x∈P,sc.names.lookup x=some .local\/sc.names.lookup x=some .cell
 nofree:∀y∈sc.names,y.2≠.free
theorem ji{kindOf:Str->Option NameKind}{x:Str}:∀{binds:List (Str×Value)}{m:Str->Option Value},(∀v,(x,v)∉binds)->bindL kindOf binds m x=m x
 |[],_,_=>rfl
 |(n,v)::r,m,h=>by
  unfold bindL;rw[ji fun w hw=>h w (List.mem_cons_of_mem _ hw)]
  split
  ·have:x≠n:=by rintro rfl;exact h v List.mem_cons_self
   simp[this]
  ·rfl
theorem iU{kindOf:Str->Option NameKind}{x:Str}:∀{binds:List (Str×Value)}{m:Str->Option Value},(∀v,(x,v)∉binds)->bindC kindOf binds m x=m x
 |[],_,_=>rfl
 |(n,v)::r,m,h=>by
  unfold bindC;rw[iU fun w hw=>h w (List.mem_cons_of_mem _ hw)]
  split
  ·rfl
  ·have:x≠n:=by rintro rfl;exact h v List.mem_cons_self
   simp[this]
theorem iK{kindOf:Str->Option NameKind}{x:Str}{v:Value}:∀{P:List Str}{vs:List Value}{i:Nat}{m:Str->Option Value},P.Nodup->P[i]?=some x->vs[i]?=some v->kindOf x=some .local->
  bindL kindOf (P.zip vs) m x=some v
 |[],_,_,_,_,h,_,_=>by simp at h
 |_::_,[],_,_,_,_,h,_=>by simp at h
 |p::P,w::vs,0,m,nd,h1,h2,hk=>by
  simp at h1 h2;subst h1;subst h2;show bindL kindOf ((p,w)::P.zip vs) m p=_;unfold bindL;rw[ji fun v hv=>(List.nodup_cons.mp nd).1 (List.of_mem_zip hv).1,if_pos hk]
  simp
 |p::P,w::vs,i+1,m,nd,h1,h2,hk=>by
  show bindL kindOf ((p,w)::P.zip vs) m x=_;unfold bindL;exact iK (i:=i) (List.nodup_cons.mp nd).2 (by simpa using h1) (by simpa using h2) hk
theorem jd{kindOf:Str->Option NameKind}{x:Str}{v:Value}:∀{P:List Str}{vs:List Value}{i:Nat}{m:Str->Option Value},P.Nodup->P[i]?=some x->vs[i]?=some v->kindOf x≠some .local->
  bindC kindOf (P.zip vs) m x=some v
 |[],_,_,_,_,h,_,_=>by simp at h
 |_::_,[],_,_,_,_,h,_=>by simp at h
 |p::P,w::vs,0,m,nd,h1,h2,hk=>by
  simp at h1 h2;subst h1;subst h2;show bindC kindOf ((p,w)::P.zip vs) m p=_;unfold bindC;rw[iU fun v hv=>(List.nodup_cons.mp nd).1 (List.of_mem_zip hv).1,if_neg hk]
  simp
 |p::P,w::vs,i+1,m,nd,h1,h2,hk=>by
  show bindC kindOf ((p,w)::P.zip vs) m x=_;unfold bindC;exact jd (i:=i) (List.nodup_cons.mp nd).2 (by simpa using h1) (by simpa using h2) hk
noncomputable def start(N:List Str)(vs:List V):St:=vs.map some++List.replicate (N.length - vs.length) none
noncomputable def bC(CX:CXT)(P:Program)(w:World)(K:PySem.W.Frag)(mg:Str->Option Value)(base:Heap)(N:List Str)(qual:Str)(scope:Scope)(f:Addr)(cd:Value)(A:Around)(outer:List Env)(s:Shared)(H:Hp)(E:XK):Cx where
 prog:=P
 w:=w
 K:=K
 mg:=mg
 base:=base
 A:=A.deeper (envOfC qual scope s.heap.objs.size f cd)
 N:=N
 s₀:=s
 H₀:=H
 env:=envOfC qual scope s.heap.objs.size f cd
 outer:=outer
 stack:=envOfC qual scope s.heap.objs.size f cd::outer
 ex:=[]
 calm:=true
 fn:=fun _=>true
 pn:=[]
 xe:=fun e s'=>wpAny (model P w) (A.deeper (envOfC qual scope s.heap.objs.size f cd)) (leaving (envOfC qual scope s.heap.objs.size f cd) e) (fun _ s''=>CX outer H s E e s'') (fun e' s''=>CX outer H s E e' s'') s'
theorem k9{sc:Scope}(h:sc.names.lookup x=some .cell):∃c,(cellsFrom n sc.names []).lookup x=some c:=by
 have q:=PySem.W.cellsFrom_some sc.names n [] (.inl h);exact Option.isSome_iff_exists.mp q
theorem ol{K:PySem.W.Frag}{ps:List Str}{scope:Scope}{A:Around}{s:Shared}{vs:List V}
  (S:FnScope N ps scope) (hd:A.handled=none) (e0:Env0 P w K mg base A outer s H) (hl:vs.length=ps.length) (r:Vals vs us)
  (x:InCallC s s.heap.objs.size (bindL (envOfC qual scope s.heap.objs.size f cd).kindOf (ps.zip us) fun _=>none) (cellsFrom (s.heap.objs.size+1) scope.names []) (bindC (envOfC qual scope s.heap.objs.size f cd).kindOf (ps.zip us) fun _=>none) s1) :
  Inv (bC CX P w K mg base N qual scope f cd A outer s H E) [] (start N vs) H s1:=by
 have hpl:ps.length<=N.length:=by have:=congrArg List.length S.pre;rw[List.length_take]at this;omega
 obtain⟨h1,tk,rfl,hk⟩:=x.done;have noA:∀b:Addr,b∉(bC CX P w K mg base N qual scope f cd A outer s H E).ex:=fun b z=>absurd (show b∈([]:List Addr) from z) (by simp)
 refine⟨⟨e0.mod,S.kind,rfl,rfl,Nat.le_refl _,fun y z c h1 h2=>?_,fun y hy=>?_,fun y c _ h=>?_,fun _=>hd,Around.frames_deeper e0.frames,.inr ⟨rfl,rfl⟩,fun b z=>absurd z (noA b),e0.bs,e0.bsz,fun b _ _=>noA b,fun b z=>absurd z (noA b),e0.funs,e0.frf⟩,
  rfl,e0.bare,Un.kept hk,⟨_,x.toInCall.ns,fun i y v h1 h2 h3=>?_⟩,fun y c h=>⟨_,x.cell y c h⟩,e0.hok.fresh (Nat.le_refl _),fun y c h=>?_,fun p hp=>absurd (show p∈([]:List (Addr×Obj)) from hp) (by simp),e0.hok.kept hk,?_⟩
 ·exact name_of_addr x.apart (PySem.mem_of_lookup h1) (PySem.mem_of_lookup h2)
 ·have hy:scope.names.lookup y=some .cell\/scope.names.lookup y=some .free:=hy;rcases hy with hy|hy
  ·exact k9 hy
  ·exact absurd rfl (S.nofree _ (PySem.mem_of_lookup hy))
 ·exact Nat.le_of_lt (x.above y c (PySem.mem_of_lookup h))
 ·have hi:i < vs.length:=by
   unfold start at h2;by_cases hi:i < vs.length
   ·exact hi
   ·rw[List.getElem?_append_right (by simpa using hi)]at h2
    rw[List.getElem?_replicate]at h2;split at h2<;>cases h2
  have ha:vs[i]?=some v:=by
   unfold start at h2;rw[List.getElem?_append_left (by simpa using hi),List.getElem?_map]at h2
   cases e:vs[i]? with
   |none=>rw[e]at h2;cases h2
   |some a=>rw[e]at h2;cases h2;rfl
  obtain⟨u,hu,rv⟩:=r.get ha;have hp:ps[i]?=some y:=by
   rw[<-S.pre,List.getElem?_take_of_lt (by omega)];exact h1
  have ndP:ps.Nodup:=by rw[<-S.pre];exact S.nd.sublist (List.take_sublist _ _)
  refine⟨u,rv,?_⟩;rcases S.par y (List.mem_of_getElem? hp) with k|k
  ·exact .inl ⟨k,iK ndP hp hu k⟩
  ·obtain⟨c,e⟩:=k9 (n:=s.heap.objs.size+1) k;refine .inr ⟨.inl k,c,e,?_⟩;have q:=x.cell y c e;rw[jd ndP hp hu (by show scope.names.lookup y≠_;rw[k];decide)]at q
   exact q
 ·exact e0.hok.fresh (Nat.le_of_lt (x.above y c (PySem.mem_of_lookup h)))
 ·unfold start;show _=N.length;rw[List.length_append,List.length_map,List.length_replicate];omega
theorem qB{CX:CXT}{P:Program}{w:World}{K:PySem.W.Frag}{mg:Str->Option Value}{base:Heap}{k:Nat}{f:Addr}{name qual:Str}{params:Arguments}{body:List Stmt}{scope:Scope}{dV kV doc pm cdv ct oc:Value}{an od:Option Addr}
  {osl:Array (Option Value)}{N ps:List Str}{sp:Sp} (lk:K.lookup f=some ⟨oc,od,.func (PySem.W.fnOf name qual params body scope dV kV doc pm an cdv ct),osl⟩) (hcd:PySem.W.codeIn K cdv qual=true) (S:FnScope N ps scope)
  (len:∀vs H Q E,sp vs H Q E->vs.length=ps.length)
  (hbody:∀(A:Around)(outer:List Env)(s:Shared)(H:Hp)(vs:List V)(Q:VK)(E:XK),Room k (A.deeper (envOfC qual scope s.heap.objs.size f cdv))->sp vs H Q E->
   ∃t,PSs (bC CX P w K mg base N qual scope f cdv A outer s H E) body t/\t {nx:=fun _ H'=>Q .non H',rt:=Q} (start N vs) H) :
  FnOk P w K mg base CX (k+1) f (PySem.W.fnOf name qual params body scope dV kV doc pm an cdv ct) ps sp:=by
 refine⟨len,fun A outer s H args us vs Q E hr e0 hb r hsp=>?_⟩
 have hl:=len _ _ _ _ hsp;have KX:K.In s.heap:=e0.mod.kin.keeps fun b o e=>(e0.bs b o e).1
 have lim:s.heap.NoLimit:=e0.mod.nolimit.keeps fun b o e=>(e0.bs b o e).1
 have hkind:∀y∈ps.zip us,scope.names.lookup y.1=some .local\/(scope.names.lookup y.1=some .cell/\((cellsFrom (s.heap.objs.size+1) scope.names []).lookup y.1).isSome=true):=fun ⟨n,v⟩ hy=>by
  rcases S.par n (List.of_mem_zip hy).1 with q|q
  ·exact .inl q
  ·exact .inr ⟨q,PySem.W.cellsFrom_some _ _ _ (.inl q)⟩
 refine codeAny_call_function hr.depth (KX _ _ lk) rfl S.co S.gen rfl (PySem.W.codeRec_of KX hcd) (hb _ _ _ _ ?_);refine wpAny_newFunctionEnv_cells S.kind hkind fun env he s1 x=>?_
 subst he;refine⟨lim.keeps x.toInCall.keep,codeAny_func ?_⟩;obtain⟨t,ht,hq⟩:=hbody A outer s H vs Q E (hr.deeper _) hsp;have I:Inv (bC CX P w K mg base N qual scope f cdv A outer s H E) [] (start N vs) H s1:=ol S hr.hd e0 hl r x;refine wpAny_mono (ht [] s1 (start N vs) H _ I hq) (fun fl s' hs=>?_) fun e s' hs=>hs
 have fin:∀{σ':St}{H':Hp}{v:V}{u:Value},Inv (bC CX P w K mg base N qual scope f cdv A outer s H E) [] σ' H' s'->RelV v u->Q v H'->CE outer P w H s Q u s':=
  fun {σ' H' v u} J rv q=>⟨v,H',J.os,J.bare,J.base,J.hok,rv,q⟩
 cases fl with
 |ret u=>
  obtain⟨v,σ',H',J,rv,q⟩:=hs;exact fin J rv q
 |next=>
  obtain⟨σ',H',J,q⟩:=hs;exact fin (v:=V.non) (u:=Value.none) J rfl q
 |brk=>
  obtain⟨_,_,_,q⟩:=hs;exact False.elim q
 |cont=>
  obtain⟨_,_,_,q⟩:=hs;exact False.elim q
end L2
namespace L2
open PySem PySem.Spec PyProof.Rows
section
variable {X:Cx}{x:Str}{p pos:Pos}{id:String}
noncomputable def tCB(r:List V->Hp->VK->Prop)(t:TA):TE:=fun σ H Q=>t σ H fun vs H1=>r vs H1 Q
theorem hJ(hc:CallR X (.builtin id) r)(hg:Gl X x)(hm:X.mg x=none)(hv:bootBuiltins x=some (.builtin id))(ha:PA X (e::es) t)(hn:x≠"__name__":=by decide)(hdb:(x == ("__debug__" : Str))=false:=by decide)
  (he:starEach (e::es) X.env=(false,eval e X.env)::starEach es X.env:=by rfl) (hpl:(backTo pos (starEach es X.env)).any (·.1)=false:=by rfl):PE X (.Call (.Name x p) (e::es) [] pos) (tCB r t):=by
 intro pins s σ H Q I h;refine wpAny_Call_Name_kw (cI I hg hm hv ?_ hn hdb);exact PyProof.Rows.callWith_builtin1 (thn (ha pos pins s σ H _ I h) fun us s1 ⟨vs,H1,I1,r1,q1⟩=>hc pins s1 σ H1 vs us Q I1 r1 q1) he hpl
theorem jl(hc:CallR X (.type T) r)(hg:Gl X x)(hm:X.mg x=none)(hv:bootBuiltins x=some (.type T))(ha:PA X (e::es) t)(hn:x≠"__name__":=by decide)(hdb:(x == ("__debug__" : Str))=false:=by decide)
  (he:starEach (e::es) X.env=(false,eval e X.env)::starEach es X.env:=by rfl) (hpl:(backTo pos (starEach es X.env)).any (·.1)=false:=by rfl):PE X (.Call (.Name x p) (e::es) [] pos) (tCB r t):=by
 intro pins s σ H Q I h;refine wpAny_Call_Name_kw (cI I hg hm hv ?_ hn hdb);exact PyProof.Rows.callWith_type1 (thn (ha pos pins s σ H _ I h) fun us s1 ⟨vs,H1,I1,r1,q1⟩=>hc pins s1 σ H1 vs us Q I1 r1 q1) he hpl
end
end L2
namespace L2
open PySem PySem.Spec PyProof.Rows
section
variable [DecidableEq κ]
noncomputable def cO(kvs:List (κ×V))(k:κ):Option V:=(kvs.find? fun kv=>decide (kv.1=k)).map (·.2)
noncomputable def cY(kvs:List (κ×V))(k:κ)(v:V):List (κ×V):=
 if (kvs.any fun kv=>decide (kv.1=k))=true then kvs.map (fun kv=>if kv.1=k then (kv.1,v) else kv) else kvs++[(k,v)]
theorem cW{p:κ×V}(e:p.1=k):cO (p::r) k=some p.2:=by simp[cO,List.find?_cons,e]
theorem ck{p:κ×V}(e:¬ p.1=k):cO (p::r) k=cO r k:=by simp[cO,List.find?_cons,e]
theorem ke(k:κ):∀kvs:List (κ×V),(kvs.any fun kv=>decide (kv.1=k))=(cO kvs k).isSome
 |[]=>rfl
 |p::r=>by
  rw[List.any_cons];by_cases e:p.1=k
  ·simp only[cW e,decide_eq_true e,Bool.true_or,Option.isSome_some]
  ·rw[ck e,decide_eq_false e,Bool.false_or];exact ke k r
theorem fG(kvs:List (κ×V))(k:κ)(v:V):(cY kvs k v).length<=kvs.length+1:=by
 unfold cY;split
 ·rw[List.length_map];omega
 ·rw[List.length_append,List.length_cons,List.length_nil];omega
theorem RelO.isSome_eq{o:Option V}{u:Option Value}(r:RelO o u):o.isSome=u.isSome:=by
 cases o with
 |none=>cases u with
  |none=>rfl
  |some _=>exact (show False from r).elim
 |some _=>cases u with
  |none=>exact (show False from r).elim
  |some _=>rfl
theorem RelO.getD{o:Option V}{u:Option Value}(r:RelO o u)(rd:RelV d d'):RelV (o.getD d) (u.getD d'):=by
 cases o with
 |none=>cases u with
  |none=>exact rd
  |some _=>exact (show False from r).elim
 |some _=>cases u with
  |none=>exact (show False from r).elim
  |some _=>exact r
theorem KV.val(r:KV kvs vs)(k:κ):RelO (cO kvs k) (valueAt vs k):=by
 unfold KV at r
 induction r with
 |nil=>exact True.intro
 |@cons p q ps qs h t ih=>
  obtain⟨h1,h2⟩:=h;by_cases e:p.1=k
  ·have e':q.1=k:=h1.symm.trans e;have b:valueAt (q::qs) k=some q.2:=by simp[valueAt,List.find?_cons,e']
   rw[cW e,b];exact h2
  ·have e':¬ q.1=k:=fun z=>e (h1.trans z)
   have b:valueAt (q::qs) k=valueAt qs k:=by simp[valueAt,List.find?_cons,e']
   rw[ck e,b];exact ih
theorem KV.any{kvs:List (κ×V)}{vs:List (κ×Value)}(r:KV kvs vs)(k:κ):(kvs.any fun kv=>decide (kv.1=k))=vs.any fun kv=>decide (kv.1=k):=by
 unfold KV at r
 induction r with
 |nil=>rfl
 |cons h t ih=>rw[List.any_cons,List.any_cons,ih,h.1]
theorem KV.repl{kvs:List (κ×V)}{vs:List (κ×Value)}(r:KV kvs vs)(k:κ)(ry:RelV y u) :
  KV (kvs.map fun kv=>if kv.1=k then (kv.1,y) else kv) (vs.map fun kv=>if kv.1=k then (kv.1,u) else kv):=by
 unfold KV at r ⊢
 induction r with
 |nil=>exact .nil
 |@cons p q ps qs h t ih=>
  rw[List.map_cons,List.map_cons];refine .cons ?_ ih;obtain⟨h1,h2⟩:=h;by_cases e:p.1=k
  ·rw[if_pos e,if_pos (h1.symm.trans e)];exact⟨h1,ry⟩
  ·rw[if_neg e,if_neg (fun z=>e (h1.trans z))];exact⟨h1,h2⟩
theorem KV.put(r:KV kvs vs)(k:κ)(ry:RelV y u):KV (cY kvs k y) (stored vs k u):=by
 unfold cY stored;rw[r.any k];by_cases e:(vs.any fun kv=>decide (kv.1=k))=true
 ·rw[if_pos e,if_pos e];exact r.repl k ry
 ·rw[if_neg e,if_neg e];exact Paired.snoc r ⟨rfl,ry⟩
theorem KV.keys{kvs:List (κ×V)}{vs:List (κ×Value)}(r:KV kvs vs):kvs.map (·.1)=vs.map (·.1):=by
 unfold KV at r
 induction r with
 |nil=>rfl
 |cons h t ih=>rw[List.map_cons,List.map_cons,ih,h.1]
theorem KV.length{kvs:List (κ×V)}{vs:List (κ×Value)}(r:KV kvs vs):kvs.length=vs.length:=Paired.length r
end
theorem gQ(r:RelV (kV k) u):(az P w).is k u=true:=by
 cases k with
 |inl i=>obtain⟨t,e⟩:=(show ∃t,u=Value.int i t from r);subst e;exact ly P w i t
 |inr x=>obtain⟨t,e⟩:=(show ∃t,u=Value.str x t from r);subst e;exact km P w x t
theorem jg:∀{ks:List Key}{us:List Value},Vals (ks.map kV) us->ItemsAre (az P w) ks us
 |[],_,r=>by rw[List.map_nil]at r;cases r;exact .nil
 |k::ks,_,r=>by
  rw[List.map_cons]at r;cases r with
  |cons h t=>exact .cons (gQ h) (jg t)
noncomputable abbrev KT(H:Hp):List (List Key×V)->List (List Key×Addr×Value)->Prop:=Paired fun p q=>p.1=q.1/\H q.2.1=some (.tup (p.1.map kV))/\RelV p.2 q.2.2
theorem KT.val(r:KT H kvs xs)(k:List Key):RelO (cO kvs k) ((atKey xs k).map (·.2)):=by
 induction r with
 |nil=>exact True.intro
 |@cons p q ps qs h t ih=>
  obtain⟨h1,_,h2⟩:=h;by_cases e:p.1=k
  ·have e':q.1=k:=h1.symm.trans e;have b:atKey (q::qs) k=some q.2:=by simp[atKey,List.find?_cons,e']
   rw[cW e,b];exact h2
  ·have e':¬ q.1=k:=fun z=>e (h1.trans z)
   have b:atKey (q::qs) k=atKey qs k:=by simp[atKey,List.find?_cons,e']
   rw[ck e,b];exact ih
theorem KT.repl{kvs:List (List Key×V)}{xs:List (List Key×Addr×Value)}(r:KT H kvs xs)(k:List Key)(ry:RelV y u) :
  KT H (kvs.map fun kv=>if kv.1=k then (kv.1,y) else kv) (xs.map (putAt k u)):=by
 induction r with
 |nil=>exact .nil
 |@cons p q ps qs h t ih=>
  rw[List.map_cons,List.map_cons];refine .cons ?_ ih;obtain⟨h1,h2,h3⟩:=h;unfold putAt;by_cases e:p.1=k
  ·rw[if_pos e,if_pos (h1.symm.trans e)];exact⟨h1,h2,ry⟩
  ·rw[if_neg e,if_neg (fun z=>e (h1.trans z))];exact⟨h1,h2,h3⟩
theorem KT.put(r:KT H kvs xs)(k:List Key)(hb:H b=some (.tup (k.map kV)))(ry:RelV y u) :
  KT H (cY kvs k y) (storedH xs k b u):=by
 have e:(kvs.any fun kv=>decide (kv.1=k))=(atKey xs k).isSome:=by
  rw[ke,(r.val k).isSome_eq,Option.isSome_map]
 unfold cY storedH;rw[e];by_cases q:(atKey xs k).isSome=true
 ·rw[if_pos q,if_pos q];exact r.repl k ry
 ·rw[if_neg q,if_neg q];exact Paired.snoc r ⟨rfl,hb,ry⟩
theorem KT.keeps(r:KT H kvs xs)(ht:∀b ys,H b=some (.tup ys)->H' b=some (.tup ys)):KT H' kvs xs:=
 Paired.mapP r fun _ _ z=>⟨z.1,ht _ _ z.2.1,z.2.2⟩
section
variable {w:World}{h:Heap}{a:Addr}
theorem tQ(ok:HOk P w H h)(e:Rd H a u):ObjOk P w H h a u:=e.ok ok
theorem fN{kvs:List (Key×V)}(ok:HOk P w H h)(e:Rd H a (.dK kvs)):kvs.length<=sizeLine/\(a == sysModules)=false/\∃vs,KV kvs vs/\h.DictOf (az P w) a vs:=
 show ObjOk P w H h a (.dK kvs) from tQ ok e
theorem tX{kvs:List (Key×V)}(ok:HOk P w H h)(e:H a=some (.dK kvs)):kvs.length<=sizeLine/\(a == sysModules)=false/\∃vs,KV kvs vs/\h.DictOf (az P w) a vs:=fN ok (.inl e)
theorem dX{ks:List Key}(ok:HOk P w H h)(e:H a=some (.tup (ks.map kV))):(tupleKind (az P w)).is h ks a:=by
 obtain⟨_,its,r,o,h1,h2,n,h3⟩:=(show ObjOk P w H h a (.tup (ks.map kV)) from ok a _ e);exact⟨o,its.toArray,n,h1,h2,h3,by simpa using jg r⟩
theorem jc{kvs:List (List Key×V)}(ok:HOk P w H h)(e:Rd H a (.dT kvs)):kvs.length<=sizeLine/\(a == sysModules)=false/\
  ∃xs,KT H kvs xs/\h.DictOfH (tupleKind (az P w)) a xs:=by
 obtain⟨z,y,xs,r,o,es,ep,h1,h2,h3,h4,h5⟩:=(show ObjOk P w H h a (.dT kvs) from tQ ok e);refine⟨z,y,xs,r,o,es,ep,h1,h2,h3,h4,fun x hx=>?_,h5⟩
 have all:∀{l:List (List Key×V)}{m:List (List Key×Addr×Value)},KT H l m->∀x∈m,(tupleKind (az P w)).is h x.1 x.2.1:=by
  intro l m q
  induction q with
  |nil=>intro x hx;exact nomatch hx
  |@cons p q ps qs hq t ih=>
   intro x hx;rcases List.mem_cons.mp hx with e|hx
   ·subst e;exact dX ok (by rw[<-hq.1];exact hq.2.1)
   ·exact ih x hx
 exact all r x hx
theorem yO{kvs:List (List Key×V)}(ok:HOk P w H h)(e:H a=some (.dT kvs)):kvs.length<=sizeLine/\(a == sysModules)=false/\
  ∃xs,KT H kvs xs/\h.DictOfH (tupleKind (az P w)) a xs:=jc ok (.inl e)
end
noncomputable def DGet(H:Hp)(a:Addr)(y:V)(r:Option V):Prop:=
 (∃kvs k,Rd H a (.dK kvs)/\y=kV k/\r=cO kvs k)\/∃kvs k b,Rd H a (.dT kvs)/\y=.ref b/\H b=some (.tup (k.map kV))/\r=cO kvs k
noncomputable def DPut(H:Hp)(a:Addr)(y v:V)(H':Hp):Prop:=
 (∃kvs k,H a=some (.dK kvs)/\y=kV k/\kvs.length < sizeLine/\H'=upd H a (.dK (cY kvs k v)))\/
 ∃kvs k b,H a=some (.dT kvs)/\y=.ref b/\H b=some (.tup (k.map kV))/\kvs.length < sizeLine/\H'=upd H a (.dT (cY kvs k v))
theorem DGet.k{H:Hp}{a:Addr}{kvs:List (Key×V)}{k:Key}(e:H a=some (.dK kvs)):DGet H a (kV k) (cO kvs k):=.inl ⟨kvs,k,.inl e,rfl,rfl⟩
theorem DGet.t{H:Hp}{a b:Addr}{kvs:List (List Key×V)}{k:List Key}(e:H a=some (.dT kvs))(eb:H b=some (.tup (k.map kV))):DGet H a (.ref b) (cO kvs k):=.inr ⟨kvs,k,b,.inl e,rfl,eb,rfl⟩
theorem DPut.k{H:Hp}{a:Addr}{kvs:List (Key×V)}{k:Key}{v:V}(e:H a=some (.dK kvs))(hl:kvs.length < sizeLine):DPut H a (kV k) v (upd H a (.dK (cY kvs k v))):=.inl ⟨kvs,k,e,rfl,hl,rfl⟩
theorem DPut.t{H:Hp}{a b:Addr}{kvs:List (List Key×V)}{k:List Key}{v:V}(e:H a=some (.dT kvs))(eb:H b=some (.tup (k.map kV)))(hl:kvs.length < sizeLine) :
  DPut H a (.ref b) v (upd H a (.dT (cY kvs k v))):=.inr ⟨kvs,k,b,e,rfl,eb,hl,rfl⟩
section
variable {X:Cx}{s:Shared}{a:Addr}{y:V}{o:Option V}{A:Around}
theorem oy(hu:A.units+1 < cLine)(I:Inv X pins σ H s)(g:DGet H a y (some v))(ry:RelV y u)(h:∀w' s',Inv X pins σ H s'->RelV v w'->Q w' s') :
  wpAny (model X.prog X.w) A (getItem (.ref a) u) Q E s:=by
 rcases g with ⟨kvs,k,e,ey,l⟩|⟨kvs,k,b,e,ey,eb,l⟩
 ·subst ey;obtain⟨z,hd,vs,rel,dd⟩:=fN I.hok e;obtain⟨w',hw,rw'⟩:=RelO.some_of (v:=v) (o:=valueAt vs k) (by rw[l];exact rel.val k)
  exact wpAny_getItem_of (gQ ry) dd.mapOf hw (h w' _ (I.tok _) rw')
 ·subst ey;cases (show u=Value.ref b from ry);obtain⟨z,hd,xs,rel,dd⟩:=jc I.hok e;obtain⟨w',hw,rw'⟩:=RelO.some_of (v:=v) (o:=(atKey xs k).map (·.2)) (by rw[l];exact rel.val k)
  obtain⟨p,hp,hp2⟩:=Option.map_eq_some_iff.mp hw;refine wpAny_getItem_heap (tupleKind_room_in1 hu) (dX I.hok eb) dd hp ?_;rw[hp2];exact h w' _ (I.tok _) rw'
theorem C0(hu:A.units+1 < cLine)(I:Inv X pins σ H s)(g:DGet H a y o)(ry:RelV y u)(h:∀s',Inv X pins σ H s'->Q (.bool o.isSome) s') :
  wpAny (model X.prog X.w) A (compareOp .In u (.ref a)) Q E s:=by
 rcases g with ⟨kvs,k,e,ey,l⟩|⟨kvs,k,b,e,ey,eb,l⟩
 ·subst ey;obtain⟨z,hd,vs,rel,dd⟩:=fN I.hok e;refine wpAny_in_of (gQ ry) hd dd.mapOf ?_;rw[<-(rel.val k).isSome_eq,<-l];exact h _ (I.tok _)
 ·subst ey;cases (show u=Value.ref b from ry);obtain⟨z,hd,xs,rel,dd⟩:=jc I.hok e;refine wpAny_in_heap (tupleKind_room_in1 hu) (dX I.hok eb) hd dd ?_;have q:=(rel.val k).isSome_eq;rw[Option.isSome_map]at q;rw[<-q,<-l];exact h _ (I.tok _)
theorem r8(hu:A.units+1 < cLine)(I:Inv X pins σ H s)(g:DGet H a y o)(ry:RelV y u)(h:∀s',Inv X pins σ H s'->Q (.bool (!o.isSome)) s') :
  wpAny (model X.prog X.w) A (compareOp .NotIn u (.ref a)) Q E s:=by
 rcases g with ⟨kvs,k,e,ey,l⟩|⟨kvs,k,b,e,ey,eb,l⟩
 ·subst ey;obtain⟨z,hd,vs,rel,dd⟩:=fN I.hok e;refine wpAny_notIn_of (gQ ry) hd dd.mapOf ?_;rw[<-(rel.val k).isSome_eq,<-l];exact h _ (I.tok _)
 ·subst ey;cases (show u=Value.ref b from ry);obtain⟨z,hd,xs,rel,dd⟩:=jc I.hok e;refine wpAny_notIn_heap (tupleKind_room_in1 hu) (dX I.hok eb) hd dd ?_;have q:=(rel.val k).isSome_eq;rw[Option.isSome_map]at q;rw[<-q,<-l];exact h _ (I.tok _)
theorem gA{h':Heap}(I:Inv X pins σ H s)(mu:Mut (H a))(hs:Heap.SameBut a s.heap h')(he:∃q,h'.get? a=some q)(new:ObjOk X.prog X.w (upd H a ob) h' a ob) :
  Inv X pins σ (upd H a ob) {s with heap:=h',toks:=t'}:=
 I.write (x:=a) (e:=a) mu (.inl rfl) (fun b q hb z=>(hs.2 b hb).trans z) he new
theorem xh{h':Heap}{kvs:List (Key×V)}(z:kvs.length<=sizeLine)(hd:(a == sysModules)=false)(rel:KV kvs vs)(dd:h'.DictOf (az P w) a vs) :
  ObjOk P w H' h' a (.dK kvs):=⟨z,hd,vs,rel,dd⟩
theorem om(hu:A.units+1 < cLine)(I:Inv X pins σ H s)(g:DPut H a y v H')(ry:RelV y u)(rv:RelV v r)(h:∀s',Inv X pins σ H' s'->Q () s') :
  wpAny (model X.prog X.w) A (setItem (.ref a) u r) Q E s:=by
 rcases g with ⟨kvs,k,e,ey,l,eH⟩|⟨kvs,k,b,e,ey,eb,l,eH⟩
 ·subst ey eH;obtain⟨z,hd,vs,rel,dd⟩:=tX I.hok e;have hz:vs.length<=sizeLine:=by rw[<-rel.length];exact z
  have hl:(cY kvs k v).length<=sizeLine:=by have:=fG kvs k v;omega
  refine wpAny_setItem_pairs (hsz:=hz) (gQ ry) dd fun h' dd' hs=>h _ ?_
  have he:∃q,h'.get? a=some q:=let ⟨q,_,_,hq,_⟩:=dd';⟨q,hq⟩
  exact gA I (by rw[e];exact True.intro) hs he (xh hl hd (rel.put k rv) dd')
 ·subst ey eH;cases (show u=Value.ref b from ry);obtain⟨z,hd,xs,rel,dd⟩:=yO I.hok e;have hz:xs.length<=sizeLine:=by rw[<-Paired.length rel];exact z
  have hl:(cY kvs k v).length<=sizeLine:=by have:=fG kvs k v;omega
  refine wpAny_setItem_heap (hsz:=hz) (tupleKind_room_in1 hu) (dX I.hok eb) dd fun h' dd' hs=>h _ ?_
  obtain⟨q,es,ep,hq,h2,h3,h4,_,h5⟩:=dd';refine gA I (by rw[e];exact True.intro) hs ⟨q,hq⟩ ⟨hl,hd,_,(rel.put k eb rv).keeps fun c ys ec=>?_,q,es,ep,hq,h2,h3,h4,h5⟩
  rw[aa (cq ec e (fun z=>nomatch z))]
  exact ec
end
section
variable {X:Cx}{s:Shared}{a:Addr}{kvs:List (Key×V)}{A:Around}
end
section
variable {X:Cx}{o:Expr}{pos:Pos}
end
section
variable {X:Cx}
end
structure M1 (X:Cx)(o:Expr)(m:Str)(apos:Pos)(e:Expr)(cpos:Pos):Prop where
 base:attributeBase o m X.env (eval o X.env)=eval o X.env
 few:((backTo cpos (starEach [e] X.env)).all (fun x=>!x.1)&&(backToKw cpos (keywordEach [] X.env)).all (fun x=>x.1.isSome)
  &&decide (([e]:List Expr).length+([]:List Keyword).length+(if ([]:List Keyword).isEmpty then 0 else 1) < 30))=true
 line:(apos.endLine == cpos.line)=true
 trees:backTo cpos (starEach [e] X.env)=[(false,eval e X.env)]
structure M2 (X:Cx)(o:Expr)(m:Str)(apos:Pos)(e f:Expr)(cpos:Pos):Prop where
 base:attributeBase o m X.env (eval o X.env)=eval o X.env
 few:((backTo cpos (starEach [e,f] X.env)).all (fun x=>!x.1)&&(backToKw cpos (keywordEach [] X.env)).all (fun x=>x.1.isSome)
  &&decide (([e,f]:List Expr).length+([]:List Keyword).length+(if ([]:List Keyword).isEmpty then 0 else 1) < 30))=true
 line:(apos.endLine == cpos.line)=true
 trees:backTo cpos (starEach [e,f] X.env)=[(false,eval e X.env),(false,eval f X.env)]
section
variable {X:Cx}{s:Shared}{a:Addr}{y d:V}{o:Option V}{A:Around}
theorem uK(hu:A.units+1 < cLine)(I:Inv X pins σ H s)(g:DGet H a y o)(ry:RelV y u)(h:∀w' s',Inv X pins σ H s'->RelV (o.getD .non) w'->Q w' s') :
  wpAny (model X.prog X.w) A (call (.builtin "dict.get") [.ref a,u]) Q E s:=by
 rcases g with ⟨kvs,k,e,ey,l⟩|⟨kvs,k,b,e,ey,eb,l⟩
 ·subst ey;obtain⟨z,hd,vs,rel,dd⟩:=fN I.hok e;refine call_meetsIn PySem.F.slot_dict_get dd.typeIs PySem.F.entry_dict_get (PySem.F.args_dict_get_2 _ _) (meets_dict_get (az X.prog X.w) a (gQ ry) hd) ⟨_,dd.mapOf,h _ _ (I.tok _) ?_⟩;rw[l];exact (rel.val k).getD rfl
 ·subst ey;cases (show u=Value.ref b from ry);obtain⟨z,hd,xs,rel,dd⟩:=jc I.hok e;refine call_meetsIn PySem.F.slot_dict_get dd.typeIs PySem.F.entry_dict_get (PySem.F.args_dict_get_2 _ _) (meetsH_dict_get (tupleKind (az X.prog X.w)) a b hd) ⟨tupleKind_room_in1 hu,k,xs,dX I.hok eb,dd,h _ _ (I.tok _) ?_⟩;rw[l];exact (rel.val k).getD rfl
theorem wc(hu:A.units+1 < cLine)(I:Inv X pins σ H s)(g:DGet H a y o)(ry:RelV y u)(rd:RelV d r)(h:∀w' s',Inv X pins σ H s'->RelV (o.getD d) w'->Q w' s') :
  wpAny (model X.prog X.w) A (call (.builtin "dict.get") [.ref a,u,r]) Q E s:=by
 rcases g with ⟨kvs,k,e,ey,l⟩|⟨kvs,k,b,e,ey,eb,l⟩
 ·subst ey;obtain⟨z,hd,vs,rel,dd⟩:=fN I.hok e;refine call_meetsIn PySem.F.slot_dict_get dd.typeIs PySem.F.entry_dict_get (PySem.F.args_dict_get_3 _ _ _) (meets_dict_get_default (az X.prog X.w) a (gQ ry) hd r) ⟨_,dd.mapOf,h _ _ (I.tok _) ?_⟩;rw[l];exact (rel.val k).getD rd
 ·subst ey;cases (show u=Value.ref b from ry);obtain⟨z,hd,xs,rel,dd⟩:=jc I.hok e;refine call_meetsIn PySem.F.slot_dict_get dd.typeIs PySem.F.entry_dict_get (PySem.F.args_dict_get_3 _ _ _) (meetsH_dict_get_default (tupleKind (az X.prog X.w)) a b hd r) ⟨tupleKind_room_in1 hu,k,xs,dX I.hok eb,dd,h _ _ (I.tok _) ?_⟩;rw[l];exact (rel.val k).getD rd
end
section
variable {X:Cx}{o:Expr}
end
section
variable {X:Cx}{s:Shared}{a:Addr}{kvs:List (Key×V)}{A:Around}
end
section
variable {X:Cx}{s:Shared}{a:Addr}{y:V}{A:Around}
end
end L2
namespace HT
open PySem PyProof.Rows
section
open PySem.SeqAt
open PySem.AutoSeq1 (wpAny_loadPart')
open PySem.MeetsSeq PySem.MeetsSeq2 PySem.MeetsSeq3
end
section
variable {w:World}{A:Around}{s:Shared}
theorem cat_tup{vs ws:List Value}(ht:IsTup s.heap t vs.toArray)(hb:IsTup s.heap b ws.toArray)(hv:vs≠[])
  (h1:ws=[]->Q (.ref t) s) (h2:ws≠[]->Q (.ref s.heap.objs.size) {s with heap:=s.heap.push {cls:=.type "tuple",data:=.seq (vs++ws).toArray}})
  (hsz:vs.length+ws.length<=sizeLine):wpAny (model prog w) A (binaryOp .Add (.ref t) (.ref b)) Q E s:=by
 obtain⟨⟨cls,dd,data,sl⟩,ho,hc,n,hd⟩:=id ht;obtain⟨⟨cls2,dd2,data2,sl2⟩,ho2,hc2,n2,hd2⟩:=id hb;simp only at hc hd hc2 hd2;subst hc hd hc2 hd2;have e:vs.toArray++ws.toArray=(vs++ws).toArray:=by simp
 by_cases hw:ws=[]
 ·exact concat_meets ⟨_,ho,rfl⟩ ⟨_,ho2,rfl⟩ noFill_tuple_add seq_tuple_add PySem.F.slot_tuple_add PySem.F.entry_tuple_add (PySem.F.args_tuple_add_2 _ _)
   (tuple_addW1 t b vs.toArray ws.toArray n n2 dd dd2 sl sl2 (by simpa using hv) (by simp[hw])) ⟨ho,ho2,h1 hw⟩
 ·refine concat_meets ⟨_,ho,rfl⟩ ⟨_,ho2,rfl⟩ noFill_tuple_add seq_tuple_add PySem.F.slot_tuple_add PySem.F.entry_tuple_add (PySem.F.args_tuple_add_2 _ _)
   (tuple_addW2 t b vs.toArray ws.toArray n n2 dd dd2 sl sl2 (by simpa using hv) (by simpa using hw) (by rw[List.size_toArray,List.size_toArray];exact hsz)) ⟨ho,ho2,?_⟩
  rw[e];exact h2 hw
noncomputable def sIx(n d:Nat):Option Int->Nat
 |none=>d
 |some v=>if v < 0 then (v+(n:Int)).toNat else min v.toNat n
theorem um(n d:Nat)(hd:d<=n)(o:Option Int):sIx n d o<=n:=by
 cases o with
 |none=>exact hd
 |some v=>
  show (if v < 0 then (v+(n:Int)).toNat else min v.toNat n)<=n
  by_cases hv:v < 0
  ·rw[if_pos hv];omega
  ·rw[if_neg hv];exact Nat.min_le_right _ _
theorem nB(v:Int)(n d:Nat):(if v < 0 then max (v+(n:Int)) 0 else min v (n:Int))=((sIx n d (some v):Nat):Int):=by
 show (if v < 0 then max (v+(n:Int)) 0 else min v (n:Int))=(((if v < 0 then (v+(n:Int)).toNat else min v.toNat n):Nat):Int)
 by_cases hv:v < 0
 ·simp only[if_pos hv];omega
 ·simp only[if_neg hv];omega
theorem lK(lo hi:Option Int)(n:Nat):Builtin.Slice.sliceAdjust lo hi 1 (n:Int)=(((sIx n 0 lo:Nat):Int),((sIx n n hi:Nat):Int)):=by
 have h1:¬ ((1:Int) < 0):=by omega
 unfold Builtin.Slice.sliceAdjust;simp only[h1,if_false];refine Prod.ext ?_ ?_
 ·cases lo with
  |none=>rfl
  |some v=>exact nB v n 0
 ·cases hi with
  |none=>rfl
  |some v=>exact nB v n n
theorem mh(i j:Nat):Builtin.Slice.slicePlaces (i:Int) (j:Int) 1=j - i:=by
 unfold Builtin.Slice.slicePlaces;have h1:(1:Int) > 0:=by omega
 simp only[h1,if_true,Int.ediv_one];split<;>omega
theorem ig(p:IsPart v o)(h:Q o s):wpAny (model prog w) A (Builtin.Slice.slicePartIndex v) Q E s:=by
 cases p with
 |none=>exact slicePart_none h
 |int i t=>exact slicePart_int h
theorem eY{sl:Addr}{vl vu:Value}{lo hi:Option Int}{n:Nat}{Q:Int×Int×Nat->Shared->Prop}(hs:s.heap.IsSliceOf sl vl vu .none)(pl:IsPart vl lo)(pu:IsPart vu hi)
  (h:Q (((sIx n 0 lo:Nat):Int),1,sIx n n hi - sIx n 0 lo) s):wpAny (model prog w) A (Builtin.Slice.sliceApplied (.ref sl) (pure (n:Int))) Q E s:=by
 obtain⟨os,hos,hcs,hds⟩:=id hs;unfold Builtin.Slice.sliceApplied Builtin.Slice.sliceFields;refine wpAny_bind (wpAny_bind (wpAny_field hos hds (x:=vl) rfl (wpAny_bind (wpAny_field hos hds (x:=vu) rfl (wpAny_bind (wpAny_field hos hds (x:=.none) rfl (wpAny_pure ?_)))))));refine wpAny_bind (slicePart_none ?_);show wpAny _ _ (if ((1:Int) == 0)=true then _ else _) _ _ s
 rw[if_neg (by decide)]
 refine wpAny_bind (ig pl (wpAny_bind (ig pu (wpAny_bind (wpAny_pure ?_)))));show wpAny _ _ (match Builtin.Slice.sliceAdjust lo hi 1 (n:Int) with|(lo,hi)=>pure (lo,(1:Int),Builtin.Slice.slicePlaces lo hi 1)) _ _ s
 rw[lK lo hi n];show wpAny _ _ (pure (((sIx n 0 lo:Nat):Int),(1:Int),Builtin.Slice.slicePlaces ((sIx n 0 lo:Nat):Int) ((sIx n n hi:Nat):Int) 1)) _ _ s;rw[mh];exact wpAny_pure h
theorem pG(xs:Array Value)(i k:Nat):((List.range k).filterMap fun (m:Nat)=>xs[((i:Int)+(m:Int) * 1).toNat]?).toArray=((xs.toList.drop i).take k).toArray:=by
 have e:(fun (m:Nat)=>xs[((i:Int)+(m:Int) * 1).toNat]?)=fun m=>xs[i+m]?:=by
  funext m;have:((i:Int)+(m:Int) * 1).toNat=i+m:=by omega
  rw[this]
 rw[e];have:=pick_run xs i k;rw[List.filterMap_map]at this;have e2:((fun x=>xs[x]?)∘fun x=>i+x)=fun m=>xs[i+m]?:=rfl
 rw[e2]at this;rw[this]
theorem getItem_tuple_cut{items:Array Value}{lo:Option Int}(ht:IsTup s.heap t items)(hs:s.heap.IsSliceOf sl vl vu .none)(pl:IsPart vl lo)(pu:IsPart vu hi)
  (hw:¬ (sIx items.size 0 lo=0/\sIx items.size items.size hi=items.size))
  (h:Q (.ref s.heap.objs.size) {s with heap:=s.heap.push {cls:=.type "tuple",data:=.seq ((items.toList.drop (sIx items.size 0 lo)).take (sIx items.size items.size hi - sIx items.size 0 lo)).toArray}})
  (hsz:items.size<=sizeLine):wpAny (model prog w) A (getItem (.ref t) (.ref sl)) Q E s:=by
 have htake:sizeOk (.seq ((items.toList.drop (sIx items.size 0 lo)).take (sIx items.size items.size hi - sIx items.size 0 lo)).toArray):=by
  show ((items.toList.drop (sIx items.size 0 lo)).take (sIx items.size items.size hi - sIx items.size 0 lo)).toArray.size<=sizeLine;rw[List.size_toArray,List.length_take,List.length_drop,Array.length_toList];omega
 have hj:sIx items.size items.size hi<=items.size:=um _ _ (Nat.le_refl _) hi;obtain⟨os,hos,hcs,hds⟩:=id hs;have hTs:s.TypeIs (.ref sl) "slice":=⟨os,hos,hcs⟩;unfold getItem
 try with_reducible refine wpAny_holding ?_
 first|refine wpAny_bind (wpAny_pure ?_)|skip
 refine wpAny_bind (wpAny_sequenceKey ht.typeIs (by decide) ?_)
 refine wpAny_bind (wpAny_callSpecial?_slot (name:=Str.ofString "__getitem__") ht.typeIs PyProof.Rows.slot_tuple_getitem
  (wpAny_call_entry PyProof.Rows.slot_tuple_getitem ht.typeIs entry_tuple_getitem ?_ (args_tuple_getitem _ _)))
 show wpAny _ _ (Builtin.Tuple.tupleItemsOf (.ref t) >>=_) _ _ s;refine wpAny_bind (tupleItemsOf_ ht ?_);refine wpAny_bind (wpAny_typeOf hTs ?_);rw[if_pos (by decide)]
 refine wpAny_bind (eY hs pl pu ?_);have hno:¬ ((((sIx items.size 0 lo:Nat):Int) == 0&&(1:Int) == 1&&(sIx items.size items.size hi - sIx items.size 0 lo) == items.size)=true):=by
  intro q;rw[Bool.and_eq_true,Bool.and_eq_true]at q;have q1:((sIx items.size 0 lo:Nat):Int)=0:=eq_of_beq q.1.1;have q2:sIx items.size items.size hi - sIx items.size 0 lo=items.size:=eq_of_beq q.2;exact hw ⟨by omega,by omega⟩
 show wpAny _ _ (if (((sIx items.size 0 lo:Nat):Int) == 0&&(1:Int) == 1&&(sIx items.size items.size hi - sIx items.size 0 lo) == items.size)=true then _ else _) _ _ s
 rw[if_neg hno,pG]
 first
  |exact wpAny_bind (m:=Builtin.Tuple.tupleExact _) (wpAny_newObj_type (wpAny_pure ⟨_,rfl,wpAny_pure h⟩) htake)
  |exact wpAny_bind (m:=Builtin.Tuple.tupleExact _) (wpAny_newObj_type (wpAny_bind (wpAny_pure (wpAny_pure ⟨_,rfl,wpAny_pure h⟩))) htake)
  |exact wpAny_bind (wpAny_bind (m:=Builtin.Tuple.tupleExact _) (wpAny_newObj_type (wpAny_pure (wpAny_pure ⟨_,rfl,wpAny_pure h⟩)) htake))
  |exact wpAny_bind (wpAny_bind (m:=Builtin.Tuple.tupleExact _) (wpAny_newObj_type (wpAny_pure ⟨_,rfl,wpAny_pure h⟩) htake))
end
end HT
namespace L2
open PySem PySem.Spec PyProof.Rows
noncomputable abbrev TO:=St->Hp->(Option Int->Hp->Prop)->Prop
noncomputable def PO(X:Cx)(e:Option Expr)(t:TO):Prop:=
 ∀(pins:List (Addr×Obj)) (s:Shared)(σ:St)(H:Hp)(Q:Option Int->Hp->Prop),Inv X pins σ H s->t σ H Q->
  wpAny (model X.prog X.w) X.A (evalPart e X.env) (fun u s'=>∃o H',Inv X pins σ H' s'/\IsPart u o/\Q o H') X.xe s
noncomputable def tNoPart:TO:=fun _ H Q=>Q none H
noncomputable def yj(t:TE):TO:=fun σ H Q=>t σ H fun x H1=>∃i,x=.int i/\Q (some i) H1
theorem gM{ns:List Int}:∀{us:List Value},Vals (ns.map V.int) us->IntsAre us ns:=by
 induction ns with
 |nil=>intro us r;rw[List.map_nil]at r;cases r;exact .nil
 |cons n ns ih=>
  intro us r;rw[List.map_cons]at r;cases r with
  |cons r1 r2=>
   obtain⟨t,e⟩:=r1;subst e;exact .cons n t (ih r2)
section
variable {X:Cx}{lo:Option Expr}
theorem po_none:PO X none tNoPart:=by
 intro pins s σ H Q I h;rw[evalPart_none];exact wpAny_pure ⟨none,H,I,.none,h⟩
theorem sU(h:PE X e te):PO X (some e) (yj te):=by
 intro pins s σ H Q I hw;rw[evalPart_some];refine thn (h pins s σ H _ I hw) fun u s1 ⟨x,H1,I1,r1,q1⟩=>?_
 obtain⟨i,rfl,q⟩:=q1;obtain⟨t,rfl⟩:=r1;exact⟨some i,H1,I1,.int i t,q⟩
noncomputable def SlR(X:Cx)(r:V->Option Int->Option Int->Hp->VK->Prop):Prop:=
 ∀(pins:List (Addr×Obj)) (s:Shared)(σ:St)(H:Hp)(x:V)(v vl vu:Value)(lo hi:Option Int)(sl:Addr)(Q:VK),Inv X pins σ H s->RelV x v->s.heap.IsSliceOf sl vl vu .none->IsPart vl lo->IsPart vu hi->r x lo hi H Q->
  ∃T id,typeLookup (.type T) "__getitem__"=pure (some (.builtin id))/\s.TypeIs v T/\wpAny (model X.prog X.w) X.A (getItem v (.ref sl)) (EP X pins σ Q) X.xe s
theorem SlR.or(h:SlR X r)(h':SlR X r'):SlR X (fun x lo hi H Q=>r x lo hi H Q\/r' x lo hi H Q):=by
 intro pins s σ H x v vl vu lo hi sl Q I rx hs pl pu q;rcases q with q|q
 ·exact h pins s σ H x v vl vu lo hi sl Q I rx hs pl pu q
 ·exact h' pins s σ H x v vl vu lo hi sl Q I rx hs pl pu q
noncomputable def tSl(r:V->Option Int->Option Int->Hp->VK->Prop)(te:TE)(tl th:TO):TE:=fun σ H Q=>te σ H fun x H1=>tl σ H1 fun l H2=>th σ H2 fun u H3=>r x l u H3 Q
theorem qU(hr:SlR X r)(he:PE X e te)(hl:PO X lo tl)(hu:PO X hi th):PE X (.Subscript e (.Slice lo hi none p2) pos) (tSl r te tl th):=by
 intro pins s σ H Q I h;refine Subscript_ (thn (he pins s σ H _ I h) fun v s1 ⟨x,H1,I1,r1,q1⟩=>?_)
 refine wpAny_Slice (thn (hl pins s1 σ H1 _ I1 q1) fun vl s2 ⟨l,H2,I2,pl,q2⟩=>thn (hu pins s2 σ H2 _ I2 q2) fun vu s3 ⟨u,H3,I3,pu,q3⟩=>?_)
 rw[evalPart_none];refine wpAny_pure ?_;have I4:Inv X pins σ H3 {s3 with heap:=s3.heap.push {cls:=.type "slice",data:=.fields #[vl,vu,.none]}}:=I3.kept (t':=s3.toks) fun b ob q=>Heap.get?_push_of_some _ q
 obtain⟨T,id,hT,ht,hg⟩:=hr pins {s3 with heap:=s3.heap.push {cls:=.type "slice",data:=.fields #[vl,vu,.none]}} σ H3 x v vl vu l u s3.heap.objs.size Q I4 r1 (Heap.IsSliceOf.new ..) pl pu q3
 show wpAny (model X.prog X.w) X.A (subscriptTail e (.Slice lo hi none p2) v (.ref s3.heap.objs.size)) (EP X pins σ Q) X.xe {s3 with heap:=s3.heap.push {cls:=.type "slice",data:=.fields #[vl,vu,.none]}}
 exact tail_any (ops:=[.ref s3.heap.objs.size,v]) ht hT hg (by with_unfolding_all rfl)
noncomputable def mq(xs:List V)(lo hi:Option Int):List V:=(xs.drop (HT.sIx xs.length 0 lo)).take (HT.sIx xs.length xs.length hi - HT.sIx xs.length 0 lo)
theorem fP(xs:List V)(lo hi:Option Int):(mq xs lo hi).length<=xs.length:=by
 unfold mq;rw[List.length_take,List.length_drop];omega
noncomputable def Dc(K:PySem.W.Frag):V->Option Int->Option Int->Hp->VK->Prop:=fun x lo hi H Q=>∃a xs,x=.ref a/\SqT K H a xs/\
 ¬ (HT.sIx xs.length 0 lo=0/\HT.sIx xs.length xs.length hi=xs.length)/\∀p,H p=none->Q (.ref p) (upd H p (.tup (mq xs lo hi)))
theorem v8:SlR X (Dc X.K):=by
 intro pins s σ H x v vl vu lo hi sl Q I rx hs pl pu h;obtain⟨a,xs,rfl,hx,hw,q⟩:=h;cases rx;obtain⟨its,r,ht,hz⟩:=I.tuple hx;have hlen:its.toArray.size=xs.length:=by rw[List.size_toArray];exact r.length.symm
 refine⟨"tuple",_,PyProof.Rows.slot_tuple_getitem.lookup,ht.typeIs,?_⟩;refine HT.getItem_tuple_cut ht hs pl pu (by rw[hlen];exact hw) ?_ (by rw[hlen];exact hz)
 rw[hlen];refine⟨.ref s.heap.objs.size,_,I.laid (t':=s.toks) (o:=.tup (mq xs lo hi)) (fun b ob q=>Heap.get?_push_of_some _ q) (Nat.le_refl _) ?_,rfl,q _ (I.hok.fresh (Nat.le_refl _))⟩
 exact⟨Nat.le_trans (fP xs lo hi) hz,_,(r.drop (HT.sIx xs.length 0 lo)).take (HT.sIx xs.length xs.length hi - HT.sIx xs.length 0 lo),IsTup.new _ _⟩
noncomputable def zk(K:PySem.W.Frag):R2:=fun x y H Q=>∃a b xs ys,x=.ref a/\y=.ref b/\SqT K H a xs/\SqT K H b ys/\xs≠[]/\xs.length+ys.length<=sizeLine/\
 (ys=[]->Q (.ref a) H)/\(ys≠[]->∀p,H p=none->Q (.ref p) (upd H p (.tup (xs++ys))))
theorem Vals.nil_iff(r:Vals xs us):us=[]<->xs=[]:=by
 cases r with
 |nil=>simp
 |cons _ _=>simp
theorem sQ:OpR X (binaryOp .Add) (zk X.K):=by
 intro pins s σ H x y v u Q I rx ry h;obtain⟨a,b,xs,ys,rfl,rfl,ha,hb,hx,hz,q1,q2⟩:=h;cases rx;cases ry;obtain⟨its,r1,p1,_⟩:=I.tuple ha;obtain⟨its2,r2,p2,_⟩:=I.tuple hb;refine HT.cat_tup p1 p2 (fun z=>hx (r1.nil_iff.mp z)) (fun z=>⟨.ref a,H,I,rfl,q1 (r2.nil_iff.mp z)⟩) (fun z=>?_) (by rw[<-r1.length,<-r2.length];exact hz)
 refine⟨.ref s.heap.objs.size,_,I.laid (t':=s.toks) (o:=.tup (xs++ys)) (fun b ob q=>Heap.get?_push_of_some _ q) (Nat.le_refl _) ?_,rfl,q2 (fun w=>z (r2.nil_iff.mpr w)) _ (I.hok.fresh (Nat.le_refl _))⟩
 exact⟨by rw[List.length_append];exact hz,_,r1.append r2,IsTup.new _ _⟩
end
end L2
namespace L2
open PySem PySem.Spec PyProof.Rows
noncomputable def ixN(n:Nat)(i:Int):Option Nat:=if 0<=i then (if i < n then some i.toNat else none) else if -(n:Int)<=i then some (i+n).toNat else none
noncomputable def atI(xs:List α)(i:Int):Option α:=(ixN xs.length i).bind fun j=>xs[j]?
theorem mQ(h:ixN n i=some j):seqIndex? i n=some j/\j < n/\-(n:Int)<=i/\i < n:=by
 unfold ixN at h;by_cases h0:0<=i
 ·rw[if_pos h0]at h;by_cases h1:i < n
  ·rw[if_pos h1]at h;have e:i.toNat=j:=Option.some.inj h;exact⟨by rw[seqIndex_of h0 h1,e],by omega,by omega,h1⟩
  ·rw[if_neg h1]at h;cases h
 ·rw[if_neg h0]at h;by_cases h1 : -(n:Int)<=i
  ·rw[if_pos h1]at h;have e:(i+n).toNat=j:=Option.some.inj h;exact⟨by rw[seqIndex_neg (by omega) h1,e],by omega,h1,by omega⟩
  ·rw[if_neg h1]at h;cases h
theorem ju{xs:List α}(h:atI xs i=some v):∃j,seqIndex? i xs.length=some j/\xs[j]?=some v/\j < xs.length/\-(xs.length:Int)<=i/\i < xs.length:=by
 unfold atI at h;cases e:ixN xs.length i with
 |none=>rw[e]at h;cases h
 |some j=>
  rw[e]at h;obtain⟨h1,h2,h3,h4⟩:=mQ e;exact⟨j,h1,h,h2,h3,h4⟩
theorem dc{α:Type}{xs:List α}{j:Nat}{v:α}(h:xs[j]?=some v):atI xs (j:Int)=some v:=by
 have hj:j < xs.length:=(List.getElem?_eq_some_iff.mp h).1;have e:ixN xs.length (j:Int)=some j:=by
  unfold ixN;rw[if_pos (by omega),if_pos (by omega)];simp
 unfold atI;rw[e];exact h
noncomputable def jY(b:Expr):Prop:=∀o i,subscripted b false o i=operate [o,i] (getItem o i)
noncomputable def IxR(X:Cx)(r:R2):Prop:=
 ∀(value slice:Expr) (pins:List (Addr×Obj)) (s:Shared)(σ:St)(H:Hp)(x y:V)(v u:Value)(Q:VK),Inv X pins σ H s->RelV x v->RelV y u->r x y H Q->
  subscripted slice false v u=operate [v,u] (getItem v u)->wpAny (model X.prog X.w) X.A (subscriptTail value slice v u) (EP X pins σ Q) X.xe s
noncomputable def MtR(X:Cx)(id:String)(r:V->List V->Hp->VK->Prop):Prop:=
 ∀(pins:List (Addr×Obj)) (s:Shared)(σ:St)(H:Hp)(x:V)(xs:List V)(v:Value)(us:List Value)(Q:VK),Inv X pins σ H s->RelV x v->Vals xs us->r x xs H Q->
  wpAny (model X.prog X.w) X.A (call (.builtin id) (v::us)) (EP X pins σ Q) X.xe s
section
variable {X:Cx}{a:Expr}
theorem IxR.or(h:IxR X r)(h':IxR X r'):IxR X (fun x y H Q=>r x y H Q\/r' x y H Q):=by
 intro value slice pins s σ H x y v u Q I rx ry q hs;rcases q with q|q
 ·exact h value slice pins s σ H x y v u Q I rx ry q hs
 ·exact h' value slice pins s σ H x y v u Q I rx ry q hs
theorem MtR.or{id:String}(h:MtR X id r)(h':MtR X id r'):MtR X id (fun x xs H Q=>r x xs H Q\/r' x xs H Q):=by
 intro pins s σ H x xs v us Q I rx rs q;rcases q with q|q
 ·exact h pins s σ H x xs v us Q I rx rs q
 ·exact h' pins s σ H x xs v us Q I rx rs q
theorem AE(hr:IxR X r)(ha:PE X a ta)(hb:PE X b tb)(hs:jY b):PE X (.Subscript a b pos) (tOp r ta tb):=by
 intro pins s σ H Q I h;exact Subscript_ (uV ha hb I h fun v u s2 x y H2 I2 rx ry q=>hr a b pins s2 σ H2 x y v u Q I2 rx ry q (hs _ _))
noncomputable def yU(K:PySem.W.Frag):R2:=fun x y H Q=>∃p xs i v,x=.ref p/\y=.int i/\SqL K H p xs/\atI xs i=some v/\Q v H
noncomputable def zP(K:PySem.W.Frag):R2:=fun x y H Q=>∃p xs i v,x=.ref p/\y=.int i/\SqT K H p xs/\atI xs i=some v/\Q v H
noncomputable def rIxS:R2:=fun x y H Q=>∃z i c,x=.str z/\y=.int i/\z.length<=sizeLine/\atI z.cps.toList i=some c/\Q (.str ⟨#[c]⟩) H
theorem ix_list:IxR X (yU X.K):=by
 intro value slice pins s σ H x y v u Q I rx ry h hs;obtain⟨p,xs,i,z,rfl,rfl,hq,he,q⟩:=h;cases rx;obtain⟨t,rfl⟩:=ry;obtain⟨its,r,pl,hz⟩:=I.list hq;obtain⟨j,h1,h2,h3,h4,h5⟩:=ju he;obtain⟨w,ew,rw'⟩:=r.get h2;have hl:=r.length;have hn:=ft;have fin:EP X pins σ Q w s:=⟨z,H,I,rw',q⟩;by_cases h0:0<=i
 ·have hj:i.toNat=j:=by
   rw[seqIndex_of h0 h5]at h1;exact Option.some.inj h1
  exact item_listR pl.isList h0 (by omega) (by rw[hj];simpa using ew) fin hs
 ·have hj:(i+(its.toArray.size:Int)).toNat=j:=by
   rw[seqIndex_neg (by omega) h4]at h1
   rw[List.size_toArray,<-hl];exact Option.some.inj h1
  exact subscriptTail_builtinR (x:=w) pl.isList.typeIs slot_list_getitem.lookup
   (wpAny_getItem_list_neg (Q:=fun r s'=>r=w/\EP X pins σ Q r s') pl.isList (by omega) (by rw[List.size_toArray]<;>omega) (by omega) (by rw[hj];simpa using ew) ⟨rfl,fin⟩) hs
theorem ix_tup:IxR X (zP X.K):=by
 intro value slice pins s σ H x y v u Q I rx ry h hs;obtain⟨p,xs,i,z,rfl,rfl,hq,he,q⟩:=h;cases rx;obtain⟨t,rfl⟩:=ry;obtain⟨its,r,pl,hz⟩:=I.tuple hq;obtain⟨j,h1,h2,h3,h4,h5⟩:=ju he;obtain⟨w,ew,rw'⟩:=r.get h2;have hl:=r.length;have hn:=ft;have fin:EP X pins σ Q w s:=⟨z,H,I,rw',q⟩;exact subscriptTail_builtinR (x:=w) pl.typeIs slot_tuple_getitem.lookup
  (getItem_tuple (j:=j) (Q:=fun r s'=>r=w/\EP X pins σ Q r s') pl (by omega) (by omega) (by rw[List.size_toArray,<-hl];exact h1) (by simpa using ew) ⟨rfl,fin⟩) hs
theorem vM:IxR X rIxS:=by
 intro value slice pins s σ H x y v u Q I rx ry h hs;obtain⟨z,i,c,rfl,rfl,hz,he,q⟩:=h;obtain⟨t,rfl⟩:=rx;obtain⟨t',rfl⟩:=ry;obtain⟨j,h1,h2,h3,h4,h5⟩:=ju he;have hl:z.cps.toList.length=z.length:=by simp[Str.length]
 rw[hl]at h1 h4 h5;have hn:=ft;exact tail_any (typeIs_str s z t) slot_str_getitem.lookup (getItem_str (c:=c) (by
  have e1:decide (i < -(2 ^ 63:Int))=false:=decide_eq_false (by omega)
  have e2:decide (i>=2 ^ 63)=false:=decide_eq_false (by omega)
  rw[e1,e2,Bool.or_false]) (by rw[h1];simpa using h2) ⟨.str ⟨#[c]⟩,H,I.tok _,⟨_,rfl⟩,q⟩) hs
noncomputable def rIx(K:PySem.W.Frag):R2:=fun x y H Q=>yU K x y H Q\/zP K x y H Q\/rIxS x y H Q
theorem uH:IxR X (rIx X.K):=ix_list.or (ix_tup.or vM)
theorem mn(its:List Value)(n j:Nat)(u:Value):Obj.mapSeq (·.setIfInBounds j u) {cls:=.type "list",data:=.seq its.toArray n}={cls:=.type "list",data:=.seq (its.set j u).toArray n}:=by
 simp[Obj.mapSeq]
theorem Inv.lst{s:Shared}(I:Inv X pins σ H s)(h:H p=some (.lst xs)) :
  ∃(its:List Value) (n:Nat),Vals xs its/\s.heap.get? p=some {cls:=.type "list",data:=.seq its.toArray n}/\xs.length<=sizeLine:=by
 obtain⟨z,its,n,r,e⟩:=I.hok p _ h;exact⟨its,n,r,e,z⟩
theorem Inv.lstUpd{pins:List (Addr×Obj)}{σ:St}{H:Hp}{s:Shared}{p:Addr}{xs ys:List V}{its its':List Value}{n n':Nat}{f:Obj->Obj}(I:Inv X pins σ H s)(h:H p=some (.lst xs))
  (ho:s.heap.get? p=some {cls:=.type "list",data:=.seq its.toArray n}) (hf:f {cls:=.type "list",data:=.seq its.toArray n}={cls:=.type "list",data:=.seq its'.toArray n'}) (r:Vals ys its') (hz:ys.length<=sizeLine) (t:Nat) :
  Inv X pins σ (upd H p (.lst ys)) {s with heap:=s.heap.update p f,toks:=t}:=by
 have e:(s.heap.update p f).get? p=some {cls:=.type "list",data:=.seq its'.toArray n'}:=by
  rw[Heap.get?_update_self f ho (by rw[hf]<;>rfl),hf]
 refine I.write (x:=p) (e:=p) (by rw[h];trivial) (.inl rfl) (fun b u hb q=>(Heap.get?_update_other _ _ (Ne.symm hb)).trans q) ⟨_,e⟩ ?_
 exact⟨hz,its',n',r,e⟩
noncomputable def rSetL:V->V->V->Hp->(Hp->Prop)->Prop:=fun o i v H Q=>∃p xs k j,o=.ref p/\i=.int k/\H p=some (.lst xs)/\ixN xs.length k=some j/\Q (upd H p (.lst (xs.set j v)))
theorem pU:wE X rSetL:=by
 intro pins s σ H o i v ov iv u Q I ro ri rv h;obtain⟨p,xs,k,j,rfl,rfl,hp,hj,q⟩:=h;cases ro;obtain⟨t,rfl⟩:=ri;obtain⟨its,n,r,ho,hz⟩:=I.lst hp;obtain⟨h1,h2,h3,h4⟩:=mQ hj;have hl:=r.length;have hn:=ft;have I':Inv X pins σ (upd H p (.lst (xs.set j v))) {s with heap:=s.heap.update p (Obj.mapSeq (·.setIfInBounds j u))}:=
  I.lstUpd hp ho (mn its n j u) (r.set rv j) (by rw[List.length_set];exact hz) s.toks
 by_cases h0:0<=k
 ·have hk:k.toNat=j:=by
   rw[seqIndex_of h0 h4]at h1;exact Option.some.inj h1
  exact PySem.W.ki_setAt ho h0 (by omega) (by rw[List.size_toArray,<-hl];exact h4) (by rw[hk];exact⟨_,I',q⟩)
 ·have hk:(k+(its.toArray.size:Int)).toNat=j:=by
   rw[seqIndex_neg (by omega) h3]at h1
   rw[List.size_toArray,<-hl];exact Option.some.inj h1
  exact PySem.W.ki_setBack ho (by omega) (by rw[List.size_toArray,<-hl];exact h3) (by omega) (by rw[hk];exact⟨_,I',q⟩)
theorem jV(lo hi:Option Int)(n:Nat):(sliceBounds lo hi none n).1=((HT.sIx n 0 lo:Nat):Int)/\(sliceBounds lo hi none n).2.1=((HT.sIx n n hi:Nat):Int)/\(sliceBounds lo hi none n).2.2=1:=by
 refine⟨?_,?_,rfl⟩
 ·cases lo with
  |none=>simp[sliceBounds,HT.sIx]
  |some i=>
   simp only[sliceBounds,HT.sIx,Option.getD_none,show (1:Int) > 0 by decide,if_true]
   by_cases h:i < 0
   ·simp only[h,if_true]<;>omega
   ·simp only[h,if_false]<;>omega
 ·cases hi with
  |none=>simp[sliceBounds,HT.sIx]
  |some i=>
   simp only[sliceBounds,HT.sIx,Option.getD_none,show (1:Int) > 0 by decide,if_true]
   by_cases h:i < 0
   ·simp only[h,if_true]<;>omega
   ·simp only[h,if_false]<;>omega
theorem iF(its:List Value)(lo hi:Option Int):slicePick its.toArray lo hi none=((its.drop (HT.sIx its.length 0 lo)).take (HT.sIx its.length its.length hi - HT.sIx its.length 0 lo)).toArray:=by
 obtain⟨h1,h2,h3⟩:=jV lo hi its.toArray.size;unfold slicePick;rw[h1,h2,h3];simp only[sliceRange_one,pick_run,List.size_toArray]<;>rfl
theorem jw:CallR X (.builtin "len") (fun xs H Q=>∃p ys,xs=[.ref p]/\(SqL X.K H p ys\/SqT X.K H p ys)/\Q (.int ys.length) H):=by
 intro pins s σ H xs us Q I r h;obtain⟨p,ys,rfl,hq,q⟩:=h;obtain⟨u,rfl,rx⟩:=dD r;cases rx;have hn:=ft;rcases hq with hq|hq
 ·obtain⟨its,r',pl,hz⟩:=I.list hq;have hlen:=r'.length;exact Calls.call_len_list pl.isList (by simp only[List.size_toArray]<;>omega) ⟨.int ys.length,H,I.tok _,⟨s.toks+1,by rw[List.size_toArray,hlen]⟩,q⟩
 ·obtain⟨its,r',pl,hz⟩:=I.tuple hq;have hlen:=r'.length;exact len_tuple pl (by simp only[List.size_toArray]<;>omega) ⟨.int ys.length,H,I.tok _,⟨s.toks+1,by rw[List.size_toArray,hlen]⟩,q⟩
theorem jN:CallR X (.builtin "len") (fun xs H Q=>∃z,xs=[.str z]/\z.length<=sizeLine/\Q (.int z.length) H):=by
 intro pins s σ H xs us Q I r h;obtain⟨z,rfl,hz,q⟩:=h;obtain⟨u,rfl,t,rfl⟩:=dD r;have hn:=ft;exact len_str (by omega) ⟨.int z.length,H,I.tok _,⟨_,rfl⟩,q⟩
theorem CallR.or(h:CallR X f r)(h':CallR X f r'):CallR X f (fun xs H Q=>r xs H Q\/r' xs H Q):=by
 intro pins s σ H xs us Q I rs q;rcases q with q|q
 ·exact h pins s σ H xs us Q I rs q
 ·exact h' pins s σ H xs us Q I rs q
theorem d7:CallR X (.type "list") (fun xs H Q=>∃p ys,xs=[.ref p]/\(SqL X.K H p ys\/SqT X.K H p ys)/\∀l,H l=none->Q (.ref l) (upd H l (.lst ys))):=by
 intro pins s σ H xs us Q I r h;obtain⟨p,ys,rfl,hq,q⟩:=h;obtain⟨u,rfl,rx⟩:=dD r;cases rx;have fin:∀(its:List Value),Vals ys its->ys.length<=sizeLine->∀(h':Heap)(c':Nat),(∀b o',s.heap.get? b=some o'->h'.get? b=some o')->
   h'.get? s.heap.objs.size=some {cls:=.type "list",dict:=none,data:=.seq its.toArray c',slots:=#[]}->EP X pins σ Q (.ref s.heap.objs.size) {s with heap:=h'}:=fun its r' hz h' c' kp e=>
  ⟨.ref s.heap.objs.size,_,I.laid (t':=s.toks) kp (Nat.le_refl _) (show ObjOk X.prog X.w _ h' _ (.lst ys) from⟨hz,its,c',r',e⟩),rfl,q _ (I.hok.fresh (Nat.le_refl _))⟩
 rcases hq with hq|hq
 ·obtain⟨its,r',pl,hz⟩:=I.list hq;have hlen:=r'.length;obtain⟨o,ho,hc,n,hd⟩:=pl.isList;exact call_list_seq p (.inl rfl) ho hc hd (fun h' c' kp e=>fin its r' hz h' c' kp e) (by simp only[List.size_toArray]<;>omega)
 ·obtain⟨its,r',pl,hz⟩:=I.tuple hq;have hlen:=r'.length;obtain⟨o,ho,hc,n,hd⟩:=pl;exact call_list_seq p (.inr rfl) ho hc hd (fun h' c' kp e=>fin its r' hz h' c' kp e) (by simp only[List.size_toArray]<;>omega)
noncomputable def tyV(K:PySem.W.Frag)(T:String)(x:V)(H:Hp):Prop:=match x with
 |.str _=>T = "str"
 |.int _=>T = "int"
 |.ref p=>(T = "list"/\∃xs,SqL K H p xs)\/(T = "tuple"/\∃o,K.lookup p=some o/\o.cls=.type "tuple"/\o.dict=none)\/
   (T = "dict"/\((∃kvs,H p=some (.dK kvs))\/∃kvs,H p=some (.dT kvs)))\/(T = "set"/\∃S n,H p=some (.set S n))
 |_=>False
theorem v7{s:Shared}(I:Inv X pins σ H s)(r:RelV x v)(ty:tyV X.K T x H) :
  s.TypeIs v T/\∀a,v=.ref a->∃ob,s.heap.get? a=some ob/\ob.dict=none:=by
 cases x with
 |str z=>
  obtain⟨t,rfl⟩:=r;cases (show T = "str" from ty);exact⟨typeIs_str s z t,fun _ e=>nomatch e⟩
 |int i=>
  obtain⟨t,rfl⟩:=r;cases (show T = "int" from ty);exact⟨typeIs_int s i t,fun _ e=>nomatch e⟩
 |ref p=>
  cases r;rcases ty with ⟨rfl,xs,hq⟩|⟨rfl,o,hk,hc,hd⟩|⟨rfl,hk⟩|⟨rfl,S,n,hk⟩
  ·obtain⟨its,_,pl,_⟩:=I.list hq;refine⟨pl.isList.typeIs,fun a e=>?_⟩
   cases e;obtain⟨o,n,e,c,hd,_⟩:=pl;exact⟨o,e,hd⟩
  ·refine⟨⟨o,I.kIn p o hk,hc⟩,fun a e=>?_⟩
   cases e;exact⟨o,I.kIn _ o hk,hd⟩
  ·have z:∃o,s.heap.get? p=some o/\o.ExactDict:=by
    rcases hk with ⟨kvs,hk⟩|⟨kvs,hk⟩
    ·obtain⟨_,_,_,_,o,_,_,e,ex,_⟩:=I.hok p _ hk;exact⟨o,e,ex⟩
    ·obtain⟨_,_,_,_,o,_,_,e,ex,_⟩:=I.hok p _ hk;exact⟨o,e,ex⟩
   obtain⟨o,e,ex⟩:=z;refine⟨⟨o,e,ex.1⟩,fun a e2=>?_⟩
   cases e2;exact⟨o,e,ex.2.1⟩
  ·obtain⟨o,_,_,_,e,ex,_⟩:=I.hok p _ hk;refine⟨⟨o,e,ex.1⟩,fun a e2=>?_⟩
   cases e2;exact⟨o,e,ex.2.1⟩
 |_=>exact False.elim ty
noncomputable def tBM(K:PySem.W.Frag)(T:String)(r:V->List V->Hp->VK->Prop)(to:TE)(t:TA):TE:=fun σ H Q=>to σ H fun x H1=>tyV K T x H1/\t σ H1 fun xs H2=>r x xs H2 Q
variable {o:Expr}{id:String}
theorem Aj(pa:PlainAttrs T)(slot:Slot T name id)(hty:typeOf (.builtin id)=pure (.type "method_descriptor"))(hm:MtR X id r)(ho:PE X o to)(ha:PA X (e::es) t)
  (hbase:attributeBase o name X.env (eval o X.env)=eval o X.env:=by rfl)
  (hfew:((backTo cpos (starEach (e::es) X.env)).all (fun x=>!x.1)&&(backToKw cpos (keywordEach [] X.env)).all (fun x=>x.1.isSome)
   &&decide ((e::es).length+([]:List Keyword).length+(if ([]:List Keyword).isEmpty then 0 else 1) < 30))=true:=by rfl)
  (hline:(apos.endLine == cpos.line)=true:=by rfl) (hs:starEach (e::es) X.env=(false,eval e X.env)::starEach es X.env:=by rfl) (hplain:(backTo cpos (starEach es X.env)).any (·.1)=false:=by rfl) :
  PE X (.Call (.Attribute o name apos) (e::es) [] cpos) (tBM X.K T r to t):=by
 intro pins s σ H Q I h;refine wpAny_Call_method_late hbase hfew hline rfl (thn (ho pins s σ H _ I h) fun v s1 ⟨x,H1,I1,r1,ty,q1⟩=>?_)
 obtain⟨h1,h2⟩:=v7 I1 r1 ty;refine⟨T,id,pa,slot,hty,h1,h2,?_⟩;have hA:=ha cpos pins s1 σ H1 _ I1 q1;rw[hs]at hA ⊢;refine Calls.callWith_builtin (by show (false||(backTo cpos (starEach es X.env)).any (·.1))=false;rw[hplain]<;>rfl) (Calls.evalArgs_plain ?_)
 exact thn hA fun us s2 ⟨vs,H2,I2,r2,q2⟩=>hm pins s2 σ H2 x vs v us Q I2 r1 r2 q2
end
end L2
namespace L2
open PySem PySem.Spec PyProof.Rows
noncomputable def MtM(X:Cx)(id:String)(r:V->List V->Hp->VK->Prop):Prop:=
 ∀(pins:List (Addr×Obj)) (s:Shared)(σ:St)(H:Hp)(x:V)(xs:List V)(v:Value)(us:List Value)(Q:VK),Inv X pins σ H s->RelV x v->Vals xs us->r x xs H Q->
  wpAny (model X.prog X.w) X.A (call (.builtin id) (v::us)) (EP X pins σ Q) X.xe s
theorem Vals.one:∀{x:V}{us:List Value},Vals [x] us->∃u,us=[u]/\RelV x u
 |_,_,.cons r .nil=>⟨_,rfl,r⟩
theorem Vals.two:∀{x y:V}{us:List Value},Vals [x,y] us->∃u v,us=[u,v]/\RelV x u/\RelV y v
 |_,_,_,.cons r (.cons q .nil)=>⟨_,_,rfl,r,q⟩
theorem Vals.zero:∀{us:List Value},Vals [] us->us=[]
 |_,.nil=>rfl
theorem Vals.eraseIdx:∀{xs:List V}{us:List Value} (i:Nat),Vals xs us->Vals (xs.eraseIdx i) (us.eraseIdx i)
 |_,_,_,.nil=>.nil
 |_,_,0,.cons _ t=>t
 |_,_,i+1,.cons r t=>.cons r (Vals.eraseIdx i t)
theorem Vals.reverse{xs:List V}{us:List Value}(h:Vals xs us):Vals xs.reverse us.reverse:=by
 induction h with
 |nil=>exact .nil
 |cons r t ih=>rw[List.reverse_cons,List.reverse_cons];exact Vals.append ih (.cons r .nil)
section
variable {X:Cx}{s:Shared}{l:Addr}{xs ys:List V}
theorem Inv.lset{its its':List Value}{n:Nat}{f:Array Value->Array Value}{t':Nat}(I:Inv X pins σ H s)(hH:H l=some (.lst xs))
  (e:s.heap.get? l=some {cls:=.type "list",data:=.seq its.toArray n}) (hf:f its.toArray=its'.toArray) (hv:Vals ys its') (hz:ys.length<=sizeLine) :
  Inv X pins σ (upd H l (.lst ys)) {s with heap:=s.heap.update l (Obj.mapSeq f),toks:=t'}:=by
 have q:=PySem.IsL.update e f;rw[hf]at q;refine I.write (x:=l) (e:=l) (by rw[hH];exact trivial) (.inl rfl) (fun b' u hb hu=>(Heap.get?_update_other s.heap (Obj.mapSeq f) (Ne.symm hb)).trans hu) ⟨_,q⟩ ?_
 exact⟨hz,its',_,hv,q⟩
theorem Inv.lnew(I:Inv X pins σ H s)(hv:Vals ys its)(hz:ys.length<=sizeLine) :
  Inv X pins σ (upd H s.heap.objs.size (.lst ys)) {s with heap:=s.heap.push {cls:=.type "list",data:=.seq its.toArray},toks:=t'}:=
 I.laid (fun _ _ q=>Heap.get?_push_of_some _ q) (Nat.le_refl _) ⟨hz,its,0,hv,Heap.get?_push_size _ rfl⟩
theorem Inv.fresh(I:Inv X pins σ H s):H s.heap.objs.size=none:=I.hok.fresh (Nat.le_refl _)
theorem Inv.lstM(I:Inv X pins σ H s)(hH:H l=some (.lst xs)):xs.length<=sizeLine/\∃(its:List Value) (n:Nat),Vals xs its/\xs.length=its.length/\s.heap.get? l=some {cls:=.type "list",data:=.seq its.toArray n}:=by
 obtain⟨z,its,n,r,e⟩:=I.hok l _ hH;exact⟨z,its,n,r,r.length,e⟩
end
section
variable {X:Cx}
noncomputable def rAppend:V->List V->Hp->VK->Prop:=fun x vs H Q=>∃l xs y,x=.ref l/\vs=[y]/\H l=some (.lst xs)/\xs.length < sizeLine/\Q .non (upd H l (.lst (xs++[y])))
theorem iX:MtM X "list.append" rAppend:=by
 intro pins s σ H x vs v us Q I rx rv h;obtain⟨l,xs,y,rfl,rfl,hH,hz,q⟩:=h;cases rx;obtain⟨u,rfl,ru⟩:=rv.one;obtain⟨z,its,n,r,hl,e⟩:=I.lstM hH;refine call_meets F.slot_list_append ⟨_,e,rfl⟩ F.entry_list_append (F.args_list_append_2 _ _) (PySem.list_append l its.toArray n u (by rw[List.size_toArray];omega)) ⟨e,?_⟩
 refine⟨.non,_,I.lset (its':=its++[u]) hH e (by simp) (r.append (.cons ru .nil)) ?_,rfl,q⟩
 rw[List.length_append,List.length_singleton];omega
end
section
variable {w:World}{A:Around}{s:Shared}
set_option maxRecDepth 100000 in
end
section
variable {X:Cx}
end
end L2
namespace Att
open PySem PySem.W PySem.Calls PyProof.Rows
theorem fZ:∀(ns:List Int)(vs:List Value),WellAll P h vs (ns.map WData.int)->IntsAre vs ns:=by
 intro ns
 induction ns with
 |nil=>
  intro vs w;rw[List.map_nil]at w;cases w;exact .nil
 |cons n ns ih=>
  intro vs w;rw[List.map_cons]at w;cases w with
  |cons a b=>
   cases a;exact .cons _ _ (ih _ b)
theorem oA{l:OpenLaw}(hn:l.most=some n){h:Heap}
  (hpre:l.row.toRowW.claim.pre args=true) (hwl:WellAll P h vals args) :
  ∃a vs ns,vals=[Value.ref a]/\args=[WData.list (ns.map WData.int)]/\h.get? a=some {cls:=.type "list",data:=.seq vs.toArray}/\IntsAre vs ns/\ns.length<=n:=by
 have hsh:WShape.hasAll [] args [.list .int]=true:=(pre_splitW hpre).1;have hc:l.pre.holds [] {args:=args}=true:=(pre_splitW hpre).2;obtain⟨d,r,rfl,h1,h2⟩:=hasAllW_cons hsh;obtain rfl:=hasAllW_nil h2;obtain⟨xs,rfl,h3⟩:=hasW_list h1;obtain⟨ns,rfl⟩:=items_int h3;have hlen:ns.length<=n:=by
  unfold OpenLaw.pre at hc;have h4:(WTm.not (.lt (.lit (.int (n:Int))) (.len (.arg 0)))).holds [] {args:=[.list (ns.map .int)]}=true:=by
   have h4:=(holds_andW hc).1;rw[hn]at h4;exact h4
  have h5:=condW_of h4 (w_not (w_lt w_lit (w_len_list (w_arg rfl))));rw[List.length_map]at h5;refine Nat.le_of_not_lt fun q=>?_
  have q':(n:Int) < ((ns.length:Nat):Int):=by omega
  first
   |(rw[decide_eq_true q']at h5;exact absurd h5 (by decide))
   |(simp at h5;omega)
 cases hwl with
 |cons w1 w2=>
  cases w2;cases w1 with
  |list ho hall=>exact⟨_,_,ns,rfl,rfl,ho,fZ ns _ hall,hlen⟩
theorem nI(l:OpenLaw)(args:List WData):l.row.toRowW.claim.post args (.bool true) args=true:=
 postW_of (r:=l.row.toRowW) (X:=(true == true))
  (show WShape.has [] (.bool true) .bool=true by first|rfl|decide|simp[WShape.has,WShape.arms,WShape.armsAll])
  (show (WTm.eq .res (.lit (.bool true))).value [] {args:=args,res:=some (.bool true),after:=args}=some (.bool (true == true)) from w_eq_bool (w_res rfl) w_lit) rfl
theorem attach_call{l:OpenLaw}{d:DefRec}
  (hn:l.most=some n) (hdf:d.params.defaults=[])
  (call:∀(w:World)(s₀ s₁:Shared)(mg mb:Str->Option Value)(fa:Addr)(o:Obj)(pm cd doc:Value)(a:Addr)(vs:List Value)(ns:List Int),
   Ground q loose [] XP w s₀ mg mb s₁.heap->YP w s₁.heap->
   s₁.heap.get? fa=some o->o.data=.func (docDef d.name d.params d.body d.scope pm cd doc)->s₁.heap.CodeRec cd d.name->mg d.name=some (.ref fa)->
   s₁.heap.get? a=some {cls:=.type "list",data:=.seq vs.toArray}->IntsAre vs ns->ns.length<=n->s₁.gens=#[]->
   codeAny (model l.prog w) callerA (.call (.ref fa) ⟨[.ref a],[]⟩) (fun r s'=>r=.ok (.ret (.bool true))/\OldK s₁.heap s'.heap/\s'.os=s₁.os/\AllBare s'.gens) s₁) :
  WalkO q loose XP YP l.row.toRowW d [] (fun f vs=>PySem.call f vs):=by
 intro w s₀ s₁ mg mb G Y fa o pm cd doc dV kV ho hd hcd hD hmg hg args vals as hpre hlay hrd hwl hlo;obtain rfl:dV=.none:=Dflts.none hD hdf;obtain rfl:kV=.none:=Dflts.noKw hD;obtain⟨a,vs,ns,rfl,rfl,hobj,hints,hlen⟩:=oA hn hpre hwl;refine enter_call (codeAny_mono (call w s₀ s₁ mg mb fa o pm cd doc a vs ns G Y ho (fd_plain hd) hcd hmg hobj hints hlen hg) fun r s' hq=>?_)
 obtain⟨rfl,h2,h3,h4⟩:=hq;exact⟨.inl ⟨.bool true,.bool true,[],rfl,fun _=>rfl,.bool true,nI l _,fun _=>⟨List.Pairwise.nil,fun _ hm=>(nomatch hm)⟩⟩,h2,h3,h4⟩
section
variable {w:World}{A:Around}{s:Shared}{K:Frag}
end
end Att
namespace L2
open PySem PySem.Spec PyProof.Rows
theorem fh:∀{vs:List Value}{ns:List Int},IntsAre vs ns->Vals (ns.map V.int) vs
 |_,_,.nil=>.nil
 |_,_,.cons n t h=>.cons ⟨t,rfl⟩ (fh h)
noncomputable def yX(H:Hp):Prop:=∀b,H b=none\/∃o xs,H b=some (.frz o (.lst xs))
theorem qH{K:PySem.W.Frag}{s₁:Shared}
  (KX:K.In s₁.heap)(hns:s₁.heap.Ns mainGlobals mg)(hb:s₁.heap.Ns builtinsNs mb) (hbb:∀x:Str,x≠"__name__"->mb x=bootBuiltins x) (hlim:s₁.heap.NoLimit) (hg:s₁.gens=#[])
  (ha:s₁.heap.get? a=some {cls:=.type "list",data:=.seq vs.toArray}) (hi:IntsAre vs ns) (hl:ns.length<=sizeLine) (hr:Room k callerA)
  (F:∀base:Heap,K.In base->base.Ns mainGlobals mg->FnOk P w K mg base CX k fa fd [x] sp) (hbind:∀(s:Shared)(u:Value),BindsTo s fd ⟨[u],[]⟩ [(x,u)])
  (hsp:∀H:Hp,yX H->SqL K H a (ns.map V.int)->sp [.ref a] H (fun v _=>v=.bl true) fun _ _ _=>False)
  (hCX:∀H e s',CX [] H s₁ (fun _ _ _=>False) e s'->False) :
  codeAny (model P w) callerA (.call (.ref fa) ⟨[.ref a],[]⟩) (fun r s'=>r=.ok (.ret (.bool true))/\OldK s₁.heap s'.heap/\s'.os=s₁.os/\AllBare s'.gens) s₁:=by
 have rv:=fh hi;have lenV:=hi.length;have core:∀H:Hp,yX H->SqL K H a (ns.map V.int)->HOk P w H s₁.heap->(∀b,H b≠none->b=a)->(H a≠none->K.lookup a=none)->
   codeAny (model P w) callerA (.call (.ref fa) ⟨[.ref a],[]⟩) (fun r s'=>r=.ok (.ret (.bool true))/\OldK s₁.heap s'.heap/\s'.os=s₁.os/\AllBare s'.gens) s₁:=by
  intro H hO hS hok hA hK;have base_of:∀{b:Addr}{o:Obj},s₁.heap.get? b=some o->H b=none->(jM s₁.heap H).get? b=some o:=fun e n=>pP e n
  have noA:∀{b:Addr}{o:Obj}{es:Array DictEntry}{ep:Nat},s₁.heap.get? b=some o->o.data=.dict es ep->H b=none:=fun {b o es ep} e d=>by
   cases q:H b with
   |none=>rfl
   |some u=>
    have e':b=a:=hA b (by rw[q];simp)
    subst e';rw[ha]at e;cases e;have d':Data.seq vs.toArray _=Data.dict es ep:=d;cases d'
  have nsK:∀{b:Addr}{m:Str->Option Value},s₁.heap.Ns b m->(jM s₁.heap H).Ns b m:=fun {b m} ⟨o,es,ep,e,d,r⟩=>⟨o,es,ep,base_of e (noA e d),d,r⟩
  have hKb:K.In (jM s₁.heap H):=fun b o e=>base_of (KX b o e) (by
   cases q:H b with
   |none=>rfl
   |some u=>
    have e':b=a:=hA b (by rw[q];simp)
    subst e';rw[hK (by rw[q];simp)]at e;cases e)
  have hM:Mod K mg (jM s₁.heap H):=⟨hKb,nsK hns,⟨mb,nsK hb,hbb⟩,let ⟨mc,h1,h2⟩:=hlim;⟨mc,nsK h1,h2⟩⟩
  have e0:Env0 P w K mg (jM s₁.heap H) callerA [] s₁ H:=⟨rfl,hM,fun b o e=>rF e,Nat.le_of_eq (oo _ _),trivial,fun b hb=>absurd (show b∈([]:List Addr) from hb) (by simp),hok,.of_eq hg⟩
  refine codeAny_mono ((F _ hKb (nsK hns)).run callerA [] s₁ H ⟨[.ref a],[]⟩ [.ref a] [.ref a] _ _ hr e0 (hbind s₁ (.ref a)) (.cons rfl .nil) (hsp H hO hS)) fun r s' h=>?_
  cases r with
  |error e=>exact (hCX H e s' h).elim
  |ok fl=>
   cases fl with
   |next=>exact False.elim h
   |brk=>exact False.elim h
   |cont=>exact False.elim h
   |ret u=>
    obtain⟨v,H',os,bare,un,hok',r',q⟩:=h;have q':v=.bl true:=q;subst q';obtain rfl:u=Value.bool true:=r';refine⟨rfl,OldK.of_keep fun b o e=>?_,os,bare⟩
    cases q:H b with
    |none=>exact un.keep b o e q (by intro z;exact absurd (show b∈([]:List Addr) from z) (by simp)) (by simp)
    |some u=>
     rcases hO b with z|⟨ob,xs,z⟩
     ·rw[q]at z;cases z
     ·have z2:=un.frzs b ob _ z;obtain⟨e1,_⟩:=hok b _ z;obtain⟨e2,_⟩:=hok' b _ z2;rw[e]at e1;cases e1;exact e2
 cases hk:K.lookup a with
 |some o=>
  have e:=KX a o hk;rw[ha]at e;cases e;refine core (fun _=>none) (fun _=>.inl rfl) (.inr ⟨_,vs.toArray,_,hk,rfl,rfl,rfl,by rw[List.size_toArray,lenV];exact hl,by simpa using rv⟩) (fun b u z=>by have z':(none:Option HO)=some u:=z;cases z') (fun b z=>absurd rfl z) fun z=>absurd rfl z
 |none=>
  refine core (fun b=>if b=a then some (.frz {cls:=.type "list",data:=.seq vs.toArray} (.lst (ns.map V.int))) else none) (fun b=>?_) (.inl (.inr ⟨{cls:=.type "list",data:=.seq vs.toArray},if_pos rfl⟩)) (fun b u z=>?_) (fun b z=>?_) fun _=>hk
  ·by_cases hb:b=a
   ·exact .inr ⟨_,_,if_pos hb⟩
   ·exact .inl (if_neg hb)
  ·by_cases hb:b=a
   ·have z':=(if_pos hb).symm.trans z;cases z';subst hb;exact⟨ha,by rw[List.length_map];exact hl,vs,_,rv,ha⟩
   ·have z':=(if_neg hb).symm.trans z;cases z'
  ·by_cases hb:b=a
   ·exact hb
   ·exact absurd (if_neg hb) z
end L2
namespace L2
open PySem PySem.Spec PyProof.Rows
end L2
namespace L2
open PySem PySem.Spec PyProof.Rows
noncomputable def aj(s:Stmt)(j:Nat):Stmt:=match s with
 |.ClassDef _ _ _ body _ _ _ _ _ _ _=>body.getD j (.Pass ⟨0,0,0,0⟩)
 |_=>.Pass ⟨0,0,0,0⟩
noncomputable def ba(s:Stmt):Arguments:=match s with
 |.FunctionDef _ a _ _ _ _ _ _ _ _=>a
 |_=>{posonlyargs:=[],args:=[],vararg:=none,kwonlyargs:=[],kw_defaults:=[],kwarg:=none,defaults:=[]}
noncomputable def aL(s:Stmt):List Stmt:=match s with
 |.FunctionDef _ _ b _ _ _ _ _ _ _=>b
 |_=>[]
noncomputable def ar(s:Stmt):Scope:=match s with
 |.FunctionDef _ _ _ _ _ _ sc _ _ _=>sc
 |_=>{kind:=.function,names:=[],isGenerator:=false,isCoroutine:=false}
noncomputable abbrev CX0:CXT:=fun _ _ _ _ _ _=>False
structure Fun (K:PySem.W.Frag)(x qual:Str)(st:Stmt)(f:Addr)(fd:FuncData):Prop where
 ex:∃(oc:Value) (od:Option Addr) (kV doc pm:Value) (an:Option Addr) (cdv ct:Value) (osl:Array (Option Value)),
  fd=PySem.W.fnOf x qual (ba st) (aL st) (ar st) .none kV doc pm an cdv ct/\K.lookup f=some ⟨oc,od,.func fd,osl⟩/\PySem.W.codeIn K cdv qual=true
 kp:PySem.W.keepIn K (.ref f)=true
section
variable {K:PySem.W.Frag}
theorem Fun.ok{st:Stmt}{ps:List Str}(F:Fun K x qual st f fd)(S:FnScope N ps (ar st))(len:∀vs H Q E,sp vs H Q E->vs.length=ps.length)
  (hbody:∀(cdv:Value)(A:Around)(outer:List Env)(s:Shared)(H:Hp)(vs:List V)(Q:VK)(E:XK),Room k (A.deeper (envOfC qual (ar st) s.heap.objs.size f cdv))->sp vs H Q E->
   ∃t,PSs (bC CX0 P w K mg base N qual (ar st) f cdv A outer s H E).nox (aL st) t/\t {nx:=fun _ H'=>Q .non H',rt:=Q} (start N vs) H):FnOk P w K mg base CX0 (k+1) f fd ps sp:=by
 obtain⟨oc,od,kV,doc,pm,an,cdv,ct,osl,rfl,lk,hcd⟩:=F.ex;refine qB lk hcd S len fun A outer s H vs Q E hr hsp=>?_
 obtain⟨t,h,q⟩:=hbody cdv A outer s H vs Q E hr hsp;exact⟨t,h.nox,q⟩
theorem xf{x qual:Str}{st:Stmt}{f:Addr}{oc:Value}{od an:Option Addr}{osl:Array (Option Value)}{kV doc pm cdv ct:Value}(l:K.lookup f=some ⟨oc,od,.func (PySem.W.fnOf x qual (ba st) (aL st) (ar st) .none kV doc pm an cdv ct),osl⟩)
  (c:PySem.W.codeIn K cdv qual=true) (k:PySem.W.keepIn K (.ref f)=true):Fun K x qual st f (PySem.W.fnOf x qual (ba st) (aL st) (ar st) .none kV doc pm an cdv ct):=⟨⟨oc,od,kV,doc,pm,an,cdv,ct,osl,rfl,l,c⟩,k⟩
end
section
variable {X:Cx}
end
section
variable {κ:Type} [DecidableEq κ]
end
end L2
set_option maxHeartbeats 4000000
namespace L2
open PySem PySem.Spec PyProof.Rows
noncomputable def DA(h:Heap)(e:Addr)(d:Option Addr):Prop:=∃o,h.get? e=some o/\o.dict=d
theorem iu(f:Array Value->Array Value)(o:Obj):(Obj.mapFields f o).dict=o.dict:=by
 obtain⟨c,d,x,sl⟩:=o;cases x<;>rfl
section
variable {A:Around}{s:Shared}{base:Heap}{env:Env}
theorem nA{oe:Obj}{vs:Array Value}(hfr:A.frames=some (env::outer))(hl:s.heap.FunFrames base (env::outer))(hf:env.frame=some L)(he:s.heap.get? e=some oe)(hkb:base.StaysIn s.heap)(hen:base.get? e=none)
  (hd:oe.data=.fields vs) (hsz:1 < vs.size) (h0:vs[0]?=some a0) (k:∀h',Heap.NotedW base (env::outer) e oe.cls a0 (rawInt L) s.heap h'->DA h' e oe.dict->Q () {s with heap:=h'}) :
  wpAny M A (do let fr<-frameOf env;let pl<-entryPlaceOf L hadNext;let t<-EntryCells.newEntry head fr .none (rawInt L) .none pl;setField (.ref e) 1 t) Q E s:=by
 have out:e∉(env::outer).filterMap (·.frame):=fun z=>by
  obtain⟨_,o,ho,nf⟩:=hl.mem z;cases he.symm.trans ho;exact nf vs hd
 refine wpAny_bind (wpAny_frameOf_fun hfr hl hf fun g1 sl1=>wpAny_bind (wpAny_entryPlaceOf fun pl hpl=>?_))
 unfold EntryCells.newEntry newFields;refine wpAny_bind (wpAny_newObj_type ?_ (hpl.sizeOk5 _ _ _ _ _));generalize hT:({cls:=.type "traceback",dict:=none,data:=.fields ([head,.ref L,.none,rawInt L,.none]++(if pl.isEmpty then List.replicate 6 Value.none else pl)).toArray}:Obj)=oT
 have e1:g1.get? e=some oe:=(sl1.2.1 e out).trans he;have b1:base.StaysIn g1:=fun b o q=>(sl1.2.1 b fun z=>by rw[(hl.mem z).1]at q;cases q).trans (hkb b o q)
 have e2:(g1.push oT).get? e=some oe:=Heap.get?_push_of_some oT e1;refine wpAny_setField e2 hd hsz (k _ ?_ ?_)
 ·have ne:g1.objs.size≠e:=Nat.ne_of_gt (Heap.lt_size e1);have d3:=Obj.data_mapFields hd (·.setIfInBounds 1 (Value.ref g1.objs.size));have e3:=Heap.get?_update_self (Obj.mapFields (·.setIfInBounds 1 (Value.ref g1.objs.size))) e2 (Obj.isFreed_of_fields d3);have t3:(g1.push oT).get? g1.objs.size=some oT:=Heap.get?_push_size g1 (by rw[<-hT];rfl)
  have t4:((g1.push oT).update e (Obj.mapFields (·.setIfInBounds 1 (Value.ref g1.objs.size)))).get? g1.objs.size=some oT:=(Heap.get?_update_other _ _ (Ne.symm ne)).trans t3;have stay:∀b o,b≠e->g1.get? b=some o->((g1.push oT).update e (Obj.mapFields (·.setIfInBounds 1 (Value.ref g1.objs.size)))).get? b=some o:=fun b o n q=>
   (Heap.get?_update_other _ _ (Ne.symm n)).trans (Heap.get?_push_of_some oT q)
  have other:∀b o,s.heap.get? b=some o->(∀ws,o.data≠.fields ws)->b≠e:=fun b o q nf z=>by
   subst z;cases he.symm.trans q;exact nf vs hd
  refine⟨fun b o q=>stay b o (fun z=>by rw[z,hen]at q;cases q) (b1 b o q),hl.of_keeps fun b o q nf=>?_,⟨_,_,g1.objs.size,oT,_,e3,⟨Obj.cls_mapFields _ _,?_⟩,d3,by simp[hsz],b1.fresh,ne,t4,by rw[<-hT],?_⟩,fun b o q nf=>?_⟩
  ·obtain⟨sl,z⟩:=sl1.2.2 b o q;exact⟨_,stay b _ (other b o q nf) z,rfl⟩
  ·rw[Array.getElem?_setIfInBounds_ne (by decide)];exact h0
  ·first|(simp;done)|(rcases hpl with rfl|⟨_,_,_,_,_,_,_,rfl⟩<;>simp)
  ·obtain⟨sl,z⟩:=sl1.2.2 b o q;exact⟨sl,stay b _ (other b o q nf) z⟩
 ·have d3:=Obj.data_mapFields hd (·.setIfInBounds 1 (Value.ref g1.objs.size));exact⟨_,Heap.get?_update_self (Obj.mapFields (·.setIfInBounds 1 (Value.ref g1.objs.size))) e2 (Obj.isFreed_of_fields d3),iu _ _⟩
theorem gN(hkb:base.StaysIn s.heap)(hl:s.heap.FunFrames base l)(ht:s.heap.TracedAtW base e cls a0 fl)(hd:DA s.heap e d)
  (k:∀h',base.StaysIn h'->h'.FunFrames base l->h'.TracedW base e cls a0->s.heap.UpToSlots h'->DA h' e d->Q () {s with heap:=h'}):wpAny M A (setFlight (.ref e) none) Q E s:=by
 obtain⟨oe,vs,T,oT,ts,he,hc,hv,h1,nT,ne,hT,dT,h3⟩:=ht;obtain⟨oe',he',hd⟩:=hd;cases he.symm.trans he';have sz:3 < ts.size:=(Array.getElem?_eq_some_iff.mp h3).1;unfold setFlight;refine wpAny_bind (wpAny_field he hv h1 ?_);rw[if_pos (by simp:(Value.ref T != Value.none)=true)]
 have oth:∀b,b≠T->(s.heap.update T (Obj.mapFields (·.setIfInBounds 3 ((none:Option Addr).elim Value.none fun f=>rawInt f)))).get? b=s.heap.get? b:=fun b n=>Heap.get?_update_other _ _ (Ne.symm n)
 have plain:∀b o,s.heap.get? b=some o->(∀ws,o.data≠.fields ws)->b≠T:=fun b o q nf z=>by
  subst z;cases hT.symm.trans q;exact nf ts dT
 have ee:=(oth e (Ne.symm ne)).trans he;refine wpAny_setField hT dT sz (k _ (fun b o q=>(oth b fun z=>by rw[z,nT]at q;cases q).trans (hkb b o q)) (hl.of_keeps fun b o q nf=>⟨o,(oth b (plain b o q nf)).trans q,rfl⟩) ⟨oe,vs,T,_,_,ee,hc,hv,h1,nT,ne,Heap.get?_update_self _ hT (Obj.isFreed_of_fields (Obj.data_mapFields dT _)),Obj.data_mapFields dT _,by simp[sz]⟩
  (fun b o q nf=>⟨o.slots,(oth b (plain b o q nf)).trans q⟩) ⟨oe,ee,hd⟩)
theorem qC(hfr:A.frames=some (env::outer))(hf:env.frame=some L)(fl:Heap.FlyingW base (env::outer) e cls a0 s.heap)(hd:DA s.heap e d)
  (k:∀h',Heap.HeldW base (env::outer) e cls a0 L h'->s.heap.UpToSlots h'->DA h' e d->Q () {s with heap:=h'}):wpAny M A (noteFrame (.ref e) env) Q E s:=by
 obtain⟨hkb,hen,hl,oe,vs,T,oT,ts,he,⟨rfl,h0⟩,hv,h1,nT,ne,hT,dT,h3⟩:=fl;obtain⟨oe',he',rfl⟩:=hd;cases he.symm.trans he';unfold noteFrame;simp only[hf];refine wpAny_bind (wpAny_field he hv h1 ?_);rw[if_pos (by simp:(Value.ref T != Value.none)=true)]
 refine wpAny_bind (wpAny_field hT dT h3 ?_);rw[if_neg (by simp[rawInt]:¬ ((Value.none == rawInt L)=true))]
 refine wpAny_bind (wpAny_setField hT dT (Array.getElem?_eq_some_iff.mp h3).1 ?_);have oth:∀b,b≠T->(s.heap.update T (Obj.mapFields (·.setIfInBounds 3 Value.none))).get? b=s.heap.get? b:=fun b n=>Heap.get?_update_other _ _ (Ne.symm n)
 have plain:∀b o,s.heap.get? b=some o->(∀ws,o.data≠.fields ws)->b≠T:=fun b o q nf z=>by
  subst z;cases hT.symm.trans q;exact nf ts dT
 exact nA hfr (hl.of_keeps fun b o q nf=>⟨o,(oth b (plain b o q nf)).trans q,rfl⟩) hf ((oth e (Ne.symm ne)).trans he) (fun b o q=>(oth b fun z=>by rw[z,nT]at q;cases q).trans (hkb b o q)) hen hv (Array.getElem?_eq_some_iff.mp h1).1 h0
  fun h' ⟨x1,x2,x3,x4⟩ dd=>k h' ⟨x1,hen,x2,x3⟩ (fun b o q nf=>x4 b o ((oth b (plain b o q nf)).trans q) nf) dd
theorem mL(hh:Heap.HeldW base l e cls a0 L s.heap)(hd:DA s.heap e d)(k:∀h',Heap.FlyingW base l e cls a0 h'->s.heap.UpToSlots h'->DA h' e d->Q () {s with heap:=h'}):wpAny M A (setFlight (.ref e) none) Q E s:=
 gN hh.1 hh.2.2.1 hh.2.2.2 hd fun h' k1 k2 k3 k4 k5=>k h' ⟨k1,hh.2.1,k2,k3⟩ k4 k5
theorem mD(fl:Heap.FlyingW base l e cls a0 s.heap)(hd:DA s.heap e d)(k:∀h',Heap.FlyingW base l e cls a0 h'->s.heap.UpToSlots h'->DA h' e d->Q () {s with heap:=h'}):wpAny M A (setFlight (.ref e) none) Q E s:=
 gN fl.1 fl.2.2.1 fl.2.2.2.at hd fun h' k1 k2 k3 k4 k5=>k h' ⟨k1,fl.2.1,k2,k3⟩ k4 k5
theorem c7{h:Heap}(x:h.FunFrames base (env::outer)):h.FunFrames base outer:=x.2.2
theorem pV(hfr:A.frames=some (env::outer))(hf:env.frame=some L)(fl:Heap.FlyingW base (env::outer) e cls a0 s.heap)(hd:DA s.heap e d)
  (k:∀h',Heap.FlyingW base outer e cls a0 h'->s.heap.UpToSlots h'->DA h' e d->Q () {s with heap:=h'}):wpAny M A (leaving env (.ref e)) Q E s:=by
 unfold leaving;refine wpAny_bind (qC hfr hf fl hd fun h1 x1 u1 d1=>mL x1 d1 fun h2 x2 u2 d2=>k h2 ⟨x2.1,x2.2.1,c7 x2.2.2.1,x2.2.2.2⟩ (u1.trans u2) d2)
theorem si{oe:Obj}(hfr:A.frames=some (env::outer))(hf:env.frame=some L)(hkb:base.StaysIn s.heap)(hl:s.heap.FunFrames base (env::outer))(he:s.heap.get? e=some oe)(hen:base.get? e=none)(hv:oe.data=.fields vs)(h0:vs[0]?=some a0)(h1:vs[1]?=some .none)
  (k:∀h',Heap.FlyingW base outer e oe.cls a0 h'->s.heap.UpToSlots h'->DA h' e oe.dict->Q () {s with heap:=h'}):wpAny M A (leaving env (.ref e)) Q E s:=by
 unfold leaving noteFrame;simp only[hf];refine wpAny_bind (wpAny_bind (wpAny_field he hv h1 ?_));rw[if_neg (by decide)]
 refine nA hfr hl hf he hkb hen hv (Array.getElem?_eq_some_iff.mp h1).1 h0 fun h1 x1 d1=>?_
 exact gN x1.1 x1.2.1 x1.2.2.1 d1 fun h2 k1 k2 k3 k4 k5=>k h2 ⟨k1,hen,c7 k2,k3⟩ (Heap.UpToSlots.trans x1.2.2.2 k4) k5
end
end L2
namespace L2
open PySem PySem.Spec PyProof.Rows
section
variable {h h':Heap}{o:HO}
theorem ObjOk.isAt(x:ObjOk P w H h a o):∃ob,h.get? a=some ob:=by
 cases o with
 |lst xs=>obtain⟨_,_,_,_,e⟩:=x;exact⟨_,e⟩
 |tup xs=>obtain⟨_,_,_,ob,e,_⟩:=x;exact⟨_,e⟩
 |dK kvs=>obtain⟨_,_,_,_,ob,_,_,e,_⟩:=x;exact⟨_,e⟩
 |dT kvs=>obtain⟨_,_,_,_,ob,_,_,e,_⟩:=x;exact⟨_,e⟩
 |set S n=>obtain⟨ob,_,_,_,e,_⟩:=x;exact⟨_,e⟩
 |ins C dx fs=>obtain⟨_,_,_,e,_⟩:=x;exact⟨_,e⟩
 |own y=>exact x
 |xd fs=>obtain⟨_,⟨ob,_,_,e,_⟩,_⟩:=x;exact⟨_,e⟩
 |rng lo hi=>obtain⟨_,_,_,e⟩:=x;exact⟨_,e⟩
 |frz ob u=>exact⟨_,x.1⟩
 |tbl ps=>exact⟨_,x⟩
 |met f y=>exact⟨_,x⟩
 |ext φ=>exact x.2.1
theorem HOk.keptT(x:HOk P w H h)(k:∀b u ob,H b=some u->h.get? b=some ob->h'.get? b=some ob):HOk P w H h':=fun a o e=>
 (x a o e).stay (fun b u hb q=>hb.elim (fun z=>by subst z;exact k _ _ _ e q) (fun z=>k _ _ _ z q)) (fun _ q=>q) fun _ _ q=>q
end
noncomputable def Fly(B:Heap)(l:List Env)(a:Addr)(cls:Value)(h:Heap):Prop:=∃a0,Heap.FlyingW B l a cls a0 h
noncomputable def Within(B:Heap)(l:List Env)(hs:Heap)(H':Hp)(h':Heap):Prop:=
 ∀b ob,h'.get? b=some ob->(H' b≠none\/((∃o',hs.get? b=some o')/\b∉frs l))->B.get? b=some ob
noncomputable def CX1(P:Program)(w:World):CXT:=fun outer H s E e s'=>
 ∃(a:Addr) (cls:Value) (B:Heap) (H':Hp) (dx:Option Addr),e=.ref a/\s'.os=s.os/\AllBare s'.gens/\Un (frs outer) [] H H' s.heap s'.heap/\HOk P w H' s'.heap/\
  (Fly B outer a cls s'.heap/\DA s'.heap a dx)/\H' a=none/\Within B outer s.heap H' s'.heap/\E cls dx H'
theorem Inv.notrk{s:Shared}(I:Inv X pins σ H s)(hn:s.heap.get? e=none):H e=none:=by
 cases q:H e with
 |none=>rfl
 |some u=>
  obtain⟨ob,z⟩:=(I.hok e u q).isAt;rw[hn]at z;cases z
theorem Inv.oldNe{X:Cx}(I:Inv X pins σ H s)(q:X.s₀.heap.get? b=some o)(hb:b∉X.fs):b∉frs X.stack:=fun hm=>by
 rcases List.mem_cons.mp (I.stkSub b hm) with z|z
 ·have:=Nat.lt_of_lt_of_le (Heap.lt_size q) I.ok.above;rw[z]at this;exact absurd this (Nat.lt_irrefl _)
 ·exact hb z
section
variable {K:PySem.W.Frag}{s:Shared}
theorem i6{s1:Shared}{oe:Obj}{h':Heap}
  (I:Inv (bC (CX1 P w) P w K mg base N qual scope f cd A outer s H E) pins σ H1 s1) (hk:∀b o,s1.heap.get? b=some o->b≠e->h'.get? b=some o) (hke:∀o,s1.heap.get? e=some o->∃vs,o.data=.fields vs) (hnt:H1 e=none) (hno:s.heap.get? e=none)
  (hoe:h'.get? e=some oe) (hv:oe.data=.fields vs) (hv0:vs[0]?=some a0) (hv1:vs[1]?=some .none) (he:E oe.cls oe.dict H1) :
  (bC (CX1 P w) P w K mg base N qual scope f cd A outer s H E).xe (.ref e) {s1 with heap:=h'}:=by
 have hfr:((bC (CX1 P w) P w K mg base N qual scope f cd A outer s H E).A).frames=some (envOfC qual scope s.heap.objs.size f cd::outer):=I.ok.frames;have hl:s1.heap.FunFrames base (envOfC qual scope s.heap.objs.size f cd::outer):=I.stack;have hin:∀env∈(envOfC qual scope s.heap.objs.size f cd::outer),∀b,env.frame=some b->b∈e::frs (envOfC qual scope s.heap.objs.size f cd::outer):=fun env he b hb=>List.mem_cons_of_mem _ (List.mem_filterMap.mpr ⟨env,he,hb⟩)
 have hB:∀b o,(PySem.W.hideAll s1.heap (e::frs (envOfC qual scope s.heap.objs.size f cd::outer))).get? b=some o->s1.heap.get? b=some o/\b≠e:=fun b o q=>⟨PySem.W.of_hideAll _ q,fun z=>by
  subst z;rw[PySem.W.hideAll_none _ List.mem_cons_self]at q;cases q⟩
 have hff:s1.heap.FunFrames (PySem.W.hideAll s1.heap (e::frs (envOfC qual scope s.heap.objs.size f cd::outer))) (envOfC qual scope s.heap.objs.size f cd::outer):=PySem.W.funFrames_hide hl hin;show wpAny _ _ (leaving _ _) _ _ _;refine si (base:=PySem.W.hideAll s1.heap (e::frs (envOfC qual scope s.heap.objs.size f cd::outer))) hfr rfl (fun b o q=>hk b o (hB b o q).1 (hB b o q).2) (hff.of_keeps fun b o q nf=>⟨o,hk b o q (fun z=>by
  subst z;obtain⟨ws,dw⟩:=hke o q;exact nf ws dw),rfl⟩) hoe (PySem.W.hideAll_none _ List.mem_cons_self) hv hv0 hv1 fun h2 fl up dd=>?_
 have tB:∀b u ob,H1 b=some u->s1.heap.get? b=some ob->(PySem.W.hideAll s1.heap (e::frs (envOfC qual scope s.heap.objs.size f cd::outer))).get? b=some ob:=fun b u ob hb q=>
  PySem.W.hideAll_get _ q fun hm=>by
   rcases List.mem_cons.mp hm with z|hm
   ·rw[z,hnt]at hb;cases hb
   ·have z:=I.stkFree b hm;rw[hb]at z;cases z
 have one:∀b o,s.heap.get? b=some o->b≠e:=fun b o q z=>by rw[z,hno]at q;cases q
 have oB:∀b o ob,s.heap.get? b=some o->b∉frs outer->s1.heap.get? b=some ob->(PySem.W.hideAll s1.heap (e::frs (envOfC qual scope s.heap.objs.size f cd::outer))).get? b=some ob:=fun b o ob q hb q1=>
  PySem.W.hideAll_get _ q1 fun hm=>(List.mem_cons.mp hm).elim (one b o q) (I.oldNe q hb)
 have st:=fl.1;have slot:∀b o,s.heap.get? b=some o->H b=none->b∈frs outer->∃sl,h2.get? b=some {o with slots:=sl}:=fun b o q n hb=>by
  obtain⟨sl,e1⟩:=I.base.slot b o q n hb (fun z=>nomatch z)
  obtain⟨_,o2,e2,nf⟩:=I.ok.funs.mem hb;have e3:o2=o:=Option.some.inj (e2.symm.trans q);subst e3;obtain⟨sl2,e4⟩:=up b _ (hk _ _ e1 (one b _ q)) nf;exact⟨sl2,e4⟩
 refine⟨e,oe.cls,_,H1,oe.dict,rfl,I.os,I.bare,⟨fun b o q n hb _=>?_,fun b o q n hb _=>slot b o q n hb,fun b o q n _=>I.base.free b o q n (fun z=>nomatch z),fun b o q _=>?_,I.base.tups,I.base.frzs,I.base.tbls⟩,?_,⟨⟨_,fl⟩,dd⟩,hnt,fun b ob q hb=>?_,he⟩
 ·exact st b o (oB b o o q hb (I.base.keep b o q n hb (fun z=>nomatch z)))
 ·by_cases hb:b∈frs outer
  ·obtain⟨sl,z⟩:=slot b o q (I.ok.frf b hb) hb;exact⟨_,z⟩
  ·obtain⟨o',e1⟩:=I.base.there b o q (fun z=>nomatch z)
   exact⟨o',st b o' (oB b o o' q hb e1)⟩
 ·exact I.hok.keptT fun b u ob hb q=>st b ob (tB b u ob hb q)
 ·rcases hb with hb|⟨⟨o',ho'⟩,hb⟩
  ·cases z:H1 b with
   |none=>exact absurd z hb
   |some u=>
    obtain⟨o1,e1⟩:=(I.hok b u z).isAt;have e2:=tB b u o1 z e1;have e3:o1=ob:=Option.some.inj ((st b o1 e2).symm.trans q);rw[<-e3];exact e2
  ·obtain⟨o1,e1⟩:=I.base.there b o' ho' (fun z=>nomatch z)
   have e2:=oB b o' o1 ho' hb e1;have e3:o1=ob:=Option.some.inj ((st b o1 e2).symm.trans q);rw[<-e3];exact e2
theorem og{s1:Shared}
  (I:Inv (bC (CX1 P w) P w K mg base N qual scope f cd A outer s H E) pins σ H1 s1) (hx:Heap.MadeExcOf s1.heap h' e cls args)(he:E cls none H1) :
  (bC (CX1 P w) P w K mg base N qual scope f cd A outer s H E).xe (.ref e) {s1 with heap:=h'}:=by
 obtain⟨t,e1,_,_⟩:=hx.there;refine i6 I (fun b o q _=>hx.keeps b o q) (fun o q=>by rw[hx.new]at q;cases q) (I.notrk hx.new) ?_ e1 rfl rfl rfl he
 cases q:s.heap.get? e with
 |none=>rfl
 |some o=>
  obtain⟨o1,z⟩:=I.base.there e o q (fun z=>nomatch z)
  rw[hx.new]at z;cases z
theorem qy(hE:∀c d H',E' c d H'->E c d H')
  (I:Inv (bC (CX1 P w) P w K mg base N qual scope f cd A outer s H E) pins σ H1 s1) (hc:CX1 P w (envOfC qual scope s.heap.objs.size f cd::outer) H1 s1 E' e s') :
  (bC (CX1 P w) P w K mg base N qual scope f cd A outer s H E).xe e s':=by
 obtain⟨a,cls,B,H2,dx,rfl,os,bare,un,hok,⟨⟨a0,fl⟩,dd⟩,ha,inc,he⟩:=hc;have hfr:((bC (CX1 P w) P w K mg base N qual scope f cd A outer s H E).A).frames=some (envOfC qual scope s.heap.objs.size f cd::outer):=I.ok.frames;show wpAny _ _ (leaving _ _) _ _ _;refine pV hfr rfl fl dd fun h2 fl2 up dd2=>?_
 have st:=fl2.1;have nil:∀b:Addr,b∉([]:List Addr):=fun b z=>nomatch z
 have slot:∀b o,s.heap.get? b=some o->H b=none->b∈frs outer->∃sl,h2.get? b=some {o with slots:=sl}:=fun b o q n hb=>by
  obtain⟨sl,e1⟩:=I.base.slot b o q n hb (nil b);obtain⟨sl1,e2⟩:=un.any e1 (I.base.free b o q n (nil b)) (nil b);obtain⟨_,o2,e3,nf⟩:=I.ok.funs.mem hb;have e4:o2=o:=Option.some.inj (e3.symm.trans q);subst e4;obtain⟨sl2,e5⟩:=up b _ e2 nf;exact⟨sl2,e5⟩
 have old:∀b o,s.heap.get? b=some o->b∉frs outer->∃ob,s'.heap.get? b=some ob/\B.get? b=some ob:=fun b o q hb=>by
  obtain⟨o1,e1⟩:=I.base.there b o q (nil b);obtain⟨o2,e2⟩:=un.there b o1 e1 (nil b);exact⟨o2,e2,inc b o2 e2 (.inr ⟨⟨o1,e1⟩,I.oldNe q hb⟩)⟩
 refine⟨a,cls,B,H2,dx,rfl,os.trans I.os,bare,⟨fun b o q n hb _=>?_,fun b o q n hb _=>slot b o q n hb,fun b o q n _=>?_,fun b o q _=>?_,fun b xs q=>un.tups b xs (I.base.tups b xs q),fun b o u q=>un.frzs b o u (I.base.frzs b o u q),fun b ps q=>?_⟩,?_,⟨⟨a0,fl2⟩,dd2⟩,ha,fun b ob q hb=>?_,hE _ _ _ he⟩
 ·have e1:=I.base.keep b o q n hb (nil b);have e2:=un.keep b o e1 (I.base.free b o q n (nil b)) (I.oldNe q hb) (nil b);exact st b o (inc b o e2 (.inr ⟨⟨o,e1⟩,I.oldNe q hb⟩))
 ·obtain⟨o1,e1⟩:=I.base.there b o q (nil b);exact un.free b o1 e1 (I.base.free b o q n (nil b)) (nil b)
 ·by_cases hb:b∈frs outer
  ·obtain⟨sl,z⟩:=slot b o q (I.ok.frf b hb) hb;exact⟨_,z⟩
  ·obtain⟨ob,_,e2⟩:=old b o q hb;exact⟨ob,st b ob e2⟩
 ·obtain⟨m1,e1⟩:=I.base.tbls b ps q;obtain⟨m2,e2⟩:=un.tbls b _ e1;exact⟨m1++m2,by rw[e2,Array.append_assoc]⟩
 ·exact hok.keptT fun b u ob hb q=>st b ob (inc b ob q (.inl (by rw[hb];exact fun z=>nomatch z)))
 ·rcases hb with hb|⟨⟨o',ho'⟩,hb⟩
  ·cases z:H2 b with
   |none=>exact absurd z hb
   |some u=>
    obtain⟨o1,e1⟩:=(hok b u z).isAt;have e2:=inc b o1 e1 (.inl hb);have e3:o1=ob:=Option.some.inj ((st b o1 e2).symm.trans q);rw[<-e3];exact e2
  ·obtain⟨o1,e1,e2⟩:=old b o' ho' hb;have e3:o1=ob:=Option.some.inj ((st b o1 e2).symm.trans q);rw[<-e3];exact e2
theorem yz:v5 (CX1 P w) (bC (CX1 P w) P w K mg base N qual scope f cd A outer s H E) E:=fun _ _ _ _ _ _ I h=>qy (fun _ _ _ z=>z) I h
theorem CD:PassesOwn (model P w) (bC (CX1 P w) P w K mg base N qual scope f cd A outer s H E).A (bC (CX1 P w) P w K mg base N qual scope f cd A outer s H E).env (bC (CX1 P w) P w K mg base N qual scope f cd A outer s H E).xe:=
 PassesOwn.leaving
end
noncomputable def oU(X:Cx)(E:XK):Prop:=∀(pins:List (Addr×Obj)) (σ:St)(H:Hp)(s:Shared)(e:Addr)(cls:Value)(args:List Value)(h':Heap),Inv X pins σ H s->Heap.MadeExcOf s.heap h' e cls args->E cls none H->X.xe (.ref e) {s with heap:=h'}
noncomputable def gu(X:Cx)(E:XK):Prop:=∀(pins:List (Addr×Obj)) (σ:St)(H:Hp)(s:Shared)(e:Addr)(oe:Obj)(vs:Array Value)(a0:Value),Inv X pins σ H s->H e=none->X.s₀.heap.get? e=none->s.heap.get? e=some oe->oe.data=.fields vs->vs[0]?=some a0->vs[1]?=some .none->E oe.cls oe.dict H->X.xe (.ref e) s
theorem oQ{K:PySem.W.Frag} :
  gu (bC (CX1 P w) P w K mg base N qual scope f cd A outer s H E) E:=fun _ _ _ s1 e oe vs a0 I ht h0 hoe hv v0 v1 he=>i6 (h':=s1.heap) I (fun _ _ q _=>q) (fun o q=>by
 cases hoe.symm.trans q;exact⟨vs,hv⟩) ht h0 hoe hv v0 v1 he
theorem rP{K:PySem.W.Frag} :
  oU (bC (CX1 P w) P w K mg base N qual scope f cd A outer s H E) E:=fun _ _ _ _ _ _ _ _ I hx he=>og I hx he
abbrev bmV:List Value:=[.type "ValueError",.type "Exception",.type "BaseException",.type "object"]
noncomputable def zQ(K:PySem.W.Frag)(C:Addr):Prop:=PySem.W.excIn K C bmV "ValueError.__new__"=true
section
variable {X:Cx}
end
end L2
namespace L2
open PySem PySem.Spec PyProof.Rows
noncomputable def aJ(CX:CXT)(X:Cx)(E:St->XK):Prop:=∀(pins:List (Addr×Obj)) (σ:St)(H:Hp)(s:Shared)(e:Value)(s':Shared),Inv X pins σ H s->CX X.stack H s (E σ) e s'->X.xe e s'
section
variable {X:Cx}{p:Pos}{o:Expr}
end
section
variable {X:Cx}{σ:St}{s1 s':Shared}{B:Heap}
theorem Inv.behind(I:Inv X pins σ H1 s1)(hex:X.ex=[])(os:s'.os=s1.os)(bare:AllBare s'.gens)(un:Un (frs X.stack) [] H1 H2 s1.heap s'.heap)(hok:HOk X.prog X.w H2 s'.heap)
  (inc:Within B X.stack s1.heap H2 s'.heap)(st:B.StaysIn h4)(up:s'.heap.UpToSlots h4):Inv X pins σ H2 {s' with heap:=h4}:=by
 have nil:∀b:Addr,b∉([]:List Addr):=fun b z=>nomatch z
 have ex:∀b:Addr,b∉X.ex:=fun b=>by rw[hex];exact nil b
 have dataK:∀b o,s1.heap.get? b=some o->H1 b=none->(∀vs,o.data≠.fields vs)->∃sl,h4.get? b=some {o with slots:=sl}:=fun b o q n nf=>by
  obtain⟨sl,e1⟩:=un.any q n (nil b);obtain⟨sl2,e2⟩:=up b _ e1 nf;exact⟨sl2,e2⟩
 have cellK:∀x c,X.env.cells.lookup x=some c->∀v,s1.heap.IsCell c v->h4.IsCell c v:=fun x c e v ⟨o,ho,hd⟩=>by
  obtain⟨sl,z⟩:=dataK c o ho (I.freeC x c e) fun vs q=>by rw[hd]at q;cases q
  exact⟨_,z,hd⟩
 refine⟨I.ok,os.trans I.os,bare,⟨fun b o q n hb _=>?_,fun b o q n hb _=>?_,fun b o q n _=>?_,fun b o q _=>?_,fun b xs q=>un.tups b xs (I.base.tups b xs q),fun b o u q=>un.frzs b o u (I.base.frzs b o u q),fun b ps q=>?_⟩,?_,fun x c e=>?_,?_,fun x c e=>?_,fun p hp=>?_,?_,I.len⟩
 ·have e1:=I.base.keep b o q n hb (ex b);have e2:=un.keep b o e1 (I.base.free b o q n (ex b)) (I.oldNe q hb) (nil b);exact st b o (inc b o e2 (.inr ⟨⟨o,e1⟩,I.oldNe q hb⟩))
 ·obtain⟨sl,e1⟩:=I.base.slot b o q n hb (ex b);obtain⟨_,o2,e3,nf⟩:=I.ok.funs.mem hb;have e4:o2=o:=Option.some.inj (e3.symm.trans q);subst e4;obtain⟨sl2,e5⟩:=dataK b _ e1 (I.base.free b _ q n (ex b)) nf;exact⟨sl2,e5⟩
 ·obtain⟨o1,e1⟩:=I.base.there b o q (ex b);exact un.free b o1 e1 (I.base.free b o q n (ex b)) (nil b)
 ·obtain⟨o1,e1⟩:=I.base.there b o q (ex b);by_cases hb:b∈X.fs
  ·obtain⟨_,o2,e3,nf⟩:=I.ok.funs.mem hb;obtain⟨sl,e4⟩:=I.base.slot b o2 e3 (I.ok.frf b hb) hb (ex b);obtain⟨sl2,e5⟩:=dataK b _ e4 (I.base.free b _ e3 (I.ok.frf b hb) (ex b)) nf;exact⟨_,e5⟩
  ·obtain⟨o2,e2⟩:=un.there b o1 e1 (nil b);exact⟨o2,st b o2 (inc b o2 e2 (.inr ⟨⟨o1,e1⟩,I.oldNe q hb⟩))⟩
 ·obtain⟨m1,e1⟩:=I.base.tbls b ps q;obtain⟨m2,e2⟩:=un.tbls b _ e1;exact⟨m1++m2,by rw[e2,Array.append_assoc]⟩
 ·obtain⟨m,⟨o,es,ep,ho,hd,r⟩,hl⟩:=I.loc;obtain⟨sl,z⟩:=dataK _ o ho I.free fun vs q=>by rw[hd]at q;cases q
  refine⟨m,⟨_,es,ep,z,hd,r⟩,fun i x v e1 e2 e3=>?_⟩
  obtain⟨u,r',l⟩:=hl i x v e1 e2 e3;refine⟨u,r',l.elim .inl fun ⟨k,c,e,z⟩=>.inr ⟨k,c,e,cellK x c e _ z⟩⟩
 ·obtain⟨v,z⟩:=I.cell x c e;exact⟨v,cellK x c e v z⟩
 ·obtain⟨m,⟨o,_,_,ho,_⟩,_⟩:=I.loc;exact un.free _ o ho I.free (nil _)
 ·obtain⟨v,o,ho,_⟩:=I.cell x c e;exact un.free c o ho (I.freeC x c e) (nil _)
 ·obtain⟨e,n,ne,nf,d⟩:=I.pin p hp;have nb:p.1∉frs X.stack:=fun hm=>(List.mem_cons.mp (I.stkSub _ hm)).elim ne nf
  have e2:=un.keep p.1 p.2 e n nb (nil _);exact⟨st _ _ (inc _ _ e2 (.inr ⟨⟨_,e⟩,nb⟩)),un.free p.1 p.2 e n (nil _),ne,nf,d⟩
 ·exact hok.keptT fun b u ob hb q=>st b ob (inc b ob q (.inl (by rw[hb];exact fun z=>nomatch z)))
theorem sk(fl:Fly B X.stack a cls s'.heap)(inc:Within B X.stack s1.heap H2 s'.heap):s1.heap.get? a=none:=by
 obtain⟨a0,f1,f2,f3,oe,vs,T,oT,ts,he,hc,hd,_⟩:=fl;cases q:s1.heap.get? a with
 |none=>rfl
 |some o=>
  have z:=inc a oe he (.inr ⟨⟨o,q⟩,fun hm=>by
   obtain⟨_,o2,e2,nf⟩:=f3.mem hm;rw[he]at e2;cases e2;exact nf vs hd⟩)
  rw[f2]at z;cases z
end
noncomputable def pI(a:Addr)(cls:Value)(dx:Option Addr):HO:=.ext fun h=>∃o vs,h.get? a=some o/\o.cls=cls/\o.data=.fields vs/\o.dict=dx
section
variable {X:Cx}{σ:St}{s:Shared}
theorem Inv.trackExc{o:Obj}(I:Inv X pins σ H s)(hn:H a=none)(ho:s.heap.get? a=some o)(hc:o.cls=cls)(hd:o.data=.fields vs)(hdx:o.dict=dx)(h0:X.s₀.heap.get? a=none)(hp:∀p∈X.pn++pins,p.1≠a) :
  Inv X pins σ (upd H a (pI a cls dx)) s:=by
 have ne:∀b u,H b=some u->b≠a:=fun b u q=>au q hn
 have nL:X.env.locals≠a:=fun z=>by
  obtain⟨m,⟨o',_,_,ho',hd',_⟩,_⟩:=I.loc;rw[z,ho]at ho';cases ho';rw[hd]at hd';cases hd'
 have nC:∀x c,X.env.cells.lookup x=some c->c≠a:=fun x c e z=>by
  obtain⟨v,o',ho',hd'⟩:=I.cell x c e;rw[z,ho]at ho';cases ho';rw[hd]at hd';cases hd'
 refine⟨I.ok,I.os,I.bare,⟨I.base.keep,I.base.slot,fun b o' q n hx=>?_,I.base.there,fun b xs q=>?_,fun b o' u q=>?_,fun b ps q=>?_⟩,I.loc,I.cell,?_,fun x c e=>?_,fun p hp'=>?_,fun b u q=>?_,I.len⟩
 ·rw[aa fun z=>by rw[z,h0]at q;cases q]
  exact I.base.free b o' q n hx
 ·have z:=I.base.tups b xs q;rw[aa (ne _ _ z)];exact z
 ·have z:=I.base.frzs b o' u q;rw[aa (ne _ _ z)];exact z
 ·obtain⟨m,z⟩:=I.base.tbls b ps q;exact⟨m,by rw[aa (ne _ _ z)];exact z⟩
 ·rw[aa nL];exact I.free
 ·rw[aa (nC x c e)];exact I.freeC x c e
 ·obtain⟨e,n,r⟩:=I.pin p hp';exact⟨e,by rw[aa (hp p hp')];exact n,r⟩
 ·by_cases hb:b=a
  ·subst hb;rw[ae]at q;cases q;exact⟨⟨o,vs,ho,hc,hd,hdx⟩,⟨o,ho⟩,fun h1 h2 ⟨o1,vs1,e1,e2,e3⟩ k=>⟨o1,vs1,k _ e1,e2,e3⟩⟩
  ·rw[aa hb]at q;exact (I.hok b u q).stay (fun _ _ _ z=>z) (fun c z=>by rw[aa (ne _ _ z)];exact z) fun c xs z=>by rw[aa (ne _ _ z)];exact z
theorem Inv.goes{h':Heap}(hi:X.N[i]?=some n)(hN:X.N.Nodup)(I:Inv X pins σ H s)(hm:s.heap.Ns X.env.locals m)
  (hl:∀(j:Nat)(x:Str)(w:V),X.N[j]?=some x->σ[j]?=some (some w)->Vis X.env.scope x->∃u,RelV w u/\yT X.env s.heap m x u)
  (hn:h'.Ns X.env.locals (fun x=>if x=n then v else m x)) (hs:Heap.SameBut X.env.locals s.heap h'):Inv X pins (σ.set i none) H {s with heap:=h',toks:=t'}:=by
 obtain⟨oL,_,_,hoL,_⟩:=id hm;have old:∀b o,X.s₀.heap.get? b=some o->h'.get? b=s.heap.get? b:=fun b o e=>hs.2 b (Nat.ne_of_lt (Nat.lt_of_lt_of_le (Heap.lt_size e) I.ok.above))
 refine⟨I.ok,I.os,I.bare,⟨fun b o q n hb hx=>(old b o q).trans (I.base.keep b o q n hb hx),fun b o q n hb hx=>?_,I.base.free,fun b o q hx=>?_,I.base.tups,I.base.frzs,I.base.tbls⟩,⟨_,hn,fun j y w e1 e2 e3=>?_⟩,fun y c e=>?_,I.free,I.freeC,fun p hp=>?_,fun b u q=>?_,by rw[List.length_set];exact I.len⟩
 ·obtain⟨sl,z⟩:=I.base.slot b o q n hb hx;exact⟨sl,(old b o q).trans z⟩
 ·obtain⟨o',z⟩:=I.base.there b o q hx;exact⟨o',(old b o q).trans z⟩
 ·have hj:j≠i:=fun z=>by
   subst z;rw[List.getElem?_set_self']at e2;cases q:σ[j]? with
   |none=>rw[q]at e2;cases e2
   |some r=>rw[q]at e2;cases e2
  rw[List.getElem?_set_ne (Ne.symm hj)]at e2;obtain⟨u,r,l⟩:=hl j y w e1 e2 e3;refine⟨u,r,?_⟩;rcases l with ⟨k,e⟩|⟨k,c,e,z⟩
  ·refine .inl ⟨k,?_⟩;have:y≠n:=fun e=>hj (gL hN e1 (e▸hi))
   show (if y=n then v else m y)=some u
   rw[if_neg this];exact e
  ·exact .inr ⟨k,c,e,z.sameBut hs (I.cne y c e)⟩
 ·obtain⟨w',z⟩:=I.cell y c e;exact⟨w',z.sameBut hs (I.cne y c e)⟩
 ·obtain⟨e,n,ne,nf,d⟩:=I.pin p hp;exact⟨(hs.2 p.1 ne).trans e,n,ne,nf,d⟩
 ·refine (I.hok b u q).stay (fun c w' hc z=>(hs.2 c ?_).trans z) (fun _ z=>z) fun _ _ z=>z
  rintro rfl;rcases hc with rfl|hc
  ·rw[I.free]at q;cases q
  ·rw[I.free]at hc;cases hc
end
noncomputable abbrev Cx.marked(X:Cx)(v:Value):Cx:={X with A:=X.A.mark (some v),calm:=false,xe:=fun _ _=>False}
noncomputable abbrev Cx.tryX(X:Cx)(pn:List (Addr×Obj))(W:Value->Shared->Prop):Cx:={X with pn:=X.pn++pn,xe:=W}
section
variable {X:Cx}
theorem Inv.marked(I:Inv X pins σ H s)(v:Value):Inv (X.marked v) pins σ H s:=
 ⟨⟨I.ok.mod,I.ok.kind,I.ok.glob,I.ok.blt,I.ok.above,I.ok.inj,I.ok.has,I.ok.cab,(fun z=>nomatch z),I.ok.frames,I.ok.stk,I.ok.exf,I.ok.bs,I.ok.bsz,I.ok.noex,I.ok.exfs,I.ok.funs,I.ok.frf⟩,I.os,I.bare,I.base,I.loc,I.cell,I.free,I.freeC,I.pin,I.hok,I.len⟩
theorem Inv.unmark{v:Value}(ok:X.Ok)(I:Inv (X.marked v) pins σ H s):Inv X pins σ H s:=⟨ok,I.os,I.bare,I.base,I.loc,I.cell,I.free,I.freeC,I.pin,I.hok,I.len⟩
theorem Cx.Ok.tryX(ok:X.Ok)(pn:List (Addr×Obj))(W:Value->Shared->Prop):(X.tryX pn W).Ok:=
 ⟨ok.mod,ok.kind,ok.glob,ok.blt,ok.above,ok.inj,ok.has,ok.cab,ok.hd,ok.frames,ok.stk,ok.exf,ok.bs,ok.bsz,ok.noex,ok.exfs,ok.funs,ok.frf⟩
theorem Inv.tryX(I:Inv X pins σ H s)(W:Value->Shared->Prop):Inv (X.tryX pins W) [] σ H s:=
 ⟨I.ok.tryX _ _,I.os,I.bare,I.base,I.loc,I.cell,I.free,I.freeC,fun p hp=>I.pin p (by rw[List.append_nil]at hp;exact hp),I.hok,I.len⟩
theorem Inv.untry(ok:X.Ok)(I:Inv (X.tryX pn W) pins σ H s):Inv X pn σ H s:=
 ⟨ok,I.os,I.bare,I.base,I.loc,I.cell,I.free,I.freeC,fun p hp=>I.pin p (List.mem_append_left _ hp),I.hok,I.len⟩
end
noncomputable def XI(X:Cx)(pins:List (Addr×Obj))(σ:St)(H:Hp)(a:Addr)(cls:Value)(dx:Option Addr)(s:Shared):Prop:=
 ∃B a0,Inv X pins σ H s/\(Heap.FlyingW B X.stack a cls a0 s.heap/\DA s.heap a dx)/\H a=none/\X.s₀.heap.get? a=none/\(∀p∈X.pn++pins,p.1≠a)/\∀h4,B.StaysIn h4->s.heap.UpToSlots h4->Inv X pins σ H {s with heap:=h4}
noncomputable def PH(X:Cx)(hs:List ExceptHandler)(t:Ends->St->XK):Prop:=
 ∀(pins:List (Addr×Obj)) (s:Shared)(σ:St)(H:Hp)(D:Ends)(a:Addr)(cls:Value)(dx:Option Addr),XI X pins σ H a cls dx s->t D σ cls dx H->wpAny (model X.prog X.w) X.A (handleBy (.ref a) X.env hs) (SP X pins D) X.xe s
noncomputable def Ends.goes(D:Ends)(i:Nat):Ends:=⟨fun σ H=>D.nx (σ.set i none) H,D.rt,fun σ H=>D.bk (σ.set i none) H,fun σ H=>D.ct (σ.set i none) H⟩
noncomputable def C8(K:PySem.W.Frag)(C:Addr)(i:Nat)(ts:TS)(tr:Ends->St->XK):Ends->St->XK:=fun D σ cls d H=>
 (PySem.W.exmOne K cls (.ref C)=some true/\∀a,H a=none->ts (D.goes i) (σ.set i (some (.ref a))) (upd H a (pI a cls d)))\/(PySem.W.exmOne K cls (.ref C)=some false/\tr D σ cls d H)
noncomputable def Du(K:PySem.W.Frag)(C:Addr)(ts:TS)(tr:Ends->St->XK):Ends->St->XK:=fun D σ cls d H=>
 (PySem.W.exmOne K cls (.ref C)=some true/\ts D σ H)\/(PySem.W.exmOne K cls (.ref C)=some false/\tr D σ cls d H)
section
variable {X:Cx}{c n:Str}{C:Addr}{b0:Stmt}{suite:List Stmt}{np hpos pos:Pos}{rest:List ExceptHandler}{ts:TS}{tr:Ends->St->XK}{i:Nat}
theorem eP{M:Model}{B h:Heap}{l:List Env}{a:Addr}{cls a0:Value}(fl:Heap.FlyingW B l a cls a0 h):PySem.W.Looks M h (typeOf (.ref a)) cls:=by
 obtain⟨ob,hob,hc⟩:=fl.there;exact hc▸(PySem.W.Looks.ld hob).andThen .now
theorem AF(hg:Gl X c)(hm:X.mg c=some (.ref C))(hN:X.N.Nodup)(hi:X.N[i]?=some n)(hl:X.env.scope.names.lookup n=some .local)(hs:∀v,PSs (X.marked v) (b0::suite) ts)(hr:PH X rest tr)(hdb:(c == ("__debug__" : Str))=false:=by decide) :
  PH X (.ExceptHandler (some (.Name c np)) (some n) (b0::suite) hpos::rest) (C8 X.K C i ts tr):=by
 intro pins s σ H D a cls dx xi h;obtain⟨B,a0,I,⟨fl,dd⟩,ha,h0,hp,stab⟩:=id xi;rcases h with ⟨em,k⟩|⟨em,k⟩
 ·refine wpAny_handleBy_cons (codeAny_handlers_test (bo (I.marked (.ref a)) hg hm ?_ hdb)) (by intro q;cases q)
  refine (PySem.W.exm_one I.kIn (eP fl) em).here ?_;refine codeAny_handlers_suite_as (mD fl dd fun h6 fl6 up6 dd6=>?_)
  have I6:=stab h6 fl6.1 up6;obtain⟨oe,vs,e1,e2,e3,_⟩:=fl6.first
  have e4:oe.dict=dx:=by
   obtain⟨o',z1,z2⟩:=dd6;cases e1.symm.trans z1;exact z2
  have I7:=I6.trackExc (cls:=cls) ha e1 e2 e3 e4 h0 hp;refine ic (X:=X.marked (.ref a)) (v:=.ref a) (I7.marked (.ref a)) hN hi (.inl hl) rfl (fun s7 I8=>?_) (.inr hl)
  refine wpAny_mono (hs (.ref a) pins s7 _ _ (D.goes i) I8 (k a ha)) (fun fl s8 q=>?_) (fun _ _ z=>False.elim z)
  have hcl:(X.env.scope.kind == .class||(X.env.scope.kind == .module&&X.env.locals != X.env.globals))=false:=by rw[I.ok.kind];rfl
  have fin:∀σ' H',Inv (X.marked (.ref a)) pins σ' H' s8->∀(Q:Unit->Shared->Prop),(∀s9,Inv X pins (σ'.set i none) H' s9->Q () s9)->
    wpAny (model X.prog X.w) X.A (do bindName X.env n .none;unbindBehindTheSuite X.env n hpos) Q X.xe s8:=fun σ' H' J Q kq=>by
   have J':=J.unmark I.ok;obtain⟨m,hm',hl'⟩:=J'.loc;exact wpAny_nameGoes_keeps hl hm' hcl fun h' v hn hs'=>kq _ (Inv.goes hi hN J' hm' hl' hn hs')
  match fl,q with
  |.next,⟨σ',H',J,q⟩=>exact fin σ' H' J _ fun s9 J9=>⟨_,_,J9,q⟩
  |.brk,⟨σ',H',J,q⟩=>exact fin σ' H' J _ fun s9 J9=>⟨_,_,J9,q⟩
  |.cont,⟨σ',H',J,q⟩=>exact fin σ' H' J _ fun s9 J9=>⟨_,_,J9,q⟩
  |.ret u,⟨v,σ',H',J,r,q⟩=>exact fin σ' H' J _ fun s9 J9=>⟨v,_,_,J9,r,q⟩
 ·refine wpAny_handleBy_cons (codeAny_handlers_test (bo (I.marked (.ref a)) hg hm ?_ hdb)) (by intro q;cases q)
  refine (PySem.W.exm_one I.kIn (eP fl) em).here ?_;exact hr pins s σ H D a cls dx xi k
theorem yq(hg:Gl X c)(hm:X.mg c=some (.ref C))(hs:∀v,PSs (X.marked v) (b0::suite) ts)(hr:PH X rest tr)(hdb:(c == ("__debug__" : Str))=false:=by decide) :
  PH X (.ExceptHandler (some (.Name c np)) none (b0::suite) hpos::rest) (Du X.K C ts tr):=by
 intro pins s σ H D a cls dx xi h;obtain⟨B,a0,I,⟨fl,dd⟩,ha,h0,hp,stab⟩:=id xi;rcases h with ⟨em,k⟩|⟨em,k⟩
 ·refine wpAny_handleBy_cons (codeAny_handlers_test (bo (I.marked (.ref a)) hg hm ?_ hdb)) (by intro q;cases q)
  refine (PySem.W.exm_one I.kIn (eP fl) em).here ?_;refine codeAny_handlers_suite (mD fl dd fun h6 fl6 up6 dd6=>?_)
  have I6:=stab h6 fl6.1 up6;refine wpAny_mono (hs (.ref a) pins _ _ _ D (I6.marked (.ref a)) k) (fun fl s8 q=>?_) (fun _ _ z=>False.elim z)
  match fl,q with
  |.next,⟨σ',H',J,q⟩=>exact⟨_,_,J.unmark I.ok,q⟩
  |.brk,⟨σ',H',J,q⟩=>exact⟨_,_,J.unmark I.ok,q⟩
  |.cont,⟨σ',H',J,q⟩=>exact⟨_,_,J.unmark I.ok,q⟩
  |.ret u,⟨v,σ',H',J,r,q⟩=>exact⟨v,_,_,J.unmark I.ok,r,q⟩
 ·refine wpAny_handleBy_cons (codeAny_handlers_test (bo (I.marked (.ref a)) hg hm ?_ hdb)) (by intro q;cases q)
  refine (PySem.W.exm_one I.kIn (eP fl) em).here ?_;exact hr pins s σ H D a cls dx xi k
end
end L2
namespace L2
open PySem PySem.Spec PySem.Calls PyProof.Rows
noncomputable def b9(K:PySem.W.Frag)(C:Addr):Bool:=match K.lookup C with
 |some ⟨.type "type",_,.cls k,sl⟩=>(match k.mro with
  |.ref C2::above=>C2 == C&&!k.hasDel&&PySem.W.tailIn K bmV above&&(match sl.toList with
   |[_,_,_,_,some (.builtin mk),_]=>mk == "ValueError.__new__"
   |_=>false)
  |_=>false)
 |_=>false
theorem eQ{K:PySem.W.Frag}{h:Heap}(X:K.In h)(z:b9 K C=true) :
  ∃bm M nm qn bs b1 sn sb b2 co dd x0 x1 x2 x3 x5,h.get? C=some (excClassObj nm qn C M bs bm b1 sn sb b2 co dd x0 x1 x2 x3 x5 "ValueError.__new__")/\OwnTail h bmV bm:=by
 unfold b9 at z;split at z
 ·rename_i dd k sl ho;split at z
  ·rename_i C2 above hm;rw[Bool.and_eq_true,Bool.and_eq_true,Bool.and_eq_true,beq_iff_eq]at z;obtain⟨⟨⟨rfl,z2⟩,z3⟩,z4⟩:=z;split at z4
   ·rename_i x0 x1 x2 x3 mk x5 hs;rw[beq_iff_eq]at z4;subst z4;cases k with
    |mk nm bs mro ns qn hd sn sub ab col del=>
     cases hm;cases del with
     |true=>cases z2
     |false=>
      have es:sl=#[x0,x1,x2,x3,some (.builtin "ValueError.__new__"),x5]:=by
       cases sl with
       |mk l=>cases hs;rfl
      subst es;exact⟨above,ns,nm,qn,bs,hd,sn,sub,ab,col,dd,x0,x1,x2,x3,x5,X _ _ ho,PySem.W.tail_of_in X z3⟩
   ·cases z4
  ·cases z
 ·cases z
noncomputable abbrev exB:ExcBaseFacts "ValueError" "ValueError.__new__" "ValueError.__init__" bmV:=PySem.F.excBase_ValueError
section
variable {A:Around}{h:Heap}{os:OsState}{K:PySem.W.Frag}
theorem qD{us:List Value}(X:K.In h)(z:b9 K C=true)(hi:PySem.W.findIn K (.ref C) "__init__"=some (some (.ref fI)))(hf:PySem.W.typeIn K (.ref fI)=some (.type "function"))(hl:us.length<=sizeLine)
  (k:∀h' e,h.objs.size<=e->Heap.MadeExcOf h h' e (.ref C) us->wpAny (model prog w) (A.under (.builtin "type.__call__" ⟨.ref C::us,[]⟩)) (call (.ref fI) (.ref e::us)) (fun r s'=>r=.none/\Q (.ref e) s') E ⟨h',g,d,t,os⟩) :
  wpAny (model prog w) A (call (.ref C) us) Q E ⟨h,g,d,t,os⟩:=by
 obtain⟨bm,M,nm,qn,bs,b1,sn,sb,b2,co,dd,x0,x1,x2,x3,x5,hC,T⟩:=eQ X z;have F:=exB;have f1:=tc_lookup;have f2:=tc_bind (.ref C);have hT:(⟨h,g,d,t,os⟩:Shared).TypeIs (.ref C) "type":=⟨_,hC,rfl⟩;refine wpAny_call (codeAny_of_tree ?_);show wpAny _ _ (callAny (.ref C) _) _ _ _
 repeat (any_goals (first|assumption|with_reducible refine wpAny_loadPart_at hC ?_|wp_step))
 refine⟨rfl,codeAny_call_builtin_at (Code.quiet_builtin _ (by decide +kernel)) entry_typeCall (wpAny_check_type_call_sub hC ?_)⟩
 repeat (first|with_reducible refine wpAny_loadPart_at hC ?_|with_reducible refine wpAny_madeBy_exc hC ?_|wp_step)
 refine codeAny_call_builtin_code (Code.quiet_builtin _ F.quiet) (wpAny_check_new_subU F F.hasB T hC (codeAny_exc_new_subU F F.hasB F T hC ?_ hl));show wpAny _ _ _ _ _ ⟨(h.push {cls:=.type "tuple",data:=.seq us.toArray}).push {cls:=.ref C,data:=.fields #[.ref h.objs.size,.none,.none,.none,.bool false,.none]},g,d,t,os⟩;generalize hoT:({cls:=.type "tuple",data:=.seq us.toArray}:Obj)=oT;generalize hoE:({cls:=.ref C,data:=.fields #[.ref h.objs.size,.none,.none,.none,.bool false,.none]}:Obj)=oE;have kp:∀b o,h.get? b=some o->((h.push oT).push oE).get? b=some o:=fun b o q=>Heap.get?_push_of_some _ (Heap.get?_push_of_some _ q)
 have gC:=kp _ _ hC;have gE:((h.push oT).push oE).get? (h.objs.size+1)=some oE:=Heap.get?_push_at (by rw[Heap.size_push]) (by rw[<-hoE];rfl)
 have cE:oE.cls=.ref C:=by rw[<-hoE]
 have has:(Value.ref C::bm).contains (.ref C)=true:=by simp
 have X1:K.In ((h.push oT).push oE):=X.keeps kp;unfold isInstance
 repeat (first|(with_reducible refine wpAny_loadPart_at gE ?_;rw[cE])|(with_reducible refine wpAny_isSubtype_exc gC ?_;rw[has])|wp_step)
 show wpAny _ _ (typeLookup (.ref C) _) _ _ _;refine (PySem.W.looks_findIn X1 hi).here ?_;refine wpAny_holding (wpAny_bind ((PySem.W.bind_fn X1 _ hf).here (wpAny_bind (wpAny_mono (k _ (h.objs.size+1) (Nat.le_succ _) ⟨kp,Heap.get?_none_of_le (Nat.le_succ _),h.objs.size,?_,Heap.get?_none_of_le (Nat.le_refl _),?_⟩) (fun r s' hr=>?_) fun _ _ x=>x))))
 ·rw[gE,<-hoE]
 ·rw[<-hoT];exact Heap.get?_push_of_some _ (Heap.get?_push_at rfl rfl)
 ·obtain⟨rfl,hQ⟩:=hr
  wp_walk
  exact hQ
theorem qg{oe:Obj}{us:List Value}(X:K.In h)(z:b9 K C=true)(he:h.get? e=some oe)(hc:oe.cls=.ref C)(hd:oe.data=.fields vs)(h0:vs[0]?=some (.ref t0))(hl:us.length<=sizeLine)
  (k:Q .none ⟨(h.push {cls:=.type "tuple",data:=.seq us.toArray}).update e (Obj.mapFields (·.setIfInBounds 0 (.ref h.objs.size))),g,d,t,os⟩):wpAny (model prog w) A (call (.builtin "ValueError.__init__") (.ref e::us)) Q E ⟨h,g,d,t,os⟩:=by
 obtain⟨bm,M,nm,qn,bs,b1,sn,sb,b2,co,dd,x0,x1,x2,x3,x5,hC,T⟩:=eQ X z;refine wpAny_call (codeAny_call_builtin exB.init.plain exB.initEntry (wpAny_check_init_subU exB T hC he hc ?_));unfold Builtin.«BaseException.__init__»;dsimp only;rw[if_neg (by simp)]
 unfold newTuple Builtin.BaseException.bexcPut;have e1:=Heap.get?_push_of_some (h:=h) {cls:=.type "tuple",data:=.seq us.toArray} he;refine wpAny_bind (wpAny_newObj_type ?_ (by show us.toArray.size<=sizeLine;rw[List.size_toArray];exact hl))
 exact wpAny_bind (wpAny_bind (wpAny_field e1 hd h0 (wpAny_bind (wpAny_setField e1 hd (Array.getElem?_eq_some_iff.mp h0).1 (wpAny_letGo (wpAny_pure k))))))
theorem k8(T:OwnTail h bmV bm):refuseLoop self "__setattr__" bm=pure ():=by
 induction T with
 |base=>exact PySem.F.store_ValueError.passes self
 |own _ _ _ _ ih=>rw[refuseLoop_ref];exact ih
theorem qf{oe:Obj}{s:Shared}(X:K.In s.heap)(z:b9 K C=true)(he:s.heap.get? e=some oe)(hc:oe.cls=.ref C)(hd:oe.data=.fields vs)(hdn:oe.dict=none)
  (hfn:PySem.W.findIn K (.ref C) name=some none) (hhd:PySem.W.hasDictIn K C=true) (hm:PySem.W.mroIn K C (.type "object")=some true)
  (k:∀h' t',h'.get? e=some {oe with dict:=some s.heap.objs.size}->h'.Ns1 s.heap.objs.size (fun y=>if y=name then some v else none)->(∀b o,b≠e->s.heap.get? b=some o->h'.get? b=some o)->R (.ok (.ret .none)) {s with heap:=h',toks:=t'}) :
  codeAny (model prog w) A (.call (.builtin "object.__setattr__") ⟨[.ref e,.str name tk,v],[]⟩) R s:=by
 obtain⟨bm,M,nm,qn,bs,b1,sn,sb,b2,co,dd,x0,x1,x2,x3,x5,hC,T⟩:=eQ X z;have SF:=PySem.F.store_ValueError;have LT:PySem.W.Looks (model prog w) s.heap (typeOf (.ref e)) (.ref C):=hc▸(PySem.W.Looks.ld he).andThen .now;have sub:PySem.W.Looks (model prog w) s.heap (isInstance (.ref e) (.type "object")) true:=LT.andThen (PySem.W.looks_mroIn X hm);obtain⟨cd,hcd,hdt⟩:=PySem.W.any_some hhd;have LM:PySem.W.Looks (model prog w) s.heap (mroOf (.ref C)) cd.mro:=(PySem.W.looks_clsIn X hcd).andThen .now;have em:cd.mro=.ref C::bm:=by
  unfold PySem.W.clsIn at hcd;split at hcd
  ·rename_i c' d' cd' sl' ho;cases hcd;have:=X _ _ ho;rw[hC]at this;cases this;rfl
  ·cases hcd
 refine codeAny_call_builtin SF.slot.plain SF.entry (@PySem.W.check_slot (model prog w) _ _ s "object.__setattr__" "object" "__setattr__" (.ref e) [.str name tk,v] [] _ SF.kind SF.split sub (SF.args (.ref e) (.str name tk) v) ?_);rw[PySem.W.osa_eq,refuse_eq];refine wpAny_bind (wpAny_bind (LT.here (wpAny_bind (LM.here ?_))));rw[em,refuseLoop_ref,k8 T];refine wpAny_pure (wpAny_bind (LT.here (wpAny_bind ((PySem.W.looks_findIn X hfn).here (wpAny_bind (wpAny_pure ?_))))));dsimp only;obtain⟨oc,od,oda,osl⟩:=oe;dsimp only at hc hd hdn;subst hc hd hdn;refine wpAny_bind (wpAny_pure (wpAny_bind (wpAny_bind (wpAny_loadPart he (wpAny_bind ((PySem.W.looks_clsIn X hcd).here ?_))))));rw[hdt];refine wpAny_bind (wpAny_alloc' ?_);have ne:e≠s.heap.objs.size:=Nat.ne_of_lt (Heap.lt_size he);have e1:(s.heap.push {cls:=.type "dict",data:=.dict #[]}).get? e=some ⟨.ref C,none,.fields vs,osl⟩:=Heap.get?_push_of_some _ he;refine wpAny_bind (wpAny_update' e1 (wpAny_pure ?_));generalize hH:(s.heap.push {cls:=.type "dict",data:=.dict #[]}).update e (fun o=>{cls:=o.cls,dict:=some s.heap.objs.size,data:=o.data,slots:=o.slots})=H1
 have gd:H1.get? s.heap.objs.size=some {cls:=.type "dict",data:=.dict #[]}:=by
  rw[<-hH];exact (Heap.get?_update_ne _ _ _ _ ne.symm).trans (Heap.get?_push_at rfl rfl)
 have ge:H1.get? e=some ⟨.ref C,some s.heap.objs.size,.fields vs,osl⟩:=by
  rw[<-hH];exact Heap.get?_update_self _ e1 rfl
 have gk:∀b o,b≠e->s.heap.get? b=some o->H1.get? b=some o:=fun b o n q=>by
  rw[<-hH];exact (Heap.get?_update_ne _ _ _ _ n).trans (Heap.get?_push_of_some _ q)
 have nd:H1.Ns s.heap.objs.size (fun _=>none):=⟨_,#[],_,gd,rfl,fun x hx=>absurd hx (by simp),fun _=>rfl⟩
 show wpAny _ _ (Builtin.ObjectAttr.storeInDict s.heap.objs.size (.str name tk) name v) _ _ _;unfold Builtin.ObjectAttr.storeInDict Builtin.ObjectAttr.newKeyGuard;refine wpAny_bind (wpAny_pure (wpAny_bind (wpAny_nsSet1 (Heap.Ns1.of_empty nd) fun h' n' hs=>?_)))
 obtain⟨oD,esD,epD,hoD,hdD,hcD⟩:=n'.count (PySem.Within.cons name v PySem.Within.nil);refine wpAny_bind (wpAny_lookBehind hoD (by rw[hdD];exact pastItsLine_dict (Nat.le_trans hcD (by rw[List.length_cons,List.length_nil,sizeLine_eq];omega))) ?_)
 exact wpAny_pure (k h' _ ((hs.2 e ne).trans ge) n' fun b o n q=>(hs.2 b (Nat.ne_of_lt (Heap.lt_size q))).trans (gk b o n q))
theorem sg{oe:Obj}{s:Shared}(X:K.In s.heap)(z:b9 K C=true)(he:s.heap.get? e=some oe)(hc:oe.cls=.ref C)(hd:oe.data=.fields vs)(hdn:oe.dict=none)
  (hsa:PySem.W.findIn K (.ref C) "__setattr__"=some (some (.builtin "object.__setattr__"))) (hfn:PySem.W.findIn K (.ref C) name=some none) (hhd:PySem.W.hasDictIn K C=true) (hm:PySem.W.mroIn K C (.type "object")=some true)
  (k:∀h' t',h'.get? e=some {oe with dict:=some s.heap.objs.size}->h'.Ns1 s.heap.objs.size (fun y=>if y=name then some v else none)->(∀b o,b≠e->s.heap.get? b=some o->h'.get? b=some o)->Q () {s with heap:=h',toks:=t'}) :
  wpAny (model prog w) A (setAttr (.ref e) name v) Q E s:=by
 have LT:PySem.W.Looks (model prog w) s.heap (typeOf (.ref e)) (.ref C):=hc▸(PySem.W.Looks.ld he).andThen .now;have f3:=PySem.F.store_ValueError.slot.bind (.ref e);unfold setAttr callSpecial? specialOf;refine wpAny_bind (wpAny_mkText (wpAny_bind (wpAny_bind (wpAny_bind (LT.at ((PySem.W.looks_findIn X hsa).at (wpAny_holding (wpAny_bind ?_))))))));rw[f3];refine wpAny_pure (wpAny_bind (wpAny_call (qf (s:={s with toks:=s.toks+1}) X z he hc hd hdn hfn hhd hm fun h' t' q1 q2 q3=>?_)))
 exact wpAny_pure (wpAny_pure (k h' t' q1 q2 q3))
end
end L2
namespace L2
open PySem PySem.Spec PySem.Calls PyProof.Rows
section
variable {pos:Pos}
theorem gF{args:List Expr}(h1:(backTo pos (starEach args env)).any (·.1)=false)(h2:args.length < 30):methodCallForm (args.length+([]:List Keyword).length) (backTo pos (starEach args env)) (backToKw pos (keywordEach [] env))=true:=by
 unfold methodCallForm;have a:(backTo pos (starEach args env)).all (!·.1)=true:=by
  rw[List.all_eq_true];intro x hx;have:=List.any_eq_false.mp h1 x hx;simpa using this
 rw[a];have:(backToKw pos (keywordEach [] env)).all (·.1.isSome)=true:=rfl;rw[this];have h3:(backToKw pos (keywordEach ([]:List Keyword) env)).isEmpty=true:=rfl;simp only[h3,if_true,List.length_nil,Bool.true_and,Nat.add_zero,decide_eq_true_eq];exact h2
theorem eW{apos:Pos}{args:List Expr}(hb:attributeBase o m env (eval o env)=eval o env)
  (hf:methodCallForm (args.length+([]:List Keyword).length) (backTo pos (starEach args env)) (backToKw pos (keywordEach [] env))=true) (hl:(apos.endLine == pos.line)=true) :
  eval (.Call (.Attribute o m apos) args [] pos) env=(do
   let ov<-eval o env
   standAt apos.atName
   let (f,first)<-holding [ov] (getMethod ov m (do return (<-importBound o env).getD true))
   callWith pos f first (backTo pos (starEach args env)) (backToKw pos (keywordEach [] env))):=by
 rw[arm_eval_Call,hb];unfold methodCall calleeOf methodCallPos;simp only[hf,hl];rfl
end
noncomputable def eA(e C:Addr):HO:=.ext fun h=>∃t0,h.get? e=some {cls:=.ref C,data:=.fields #[.ref t0,.none,.none,.none,.bool false,.none]}
noncomputable def eh(e C dx:Addr):HO:=.ext fun h=>∃t0,h.get? e=some {cls:=.ref C,dict:=some dx,data:=.fields #[.ref t0,.none,.none,.none,.bool false,.none]}
theorem mw{h:Heap}(q:h.get? e=some {cls:=.ref C,data:=.fields #[.ref t0,.none,.none,.none,.bool false,.none]}):ObjOk P w H h e (eA e C):=
 ⟨⟨t0,q⟩,⟨_,q⟩,fun _ _ ⟨t1,z⟩ k=>⟨t1,k _ z⟩⟩
theorem sN{h:Heap}(q:h.get? e=some {cls:=.ref C,dict:=some dx,data:=.fields #[.ref t0,.none,.none,.none,.bool false,.none]}):ObjOk P w H h e (eh e C dx):=
 ⟨⟨t0,q⟩,⟨_,q⟩,fun _ _ ⟨t1,z⟩ k=>⟨t1,k _ z⟩⟩
structure XIni (K:PySem.W.Frag)(C fI:Addr)(f:Str):Prop where
 cl:b9 K C=true
 ini:PySem.W.findIn K (.ref C) "__init__"=some (some (.ref fI))
 fn:PySem.W.typeIn K (.ref fI)=some (.type "function")
 sa:PySem.W.findIn K (.ref C) "__setattr__"=some (some (.builtin "object.__setattr__"))
 at_:PySem.W.findIn K (.ref C) f=some none
 hd:PySem.W.hasDictIn K C=true
 ob:PySem.W.mroIn K C (.type "object")=some true
 kp:PySem.W.keepIn K (.ref C)=true
structure BIni (K:PySem.W.Frag)(D:Addr):Prop where
 ga:PySem.W.specialIn K (.ref D) "__getattribute__"=some (some (.builtin "type.__getattribute__"))
 rd:PySem.W.readsIn K D (.type "type")=true
 at_:PySem.W.findCls K (.ref D) (.type "type") "__init__"=some (.val (.builtin "ValueError.__init__"))
noncomputable def tXI(K:PySem.W.Frag)(t:TA):TE:=fun σ H Q=>t σ H fun vs H1=>∃a r C,vs=.ref a::r/\b9 K C=true/\H1 a=some (eA a C)/\r.length<=sizeLine/\Q .non H1
noncomputable def sXF(C:Addr)(f:Str)(ta tv:TE):TS:=fun D σ H=>tv σ H fun y H1=>ta σ H1 fun x H2=>∃a,x=.ref a/\H2 a=some (eA a C)/\∀dx o,H2 dx=none->dx≠a->D.nx σ (upd (upd H2 a (eh a C dx)) dx (.frz o (.xd [(f,y)])))
section
variable {X:Cx}{D:Addr}{apos pos:Pos}
theorem sd(hg:Gl X x)(hm:X.mg x=some (.ref D))(hdb:(x == ("__debug__" : Str))=false)(b:BIni X.K D)(ha:PA X (e::es) t)(hl:(apos.endLine == pos.line)=true)(hn:(e::es).length < 30)
  (he:starEach (e::es) X.env=(false,eval e X.env)::starEach es X.env) (hpl:(backTo pos (starEach es X.env)).any (·.1)=false) :
  PE X (.Call (.Attribute (.Name x px) "__init__" apos) (e::es) [] pos) (tXI X.K t):=by
 intro pins s σ H Q I h;have hst:(backTo pos (starEach (e::es) X.env)).any (·.1)=false:=by
  rw[he];show ((false,_)::backTo pos (starEach es X.env)).any (·.1)=false;rw[List.any_cons,hpl];rfl
 have hT:PE X (.Name x px) (tC (.ref D)):=rV hg hm rfl hdb;refine PySem.W.methodCall_KW (thn (hT pins s σ H (fun v H1=>v=.ref D/\H1=H) I ⟨rfl,rfl⟩) fun u s1 ⟨v,H1,I1,r1,e1,e2⟩=>?_) (eW (by rfl) (gF hst hn) hl)
 subst e1 e2;obtain rfl:u=Value.ref D:=r1;refine PySem.W.method_cls I1.kIn b.ga (PySem.W.cls_value I1.kIn b.rd b.at_ (by decide +kernel) ?_)
 have I2:=I1.tok (s1.toks+1);rw[he];refine PySem.W.callWith_of (P:=fun h=>X.K.In h) (by show ((false||(backTo pos (starEach es X.env)).any (·.1))||false)=false;rw[hpl];rfl) (fun _ _=>⟨.machine,.inr (.inl rfl),.now⟩) (PySem.Calls.evalArgs_plain ?_)
 have h2:=ha pos pins _ σ H1 _ I2 h;rw[he]at h2;refine thn h2 fun us s2 ⟨vs,H2,I3,r,a,rs,C,ev,z,ea,hz,q⟩=>⟨I3.kIn,?_⟩
 subst ev;cases r with
 |@cons v u vs us rv r=>
  obtain rfl:u=Value.ref a:=rv;have oa:=I3.hok a _ ea;obtain⟨⟨t0,go⟩,_,_⟩:=oa;obtain⟨h2,g2,d2,t2,os2⟩:=s2;refine qg (oe:=_) (t0:=t0) I3.kIn z go rfl rfl rfl (by rw[<-r.length];exact hz) ?_
  refine⟨.non,H2,?_,rfl,q⟩;have ge:((h2.push {cls:=.type "tuple",data:=.seq us.toArray}).update a (Obj.mapFields (·.setIfInBounds 0 (.ref h2.objs.size)))).get? a=some {cls:=.ref C,data:=.fields #[.ref h2.objs.size,.none,.none,.none,.bool false,.none]}:=
   Heap.get?_update_self _ (Heap.get?_push_of_some _ go) rfl
  have w:=I3.write (x:=a) (e:=a) (o:=eA a C) (h':=(h2.push {cls:=.type "tuple",data:=.seq us.toArray}).update a (Obj.mapFields (·.setIfInBounds 0 (.ref h2.objs.size)))) (t':=t2) (by rw[ea];exact True.intro) (.inl rfl)
   (fun b ob n q=>(Heap.get?_update_other _ _ (Ne.symm n)).trans (Heap.get?_push_of_some _ q)) ⟨_,ge⟩ (mw ge)
  have eq:upd H2 a (eA a C)=H2:=by
   funext b;by_cases hb:b=a
   ·rw[hb,ae,ea]
   ·rw[aa hb]
  rw[eq]at w;exact w
theorem su(q:XIni X.K C fI f)(ha:PE X o ta)(hv:PE X value tv)(hs:swapsWith value (some (.Attribute o f pos')) pos.line X.env=pure false):PS X (.Assign [.Attribute o f pos'] value pos) (sXF C f ta tv):=by
 intro pins s σ H D I h;refine plainObj_wpAny_Assign_Attribute (thn (hv pins s σ H _ I h) fun u s1 ⟨y,H1,I1,ry,h1⟩=>thn (ha pins s1 σ H1 _ I1 h1) fun ov s2 ⟨x,H2,I2,rx,a,ex,ea,h2⟩=>?_) hs
 subst ex;obtain rfl:ov=Value.ref a:=rx;obtain⟨⟨t0,go⟩,_,_⟩:=I2.hok a _ ea;refine sg (vs:=#[.ref t0,.none,.none,.none,.bool false,.none]) I2.kIn q.cl go rfl rfl rfl q.sa q.at_ q.hd q.ob fun h' t' g1 g2 g3=>?_
 obtain⟨od,es,ep,gd,gr⟩:=id g2;have hn:H2 s2.heap.objs.size=none:=I2.hok.fresh (Nat.le_refl _);have ne:s2.heap.objs.size≠a:=Nat.ne_of_gt (Heap.lt_size go);have hk1:HOk X.prog X.w (upd H2 a (eh a C s2.heap.objs.size)) h':=I2.hok.write (x:=a) (e:=a) (by rw[ea];exact True.intro) (.inl rfl) (fun b u n q=>g3 b u n q) ⟨_,g1⟩ (sN g1)
 have un:∀b u,H2 b=some u->(∀φ,u≠.ext φ)->upd (upd H2 a (eh a C s2.heap.objs.size)) s2.heap.objs.size (.frz od (.xd [(f,y)])) b=some u:=fun b u q nx=>by
  rw[aa (au q hn),aa (fun z=>by rw[z,ea]at q;cases q;exact nx _ rfl)]
  exact q
 refine⟨σ,_,I2.un (t':=t') ⟨fun b ob z n _ _=>g3 b ob (fun w=>by rw[w,ea]at n;cases n) z,fun b ob z n _ _=>⟨ob.slots,g3 b ob (fun w=>by rw[w,ea]at n;cases n) z⟩,fun b ob z n _=>?_,fun b ob z _=>?_,fun b xs z=>un b _ z (fun _ w=>nomatch w),fun b ob u z=>un b _ z (fun _ w=>nomatch w),fun b ps z=>⟨#[],by rw[Array.append_empty];exact un b _ z (fun _ w=>nomatch w)⟩⟩ (fun b u z=>?_),h2 _ od hn ne⟩
 ·rw[aa (Nat.ne_of_lt (Heap.lt_size z)),aa (fun w=>by rw[w,ea]at n;cases n)]
  exact n
 ·by_cases w:b=a
  ·subst w;exact⟨_,g1⟩
  ·exact⟨_,g3 b ob w z⟩
 ·by_cases w:b=s2.heap.objs.size
  ·subst w;rw[ae]at z;cases z;refine⟨gd,_,g2,fun n=>?_⟩
   show RelO (List.lookup n [(f,y)]) (if n=f then some u else none)
   by_cases wn:n=f
   ·rw[if_pos wn,wn,List.lookup_cons,beq_self_eq_true];exact ry
   ·rw[if_neg wn,List.lookup_cons,beq_eq_false_iff_ne.mpr wn];exact True.intro
  ·rw[aa w]at z;refine (hk1 b u z).stay (fun _ _ _ q=>q) (fun c q=>?_) fun c xs q=>?_
   ·rw[aa fun e=>?_]
    ·exact q
    ·rw[e,aa ne,hn]at q;cases q
   ·rw[aa fun e=>?_]
    ·exact q
    ·rw[e,aa ne,hn]at q;cases q
noncomputable def forget(H:Hp)(a:Addr):Hp:=fun b=>if b=a then none else H b
theorem bX:forget H a a=none:=if_pos rfl
theorem cf(h:b≠a):forget H a b=H b:=if_neg h
theorem Inv.forget(I:Inv X pins σ H s)(ea:H a=some (.ext φ)):Inv X pins σ (forget H a) s:=by
 have un:∀b u,H b=some u->(∀φ,u≠.ext φ)->L2.forget H a b=some u:=fun b u q nx=>by
  rw[cf (fun z=>by rw[z,ea]at q;cases q;exact nx _ rfl)]
  exact q
 have nn:∀b,H b=none->L2.forget H a b=none:=fun b n=>by
  by_cases w:b=a
  ·rw[w];exact bX
  ·rw[cf w];exact n
 refine⟨I.ok,I.os,I.bare,⟨I.base.keep,I.base.slot,fun b ob q n x=>nn b (I.base.free b ob q n x),I.base.there,fun b xs q=>un b _ (I.base.tups b xs q) (fun _ w=>nomatch w),fun b ob u q=>un b _ (I.base.frzs b ob u q) (fun _ w=>nomatch w),fun b ps q=>?_⟩,I.loc,I.cell,nn _ I.free,fun x c e=>nn _ (I.freeC x c e),fun p hp=>?_,fun b u q=>?_,I.len⟩
 ·obtain⟨m,z⟩:=I.base.tbls b ps q;exact⟨m,un b _ z (fun _ w=>nomatch w)⟩
 ·obtain⟨e,n,r⟩:=I.pin p hp;exact⟨e,nn _ n,r⟩
 ·have w:b≠a:=fun w=>by rw[w,bX]at q;cases q
  rw[cf w]at q;exact (I.hok b u q).stay (fun _ _ _ z=>z) (fun c z=>un c _ z (fun _ w=>nomatch w)) fun c xs z=>un c _ z (fun _ w=>nomatch w)
theorem n6{K:PySem.W.Frag}{A:Around}(hh:A.handled=none)(z:b9 K C=true)
  (h:wpAny (model prog w) A (eval ce env) (fun v s1=>∃a t0 dx,v=.ref a/\K.In s1.heap/\s1.heap.get? a=some {cls:=.ref C,dict:=some dx,data:=.fields #[.ref t0,.none,.none,.none,.bool false,.none]}/\E (.ref a) s1) E s) :
  wpAny (model prog w) A (exec (.Raise (some ce) none pos) env) Q E s:=by
 rw[arm_exec_Raise];refine wpAny_bind (wpAny_standAt ?_);simp only[evalOpt,Option.map];unfold raiseStmt;refine wpAny_bind (wpAny_bind (wpAny_mono h (fun v s1 ⟨a,t0,dx,ev,X,go,he⟩=>wpAny_bind (wpAny_standAt (wpAny_pure ?_))) fun _ _ x=>x))
 subst ev;obtain⟨bm,M,nm,qn,bs,b1,sn,sb,b2,co,dd,x0,x1,x2,x3,x5,hC,T⟩:=eQ X z;have has:(Value.ref C::bm).contains (.type "BaseException")=true:=by rw[List.contains_cons,T.hasType exB.hasBase,Bool.or_true]
 obtain⟨hp,g,d,tk,os⟩:=s1
 repeat (first|with_reducible refine wpAny_loadPart_at go ?_|with_reducible refine wpAny_loadPart_at hC ?_|(with_reducible refine wpAny_isSubtype_exc hC ?_;rw[has])|wp_step)
 exact wpAny_raiseNew_none hh he
noncomputable def fM(cp:Bool)(K:PySem.W.Frag)(C:Addr)(f:Str):Sp:=fun vs H Q _=>∃a v,vs=[.ref a,v]/\H a=some (eA a C)/\(cp=false->∀dx ob,H dx=none->dx≠a->Q .non (upd (upd H a (eh a C dx)) dx (.frz ob (.xd [(f,v)]))))/\
 (cp=true->∃p ws,v=.ref p/\SqL K H p ws/\∀q dx ob,H q=none->H dx=none->dx≠a->dx≠q->Q .non (upd (upd (upd H q (.lst ws)) a (eh a C dx)) dx (.frz ob (.xd [(f,.ref q)]))))
end
theorem sV{P:Program}{w:World}{K:PySem.W.Frag}{mg:Str->Option Value}{base:Heap}{fI C D:Addr}{name qual:Str}{params:Arguments}{scope:Scope}{kV doc pm cdv ct oc:Value}{an od:Option Addr}{osl:Array (Option Value)}{b sl pr f tx:Str}{j:Nat}{px apos p1 p2 cp p3 p4 p5 p6 p7 p8 p9:Pos}
  (lk:K.lookup fI=some ⟨oc,od,.func (PySem.W.fnOf name qual params [.Expr (.Call (.Attribute (.Name b px) "__init__" apos) [.Name sl p1,.Constant (.str tx) j p2] [] cp) p3,.Assign [.Attribute (.Name sl p4) f p5] (.Call (.Name "list" p8) [.Name pr p6] [] p9) p7] scope .none kV doc pm an cdv ct),osl⟩)
  (hcd:PySem.W.codeIn K cdv qual=true) (S:FnScope [sl,pr] [sl,pr] scope) (hg:scope.names.lookup b=some .globalImplicit) (hgl:scope.names.lookup ("list" : Str)=some .globalImplicit) (hml:mg "list"=none) (hm:mg b=some (.ref D)) (hl:(apos.endLine == cp.line)=true) (hb:BIni K D) (q:XIni K C fI f)
  (db1:(b == ("__debug__" : Str))=false) (db2:(sl == ("__debug__" : Str))=false) (db3:(pr == ("__debug__" : Str))=false) (cd2:(sl == ("__classdict__" : Str))=false) (cd3:(pr == ("__classdict__" : Str))=false) :
  FnOk P w K mg base (CX1 P w) 1 fI (PySem.W.fnOf name qual params [.Expr (.Call (.Attribute (.Name b px) "__init__" apos) [.Name sl p1,.Constant (.str tx) j p2] [] cp) p3,.Assign [.Attribute (.Name sl p4) f p5] (.Call (.Name "list" p8) [.Name pr p6] [] p9) p7] scope .none kV doc pm an cdv ct) [sl,pr] (fM true K C f):=by
 refine qB (k:=0) lk hcd S (fun vs H Q E ⟨_,_,e,_⟩=>by subst e;rfl) fun A outer s H vs Q E hr hsp=>?_
 obtain⟨a,v,ev,ea,_,h⟩:=hsp;obtain⟨p0,ws,ep,sq,h⟩:=h rfl;subst ev;have vs:∀x∈[sl,pr],Vis scope x:=fun x hx=>(S.par x hx).elim .inl fun z=>.inr (.inl z)
 have h0:PE (bC (CX1 P w) P w K mg base [sl,pr] qual scope fI cdv A outer s H E) (.Name sl p1) (ra 0):=jr rfl (vs _ (by simp)) db2 cd2
 have h4:PE (bC (CX1 P w) P w K mg base [sl,pr] qual scope fI cdv A outer s H E) (.Name sl p4) (ra 0):=jr rfl (vs _ (by simp)) db2 cd2
 have h1:PE (bC (CX1 P w) P w K mg base [sl,pr] qual scope fI cdv A outer s H E) (.Name pr p6) (ra 1):=jr rfl (vs _ (by simp)) db3 cd3
 refine⟨_,kf (jJ (sd (D:=D) hg hm db1 hb (aT h0 (aT pi pa_nil)) hl (by simp) rfl rfl)) (sh (su q h4 (jl (T:="list") d7 hgl hml (by decide +kernel) (aT h1 pa_nil)) rfl)),?_⟩
 refine⟨.ref a,rfl,?_⟩;refine⟨a,[.str tx],C,rfl,q.cl,ea,by rw[sizeLine_eq];simp,?_⟩
 refine⟨v,rfl,p0,ws,by rw[ep],.inl sq,fun q hq=>⟨.ref a,rfl,a,rfl,?_,fun dx ob n ne=>?_⟩⟩
 ·rw[aa (au ea hq)];exact ea
 ·have nq:dx≠q:=fun z=>by rw[z,ae]at n;cases n
  rw[aa nq]at n;exact h q dx ob hq n ne nq
end L2
namespace L2
open PySem PySem.Spec PyProof.Rows
noncomputable def aD(names:List (Str×NameKind))(cs:List (Str×Addr))(acc:List (Str×Addr)):List (Str×Addr):=match names with
 |[]=>acc
 |(n,k)::r=>if k=.free then (match cs.lookup n with|some c=>aD r cs ((n,c)::acc)|none=>aD r cs acc) else aD r cs acc
theorem bg{cs:List (Str×Addr)}:∀{names:List (Str×NameKind)}{acc:List (Str×Addr)},(∀p∈acc,cs.lookup p.1=some p.2)->∀p∈aD names cs acc,cs.lookup p.1=some p.2
 |[],_,h,p,hp=>h p hp
 |(n,k)::r,acc,h,p,hp=>by
  unfold aD at hp;split at hp
  ·split at hp
   next c e=>
    refine bg (fun q hq=>?_) p hp
    rcases List.mem_cons.mp hq with z|z
    ·subst z;exact e
    ·exact h q z
   next=>exact bg h p hp
  ·exact bg h p hp
theorem cM:∀{names:List (Str×NameKind)}{acc:List (Str×Addr)}{p:Str×Addr},p∈acc->p∈aD names cs acc
 |[],_,_,h=>h
 |(n,k)::r,acc,p,h=>by
  unfold aD;split
  ·split
   ·exact cM (List.mem_cons_of_mem _ h)
   ·exact cM h
  ·exact cM h
theorem cy{cs:List (Str×Addr)}(e:cs.lookup x=some c):∀{names:List (Str×NameKind)}{acc:List (Str×Addr)},(x,NameKind.free)∈names->(x,c)∈aD names cs acc
 |(n,k)::r,acc,h=>by
  rcases List.mem_cons.mp h with z|z
  ·cases z;unfold aD;rw[if_pos rfl,e];exact cM List.mem_cons_self
  ·unfold aD;split
   ·split
    ·exact cy e z
    ·exact cy e z
   ·exact cy e z
theorem cU{l:List (Str×Addr)}(h:(x,c)∈l)(u:∀p∈l,p.1=x->p.2=c):l.lookup x=some c:=by
 induction l with
 |nil=>cases h
 |cons p r ih=>
  obtain⟨n,d⟩:=p;by_cases e:x=n
  ·subst e;rw[List.lookup_cons,beq_self_eq_true];exact congrArg some (u (x,d) List.mem_cons_self rfl)
  ·rw[List.lookup_cons];rw[beq_eq_false_iff_ne.mpr e];rcases List.mem_cons.mp h with z|z
   ·cases z;exact absurd rfl e
   ·exact ih z fun q hq=>u q (List.mem_cons_of_mem _ hq)
theorem aX{l:List (Str×Addr)}(h:l.lookup x=some c):(x,c)∈l:=PySem.mem_of_lookup h
theorem j8{cs:List (Str×Addr)}(hm:(x,NameKind.free)∈names)(e:cs.lookup x=some c):(aD names cs []).lookup x=some c:=by
 refine cU (cy e hm) fun p hp hx=>?_
 have z:=bg (acc:=[]) (fun p hp=>nomatch hp) p hp
 rw[hx,e]at z;exact (Option.some.inj z).symm
theorem oh{env:Env}(e:env.cells.lookup n=some c):cellOf env n=pure c:=by
 unfold cellOf;rw[e]
theorem iA{scope:Scope}{env:Env}(h:∀y∈scope.names,y.2=.free->∃c,env.cells.lookup y.1=some c):closureFor scope env=pure (aD scope.names env.cells []):=by
 have go:∀(names:List (Str×NameKind)) (acc:List (Str×Addr)),(∀y∈names,y.2=.free->∃c,env.cells.lookup y.1=some c)->
   (forIn names acc fun x r=>match x with
    |(n,k)=>if (k == NameKind.free)=true then do let c<-cellOf env n;pure (ForInStep.yield ((n,c)::r)) else pure (ForInStep.yield r):Sem (List (Str×Addr)))=pure (aD names env.cells acc):=by
  intro names
  induction names with
  |nil=>intro acc _;rfl
  |cons y r ih=>
   intro acc hy;obtain⟨n,k⟩:=y;rw[List.forIn_cons];by_cases hk:k=NameKind.free
   ·subst hk;obtain⟨c,e⟩:=hy (n,.free) List.mem_cons_self rfl;simp only[beq_self_eq_true,if_true];rw[oh e];show (forIn r ((n,c)::acc) _:Sem _)=_;rw[ih _ fun z hz=>hy z (List.mem_cons_of_mem _ hz)]
    conv=>rhs;unfold aD
    simp only[if_true,e]
   ·have hb:(k == NameKind.free)=false:=by simpa using hk
    simp only[hb,Bool.false_eq_true,if_false];show (forIn r acc _:Sem _)=_;rw[ih _ fun z hz=>hy z (List.mem_cons_of_mem _ hz)]
    conv=>rhs;unfold aD
    simp only[hk,if_false]
 have e:=go scope.names [] h;show ((forIn scope.names [] fun x r=>match x with
    |(n,k)=>if (k == NameKind.free)=true then do let c<-cellOf env n;pure (ForInStep.yield ((n,c)::r)) else pure (ForInStep.yield r):Sem (List (Str×Addr))) >>=fun z=>pure z)=_
 rw[e];rfl
theorem aB:∀(names:List (Str×NameKind)) (n:Nat) (acc:List (Str×Addr)),cellsFrom n names acc=cellsFrom n names []++acc
 |[],_,_=>rfl
 |(x,k)::r,n,acc=>by
  unfold cellsFrom;split
  ·rw[aB r (n+1) ((x,n)::acc),aB r (n+1) [(x,n)],List.append_assoc];rfl
  ·exact aB r n acc
theorem ax:∀{names:List (Str×NameKind)}{n:Nat}{p:Str×Addr},p∈cellsFrom n names []->(p.1,NameKind.cell)∈names/\n<=p.2
 |[],_,_,h=>nomatch h
 |(x,k)::r,n,p,h=>by
  unfold cellsFrom at h;split at h
  ·rename_i hk;rw[aB]at h;rcases List.mem_append.mp h with z|z
   ·obtain⟨a,b⟩:=ax z;exact⟨List.mem_cons_of_mem _ a,by omega⟩
   ·obtain rfl:=List.mem_singleton.mp z;exact⟨by rw[show k=NameKind.cell from by simpa using hk];exact List.mem_cons_self,Nat.le_refl _⟩
  ·obtain⟨a,b⟩:=ax h;exact⟨List.mem_cons_of_mem _ a,b⟩
theorem bD:∀{names:List (Str×NameKind)}{n:Nat}{x:Str},(x,NameKind.cell)∈names->∃c,(x,c)∈cellsFrom n names []
 |(y,k)::r,n,x,h=>by
  rcases List.mem_cons.mp h with z|z
  ·cases z;unfold cellsFrom;rw[if_pos (by rfl),aB]
   exact⟨n,List.mem_append_right _ List.mem_cons_self⟩
  ·unfold cellsFrom;split
   ·obtain⟨c,e⟩:=bD z (n:=n+1);rw[aB];exact⟨c,List.mem_append_left _ e⟩
   ·exact bD z
theorem cL:∀{l:List (Str×Addr)}{x:Str}{c:Addr},(x,c)∈l->∃c',l.lookup x=some c'
 |(y,d)::r,x,c,h=>by
  rw[List.lookup_cons];cases e:x == y with
  |true=>exact⟨d,rfl⟩
  |false=>
   rcases List.mem_cons.mp h with z|z
   ·cases z;simp at e
   ·exact cL z
theorem eX
  (hQ:Q {scope:=scope,locals:=s.heap.objs.size,globals:=globals,cells:=cellsFrom (s.heap.objs.size+1) scope.names []++cl,qual:=qual,func:=none,code:=outer.code,frame:=outer.frame,builtins:=outer.builtins} {s with heap:=pushCells (s.heap.push {cls:=.type "dict",data:=.dict #[]}) scope.names}) :
  wpAny M A (newFunctionEnv scope globals cl [] qual none .none (some outer)) Q E s:=by
 simp only[newFunctionEnv,Option.isSome_some,if_true];refine wpAny_bind (wpAny_alloc ?_);refine wpAny_bind (wpAny_layCells _ (fun name kind cells=>by cases hkc:kind == NameKind.cell<;>simp[hkc]) _ _ _ _ ?_)
 rw[show ({s with heap:=s.heap.push {cls:=.type "dict",data:=.dict #[]}}:Shared).heap.objs.size=s.heap.objs.size+1 from Heap.size_push ..,aB]
 refine wpAny_bind ?_;rw[List.forIn_nil];exact wpAny_pure (wpAny_pure hQ)
noncomputable def cV(N:List Str)(js:List (Option Nat))(sc osc:Scope)(oN:List Str):Bool:=
 N.length == js.length&&decide N.Nodup&&
 (N.zip js).all (fun p=>match p.2 with
  |none=>sc.names.lookup p.1 == some .local||sc.names.lookup p.1 == some .cell
  |some j=>oN[j]? == some p.1&&sc.names.contains (p.1,NameKind.free)&&osc.names.lookup p.1 == some .cell)&&
 decide (sc.names.map (·.1)).Nodup&&sc.names.all (fun y=>(y.2 != .free||osc.names.lookup y.1 == some .cell)&&(y.2 != .local||sc.names.lookup y.1 == some .local))&&(sc.kind == .function)&&(osc.kind == .function)
noncomputable def ip(js:List (Option Nat))(σ:St):St:=js.map fun o=>o.bind fun j=>(σ[j]?).bind id
noncomputable abbrev compCx(X:Cx)(scope:Scope)(C:Addr)(N:List Str)(s2:Shared)(H2:Hp)(fp:List Addr)(pins:List (Addr×Obj)):Cx:=
 {X with env:=compEnvC scope (cellsFrom (C+1) scope.names []++aD scope.names X.env.cells []) C X.env,N:=N,s₀:=s2,H₀:=H2,outer:=X.stack,stack:=X.stack,ex:=fp,fn:=fun x=>scope.names.lookup x == some .cell,pn:=X.pn++pins,xe:=fun _ _=>False}
theorem eI{env:Env}(hk:env.scope.kind=.function)(hc:env.kindOf x=some .cell):∀{names:List (Str×NameKind)},(x,NameKind.free)∈names->(∀y∈names,y.1=x->y.2=.free)->
  (names.map fun (n,k)=>if (k == .free&&env.scope.kind == .function&&env.kindOf n == some .cell) then (n,.cell) else (n,k)).lookup x=some NameKind.cell
 |(n,k)::r,hm,hu=>by
  show List.lookup x ((if (k == NameKind.free&&env.scope.kind == .function&&env.kindOf n == some .cell)=true then (n,NameKind.cell) else (n,k))::_)=_
  by_cases e:x=n
  ·subst e;have ek:k=.free:=hu (x,k) List.mem_cons_self rfl;subst ek;simp only[hk,hc,beq_self_eq_true,Bool.and_self,if_true];rw[List.lookup_cons,beq_self_eq_true]
  ·have hm':(x,NameKind.free)∈r:=by
    rcases List.mem_cons.mp hm with z|z
    ·cases z;exact absurd rfl e
    ·exact z
   have ih:=eI hk hc hm' fun y hy=>hu y (List.mem_cons_of_mem _ hy)
   split
   ·rw[List.lookup_cons,beq_eq_false_iff_ne.mpr e];exact ih
   ·rw[List.lookup_cons,beq_eq_false_iff_ne.mpr e];exact ih
end L2
namespace L2
open PySem PySem.Spec PyProof.Rows
structure CompOk (N:List Str) (js:List (Option Nat)) (sc osc:Scope)(oN:List Str):Prop where
 len:N.length=js.length
 nd:N.Nodup
 own:∀(i:Nat)(x:Str),N[i]?=some x->js[i]?=some none->sc.names.lookup x=some .local\/sc.names.lookup x=some .cell
 fr:∀(i:Nat)(x:Str)(j:Nat),N[i]?=some x->js[i]?=some (some j)->oN[j]?=some x/\(x,NameKind.free)∈sc.names/\osc.names.lookup x=some .cell
 ndn:(sc.names.map (·.1)).Nodup
 nf:∀y∈sc.names,y.2=.free->osc.names.lookup y.1=some .cell
 nl:∀y∈sc.names,y.2=.local->sc.names.lookup y.1=some .local
 k1:sc.kind=.function
 k2:osc.kind=.function
theorem iO(h:cV N js sc osc oN=true):CompOk N js sc osc oN:=by
 unfold cV at h;simp only[Bool.and_eq_true,beq_iff_eq,decide_eq_true_eq,List.all_eq_true,Bool.or_eq_true,bne_iff_ne]at h;obtain⟨⟨⟨⟨⟨⟨h1,h2⟩,h3⟩,h4⟩,h5⟩,h6⟩,h7⟩:=h;have zip:∀(i:Nat)(x:Str)(o:Option Nat),N[i]?=some x->js[i]?=some o->(x,o)∈N.zip js:=fun i x o e1 e2=>
  List.mem_of_getElem? (i:=i) (by rw[List.getElem?_zip_eq_some];exact⟨e1,e2⟩)
 refine⟨h1,h2,fun i x e1 e2=>?_,fun i x j e1 e2=>?_,h4,fun y hy e=>?_,fun y hy e=>?_,h6,h7⟩
 ·have z:=h3 _ (zip i x _ e1 e2);simpa using z
 ·have z:=h3 _ (zip i x _ e1 e2);simp only[Bool.and_eq_true,beq_iff_eq]at z;exact⟨z.1.1,List.contains_iff_mem.mp z.1.2,z.2⟩
 ·rcases (h5 y hy).1 with z|z
  ·exact absurd e z
  ·exact z
 ·rcases (h5 y hy).2 with z|z
  ·exact absurd e z
  ·exact z
theorem da{env:Env}:∀{names:List (Str×NameKind)},
  (names.map fun (n,k)=>if (k == .free&&env.scope.kind == .function&&env.kindOf n == some .cell) then (n,.cell) else (n,k)).lookup x=some k->∃k',(x,k')∈names/\(k'=k\/k'=.free)
 |[],h=>by cases h
 |(n,k0)::r,h=>by
  have h:List.lookup x ((if (k0 == NameKind.free&&env.scope.kind == .function&&env.kindOf n == some .cell)=true then (n,NameKind.cell) else (n,k0))::_)=_:=h
  by_cases e:x=n
  ·subst e;split at h
   next hc=>
    refine⟨k0,List.mem_cons_self,.inr ?_⟩;have:=(Bool.and_eq_true_iff.mp (Bool.and_eq_true_iff.mp hc).1).1;simpa using this
   next=>
    rw[List.lookup_cons,beq_self_eq_true]at h;exact⟨k0,List.mem_cons_self,.inl (Option.some.inj h)⟩
  ·have h':List.lookup x (r.map fun (n,k)=>if (k == .free&&env.scope.kind == .function&&env.kindOf n == some .cell) then (n,.cell) else (n,k))=some k:=by
    split at h
    ·rw[List.lookup_cons,beq_eq_false_iff_ne.mpr e]at h;exact h
    ·rw[List.lookup_cons,beq_eq_false_iff_ne.mpr e]at h;exact h
   obtain⟨k',m,z⟩:=da h';exact⟨k',List.mem_cons_of_mem _ m,z⟩
theorem nU(I:Nat->Shared->Prop)
  (iE:∀n s,I n s->wpAny (model prog w) A (pyNext it) (fun r s1=>match r with
   |none=>R (.ok .next) s1
   |some v=>wpAny (model prog w) A (letOwnedTupleGo target it v) (fun _ s2=>wpAny (model prog w) A (assign target env v) (fun _ s3=>
     wpAny (model prog w) A (forIn ifs true fun c r=>if r=true then do let ok<-isTrue c env (eval c env);pure (ForInStep.yield ok) else pure (ForInStep.yield r)) (fun ok s4=>
      if ok=true then wpAny (model prog w) A (eval elt env) (fun x s5=>wpAny (model prog w) A (call (.builtin "list.append") [acc,x]) (fun _ s6=>∃m,m < n/\I m s6) (fun _ _=>False) s5) (fun _ _=>False) s4
      else ∃m,m < n/\I m s4) (fun _ _=>False) s3) (fun _ _=>False) s2) (fun _ _=>False) s1) (fun _ _=>False) s)
  (n:Nat)(h:I n s):codeAny (model prog w) A (.compLoop (.ListComp elt [⟨target,iter,ifs,0⟩] scope pos) 0 it acc env) R s:=by
 have no:∀{α:Type}{t:Sem α}{Q:α->Shared->Prop}{E:Value->Shared->Prop}{z:Shared},wpAny (model prog w) A t Q (fun _ _=>False) z->wpAny (model prog w) A t Q E z:=fun h=>wpAny_noRaise h
 refine codeAny_loop rfl I (fun n s hI=>?_) n h
 show wpAny _ A ((compTurn (.ListComp elt [⟨target,iter,ifs,0⟩] scope pos) 0 it acc env).onRaise (fun x=>do noteFrame x env;theTreesLotGoes x)) _ _ s
 refine wpAny_noted ?_;rw[compTurn_list];refine wpAny_bind (wpAny_standAt (wpAny_bind (no (wpAny_mono (iE n s hI) (fun r s1 h1=>?_) fun _ _ z=>z))))
 cases r with
 |none=>exact wpAny_pure h1
 |some v=>
  refine wpAny_bind (no (wpAny_mono h1 (fun _ s2 h2=>?_) fun _ _ z=>z))
  refine wpAny_bind (no (wpAny_mono h2 (fun _ s3 h3=>?_) fun _ _ z=>z))
  refine wpAny_bind (no (wpAny_mono h3 (fun ok s4 h4=>?_) fun _ _ z=>z))
  cases ok with
  |false=>exact wpAny_pure ⟨rfl,h4⟩
  |true=>
   refine wpAny_bind (wpAny_bind (no (wpAny_mono h4 (fun x s5 h5=>?_) fun _ _ z=>z)))
   exact wpAny_bind (no (wpAny_mono h5 (fun _ s6 h6=>wpAny_pure (wpAny_pure ⟨rfl,h6⟩)) fun _ _ z=>z))
noncomputable def PIf(X:Cx)(ifs:List Expr)(tt:TT):Prop:=∀(pins:List (Addr×Obj)) (s:Shared)(σ:St)(H:Hp)(Q:Bool->Hp->Prop),Inv X pins σ H s->tt σ H Q->
 wpAny (model X.prog X.w) X.A (forIn ifs true fun c r=>if r=true then do let ok<-isTrue c X.env (eval c X.env);pure (ForInStep.yield ok) else pure (ForInStep.yield r)) (TP X pins σ Q) X.xe s
noncomputable def tYes:TT:=fun _ H Q=>Q true H
theorem rQ:PIf X [] tYes:=fun pins s σ H Q I h=>wpAny_tests_nil ⟨H,I,h⟩
theorem rN(h:PT X c t):PIf X [c] t:=fun pins s σ H Q I q=>wpAny_tests_one (h pins s σ H Q I q)
noncomputable def mS(js:List (Option Nat))(wi:TI)(g:TG)(tt:TT)(te:TE):TE:=fun σ H Q=>wi σ H fun J H1=>∀p,H1 p=none->∃W:Nat->Nat->St->Hp->Prop,(∃m,W 0 m (ip js σ) (upd H1 p (.lst [])))/\
 ∀(i:Nat) m σc H,W i m σc H->(J.stop i H/\Q (.ref p) H)\/(J.go i H/\∀x H',J.yld i H x H'->g x σc H' fun σ2 H2=>tt σ2 H2 fun b H3=>
  if b=true then te σ2 H3 fun y H4=>∃ys,H4 p=some (.lst ys)/\ys.length < sizeLine/\∃m',m' < m/\W (i+1) m' σ2 (upd H4 p (.lst (ys++[y]))) else ∃m',m' < m/\W (i+1) m' σ2 H3)
section
variable {X:Cx}
theorem ko(hok:cV N js scope X.env.scope X.N=true)(hcalm:X.calm=true)(hi:PI X tg iter wi)
  (hg:∀C s2 H2 fp pn,PG (compCx X scope C N s2 H2 fp pn) tg g) (ht:∀C s2 H2 fp pn,PIf (compCx X scope C N s2 H2 fp pn) ifs tt) (he:∀C s2 H2 fp pn,PE (compCx X scope C N s2 H2 fp pn) elt te)
  (hs:∀x,foldedSetIterable iter X.env x=pure x) (I:Inv X pins σ H s)(h:mS js wi g tt te σ H Q)
  (fin:∀(D C:Addr)(s5:Shared)(H4:Hp)(m5:Str->Option Value),s5.heap.Ns C m5->jP X pins H4 C->(∀h',Heap.SameBut C s5.heap h'->Inv X pins σ H4 {s5 with heap:=h'})->Q (.ref D) H4->compPost (model X.prog X.w) X.A X.xe use Qf (.ref D) C (.ok .next) s5) :
  wpAny (model X.prog X.w) X.A (comprehension (.ListComp elt [⟨tg,iter,ifs,0⟩] scope pos) scope X.env pos' (newList []) false (eval iter X.env) use) Qf X.xe s:=by
 have O:=iO hok;have hcells:∀y∈scope.names,y.2=.free->∃c,X.env.cells.lookup y.1=some c:=fun y hy e=>I.ok.has y.1 (.inl (O.nf y hy e))
 refine wpAny_comprehension_free (use:=use) rfl hs (iA hcells) O.k1 O.nl (thn (hi pins s σ H _ I h) fun xv s1 h1=>thn h1 fun itv s2 h2=>?_)
 obtain⟨it,fp,tn,J,H2,rfl,I2,T,st2,f2,hQ⟩:=h2;refine wpAny_newObj_type (eX ?_);dsimp only;have sz1:(s2.heap.push {cls:=.type "list",dict:=none,data:=.seq ([]:List Value).toArray}).objs.size=s2.heap.objs.size+1:=Heap.size_push ..;have sz2:((s2.heap.push {cls:=.type "list",dict:=none,data:=.seq ([]:List Value).toArray}).push {cls:=.type "dict",data:=.dict #[]}).objs.size=s2.heap.objs.size+1+1:=by rw[Heap.size_push,sz1]
 have hns:(pushCells ((s2.heap.push {cls:=.type "list",dict:=none,data:=.seq ([]:List Value).toArray}).push {cls:=.type "dict",data:=.dict #[]}) scope.names).Ns (s2.heap.objs.size+1) (fun _=>none):=by
  rw[<-sz1];exact (Heap.Ns.new _ (.type "dict")).keeps (pushCells_keeps _ _)
 have keep:∀b o,s2.heap.get? b=some o->(pushCells ((s2.heap.push {cls:=.type "list",dict:=none,data:=.seq ([]:List Value).toArray}).push {cls:=.type "dict",data:=.dict #[]}) scope.names).get? b=some o:=fun b o e=>
  pushCells_keeps _ _ b o (Heap.get?_push_of_some _ (Heap.get?_push_of_some _ e))
 have atD:(pushCells ((s2.heap.push {cls:=.type "list",dict:=none,data:=.seq ([]:List Value).toArray}).push {cls:=.type "dict",data:=.dict #[]}) scope.names).get? s2.heap.objs.size=some {cls:=.type "list",data:=.seq ([]:List Value).toArray}:=
  pushCells_keeps _ _ _ _ (Heap.get?_push_of_some _ (Heap.get?_push_size _ rfl))
 have cok:=cellsFrom_ok scope.names ((s2.heap.push {cls:=.type "list",dict:=none,data:=.seq ([]:List Value).toArray}).push {cls:=.type "dict",data:=.dict #[]}) (s2.heap.objs.size+1+1) [] ⟨fun _ _ hm=>(nomatch hm),List.Pairwise.nil⟩ (by rw[sz2];exact Nat.le_refl _)
 rw[sz2]at cok;rw[sz1];generalize pushCells ((s2.heap.push {cls:=.type "list",dict:=none,data:=.seq ([]:List Value).toArray}).push {cls:=.type "dict",data:=.dict #[]}) scope.names=h1' at hns keep atD cok ⊢;have frD:H2 s2.heap.objs.size=none:=I2.hok.fresh (Nat.le_refl _);have frC:H2 (s2.heap.objs.size+1)=none:=I2.hok.fresh (Nat.le_succ _);have hCD:s2.heap.objs.size+1≠s2.heap.objs.size:=Nat.succ_ne_self _;obtain⟨W,⟨m0,w0⟩,iE⟩:=hQ s2.heap.objs.size frD;have fpThere:∀b∈fp,b < s2.heap.objs.size:=fun b hb=>by
  obtain⟨o,e,_⟩:=T.obj 0 _ st2 b hb;exact Heap.lt_size e
 have lk:∀x c,(cellsFrom (s2.heap.objs.size+1+1) scope.names []++aD scope.names X.env.cells []).lookup x=some c->(x,c)∈cellsFrom (s2.heap.objs.size+1+1) scope.names []\/X.env.cells.lookup x=some c:=fun x c e=>by
  rcases List.mem_append.mp (aX e) with z|z
  ·exact .inl z
  ·exact .inr (bg (acc:=[]) (fun p hp=>nomatch hp) _ z)
 have old:∀x c,X.env.cells.lookup x=some c->c < s2.heap.objs.size:=fun x c e=>by
  obtain⟨v,o,ho,hd⟩:=I2.cell x c e;exact Heap.lt_size ho
 have cne:∀b∈fp,∀x c,(cellsFrom (s2.heap.objs.size+1+1) scope.names []++aD scope.names X.env.cells []).lookup x=some c->c≠b:=fun b hb x c e=>by
  rcases lk x c e with z|z
  ·have a1:=(ax z).2;exact Nat.ne_of_gt (Nat.lt_of_lt_of_le (fpThere b hb) (Nat.le_trans (Nat.le_add_right _ 2) a1))
  ·exact (f2 b hb).2.2.2.2.1 x c z
 let Xc:Cx:=compCx X scope (s2.heap.objs.size+1) N s2 H2 fp pins
 have cOk:Xc.Ok:=by
  refine⟨I2.ok.mod,O.k1,I2.ok.glob,I2.ok.blt,Nat.le_succ _,fun x y c e1 e2=>?_,fun x hx=>?_,fun x c e1 e2=>?_,I2.ok.hd,I2.ok.frames,.inl rfl,fun b hb=>?_,I2.bs,Nat.le_trans I2.ok.bsz I2.sz,fun b o e hb=>?_,fun b hb hm=>?_,I2.stack,I2.stkFree⟩
  ·rcases lk x c e1 with z1|z1<;>rcases lk y c e2 with z2|z2
   ·exact name_of_addr cok.apart z1 z2
   ·have a1:=(ax z1).2;exact absurd (Nat.lt_of_lt_of_le (old _ _ z2) (Nat.le_trans (Nat.le_add_right _ 2) a1)) (Nat.lt_irrefl _)
   ·have a1:=(ax z2).2;exact absurd (Nat.lt_of_lt_of_le (old _ _ z1) (Nat.le_trans (Nat.le_add_right _ 2) a1)) (Nat.lt_irrefl _)
   ·exact I2.ok.inj x y c z1 z2
  ·have hx:(relabel scope X.env).names.lookup x=some .cell\/(relabel scope X.env).names.lookup x=some .free:=hx;have key:(x,NameKind.free)∈scope.names\/(x,NameKind.cell)∈scope.names:=by
    rcases hx with hx|hx
    ·obtain⟨k',m,z⟩:=da hx;rcases z with z|z
     ·subst z;exact .inr m
     ·subst z;exact .inl m
    ·obtain⟨k',m,z⟩:=da hx;rcases z with z|z<;>(subst z;exact .inl m)
   rcases key with key|key
   ·obtain⟨c,e⟩:=hcells _ key rfl;exact cL (List.mem_append_right _ (aX (j8 key e)))
   ·obtain⟨c,e⟩:=bD key (n:=s2.heap.objs.size+1+1);exact cL (List.mem_append_left _ e)
  ·have e1:scope.names.lookup x=some .cell:=beq_iff_eq.mp e1;obtain⟨c1,h1⟩:=bD (PySem.mem_of_lookup e1) (n:=s2.heap.objs.size+1+1);obtain⟨c2,h2⟩:=cL h1;have e2:(cellsFrom (s2.heap.objs.size+1+1) scope.names []++aD scope.names X.env.cells []).lookup x=some c:=e2;rw[List.lookup_append,h2]at e2;cases e2;have a1:=(ax (aX h2)).2;exact Nat.le_trans (Nat.le_add_right _ 2) a1
  ·exact⟨Nat.ne_of_lt (Nat.lt_succ_of_lt (fpThere b hb)),fun x c e=>cne b hb x c e⟩
  ·rcases (f2 b hb).2.2.2.1 with z|z
   ·exact I2.ok.noex b o e z
   ·exact absurd (Nat.lt_of_lt_of_le (Heap.lt_size e) (Nat.le_trans I2.ok.bsz z)) (Nat.lt_irrefl _)
  ·rcases List.mem_cons.mp (I2.stkSub b hm) with z|z
   ·exact (f2 b hb).2.1 z
   ·exact (f2 b hb).2.2.1 z
 have I3:Inv Xc [] (ip js σ) (upd H2 s2.heap.objs.size (.lst [])) {s2 with heap:=h1'}:=by
  refine⟨cOk,rfl,I2.bare,Un.laid keep (Nat.le_refl _) frD,⟨_,hns,fun i x v e1 e2 e3=>?_⟩,fun x c e=>?_,?_,fun x c e=>?_,fun p hp=>?_,?_,?_⟩
  ·have e2:(js.map fun o=>o.bind fun j=>(σ[j]?).bind id)[i]?=some (some v):=e2
   rw[List.getElem?_map]at e2;cases q:js[i]? with
   |none=>rw[q]at e2;cases e2
   |some o=>
    rw[q]at e2;cases o with
    |none=>cases e2
    |some j=>
     obtain⟨a1,a2,a3⟩:=O.fr i x j e1 q;have hv:σ[j]?=some (some v):=by
      cases z:σ[j]? with
      |none=>rw[Option.map_some,Option.bind_some,z]at e2;cases e2
      |some y=>
       rw[Option.map_some,Option.bind_some,z]at e2;have e2:some (id y)=some (some v):=e2;rw[show y=some v from Option.some.inj e2]
     obtain⟨m,hn,hl⟩:=I2.loc;obtain⟨u,r,l⟩:=hl j x v a1 hv (.inr (.inl a3));refine⟨u,r,?_⟩;rcases l with ⟨k,_⟩|⟨k,c,e,o,ho,hd⟩
     ·rw[show X.env.kindOf x=some .cell from a3]at k;cases k
     ·have only:∀y∈scope.names,y.1=x->y.2=.free:=fun y hy hyx=>?_
      ·refine .inr ⟨.inl (eI I2.ok.kind a3 a2 only),c,cU (List.mem_append_right _ (aX (j8 a2 e))) (fun p hp hx=>?_),o,keep _ _ ho,hd⟩
       rcases List.mem_append.mp hp with z|z
       ·have:=only _ (ax z).1 hx;cases this
       ·have z:=bg (acc:=[]) (fun p hp=>nomatch hp) p z
        rw[hx,e]at z;exact (Option.some.inj z).symm
      obtain⟨i1,h1,e1'⟩:=List.mem_iff_getElem.mp hy;obtain⟨i2,h2,e2'⟩:=List.mem_iff_getElem.mp a2;have:i1=i2:=by
       refine (List.getElem_inj (h₀:=by rw[List.length_map];exact h1) (h₁:=by rw[List.length_map];exact h2) O.ndn).mp ?_
       rw[List.getElem_map,List.getElem_map,e1',e2'];exact hyx
      subst this;rw[e1']at e2';rw[e2']
  ·rcases lk x c e with z|z
   ·exact⟨none,(cok.empty x c z).1⟩
   ·obtain⟨v,o,ho,hd⟩:=I2.cell x c z;exact⟨v,o,keep _ _ ho,hd⟩
  ·show upd H2 _ _ (s2.heap.objs.size+1)=none;rw[aa hCD];exact frC
  ·rcases lk x c e with z|z
   ·have a1:=(ax z).2;show upd H2 _ _ c=none;rw[aa (Nat.ne_of_gt (Nat.lt_of_lt_of_le (Nat.lt_add_of_pos_right (by decide:0 < 2)) a1))]
    exact I2.hok.fresh (Nat.le_trans (Nat.le_add_right _ 2) a1)
   ·have a2:=old _ _ z;show upd H2 _ _ c=none;rw[aa (Nat.ne_of_lt a2)];exact I2.freeC x c z
  ·have hp:p∈X.pn++pins:=by rw[List.append_nil]at hp;exact hp
   obtain⟨e,n,ne,nf,d⟩:=I2.pin p hp;refine⟨keep _ _ e,by rw[aa (Nat.ne_of_lt (Heap.lt_size e))];exact n,Nat.ne_of_lt (Nat.lt_succ_of_lt (Heap.lt_size e)),fun hm=>?_,d⟩
   rcases List.mem_cons.mp (I2.stkSub _ hm) with z|z
   ·exact ne z
   ·exact nf z
  ·exact I2.hok.laid keep (Nat.le_refl _) ⟨Nat.zero_le _,[],0,.nil,atD⟩
  ·show (js.map _).length=N.length;rw[List.length_map,O.len]
 have fpc:∀{H':Hp},(∀b∈fp,H' b=none)->∀b∈fp,jP Xc [] H' b:=fun {H'} hn b hb=>by
  refine⟨hn b hb,Nat.ne_of_lt (Nat.lt_succ_of_lt (fpThere b hb)),fun hm=>?_,.inl hb,fun x c e=>cne b hb x c e,fun p hp=>(f2 b hb).2.2.2.2.2 p (by rw[List.append_nil]at hp;exact hp)⟩
  rcases List.mem_cons.mp (I2.stkSub b hm) with z|z
  ·exact (f2 b hb).2.1 z
  ·exact (f2 b hb).2.2.1 z
 have st3:tn 0 h1':=T.keep 0 _ _ st2 fun b hb o e=>keep b o e
 have fr3:∀b∈fp,(upd H2 s2.heap.objs.size (.lst [])) b=none:=fun b hb=>by
  rw[aa (Nat.ne_of_lt (fpThere b hb))];exact (f2 b hb).1
 have loop:codeAny (model X.prog X.w) X.A (.compLoop (.ListComp elt [⟨tg,iter,ifs,0⟩] scope pos) 0 (.ref it) (.ref s2.heap.objs.size) (compEnvC scope (cellsFrom (s2.heap.objs.size+1+1) scope.names []++aD scope.names X.env.cells []) (s2.heap.objs.size+1) X.env))
   (compPost (model X.prog X.w) X.A X.xe use Qf (.ref s2.heap.objs.size) (s2.heap.objs.size+1)) {s2 with heap:=h1'}:=by
  refine nU (fun n s'=>∃i σc H',Inv Xc [] σc H' s'/\tn i s'.heap/\(∀b∈fp,H' b=none)/\W i n σc H') ?_ m0 ⟨0,_,_,I3,st3,fr3,w0⟩
  rintro n s4 ⟨i,σc,H4,I4,st4,fr4,w4⟩;rcases iE i n σc H4 w4 with ⟨stop,q⟩|⟨go,step⟩
  ·refine thn (T.done Xc rfl rfl rfl hcalm i [] s4 σc H4 (fun _ _=>False) I4 (fpc fr4) st4 stop) fun r s5 ⟨hr,I5⟩=>?_
   subst hr;obtain⟨m5,hn5,_⟩:=I5.loc;have un5:Un (frs X.stack) fp H2 H4 s2.heap s5.heap:=I5.base;have neC:∀b o,s2.heap.get? b=some o->b≠s2.heap.objs.size+1:=fun b o e=>Nat.ne_of_lt (Nat.lt_succ_of_lt (Heap.lt_size e))
   have fC:H4 (s2.heap.objs.size+1)=none:=I5.free;refine fin _ _ _ H4 m5 hn5 (I2.fpOk (Nat.le_succ _) fC) (fun h' hsame=>?_) q
   refine I2.call' (s':={s5 with heap:=h'}) (ch:=fp) I5.os ⟨fun b o q n hb hx=>(hsame.2 b (neC b o q)).trans (un5.keep b o q n hb hx),fun b o q n hb hx=>?_,un5.free,fun b o q hx=>?_,un5.tups,un5.frzs,un5.tbls⟩ ?_ I5.bare (fun b hb=>⟨(f2 b hb).2.2.2.1,(f2 b hb).2.1,(f2 b hb).2.2.2.2.1,(f2 b hb).2.2.2.2.2⟩)
   ·obtain⟨sl,z⟩:=un5.slot b o q n hb hx;exact⟨sl,(hsame.2 b (neC b o q)).trans z⟩
   ·obtain⟨o',z⟩:=un5.there b o q hx;exact⟨o',(hsame.2 b (neC b o q)).trans z⟩
   ·exact I5.hok.keptT fun b u ob hb q=>(hsame.2 b fun z=>by rw[z,fC]at hb;cases hb).trans q
  ·refine thn (T.item Xc rfl rfl rfl hcalm i [] s4 σc H4 (fun _ _=>False) I4 (fpc fr4) st4 go) fun r s5 ⟨u,hr,h5⟩=>?_
   subst hr;refine thn h5 fun _ s6 ⟨x,H6,I6,r6,y6,st6,fr6⟩=>?_
   have I6':=I6.pinned (fpc fr6) (T.obj _ _ st6);refine thn (hg _ _ _ _ _ _ s6 σc H6 x u _ I6' r6 (step x H6 y6)) fun _ s7 ⟨σ7,H7,I7,q7⟩=>?_
   refine thn (ht _ _ _ _ _ _ s7 σ7 H7 _ I7 q7) fun ok s8 ⟨H8,I8,q8⟩=>?_
   have back:∀{H9:Hp}{s9:Shared}{σ9:St},Inv Xc ([]++gS fp s6.heap) σ9 H9 s9->Inv Xc [] σ9 H9 s9/\tn (i+1) s9.heap/\∀b∈fp,H9 b=none:=fun {H9 s9 σ9} I9=>by
    refine⟨I9.unpinned,T.keep _ _ _ st6 fun b hb o e=>(I9.pin (b,o) (List.mem_append_right _ (List.mem_append_right _ (cK hb e)))).1,fun b hb=>?_⟩
    obtain⟨o,e,d⟩:=T.obj _ _ st6 b hb;exact (I9.pin (b,o) (List.mem_append_right _ (List.mem_append_right _ (cK hb e)))).2.1
   cases ok with
   |false=>
    rw[if_neg Bool.false_ne_true]at q8 ⊢;obtain⟨m',hm,w8⟩:=q8;obtain⟨b1,b2,b3⟩:=back I8;exact⟨m',hm,i+1,σ7,H8,b1,b2,b3,w8⟩
   |true=>
    rw[if_pos rfl]at q8 ⊢;refine thn (he _ _ _ _ _ _ s8 σ7 H8 _ I8 q8) fun y s9 ⟨z,H9,I9,r9,ys,e9,hl,m',hm,w9⟩=>?_
    refine thn (iX (X:=Xc) _ s9 σ7 H9 (.ref s2.heap.objs.size) [z] (.ref s2.heap.objs.size) [y] (fun _ H10=>H10=upd H9 s2.heap.objs.size (.lst (ys++[z]))) I9 rfl (.cons r9 .nil) ⟨_,ys,z,rfl,rfl,e9,hl,rfl⟩) fun _ s10 ⟨_,H10,I10,_,e10⟩=>?_
    subst e10;obtain⟨b1,b2,b3⟩:=back I10;exact⟨m',hm,i+1,σ7,_,b1,b2,b3,w9⟩
 exact codeAny_compStart_list loop (T.self _ 0 _ _ _ st3 loop)
theorem tM(hok:cV N js scope X.env.scope X.N=true)(hcalm:X.calm=true)(hi:PI X tg iter wi)
  (hg:∀C s2 H2 fp pn,PG (compCx X scope C N s2 H2 fp pn) tg g) (ht:∀C s2 H2 fp pn,PIf (compCx X scope C N s2 H2 fp pn) ifs tt) (he:∀C s2 H2 fp pn,PE (compCx X scope C N s2 H2 fp pn) elt te)
  (hs:∀x,foldedSetIterable iter X.env x=pure x:=by intro _;rfl):PE X (.ListComp elt [⟨tg,iter,ifs,0⟩] scope pos) (mS js wi g tt te):=fun pins s σ H Q I h=>by
 rw[eval_ListComp];exact ko (use:=none) hok hcalm hi hg ht he hs I h fun D C s5 H4 m5 hn _ key q=>⟨m5,hn,fun h' hs'=>⟨.ref D,H4,key h' hs',rfl,q⟩⟩
theorem ik{spos:Pos}(hN:X.N.Nodup)(hy:X.N[i]?=some y)(hl:X.env.scope.names.lookup y=some .local)(hok:cV N js scope X.env.scope X.N=true)(hcalm:X.calm=true)(hi:PI X tg iter wi)
  (hg:∀C s2 H2 fp pn,PG (compCx X scope C N s2 H2 fp pn) tg g) (ht:∀C s2 H2 fp pn,PIf (compCx X scope C N s2 H2 fp pn) ifs tt) (he:∀C s2 H2 fp pn,PE (compCx X scope C N s2 H2 fp pn) elt te)
  (hs:∀x,foldedSetIterable iter X.env x=pure x) (hsw:swapsWith (.ListComp elt [⟨tg,iter,ifs,0⟩] scope pos) (some (.Name y py)) spos.line X.env=pure true) :
  PS X (.Assign [.Name y py] (.ListComp elt [⟨tg,iter,ifs,0⟩] scope pos) spos) (uZ (mS js wi g tt te) (my i)):=by
 intro pins s σ H D I h;rw[exec_Assign_Name_used _ _ _ _ hsw];refine wpAny_bind (wpAny_standAt (wpAny_bind ?_));show wpAny _ _ (do let _<-comprehension (.ListComp elt [⟨tg,iter,ifs,0⟩] scope pos) scope X.env _ (newList []) false (eval iter X.env) (some (assign (.Name y py) X.env))) _ _ s
 refine wpAny_bind (wpAny_mono (ko (use:=some (assign (.Name y py) X.env)) (Qf:=fun _ s'=>SP X pins D .next s') hok hcalm hi hg ht he hs I h fun Da C s5 H4 m5 hn fp key q=>?_) (fun _ s' hq=>wpAny_pure (wpAny_pure hq)) fun _ _ z=>z)
 show wpAny _ _ (assign (.Name y py) X.env (.ref Da)) _ _ _;have J:Inv X pins σ H4 s5:=key s5.heap (Heap.SameBut.refl _ _);obtain⟨oC,es,ep,eC,rC⟩:=id hn;obtain⟨f0,f1,f2,f3,f4,f5⟩:=id fp;have JC:Inv X (pins++[(C,oC)]) σ H4 s5:=J.pins_of fun p hp=>by
  rcases List.mem_append.mp hp with z|z
  ·exact J.pin p (List.mem_append_right _ z)
  ·have e:p=(C,oC):=by simpa using z
   subst e;exact⟨eC,f0,f1,f2,fun v hv=>by
    have z:=rC.1;rw[show oC.data=.cell v from hv]at z;cases z⟩
 refine thn ((gp (pos:=py) hN hy (.inl hl) (.inr hl)) _ s5 σ H4 (.ref Da) (.ref Da) (fun σ' H'=>H'=H4/\D.nx σ' H') JC rfl ⟨rfl,q⟩) fun _ s6 ⟨σ6,H6,I6,e6,q6⟩=>?_
 subst e6;have eC6:s6.heap.get? C=some oC:=(I6.pin (C,oC) (List.mem_append_right _ (List.mem_append_right _ (by simp)))).1
 refine⟨m5,hn.at' fun o e=>?_,fun h' hsame=>⟨σ6,H6,?_,q6⟩⟩
 ·rw[eC]at e;cases e;exact eC6
 ·exact (Inv.unpinned I6).turned (t':=s6.toks) (it:=C) (fun b o hb e=>(hsame.2 b hb).trans e) f0 f1 f3 f4 f5
end
end L2
namespace L2
open PySem PySem.Spec PySem.Calls PyProof.Rows PySem.W PySem.Builtin PySem.Builtin.ObjectAttr PySem.Builtin.Getset_descriptor
section
variable {h:Heap}{os:OsState}{o:Obj}{K:PySem.W.Frag}
variable (hga:findIn K (.ref C) "__getattribute__"=some (some (.builtin "BaseException.__getattribute__"))) (hgn:findIn K (.ref C) "__getattr__"=some none) (hcl:findIn K (.ref C) "__class__"=some (some (.builtin "object.__class__")))
 (hn:specialIn K (.builtin "object.__class__") "__get__"=some (some (.builtin "getset_descriptor.__get__"))) (htk:takesIn K (.builtin "object.__class__")=some true) (hm:mroIn K C (.type "object")=some true) (hmB:mroIn K C (.type "BaseException")=some true)
include hmB in
theorem oH(X:K.In h)(hx:h.get? a=some o)(hc:o.cls=.ref C)(hq:Q () ⟨h,g,d,t,os⟩):wpAny M A (checkBuiltinCall "BaseException.__getattribute__" ⟨[.ref a,nameV],[]⟩) Q E ⟨h,g,d,t,os⟩:=by
 have hk:builtinKind "BaseException.__getattribute__"=some .slot:=by decide +kernel
 have hsplit:splitId "BaseException.__getattribute__"=some ("BaseException","__getattribute__"):=by decide +kernel
 have L0:Looks M h (typeOf (.ref a)) (.ref C):=hc▸(Looks.ld hx).andThen .now;have L1:=looks_mroIn (M:=M) X hmB;have ha:=F.args_bexc_ga (.ref a) nameV;simp only[checkBuiltinCall,hk,hsplit];refine wpAny_bind ?_
 ·unfold isInstance;refine wpAny_bind (L0.at (L1.at ?_))
  repeat (first|assumption|wp_step)
end
structure ExcI (K:PySem.W.Frag)(C:Addr):Prop where
 hd:PySem.W.hasDictIn K C=true
 ga:findIn K (.ref C) "__getattribute__"=some (some (.builtin "BaseException.__getattribute__"))
 gn:findIn K (.ref C) "__getattr__"=some none
 cl:findIn K (.ref C) "__class__"=some (some (.builtin "object.__class__"))
 n:specialIn K (.builtin "object.__class__") "__get__"=some (some (.builtin "getset_descriptor.__get__"))
 tk:takesIn K (.builtin "object.__class__")=some true
 m:mroIn K C (.type "object")=some true
 mB:mroIn K C (.type "BaseException")=some true
end L2
namespace L2
open PySem PySem.Spec PySem.Calls PyProof.Rows PySem.W PySem.Builtin PySem.Builtin.ObjectAttr
section
variable {h:Heap}{os:OsState}{o:Obj}{K:PySem.W.Frag}
theorem qV(X:K.In h)(x:ExcI K C)(hx:h.get? a=some o)(hc:o.cls=.ref C)(LF:Looks (model prog w) h (find (.ref a) (.ref C) name) (.value u))(hu:handedOut u=pure u)(hq:Q u ⟨h,g,d,t+1,os⟩) :
  wpAny (model prog w) A (getAttr (.ref a) name b) Q E ⟨h,g,d,t,os⟩:=by
 have L0:Looks (model prog w) h (typeOf (.ref a)) (.ref C):=hc▸(Looks.ld hx).andThen .now;have L1:=looks_findIn (M:=model prog w) X x.ga;have L2:=looks_findIn (M:=model prog w) X x.gn;have FB:Slot "ValueError" "__getattribute__" "BaseException.__getattribute__":=F.excAttr_ValueError.ga;have f3:=FB.bind (.ref a);unfold getAttr getAttrBy;refine wpAny_bind (wpAny_mkText (wpAny_holding (wpAny_bind (L0.at (wpAny_bind (L1.at ?_))))));show wpAny _ _ (getAttrByItsOwn _ _ _ _ _ _) _ _ _;refine wpAny_bind (L2.at (wpAny_bind (wpAny_attempt (wpAny_holding ?_))));unfold callGetattribute;rw[if_neg (by rw[show onTheHeap (.builtin "BaseException.__getattribute__")=false from rfl,Bool.and_false];exact Bool.false_ne_true)]
 unfold boundAndCalled;rw[f3];refine wpAny_bind (wpAny_pure (wpAny_call (codeAny_call_builtin FB.plain F.entry_bexc_ga (oH x.mB X hx hc ?_))));refine wpAny_bind (wpAny_pure (wpAny_bind (wpAny_pure (wpAny_bind (L0.at (wpAny_bind (LF.at ?_)))))));refine wpAny_pure ?_;show wpAny _ _ (handedOut u) _ _ _;rw[hu];exact wpAny_pure hq
end
noncomputable def tXG(K:PySem.W.Frag)(ta:TE)(f:Str):TE:=fun σ H Q=>ta σ H fun x H1=>∃a C dx ob fs v,x=.ref a/\H1 a=some (pI a (.ref C) (some dx))/\ExcI K C/\NoAttr K C f/\H1 dx=some (.frz ob (.xd fs))/\fs.lookup f=some v/\Q v H1
theorem rJ{X:Cx}(he:PE X e ta)(hb:attributeBase e f X.env (eval e X.env)=eval e X.env):PE X (.Attribute e f pos) (tXG X.K ta f):=by
 intro pins s σ H Q I h;refine mX hb (thn (he pins s σ H _ I h) fun u s1 ⟨x,H1,I1,rx,a,C,dx,ob,fs,v,ex,ea,xi,na,ed,l,q⟩=>?_)
 subst ex;obtain rfl:u=Value.ref a:=rx;obtain⟨⟨o,vs,go,hc,hd,hdx⟩,_,_⟩:=I1.hok a _ ea;obtain⟨gd,mA,hN,r⟩:=I1.hok dx _ ed;obtain⟨u,hu,ru⟩:=RelO.some_of (v:=v) (o:=mA f) (by rw[<-l];exact r f)
 obtain⟨od,god,lk⟩:=iY hN;have IA:InstAt s1.heap a o C (some od):=⟨go,hc,by unfold notCls;rw[hd],by rw[hdx];exact god⟩
 obtain⟨cd,hcd,hdt⟩:=any_some xi.hd;have LF:Looks (model X.prog X.w) s1.heap (find (.ref a) (.ref C) f) (.value u):=looks_find I1.kIn IA (by
  unfold findObj;rw[hcd,Option.bind_some,show findIn X.K (.ref C) f=some none from na,Option.bind_some];dsimp only[Option.bind_some];unfold PySem.W.ownOf;rw[if_pos hdt];dsimp only;rw[lk f,hu];rfl)
 obtain⟨h1,g1,d1,t1,os1⟩:=s1;exact qV I1.kIn xi go hc LF (handedOut_of (iN ru)) ⟨v,H1,I1.tok _,ru,q⟩
end L2
namespace L2
open PySem PySem.Spec PySem.Calls PyProof.Rows PySem.W
section
variable {s:Shared}
end
end L2
namespace L2
open PySem PySem.Spec PySem.Calls PyProof.Rows PySem.W
open AutoSeq1 (wpAny_loadPart')
open MeetsSeq MeetsSeq2 MeetsSeq3
section
variable {A:Around}{s:Shared}
end
end L2
namespace L2
open PySem PySem.Spec PyProof.Rows
section
variable {A:Around}{s:Shared}{St:Nat->Heap->Prop}{xs:Array (Int×Tok)}
theorem kI(W:Walks prog w A.in1 I fp wr n P St)(bt:Nat->Nat->Bool)(hcmp:CmpOf prog w A.in1 .Gt P bt)(S:Addr)(hSf:S∉fp) :
  ∀(k j:Nat)(s:Shared)(vb:Value)(c:Nat),n - (j+1)=k->j+1<=n->St (j+1) s.heap->P (argBest bt j) vb->s.heap.get? S=some {cls:=.type "list",dict:=none,data:=.seq #[vb,vb] c,slots:=#[]}->
  (∀v h' tk,P (argBest bt (n - 1)) v->(∀b o,b∉wr->b≠S->s.heap.get? b=some o->h'.get? b=some o)->R (.ok (.ret v)) {s with heap:=h',toks:=tk})->
  codeAny (model prog w) A (.builtin "max.loop" ⟨[.ref I,.none,.ref S],kw⟩) R s:=by
 have hSw:S∉wr:=fun h=>hSf (W.sub _ h)
 have hname:(toString "max"++toString ".loop" : String) = "max.loop":=by decide
 intro k
 induction k with
 |zero=>
  intro j s vb c hk hj hst hPb hS hR;have hin:j+1=n:=by omega
  refine codeAny_builtin F.entry_max_loop ?_;rw[Around.under_plainId F.plain_max_loop _];show wpAny _ A.in1 (seqItems? (.ref S) >>=_) _ _ s;refine wpAny_bind (wpAny_seqItems hS rfl ?_);show wpAny _ A.in1 (tryCatch (pyNext (.ref I)) _ >>=_) _ _ s;refine wpAny_bind (wpAny_tryCatch (W.done s _ _ (hin▸hst) fun h' tk hk'=>?_))
  have hS':=hk' S _ hSw hS;show wpAny _ A.in1 (updateSeq S (fun _=>#[]) >>=_) _ _ _
  refine wpAny_bind (wpAny_updateSeq hS' rfl (wpAny_bind (wpAny_letGo (wpAny_pure ?_))));exact hR vb _ tk (by rw[<-hin];exact hPb) fun b o hbw hbS e=>(Heap.get?_update_other _ _ (Ne.symm hbS)).trans (hk' b o hbw e)
 |succ k ih=>
  intro j s vb c hk hj hst hPb hS hR;have hlt:j+1 < n:=by omega
  refine codeAny_builtin F.entry_max_loop ?_;rw[Around.under_plainId F.plain_max_loop _];show wpAny _ A.in1 (seqItems? (.ref S) >>=_) _ _ s;refine wpAny_bind (wpAny_seqItems hS rfl ?_);show wpAny _ A.in1 (tryCatch (pyNext (.ref I)) _ >>=_) _ _ s;refine wpAny_bind (wpAny_tryCatch (W.item (j+1) s _ _ hlt hst fun v h' tk hP hst' hk'=>?_))
  have hS':=hk' S _ hSw hS;show wpAny _ A.in1 (tryCatch (holding [v,v] (richCompare .Gt v vb >>=_)) _ >>=_) _ _ _;refine wpAny_bind (wpAny_tryCatch (wpAny_holding (wpAny_bind (hcmp (j+1) (argBest bt j) v vb _ _ _ hP hPb ?_))));refine wpAny_bind (wpAny_holding (wpAny_truthy_bool (wpAny_bind (wpAny_letGo (wpAny_pure ?_)))));cases hb:bt (j+1) (argBest bt j) with
  |true=>
   simp only[if_true];refine wpAny_bind (wpAny_updateSeq hS' rfl (wpAny_bind (wpAny_letGo ?_)));rw[hname];refine wpAny_pure ⟨plainId_quiet F.plain_max_loop _,ih (j+1) _ v _ (by omega) hlt (W.frame _ _ _ hst' fun b hbf o e=>?_) (by simp only[argBest,hb,if_true];exact hP) (Heap.get?_update_self _ hS' rfl) fun v' h'' tk'' hP' hk''=>?_⟩
   ·exact (Heap.get?_update_other _ _ (fun h:S=b=>hSf (by rw[h];exact hbf))).trans e
   ·exact hR v' h'' tk'' hP' fun b o hbw hbS e=>hk'' b o hbw hbS ((Heap.get?_update_other _ _ (Ne.symm hbS)).trans (hk' b o hbw e))
  |false=>
   simp only[Bool.false_eq_true,if_false];refine wpAny_bind (wpAny_letGo ?_);rw[hname];refine wpAny_pure ⟨plainId_quiet F.plain_max_loop _,ih (j+1) _ vb c (by omega) hlt hst' (by simp only[argBest,hb,Bool.false_eq_true,if_false];exact hPb) hS' fun v' h'' tk'' hP' hk''=>?_⟩
   exact hR v' h'' tk'' hP' fun b o hbw hbS e=>hk'' b o hbw hbS (hk' b o hbw e)
theorem pZ(hh:A.handled=none)(hl:s.heap.IsList l (intItems xs))(ha:argsOk "max" ⟨[.ref l],kw⟩)(hb:Builtin.Builtins.bindParams "max" ["key","default"] 0 ⟨[],kw⟩=pure [none,dv])(hne:dv=none->0 < xs.size)
  (h0:xs.size=0->∀d h' tk,dv=some d->(∀b o,s.heap.get? b=some o->h'.get? b=some o)->Q d {s with heap:=h',toks:=tk})
  (h:0 < xs.size->∀v h' tk,(intItems xs)[argBest (fun i j=>decide (numAt xs i > numAt xs j)) (xs.size - 1)]?=some v->(∀b o,s.heap.get? b=some o->h'.get? b=some o)->Q v {s with heap:=h',toks:=tk}) :
  wpAny (model prog w) A (call (.builtin "max") [.ref l] kw) Q E s:=by
 have hname:(toString "max"++toString ".loop" : String) = "max.loop":=by decide
 refine kmk_tree F.kind_max F.plain_max F.entry_max ha ?_;show wpAny _ A.in1 (Builtin.Builtins.bindParams "max" ["key","default"] 0 ⟨[],kw⟩ >>=_) _ _ s;refine wpAny_bind (wpAny_of_eq hb ?_);refine wpAny_bind (wpAny_pure ?_);refine wpAny_bind (iter_intList hl fun s₂ e st hfp hlI=>?_)
 refine wpAny_bind (wpAny_newObj_type ?_);have hSf:s₂.heap.objs.size∉[s.heap.objs.size,l]:=fun hm=>Nat.lt_irrefl _ (hfp _ hm)
 have W:=Walks.list (prog:=prog) (w:=w) (A:=A.in1) hh s.heap.objs.size l hlI (intItems xs);have hSw:s₂.heap.objs.size∉[s.heap.objs.size]:=fun h=>hSf (W.sub _ h)
 have hsz:(intItems xs).size=xs.size:=by simp[intItems]
 have hcmp:=CmpOf.ints_gt (prog:=prog) (w:=w) (A:=A.in1) (numAt xs) (fun _ _=>intItems_at)
 rw[hname];refine wpAny_pure ⟨plainId_quiet F.plain_max_loop _,?_⟩;refine codeAny_builtin F.entry_max_loop ?_;rw[Around.under_plainId F.plain_max_loop _];have hst:(fun i h=>h.IsListIter s.heap.objs.size l i/\h.IsList l (intItems xs)) 0 (s₂.heap.push {cls:=.type "list",data:=.seq #[]}):=W.frame 0 s₂.heap _ st fun b _ o e=>Heap.get?_push_of_some _ e
 have hS:(s₂.heap.push {cls:=.type "list",data:=.seq #[]}).get? s₂.heap.objs.size=some {cls:=.type "list",dict:=none,data:=.seq #[] 0,slots:=#[]}:=Heap.get?_push_size _ rfl;show wpAny _ A.in1 (seqItems? (.ref _) >>=_) _ _ _;refine wpAny_bind (wpAny_seqItems hS rfl ?_);show wpAny _ A.in1 (tryCatch (pyNext (.ref _)) _ >>=_) _ _ _;have kp:∀{h':Heap},(∀b o,b∉[s.heap.objs.size]->(s₂.heap.push {cls:=.type "list",data:=.seq #[]}).get? b=some o->h'.get? b=some o)->∀b o,s.heap.get? b=some o->h'.get? b=some o:=fun {h'} hk=>by
  subst e;exact old_kept fun b o hb e=>hk b o hb (Heap.get?_push_of_some _ e)
 by_cases hz:xs.size=0
 ·have hst':=hst;refine wpAny_bind (wpAny_tryCatch (W.done _ _ _ (by rw[hsz,hz];exact hst) fun h' tk hk'=>?_))
  cases dv with
  |none=>exact absurd (hne rfl) (by omega)
  |some d=>
   show wpAny _ A.in1 (rule _ >>=_) _ _ _;refine wpAny_bind (wpAny_rule (wpAny_pure ?_));have:=h0 hz d h' tk rfl (kp hk');subst e;exact this
 ·have hn:0 < xs.size:=by omega
  refine wpAny_bind (wpAny_tryCatch (W.item 0 _ _ _ (by rw[hsz];exact hn) hst fun v h' tk hP hst' hk'=>?_))
  have hS':=hk' _ _ hSw hS;show wpAny _ A.in1 (updateSeq _ (fun _=>#[v,v]) >>=_) _ _ _
  refine wpAny_bind (wpAny_updateSeq hS' rfl ?_);rw[hname];refine wpAny_pure ⟨plainId_quiet F.plain_max_loop _,kI W _ hcmp _ hSf _ 0 _ v _ rfl (by rw[hsz];exact hn) (W.frame _ _ _ hst' fun b hbf o e=>?_) hP (Heap.get?_update_self _ hS' rfl) fun v' h'' tk'' hP' hk''=>?_⟩
  ·exact (Heap.get?_update_other _ _ (fun h:_=b=>hSf (by rw[h];exact hbf))).trans e
  ·have:=h hn v' h'' tk'' (by rw[hsz]at hP';exact hP') (fun b o e2=>by
    have hlt:b < s₂.heap.objs.size:=by subst e;exact Heap.lt_size (Heap.get?_push_of_some _ e2)
    refine hk'' b o (fun hm=>?_) (Nat.ne_of_lt hlt) ((Heap.get?_update_other _ _ (Nat.ne_of_gt hlt)).trans (kp hk' b o e2))
    rcases List.mem_cons.mp hm with e1|hm
    ·exact absurd (e1▸Heap.lt_size e2) (Nat.lt_irrefl _)
    ·cases hm)
   subst e;exact this
theorem kR(W:Walks prog w A.in1 I fp wr n P St)(bt:Nat->Nat->Bool)(hcmp:CmpOf prog w A.in1 .Lt P bt)(S:Addr)(hSf:S∉fp) :
  ∀(k j:Nat)(s:Shared)(vb:Value)(c:Nat),n - (j+1)=k->j+1<=n->St (j+1) s.heap->P (argBest bt j) vb->s.heap.get? S=some {cls:=.type "list",dict:=none,data:=.seq #[vb,vb] c,slots:=#[]}->
  (∀v h' tk,P (argBest bt (n - 1)) v->(∀b o,b∉wr->b≠S->s.heap.get? b=some o->h'.get? b=some o)->R (.ok (.ret v)) {s with heap:=h',toks:=tk})->
  codeAny (model prog w) A (.builtin "min.loop" ⟨[.ref I,.none,.ref S],kw⟩) R s:=by
 have hSw:S∉wr:=fun h=>hSf (W.sub _ h)
 have hname:(toString "min"++toString ".loop" : String) = "min.loop":=by decide
 intro k
 induction k with
 |zero=>
  intro j s vb c hk hj hst hPb hS hR;have hin:j+1=n:=by omega
  refine codeAny_builtin F.entry_min_loop ?_;rw[Around.under_plainId F.plain_min_loop _];show wpAny _ A.in1 (seqItems? (.ref S) >>=_) _ _ s;refine wpAny_bind (wpAny_seqItems hS rfl ?_);show wpAny _ A.in1 (tryCatch (pyNext (.ref I)) _ >>=_) _ _ s;refine wpAny_bind (wpAny_tryCatch (W.done s _ _ (hin▸hst) fun h' tk hk'=>?_))
  have hS':=hk' S _ hSw hS;show wpAny _ A.in1 (updateSeq S (fun _=>#[]) >>=_) _ _ _
  refine wpAny_bind (wpAny_updateSeq hS' rfl (wpAny_bind (wpAny_letGo (wpAny_pure ?_))));exact hR vb _ tk (by rw[<-hin];exact hPb) fun b o hbw hbS e=>(Heap.get?_update_other _ _ (Ne.symm hbS)).trans (hk' b o hbw e)
 |succ k ih=>
  intro j s vb c hk hj hst hPb hS hR;have hlt:j+1 < n:=by omega
  refine codeAny_builtin F.entry_min_loop ?_;rw[Around.under_plainId F.plain_min_loop _];show wpAny _ A.in1 (seqItems? (.ref S) >>=_) _ _ s;refine wpAny_bind (wpAny_seqItems hS rfl ?_);show wpAny _ A.in1 (tryCatch (pyNext (.ref I)) _ >>=_) _ _ s;refine wpAny_bind (wpAny_tryCatch (W.item (j+1) s _ _ hlt hst fun v h' tk hP hst' hk'=>?_))
  have hS':=hk' S _ hSw hS;show wpAny _ A.in1 (tryCatch (holding [v,v] (richCompare .Lt v vb >>=_)) _ >>=_) _ _ _;refine wpAny_bind (wpAny_tryCatch (wpAny_holding (wpAny_bind (hcmp (j+1) (argBest bt j) v vb _ _ _ hP hPb ?_))));refine wpAny_bind (wpAny_holding (wpAny_truthy_bool (wpAny_bind (wpAny_letGo (wpAny_pure ?_)))));cases hb:bt (j+1) (argBest bt j) with
  |true=>
   simp only[if_true];refine wpAny_bind (wpAny_updateSeq hS' rfl (wpAny_bind (wpAny_letGo ?_)));rw[hname];refine wpAny_pure ⟨plainId_quiet F.plain_min_loop _,ih (j+1) _ v _ (by omega) hlt (W.frame _ _ _ hst' fun b hbf o e=>?_) (by simp only[argBest,hb,if_true];exact hP) (Heap.get?_update_self _ hS' rfl) fun v' h'' tk'' hP' hk''=>?_⟩
   ·exact (Heap.get?_update_other _ _ (fun h:S=b=>hSf (by rw[h];exact hbf))).trans e
   ·exact hR v' h'' tk'' hP' fun b o hbw hbS e=>hk'' b o hbw hbS ((Heap.get?_update_other _ _ (Ne.symm hbS)).trans (hk' b o hbw e))
  |false=>
   simp only[Bool.false_eq_true,if_false];refine wpAny_bind (wpAny_letGo ?_);rw[hname];refine wpAny_pure ⟨plainId_quiet F.plain_min_loop _,ih (j+1) _ vb c (by omega) hlt hst' (by simp only[argBest,hb,Bool.false_eq_true,if_false];exact hPb) hS' fun v' h'' tk'' hP' hk''=>?_⟩
   exact hR v' h'' tk'' hP' fun b o hbw hbS e=>hk'' b o hbw hbS (hk' b o hbw e)
theorem qP(hh:A.handled=none)(hl:s.heap.IsList l (intItems xs))(ha:argsOk "min" ⟨[.ref l],kw⟩)(hb:Builtin.Builtins.bindParams "min" ["key","default"] 0 ⟨[],kw⟩=pure [none,dv])(hne:dv=none->0 < xs.size)
  (h0:xs.size=0->∀d h' tk,dv=some d->(∀b o,s.heap.get? b=some o->h'.get? b=some o)->Q d {s with heap:=h',toks:=tk})
  (h:0 < xs.size->∀v h' tk,(intItems xs)[argBest (fun i j=>decide (numAt xs i < numAt xs j)) (xs.size - 1)]?=some v->(∀b o,s.heap.get? b=some o->h'.get? b=some o)->Q v {s with heap:=h',toks:=tk}) :
  wpAny (model prog w) A (call (.builtin "min") [.ref l] kw) Q E s:=by
 have hname:(toString "min"++toString ".loop" : String) = "min.loop":=by decide
 refine kmk_tree F.kind_min F.plain_min F.entry_min ha ?_;show wpAny _ A.in1 (Builtin.Builtins.bindParams "min" ["key","default"] 0 ⟨[],kw⟩ >>=_) _ _ s;refine wpAny_bind (wpAny_of_eq hb ?_);refine wpAny_bind (wpAny_pure ?_);refine wpAny_bind (iter_intList hl fun s₂ e st hfp hlI=>?_)
 refine wpAny_bind (wpAny_newObj_type ?_);have hSf:s₂.heap.objs.size∉[s.heap.objs.size,l]:=fun hm=>Nat.lt_irrefl _ (hfp _ hm)
 have W:=Walks.list (prog:=prog) (w:=w) (A:=A.in1) hh s.heap.objs.size l hlI (intItems xs);have hSw:s₂.heap.objs.size∉[s.heap.objs.size]:=fun h=>hSf (W.sub _ h)
 have hsz:(intItems xs).size=xs.size:=by simp[intItems]
 have hcmp:=CmpOf.ints_lt (prog:=prog) (w:=w) (A:=A.in1) (numAt xs) (fun _ _=>intItems_at)
 rw[hname];refine wpAny_pure ⟨plainId_quiet F.plain_min_loop _,?_⟩;refine codeAny_builtin F.entry_min_loop ?_;rw[Around.under_plainId F.plain_min_loop _];have hst:(fun i h=>h.IsListIter s.heap.objs.size l i/\h.IsList l (intItems xs)) 0 (s₂.heap.push {cls:=.type "list",data:=.seq #[]}):=W.frame 0 s₂.heap _ st fun b _ o e=>Heap.get?_push_of_some _ e
 have hS:(s₂.heap.push {cls:=.type "list",data:=.seq #[]}).get? s₂.heap.objs.size=some {cls:=.type "list",dict:=none,data:=.seq #[] 0,slots:=#[]}:=Heap.get?_push_size _ rfl;show wpAny _ A.in1 (seqItems? (.ref _) >>=_) _ _ _;refine wpAny_bind (wpAny_seqItems hS rfl ?_);show wpAny _ A.in1 (tryCatch (pyNext (.ref _)) _ >>=_) _ _ _;have kp:∀{h':Heap},(∀b o,b∉[s.heap.objs.size]->(s₂.heap.push {cls:=.type "list",data:=.seq #[]}).get? b=some o->h'.get? b=some o)->∀b o,s.heap.get? b=some o->h'.get? b=some o:=fun {h'} hk=>by
  subst e;exact old_kept fun b o hb e=>hk b o hb (Heap.get?_push_of_some _ e)
 by_cases hz:xs.size=0
 ·have hst':=hst;refine wpAny_bind (wpAny_tryCatch (W.done _ _ _ (by rw[hsz,hz];exact hst) fun h' tk hk'=>?_))
  cases dv with
  |none=>exact absurd (hne rfl) (by omega)
  |some d=>
   show wpAny _ A.in1 (rule _ >>=_) _ _ _;refine wpAny_bind (wpAny_rule (wpAny_pure ?_));have:=h0 hz d h' tk rfl (kp hk');subst e;exact this
 ·have hn:0 < xs.size:=by omega
  refine wpAny_bind (wpAny_tryCatch (W.item 0 _ _ _ (by rw[hsz];exact hn) hst fun v h' tk hP hst' hk'=>?_))
  have hS':=hk' _ _ hSw hS;show wpAny _ A.in1 (updateSeq _ (fun _=>#[v,v]) >>=_) _ _ _
  refine wpAny_bind (wpAny_updateSeq hS' rfl ?_);rw[hname];refine wpAny_pure ⟨plainId_quiet F.plain_min_loop _,kR W _ hcmp _ hSf _ 0 _ v _ rfl (by rw[hsz];exact hn) (W.frame _ _ _ hst' fun b hbf o e=>?_) hP (Heap.get?_update_self _ hS' rfl) fun v' h'' tk'' hP' hk''=>?_⟩
  ·exact (Heap.get?_update_other _ _ (fun h:_=b=>hSf (by rw[h];exact hbf))).trans e
  ·have:=h hn v' h'' tk'' (by rw[hsz]at hP';exact hP') (fun b o e2=>by
    have hlt:b < s₂.heap.objs.size:=by subst e;exact Heap.lt_size (Heap.get?_push_of_some _ e2)
    refine hk'' b o (fun hm=>?_) (Nat.ne_of_lt hlt) ((Heap.get?_update_other _ _ (Nat.ne_of_gt hlt)).trans (kp hk' b o e2))
    rcases List.mem_cons.mp hm with e1|hm
    ·exact absurd (e1▸Heap.lt_size e2) (Nat.lt_irrefl _)
    ·cases hm)
   subst e;exact this
end
end L2
namespace L2
open PySem PySem.Spec PyProof.Rows
inductive D where
 |non|bl (b:Bool)|int (i:Int)|str (x:Str)|tup (ds:List D)|rol (ds:List D)|ref (a:Addr)
 |obj (i:Nat) (C:Addr) (ns:List Nat) (ds:List D)|dik (ks:List Key) (ds:List D)|dit (ks:List (List Int)) (ds:List D)
noncomputable def mv:Nat->Nat->List Nat
 |0,_=>[]
 |k+1,n=>if n=0 then [] else (n % 128)::mv k (n / 128)
noncomputable def fnm(n:Nat):Str:=⟨(mv n n).toArray⟩
noncomputable def sR:List Nat->Nat
 |[]=>0
 |d::r=>d+128 * sR r
theorem gP:∀(k n:Nat),n<=k->sR (mv k n)=n
 |0,n,h=>by have:n=0:=Nat.le_zero.mp h;subst this;rfl
 |k+1,n,h=>by
  unfold mv;by_cases z:n=0
  ·rw[if_pos z];exact z.symm
  ·rw[if_neg z];show n % 128+128 * sR (mv k (n / 128))=n;rw[gP k (n / 128) (by omega)]
   omega
theorem jH(h:fnm a=fnm b):a=b:=by
 have e:mv a a=mv b b:=by
  have:=congrArg (fun x:Str=>x.cps.toList) h
  simpa [fnm] using this
 have:=congrArg sR e
 rwa [gP a a (Nat.le_refl _),gP b b (Nat.le_refl _)]at this
noncomputable def tH(k:List Int):Int:=reduceHash (Builtin.Tuple.tupleHashOf (k.map hashInt))
noncomputable def av(a:Addr)(xs:List (List Int×Addr×Value)):Heap->Prop:=fun h=>∃o es ep,h.get? a=some o/\o.ExactDict/\o.data=.dict es ep/\es.toList=xs.map fun x=>(⟨tH x.1,.ref x.2.1,x.2.2⟩:DictEntry)
structure TabOk (K:PySem.W.Frag)(H:Hp)(a:Addr) (ks:List (List Int)) (xs:List (List Int×Addr×Value)) (vs:List V):Prop where
 kx:xs.map (·.1)=ks
 nd:ks.Nodup
 sz:ks.length<=sizeLine
 no:(a == sysModules)=false
 vx:Vals vs (xs.map (·.2.2))
 at_:∀x∈xs,SqT K H x.2.1 (x.1.map V.int)
noncomputable def SqM(K:PySem.W.Frag)(a:Addr)(xs:List V):Prop:=∃(its:List Value) (n:Nat),K.lookup a=some {cls:=.type "list",data:=.seq its.toArray n}/\its.length<=sizeLine/\Vals xs its
noncomputable def SqF(K:PySem.W.Frag)(H:Hp)(a:Addr)(xs:List V):Prop:=(∃o,H a=some (.frz o (.lst xs)))\/SqM K a xs
theorem SqM.sq{K:PySem.W.Frag}(h:SqM K a xs):SqL K H a xs:=by
 obtain⟨its,n,e,z,r⟩:=h;exact .inr ⟨_,its.toArray,n,e,rfl,rfl,rfl,by simpa using z,by simpa using r⟩
theorem SqF.sq{K:PySem.W.Frag}(h:SqF K H a xs):SqL K H a xs:=by
 rcases h with h|h
 ·exact .inl (.inr h)
 ·exact h.sq
mutual
noncomputable def Den(K:PySem.W.Frag)(H:Hp):D->V->Prop
 |.non,v=>v=.non
 |.bl b,v=>v=.bl b
 |.int i,v=>v=.int i
 |.str x,v=>v=.str x
 |.tup ds,v=>∃p vs,v=.ref p/\SqT K H p vs/\DenL K H ds vs
 |.rol ds,v=>∃p vs,v=.ref p/\SqF K H p vs/\DenL K H ds vs
 |.ref a,v=>v=.ref a
 |.obj _ C ns ds,v=>∃p vs o dx,v=.ref p/\H p=some (.frz o (.ins C dx ((ns.map fnm).zip vs)))/\ns.length=vs.length/\DenL K H ds vs
 |.dik ks ds,v=>∃p vs o,v=.ref p/\H p=some (.frz o (.dK (ks.zip vs)))/\ks.length=vs.length/\DenL K H ds vs
 |.dit ks ds,v=>∃p vs o xs,v=.ref p/\H p=some (.frz o (.ext (av p xs)))/\TabOk K H p ks xs vs/\DenL K H ds vs
noncomputable def DenL(K:PySem.W.Frag)(H:Hp):List D->List V->Prop
 |[],vs=>vs=[]
 |d::ds,vs=>∃v r,vs=v::r/\Den K H d v/\DenL K H ds r
end
structure TM (K:PySem.W.Frag)(H H':Hp):Prop where
 t:∀p xs,SqT K H p xs->SqT K H' p xs
 f:∀p xs,SqF K H p xs->SqF K H' p xs
 g:∀p o u,H p=some (.frz o u)->H' p=some (.frz o u)
theorem TM.refl{K:PySem.W.Frag}(H:Hp):TM K H H:=⟨fun _ _ h=>h,fun _ _ h=>h,fun _ _ _ h=>h⟩
theorem TM.trans{K:PySem.W.Frag}(a:TM K H H1)(b:TM K H1 H2):TM K H H2:=⟨fun p xs h=>b.t p xs (a.t p xs h),fun p xs h=>b.f p xs (a.f p xs h),fun p o u h=>b.g p o u (a.g p o u h)⟩
theorem TM.un{K:PySem.W.Frag}(t:∀b xs,H b=some (.tup xs)->H' b=some (.tup xs))(f:∀b o u,H b=some (.frz o u)->H' b=some (.frz o u)):TM K H H':=⟨fun q xs h=>by
 rcases h with (h|⟨ob,h⟩)|h
 ·exact .inl (.inl (t _ _ h))
 ·exact .inl (.inr ⟨ob,f _ _ _ h⟩)
 ·exact .inr h,fun q xs h=>by
 rcases h with ⟨ob,h⟩|h
 ·exact .inl ⟨ob,f _ _ _ h⟩
 ·exact .inr h,f⟩
theorem TM.new{K:PySem.W.Frag}(hp:H p=none):TM K H (upd H p o):=
 .un (fun b xs h=>by rw[aa (au h hp)];exact h) fun b ob u h=>by rw[aa (au h hp)];exact h
theorem TM.put{K:PySem.W.Frag}(hp:H p=some u)(h1:∀xs,u≠.tup xs)(h2:∀ob v,u≠.frz ob v):TM K H (upd H p o):=
 .un (fun b xs h=>by rw[aa (cq h hp fun z=>h1 _ z.symm)];exact h) fun b ob u h=>by rw[aa (cq h hp fun z=>h2 _ _ z.symm)];exact h
section
variable {K:PySem.W.Frag}
mutual
theorem Den.mono(t:TM K H H'):∀{d:D}{v:V},Den K H d v->Den K H' d v
 |.non,_,h=>h
 |.bl _,_,h=>h
 |.int _,_,h=>h
 |.str _,_,h=>h
 |.ref _,_,h=>h
 |.tup ds,v,h=>by
  obtain⟨p,vs,e,s,l⟩:=h;exact⟨p,vs,e,t.t _ _ s,DenL.mono t l⟩
 |.rol ds,v,h=>by
  obtain⟨p,vs,e,s,l⟩:=h;exact⟨p,vs,e,t.f _ _ s,DenL.mono t l⟩
 |.obj i C ns ds,v,h=>by
  obtain⟨p,vs,o,dx,e,s,z,l⟩:=h;exact⟨p,vs,o,dx,e,t.g _ _ _ s,z,DenL.mono t l⟩
 |.dik ks ds,v,h=>by
  obtain⟨p,vs,o,e,s,z,l⟩:=h;exact⟨p,vs,o,e,t.g _ _ _ s,z,DenL.mono t l⟩
 |.dit ks ds,v,h=>by
  obtain⟨p,vs,o,xs,e,s,z,l⟩:=h;exact⟨p,vs,o,xs,e,t.g _ _ _ s,⟨z.kx,z.nd,z.sz,z.no,z.vx,fun x hx=>t.t _ _ (z.at_ x hx)⟩,DenL.mono t l⟩
theorem DenL.mono(t:TM K H H'):∀{ds:List D}{vs:List V},DenL K H ds vs->DenL K H' ds vs
 |[],_,h=>h
 |d::ds,vs,h=>by
  obtain⟨v,r,e,a,b⟩:=h;exact⟨v,r,e,Den.mono t a,DenL.mono t b⟩
end
theorem DenL.length:∀{ds:List D}{vs:List V},DenL K H ds vs->ds.length=vs.length
 |[],_,h=>by cases h;rfl
 |d::ds,vs,h=>by
  obtain⟨v,r,rfl,_,b⟩:=h;rw[List.length_cons,List.length_cons,DenL.length b]
theorem DenL.get:∀{ds:List D}{vs:List V}{i:Nat}{d:D},DenL K H ds vs->ds[i]?=some d->∃v,vs[i]?=some v/\Den K H d v
 |[],_,_,_,_,e=>by simp at e
 |d::ds,vs,0,d',h,e=>by
  obtain⟨v,r,rfl,a,b⟩:=h;simp at e;subst e;exact⟨v,rfl,a⟩
 |d::ds,vs,i+1,d',h,e=>by
  obtain⟨v,r,rfl,a,b⟩:=h;obtain⟨u,e1,e2⟩:=DenL.get (i:=i) b (by simpa using e)
  exact⟨u,by simpa using e1,e2⟩
theorem DenL.get':∀{ds:List D}{vs:List V}{i:Nat}{v:V},DenL K H ds vs->vs[i]?=some v->∃d,ds[i]?=some d/\Den K H d v
 |[],_,_,_,h,e=>by cases h;simp at e
 |d::ds,vs,0,v',h,e=>by
  obtain⟨v,r,rfl,a,b⟩:=h;simp at e;subst e;exact⟨d,rfl,a⟩
 |d::ds,vs,i+1,v',h,e=>by
  obtain⟨v,r,rfl,a,b⟩:=h;obtain⟨u,e1,e2⟩:=DenL.get' (i:=i) b (by simpa using e)
  exact⟨u,by simpa using e1,e2⟩
theorem DenL.append:∀{ds es:List D}{vs ws:List V},DenL K H ds vs->DenL K H es ws->DenL K H (ds++es) (vs++ws)
 |[],_,_,_,h,g=>by cases h;exact g
 |d::ds,_,_,_,h,g=>by
  obtain⟨v,r,rfl,a,b⟩:=h;exact⟨v,r++_,rfl,a,DenL.append b g⟩
theorem DenL.nil:DenL K H [] []:=rfl
theorem DenL.cons(a:Den K H d v)(b:DenL K H ds vs):DenL K H (d::ds) (v::vs):=⟨v,vs,rfl,a,b⟩
theorem DenL.one(a:Den K H d v):DenL K H [d] [v]:=.cons a .nil
theorem DenL.take:∀{ds:List D}{vs:List V} (n:Nat),DenL K H ds vs->DenL K H (ds.take n) (vs.take n)
 |_,_,0,_=>rfl
 |[],_,n+1,h=>by cases h;rfl
 |d::ds,_,n+1,h=>by
  obtain⟨v,r,rfl,a,b⟩:=h;exact⟨v,r.take n,rfl,a,DenL.take n b⟩
theorem DenL.drop:∀{ds:List D}{vs:List V} (n:Nat),DenL K H ds vs->DenL K H (ds.drop n) (vs.drop n)
 |_,_,0,h=>h
 |[],_,n+1,h=>by cases h;rfl
 |d::ds,_,n+1,h=>by
  obtain⟨v,r,rfl,a,b⟩:=h;exact DenL.drop n b
theorem DenL.reverse:∀{ds:List D}{vs:List V},DenL K H ds vs->DenL K H ds.reverse vs.reverse
 |[],_,h=>by cases h;rfl
 |d::ds,_,h=>by
  obtain⟨v,r,rfl,a,b⟩:=h;rw[List.reverse_cons,List.reverse_cons];exact (DenL.reverse b).append (.one a)
theorem DenL.set(a:Den K H d v):∀{ds:List D}{vs:List V} (i:Nat),DenL K H ds vs->DenL K H (ds.set i d) (vs.set i v)
 |[],_,_,h=>by cases h;rfl
 |_::ds,_,0,h=>by
  obtain⟨_,r,rfl,_,b⟩:=h;exact⟨v,r,rfl,a,b⟩
 |e::ds,_,i+1,h=>by
  obtain⟨u,r,rfl,c,b⟩:=h;exact⟨u,_,rfl,c,DenL.set a i b⟩
theorem DenL.int_of:∀{ns:List Int}{vs:List V},DenL K H (ns.map D.int) vs->vs=ns.map V.int
 |[],_,h=>h
 |n::ns,vs,h=>by
  obtain⟨v,r,rfl,a,b⟩:=h;rw[DenL.int_of b];cases (show v=.int n from a);rfl
theorem DenL.of_int:∀{ns:List Int},DenL K H (ns.map D.int) (ns.map V.int)
 |[]=>rfl
 |n::ns=>⟨.int n,ns.map V.int,rfl,rfl,DenL.of_int⟩
end
structure XE where
 c:Nat
 pl:Option (Nat×D)
noncomputable def XD(K:PySem.W.Frag)(H:Hp)(i:XE)(dx:Option Addr):Prop:=match i.pl with
 |none=>dx=none
 |some (f,y)=>∃p o v,dx=some p/\H p=some (.frz o (.xd [(fnm f,v)]))/\Den K H y v
theorem XD.mono{K:PySem.W.Frag}(t:TM K H H')(h:XD K H i dx):XD K H' i dx:=by
 obtain⟨c,pl⟩:=i;cases pl with
 |none=>exact h
 |some q=>
  obtain⟨p,o,v,e,g,d⟩:=h;exact⟨p,o,v,e,t.g _ _ _ g,d.mono t⟩
inductive DO where
 |lst (ds:List D)
 |dk (ks:List Key) (ds:List D)
 |dt (ks:List (List Int)) (ds:List D)
 |ins (i:Nat) (C:Addr) (ns:List Nat) (ds:List D)
 |exc (i:XE) (cls:Value)
 |stl (φ:Heap->Prop)
noncomputable abbrev MH:=Addr->Option DO
noncomputable def put(M:MH)(a:Addr)(o:DO):MH:=fun b=>if b=a then some o else M b
theorem ac:put M a o a=some o:=if_pos rfl
theorem af(h:b≠a):put M a o b=M b:=if_neg h
theorem aR:put (put M a o) a u=put M a u:=by
 funext b;unfold put;split<;>rfl
noncomputable def OD(K:PySem.W.Frag)(H:Hp)(a:Addr):DO->Prop
 |.lst ds=>∃vs,H a=some (.lst vs)/\DenL K H ds vs
 |.dk ks ds=>∃vs,H a=some (.dK (ks.zip vs))/\ks.length=vs.length/\DenL K H ds vs
 |.dt ks ds=>∃vs xs,H a=some (.ext (av a xs))/\TabOk K H a ks xs vs/\DenL K H ds vs
 |.ins _ C ns ds=>∃dx vs,H a=some (.ins C dx ((ns.map fnm).zip vs))/\ns.length=vs.length/\DenL K H ds vs
 |.exc i cls=>∃dx,H a=some (pI a cls dx)/\XD K H i dx
 |.stl φ=>H a=some (.ext φ)
noncomputable def RelM(K:PySem.W.Frag)(M:MH)(H:Hp):Prop:=∀a o,M a=some o->OD K H a o
noncomputable abbrev St3:=List (Option D)
noncomputable def DenS(K:PySem.W.Frag)(H:Hp)(σ3:St3)(σ:St):Prop:=σ3.length=σ.length/\∀(i:Nat)(d:D),σ3[i]?=some (some d)->∃v,σ[i]?=some (some v)/\Den K H d v
section
variable {K:PySem.W.Frag}
theorem OD.tracked(h:OD K H a o):∃u,H a=some u:=by
 cases o with
 |lst ds=>obtain⟨_,e,_⟩:=h;exact⟨_,e⟩
 |dk ks ds=>obtain⟨_,e,_⟩:=h;exact⟨_,e⟩
 |dt ks ds=>obtain⟨_,_,e,_⟩:=h;exact⟨_,e⟩
 |ins i C ns ds=>obtain⟨_,_,e,_⟩:=h;exact⟨_,e⟩
 |exc i cls=>obtain⟨_,e,_⟩:=h;exact⟨_,e⟩
 |stl φ=>exact⟨_,h⟩
theorem RelM.fresh(r:RelM K M H)(hp:H p=none):M p=none:=by
 cases e:M p with
 |none=>rfl
 |some o=>
  obtain⟨u,z⟩:=(r p o e).tracked;rw[hp]at z;cases z
theorem OD.stay(t:TM K H H')(e:H' a=H a)(h:OD K H a o):OD K H' a o:=by
 cases o with
 |lst ds=>obtain⟨vs,q,l⟩:=h;exact⟨vs,e.trans q,l.mono t⟩
 |dk ks ds=>obtain⟨vs,q,n,l⟩:=h;exact⟨vs,e.trans q,n,l.mono t⟩
 |dt ks ds=>obtain⟨vs,xs,q,z,l⟩:=h;exact⟨vs,xs,e.trans q,⟨z.kx,z.nd,z.sz,z.no,z.vx,fun x hx=>t.t _ _ (z.at_ x hx)⟩,l.mono t⟩
 |ins i C ns ds=>obtain⟨dx,vs,q,n,l⟩:=h;exact⟨dx,vs,e.trans q,n,l.mono t⟩
 |exc i cls=>obtain⟨dx,q,x⟩:=h;exact⟨dx,e.trans q,x.mono t⟩
 |stl φ=>exact e.trans h
theorem RelM.grow(r:RelM K M H)(hp:H p=none):RelM K M (upd H p o):=fun a u e=>by
 obtain⟨x,z⟩:=(r a u e).tracked;exact (r a u e).stay (.new hp) (aa (au z hp))
theorem RelM.lay(r:RelM K M H)(hp:H p=none)(h:OD K (upd H p o) p u):RelM K (put M p u) (upd H p o):=fun a x e=>by
 by_cases ha:a=p
 ·subst ha;rw[ac]at e;cases e;exact h
 ·rw[af ha]at e;exact r.grow hp a x e
theorem RelM.write(r:RelM K M H)(hp:H p=some w)(h1:∀xs,w≠.tup xs)(h2:∀ob v,w≠.frz ob v)(h:OD K (upd H p o) p u):RelM K (put M p u) (upd H p o):=fun a x e=>by
 by_cases ha:a=p
 ·subst ha;rw[ac]at e;cases e;exact h
 ·rw[af ha]at e;exact (r a x e).stay (.put hp h1 h2) (aa ha)
noncomputable def Sub(M' M:MH):Prop:=∀a o,M' a=some o->M a=some o
theorem Sub.put(s:Sub M' M)(h:M' p=none):Sub M' (put M p u):=fun a o e=>by
 rw[af fun z=>by rw[z,h]at e;cases e]
 exact s a o e
theorem RelM.sub(r:RelM K M H)(s:Sub M' M):RelM K M' H:=fun a o e=>r a o (s a o e)
theorem DenS.mono(t:TM K H H')(h:DenS K H σ3 σ):DenS K H' σ3 σ:=⟨h.1,fun i d e=>let ⟨v,e1,e2⟩:=h.2 i d e;⟨v,e1,e2.mono t⟩⟩
theorem DenS.set{σ3:St3}{σ:St}(h:DenS K H σ3 σ)(e:Den K H d v):DenS K H (σ3.set i (some d)) (σ.set i (some v)):=by
 refine⟨by rw[List.length_set,List.length_set];exact h.1,fun j d' q=>?_⟩
 by_cases hj:i=j
 ·subst hj;rw[List.getElem?_set]at q ⊢;rw[if_pos rfl]at q ⊢;rw[<-h.1];split at q
  next hl=>
   cases q;exact⟨v,if_pos hl,e⟩
  next=>cases q
 ·rw[List.getElem?_set_ne hj]at q ⊢;exact h.2 j d' q
theorem DenS.drop{σ3:St3}{σ:St}(h:DenS K H σ3 σ):DenS K H (σ3.set i none) (σ.set i none):=by
 refine⟨by rw[List.length_set,List.length_set];exact h.1,fun j d' q=>?_⟩
 by_cases hj:i=j
 ·subst hj;rw[List.getElem?_set,if_pos rfl]at q;split at q<;>cases q
 ·rw[List.getElem?_set_ne hj]at q ⊢;exact h.2 j d' q
theorem ml{N:List Str}{ds:List D}(h:DenL K H ds vs):DenS K H (ds.map some++List.replicate (N.length - ds.length) none) (start N vs):=by
 have hl:=h.length;refine⟨by unfold start;simp[hl],fun i d e=>?_⟩
 by_cases hi:i < ds.length
 ·rw[List.getElem?_append_left (by simpa using hi),List.getElem?_map]at e
  have e':ds[i]?=some d:=by
   cases q:ds[i]? with
   |none=>rw[q]at e;cases e
   |some x=>rw[q]at e;cases e;rfl
  obtain⟨v,e1,e2⟩:=h.get e';refine⟨v,?_,e2⟩;unfold start;rw[List.getElem?_append_left (by simpa [<-hl] using hi),List.getElem?_map,e1]
  rfl
 ·rw[List.getElem?_append_right (by simpa using hi),List.getElem?_replicate]at e
  split at e<;>cases e
end
noncomputable abbrev VK3:=D->MH->Prop
noncomputable abbrev TE3:=St3->MH->VK3->Prop
noncomputable abbrev TT3:=St3->MH->(Bool->MH->Prop)->Prop
structure Ends3 where
 nx:St3->MH->Prop
 rt:VK3
 bk:St3->MH->Prop:=fun _ _=>False
 ct:St3->MH->Prop:=fun _ _=>False
noncomputable abbrev TS3:=Ends3->St3->MH->Prop
structure ER (K:PySem.W.Frag)(H:Hp)(D3:Ends3)(D2:Ends):Prop where
 nx:∀σ' H' σ3' M',RelM K M' H'->DenS K H' σ3' σ'->TM K H H'->D3.nx σ3' M'->D2.nx σ' H'
 rt:∀v H' d M',Den K H' d v->RelM K M' H'->TM K H H'->D3.rt d M'->D2.rt v H'
 bk:∀σ' H' σ3' M',RelM K M' H'->DenS K H' σ3' σ'->TM K H H'->D3.bk σ3' M'->D2.bk σ' H'
 ct:∀σ' H' σ3' M',RelM K M' H'->DenS K H' σ3' σ'->TM K H H'->D3.ct σ3' M'->D2.ct σ' H'
theorem ER.mono{K:PySem.W.Frag}(r:ER K H D3 D2)(t:TM K H H1):ER K H1 D3 D2:=
 ⟨fun a b c d h1 h2 h3 h4=>r.nx a b c d h1 h2 (t.trans h3) h4,fun a b c d h1 h2 h3 h4=>r.rt a b c d h1 h2 (t.trans h3) h4,fun a b c d h1 h2 h3 h4=>r.bk a b c d h1 h2 (t.trans h3) h4,fun a b c d h1 h2 h3 h4=>r.ct a b c d h1 h2 (t.trans h3) h4⟩
end L2
namespace L2
open PySem PySem.Spec PyProof.Rows
section
variable {K:PySem.W.Frag}
theorem aQ:Den K H (.int i) (.int i):=rfl
theorem bj{b:Bool}:Den K H (.bl b) (.bl b):=rfl
theorem gz:Den K H (.str x) (.str x):=rfl
theorem pH:Den K H .non .non:=rfl
theorem eR:Den K H (.ref a) (.ref a):=rfl
theorem mP(h:SqT K H p vs)(l:DenL K H ds vs):Den K H (.tup ds) (.ref p):=⟨p,vs,rfl,h,l⟩
end
noncomputable abbrev R3:=D->D->MH->VK3->Prop
noncomputable abbrev Back(K:PySem.W.Frag)(H:Hp)(Q:VK3)(Q2:VK):Prop:=∀v H' d M',Den K H' d v->RelM K M' H'->TM K H H'->Q d M'->Q2 v H'
noncomputable def Op3(X:Cx)(f:Value->Value->Sem Value)(r3:R3):Prop:=∃r2,OpR X f r2/\∀(H:Hp)(x y:D)(v u:V)(M:MH)(Q:VK3)(Q2:VK),Den X.K H x v->Den X.K H y u->RelM X.K M H->r3 x y M Q->Back X.K H Q Q2->r2 v u H Q2
noncomputable def Un3(X:Cx)(f:Value->Sem Value)(r3:D->MH->VK3->Prop):Prop:=∃r2,UnR X f r2/\∀(H:Hp)(x:D)(v:V)(M:MH)(Q:VK3)(Q2:VK),Den X.K H x v->RelM X.K M H->r3 x M Q->Back X.K H Q Q2->r2 v H Q2
noncomputable def mE(X:Cx)(f:Value)(r3:List D->MH->VK3->Prop):Prop:=∃r2,CallR X f r2/\∀(H:Hp)(xs:List D)(vs:List V)(M:MH)(Q:VK3)(Q2:VK),DenL X.K H xs vs->RelM X.K M H->r3 xs M Q->Back X.K H Q Q2->r2 vs H Q2
noncomputable def c3(d:D):TE3:=fun _ M Q=>Q d M
noncomputable def rI3(C:Int->Int->Prop)(g:Int->Int->D):R3:=fun x y M Q=>∃i j,x=.int i/\y=.int j/\C i j/\Q (g i j) M
section
variable {X:Cx}{a b c e:Expr}{ta tb tc te:TE3}{pos:Pos}
noncomputable def q3(t:TE3):TT3:=fun σ M Q=>t σ M fun x M1=>∃k,x=.bl k/\Q k M1
variable {tA tB':TT3}{rest:List Expr}
theorem tD{K:PySem.W.Frag}(h:DenL K H ds vs)(e:atI ds i=some d):∃v,atI vs i=some v/\Den K H d v:=by
 unfold atI at e ⊢;rw[<-h.length];cases q:ixN ds.length i with
 |none=>rw[q]at e;cases e
 |some j=>
  rw[q]at e;obtain⟨v,e1,e2⟩:=h.get (show ds[j]?=some d from e);exact⟨v,e1,e2⟩
noncomputable def Is(M:MH)(x:D)(ds:List D):Prop:=x=.rol ds\/∃a,x=.ref a/\M a=some (.lst ds)
theorem RelM.list{K:PySem.W.Frag}(rm:RelM K M H)(h:Is M x ds)(dv:Den K H x v):∃p vs,v=.ref p/\SqL K H p vs/\DenL K H ds vs:=by
 rcases h with rfl|⟨a,rfl,h⟩
 ·obtain⟨p,vs,e,s,l⟩:=dv;exact⟨p,vs,e,s.sq,l⟩
 ·obtain⟨vs,e,l⟩:=rm a _ h;exact⟨a,vs,dv,.of e,l⟩
noncomputable def isIB:V->D->Prop:=fun v d=>(∃i,v=.int i/\d=.int i)\/(∃b,v=.bl b/\d=.bl b)
theorem isIB.den{K:PySem.W.Frag}(h:isIB v d):Den K H d v:=by
 rcases h with ⟨i,rfl,rfl⟩|⟨b,rfl,rfl⟩<;>rfl
theorem hU(h:OpR X f (rI C g))(hg:∀i j,isIB (g i j) (g3 i j)):Op3 X f (rI3 C g3):=
 ⟨_,h,fun H x y v u M Q Q2 dx dy rm ⟨i,j,e1,e2,hc,q⟩ k=>by
  subst e1;subst e2;cases (show v=.int i from dx);cases (show u=.int j from dy);exact⟨i,j,rfl,rfl,hc,k _ H _ M (hg i j).den rm (.refl _) q⟩⟩
noncomputable def jR(g:Int->Int->D):R3:=fun x y M Q=>∃i j,x=.int i/\y=.int j/\Q (g i j) M
theorem cz(h:OpR X f (rI0 g))(hg:∀i j,isIB (g i j) (g3 i j)):Op3 X f (jR g3):=
 ⟨_,h,fun H x y v u M Q Q2 dx dy rm ⟨i,j,e1,e2,q⟩ k=>by
  subst e1;subst e2;cases (show v=.int i from dx);cases (show u=.int j from dy);exact⟨i,j,rfl,rfl,k _ H _ M (hg i j).den rm (.refl _) q⟩⟩
noncomputable def big:Nat:=2 ^ 4096
theorem lF(h:n < 10 ^ 250):n < big:=Nat.lt_of_lt_of_le h (by decide +kernel)
noncomputable def fS(i j:Int):Prop:=(i.natAbs < big/\j.natAbs < big)
theorem fA{k:Int}(h:k.natAbs < big):Builtin.Int.intBits k<=2 ^ 20:=by
 unfold Builtin.Int.intBits;by_cases h0:k.natAbs=0
 ·have:k=0:=by omega
  subst this;decide
 ·have h30:k.natAbs.log2 < 4096:=(Nat.log2_lt h0).mpr h;split<;>omega
theorem q9:OpR X (binaryOp .Mult) (rI fS fun i j=>.int (i * j)):=opI fun _ _ _ _ _ _ _ hc q=>mul_int q (.of_bits (fA hc.1) (fA hc.2))
noncomputable def i8(_ j:Int):Prop:=0 < j/\j.toNat < big
theorem qY:OpR X (binaryOp .FloorDiv) (rI i8 fun i j=>.int (i / j)):=opI fun i j _ _ _ _ _ hc q=>by
 have h1:(0:Int) < j:=hc.1;have h2:j.toNat < big:=hc.2;refine floordiv_int (by omega) (by rw[Int.fdiv_eq_ediv_of_nonneg i (by omega)];exact q) (.inl (PyProof.noPylong_of_log2 ?_))
 have h3:j.natAbs < 2 ^ 4096:=by
  have e:j.natAbs=j.toNat:=by omega
  rw[e];exact h2
 have h0:j.natAbs≠0:=by omega
 have:=(Nat.log2_lt h0).mpr h3;omega
theorem xU:Op3 X (binaryOp .Add) (jR fun i j=>.int (i+j)):=cz xI fun _ _=>.inl ⟨_,rfl,rfl⟩
theorem AC:Op3 X (binaryOp .Sub) (jR fun i j=>.int (i - j)):=cz vo fun _ _=>.inl ⟨_,rfl,rfl⟩
theorem An:Op3 X (binaryOp .Mult) (rI3 fS fun i j=>.int (i * j)):=hU q9 fun _ _=>.inl ⟨_,rfl,rfl⟩
theorem vG:Op3 X (binaryOp .FloorDiv) (rI3 i8 fun i j=>.int (i / j)):=hU qY fun _ _=>.inl ⟨_,rfl,rfl⟩
theorem yu:Op3 X (binaryOp .Mod) (rI3 (fun _ j=>0 < j) fun i j=>.int (i % j)):=hU vq fun _ _=>.inl ⟨_,rfl,rfl⟩
theorem zF:Op3 X (binaryOp .Pow) (rI3 pK fun i j=>.int (i ^ j.toNat)):=hU xu fun _ _=>.inl ⟨_,rfl,rfl⟩
theorem zd:Op3 X (binaryOp .RShift) (rI3 (fun _ j=>0<=j) fun i j=>.int (i / 2 ^ j.toNat)):=hU wZ fun _ _=>.inl ⟨_,rfl,rfl⟩
theorem Ac:Op3 X (binaryOp .BitAnd) (jR fun i j=>.int (Builtin.bitAnd i j)):=cz uR fun _ _=>.inl ⟨_,rfl,rfl⟩
theorem CA:Op3 X (compareOp .Lt) (jR fun i j=>.bl (decide (i < j))):=cz zM fun _ _=>.inr ⟨_,rfl,rfl⟩
theorem Ca:Op3 X (compareOp .LtE) (jR fun i j=>.bl (decide (i<=j))):=cz Au fun _ _=>.inr ⟨_,rfl,rfl⟩
theorem Dq:Op3 X (compareOp .Gt) (jR fun i j=>.bl (decide (j < i))):=cz yc fun _ _=>.inr ⟨_,rfl,rfl⟩
theorem CS:Op3 X (compareOp .GtE) (jR fun i j=>.bl (decide (j<=i))):=cz Az fun _ _=>.inr ⟨_,rfl,rfl⟩
noncomputable def rU3(g:Int->Int):D->MH->VK3->Prop:=fun x M Q=>∃i,x=.int i/\Q (.int (g i)) M
theorem yg:Un3 X (unaryOp .USub) (rU3 fun i=>-i):=⟨_,xA,fun H x v M Q Q2 dx rm ⟨i,e,q⟩ k=>by
 subst e;cases (show v=.int i from dx);exact⟨i,rfl,k _ H _ M aQ rm (.refl _) q⟩⟩
noncomputable def D.isN:D->Bool
 |.non=>true
 |_=>false
theorem mN{K:PySem.W.Frag}{d:D}(h:Den K H d v):decide (v=.non)=d.isN:=by
 cases d with
 |non=>cases (show v=.non from h);rfl
 |bl b=>cases (show v=.bl b from h);rfl
 |int i=>cases (show v=.int i from h);rfl
 |str x=>cases (show v=.str x from h);rfl
 |tup ds=>obtain⟨p,vs,rfl,_⟩:=h;rfl
 |rol ds=>obtain⟨p,vs,rfl,_⟩:=h;rfl
 |ref a=>cases (show v=.ref a from h);rfl
 |obj i C ns ds=>obtain⟨p,vs,_,_,rfl,_⟩:=h;rfl
 |dik ks ds=>obtain⟨p,vs,_,rfl,_⟩:=h;rfl
 |dit ks ds=>obtain⟨p,vs,_,_,rfl,_⟩:=h;rfl
noncomputable def rIs3:R3:=fun x y M Q=>y=.non/\Q (.bl x.isN) M
noncomputable def rIsN3:R3:=fun x y M Q=>y=.non/\Q (.bl (!x.isN)) M
theorem Cg:Op3 X (compareOp .Is) rIs3:=⟨_,u7,fun H x y v u M Q Q2 dx dy rm ⟨e,q⟩ k=>by
 subst e;refine⟨dy,?_⟩;rw[mN dx];exact k _ H _ M bj rm (.refl _) q⟩
theorem rg:Op3 X (compareOp .IsNot) rIsN3:=⟨_,rO,fun H x y v u M Q Q2 dx dy rm ⟨e,q⟩ k=>by
 subst e;refine⟨dy,?_⟩;rw[mN dx];exact k _ H _ M bj rm (.refl _) q⟩
variable {id:String}
noncomputable def rLen3:List D->MH->VK3->Prop:=fun xs M Q=>∃x ds,xs=[x]/\(Is M x ds\/x=.tup ds)/\Q (.int ds.length) M
theorem zI:mE X (.builtin "len") rLen3:=⟨_,jw,fun H xs vs M Q Q2 dl rm ⟨x,ds,e,h,q⟩ k=>by
 subst e;obtain⟨v,r,rfl,dv,rfl⟩:=dl;rcases h with h|rfl
 ·obtain⟨a,ys,rfl,sq,l⟩:=rm.list h dv;exact⟨a,ys,rfl,.inl sq,by rw[<-l.length];exact k _ H _ M aQ rm (.refl _) q⟩
 ·obtain⟨a,ys,rfl,sq,l⟩:=dv;exact⟨a,ys,rfl,.inr sq,by rw[<-l.length];exact k _ H _ M aQ rm (.refl _) q⟩⟩
noncomputable def rMax3:List D->MH->VK3->Prop:=fun xs M Q=>∃i j,xs=[.int i,.int j]/\Q (.int (if j > i then j else i)) M
theorem yF(hc:X.calm=true):mE X (.builtin "max") rMax3:=⟨_,nW hc,fun H xs vs M Q Q2 dl rm ⟨i,j,e,q⟩ k=>by
 subst e;obtain⟨v,r,rfl,dv,w,r',rfl,dw,rfl⟩:=dl;cases (show v=.int i from dv);cases (show w=.int j from dw);exact⟨i,j,rfl,k _ H _ M aQ rm (.refl _) q⟩⟩
noncomputable def rMin3:List D->MH->VK3->Prop:=fun xs M Q=>∃i j,xs=[.int i,.int j]/\Q (.int (if j < i then j else i)) M
theorem ym(hc:X.calm=true):mE X (.builtin "min") rMin3:=⟨_,oF hc,fun H xs vs M Q Q2 dl rm ⟨i,j,e,q⟩ k=>by
 subst e;obtain⟨v,r,rfl,dv,w,r',rfl,dw,rfl⟩:=dl;cases (show v=.int i from dv);cases (show w=.int j from dw);exact⟨i,j,rfl,k _ H _ M aQ rm (.refl _) q⟩⟩
end
end L2
namespace L2
open PySem PySem.Spec PyProof.Rows
noncomputable abbrev BackS(K:PySem.W.Frag)(H:Hp)(Q:St3->MH->Prop)(Q2:St->Hp->Prop):Prop:=∀σ' H' σ3' M',RelM K M' H'->DenS K H' σ3' σ'->TM K H H'->Q σ3' M'->Q2 σ' H'
section
variable {X:Cx}{st:Stmt}{rest:List Stmt}{t u:TS3}{e:Expr}{te:TE3}{pos:Pos}
structure ItOk (K:PySem.W.Frag)(H0:Hp)(J:It)(ds:List D)(S:MH->Prop):Prop where
 go:∀(i:Nat) H M,TM K H0 H->RelM K M H->S M->i < ds.length->J.go i H
 yld:∀(i:Nat) H M x H',TM K H0 H->RelM K M H->S M->i < ds.length->J.yld i H x H'->TM K H H'/\RelM K M H'/\∃d,ds[i]?=some d/\Den K H' d x
 stop:∀H M,TM K H0 H->RelM K M H->S M->J.stop ds.length H
noncomputable def rng(lo:Int)(n:Nat):List D:=(List.range n).map fun (i:Nat)=>D.int (lo+i)
theorem gv(lo:Int)(n:Nat):(rng lo n).length=n:=by unfold rng;rw[List.length_map,List.length_range]
theorem uq{lo:Int}(h:i < n):(rng lo n)[i]?=some (.int (lo+i)):=by
 unfold rng;rw[List.getElem?_map,List.getElem?_range h];rfl
theorem vD{K:PySem.W.Frag}{lo:Int}:ItOk K H0 (Itr lo n) (rng lo n) (fun _=>True):=by
 refine⟨fun i H M _ _ _ hi=>?_,fun i H M x H' _ rm _ hi y=>?_,fun H M _ _ _=>?_⟩
 ·rw[gv]at hi;exact hi
 ·rw[gv]at hi;obtain⟨e,y⟩:=y;subst e;subst y;exact⟨.refl _,rm,_,uq hi,rfl⟩
 ·rw[gv];exact Nat.le_refl _
end
section
variable {K:PySem.W.Frag}
end
section
variable {X:Cx}
end
end L2
namespace L2
open PySem PySem.Spec PyProof.Rows
noncomputable abbrev XN:=XE->MH->Prop
noncomputable def del(M:MH)(a:Addr):MH:=fun b=>if b=a then none else M b
theorem gg(h:M a=none):del (put M a o) a=M:=by
 funext b;unfold del put;by_cases e:b=a
 ·subst e;rw[if_pos rfl,h]
 ·rw[if_neg e,if_neg e]
theorem gD(h:del M a b=some o):b≠a/\M b=some o:=by
 unfold del at h;split at h
 ·cases h
 ·exact⟨by assumption,h⟩
noncomputable def ah(M M':MH):MH:=fun a=>match M a with
 |some _=>M' a
 |none=>none
theorem jj(h:ah M M' a=some o):M' a=some o:=by
 unfold ah at h;split at h
 ·exact h
 ·cases h
noncomputable def kp(b:Bool)(M M':MH):MH:=if b=true then ah M M' else M'
theorem pq(h:kp b M M' a=some o):M' a=some o:=by
 cases b with
 |true=>exact jj h
 |false=>exact h
inductive BI where
 |len  |max  |min  |list (fz:Bool)  |all  |any
inductive BM where
 |index  |get
inductive BT where
 |int|bool|str|tuple|list|dict
mutual
inductive IE where
 |var (i:Nat)
 |con (d:D)
 |bin (op:Operator) (a b:IE)
 |neg (a:IE)
 |cat (fz:Bool) (a b:IE)
 |cmp (op:CmpOp) (a b:IE)
 |and (a b:IE)
 |or (a b:IE)
 |not (a:IE)
 |ifx (c:IT) (a b:IE)
 |tup (es:IA)
 |lst (fz:Bool) (es:IA)
 |frz (e:IE)
 |ix (a b:IE)
 |sl (fz:Bool) (a:IE) (lo hi:IO)
 |call (f:Nat) (es:IA)
 |bi (b:BI) (es:IA)
 |isB (e:IE) (t:BT)
 |rev (fz:Bool) (e:IE)
 |dctT (k v:IE)
 |comp (fz:Bool) (N:List Str) (js:List (Option Nat)) (tg:ITg) (it:II) (cond:ITO) (elt:IE)
 |mmz (mx:Bool) (e:IE)
 |lrng (fz:Bool) (e:IE)
 |sm (e:IE)
 |fld (e:IE) (f:Nat)
 |xfld (e:IE) (f:Nat)
 |make (fz:Bool) (i:Nat) (es:IA)
 |meth (e:IE) (m:Nat) (es:IA)
 |bm (b:BM) (o:IE) (es:IA)
 |dnew (tk:Bool)
 |lrev (fz:Bool) (a:IE)
inductive IT where
 |val (e:IE)|cmp (op:CmpOp) (a b:IE)|chain (op op':CmpOp) (a b c:IE)|chain3 (op op' op'':CmpOp) (a b c d:IE)|and (a b:IT)|or (a b:IT)|not (a:IT)
inductive IA where
 |nil|cons (e:IE) (r:IA)
inductive IO where
 |no|yes (e:IE)
inductive ITO where
 |no|yes (e:IT)
inductive II where
 |seq (e:IE)
 |rng1 (a:IE)
inductive ITg where
 |name (i:Nat)|tup (is:List Nat)
end
mutual
inductive IS where
 |set (i:Nat) (e:IE)
 |expr (e:IE)
 |ret (e:IE)
 |retN
 |ifs (c:IT) (a b:ISs)
 |for_ (tg:ITg) (it:II) (body:ISs)
 |whl (c:IT) (body:ISs)
 |raiseI (c:Nat) (es:IA)
 |try_ (body:ISs) (hs:IHs)
 |app (o e:IE)
 |del (i:Nat)
 |fset (o:IE) (f:Nat) (e:IE)
 |ixset (o i e:IE)
 |dead
 |forK (tg:ITg) (o:IE) (body:ISs)
 |forD (tg:ITg) (o:IE) (body:ISs)
inductive ISs where
 |nil|cons (s:IS) (r:ISs)
inductive IHs where
 |nil|cons (c:Nat) (nm:Option Nat) (body:ISs) (r:IHs)
end
noncomputable def ai(M:MH):D->Option (List D)
 |.rol ds=>some ds
 |.ref a=>match M a with
  |some (.lst ds)=>some ds
  |_=>none
 |_=>none
noncomputable def ay(M:MH):D->Option (List D)
 |.tup ds=>some ds
 |x=>ai M x
noncomputable def res(M:MH)(x:D):D:=match ai M x with
 |some ds=>.rol ds
 |none=>x
noncomputable def aW(fz:Bool)(ds:List D)(M:MH)(Q:VK3):Prop:=ds.length<=sizeLine/\if fz=true then Q (.rol ds) M else ∀p,M p=none->Q (.ref p) (put M p (.lst ds))
noncomputable def plN:Nat->D->Bool
 |_,.ref _=>false
 |n,.tup ds=>match n with
  |0=>false
  |m+1=>ds.all (plN m)
 |n,.rol ds=>match n with
  |0=>false
  |m+1=>ds.all (plN m)
 |_,.obj _ _ _ _=>false
 |_,.dik _ _=>false
 |_,.dit _ _=>false
 |_,_=>true
noncomputable abbrev pl(x:D):Bool:=plN 8 x
noncomputable abbrev pls(ds:List D):Bool:=ds.all (plN 8)
mutual
noncomputable def eqD:D->D->Bool
 |.non,y=>match y with
  |.non=>true
  |_=>false
 |.bl a,y=>match y with
  |.bl b=>a == b
  |.int b=>decide ((if a=true then (1:Int) else 0)=b)
  |_=>false
 |.int a,y=>match y with
  |.int b=>decide (a=b)
  |.bl b=>decide (a=if b=true then (1:Int) else 0)
  |_=>false
 |.str a,y=>match y with
  |.str b=>decide (a=b)
  |_=>false
 |.tup a,y=>match y with
  |.tup b=>cb a b
  |_=>false
 |.rol a,y=>match y with
  |.rol b=>cb a b
  |_=>false
 |.ref _,_=>false
 |.obj _ _ _ _,_=>false
 |.dik _ _,_=>false
 |.dit _ _,_=>false
noncomputable def cb:List D->List D->Bool
 |[],y=>match y with
  |[]=>true
  |_=>false
 |a::r,y=>match y with
  |b::t=>eqD a b&&cb r t
  |_=>false
end
noncomputable def rII(C:Int->Int->Prop)(g:Int->Int->D)(x y:D)(M:MH)(Q:VK3):Prop:=match x,y with
 |.int i,.int j=>C i j/\Q (g i j) M
 |_,_=>False
noncomputable def rI2(g:Int->Int->D)(x y:D)(M:MH)(Q:VK3):Prop:=match x,y with
 |.int i,.int j=>Q (g i j) M
 |_,_=>False
noncomputable def nu(x y:D)(M:MH)(Q:VK3):Prop:=match x,y with
 |.int i,.int j=>Q (.int (i+j)) M
 |.str a,.str b=>a.length+b.length<=sizeLine/\Q (.str (a++b)) M
 |.tup a,.tup b=>a.length+b.length<=sizeLine/\Q (.tup (a++b)) M
 |_,_=>False
noncomputable def im(z:Str)(n:Int):Str:=if n < 1 then Str.empty else if (n == 1||z.length == 0)=true then z else⟨(List.replicate n.toNat z.cps).foldl (·++·) #[]⟩
noncomputable def qZ(x y:D)(M:MH)(Q:VK3):Prop:=match x,y with
 |.int i,.int j=>fS i j/\Q (.int (i * j)) M
 |.str z,.int n=>(0<=n/\n<=100000/\z.length<=10)/\Q (.str (im z n)) M
 |_,_=>False
noncomputable def d8:Operator->D->D->MH->VK3->Prop
 |.Add=>nu
 |.Sub=>rI2 fun i j=>.int (i - j)
 |.Mult=>qZ
 |.FloorDiv=>rII i8 fun i j=>.int (i / j)
 |.Mod=>rII (fun _ j=>0 < j) fun i j=>.int (i % j)
 |.Pow=>rII pK fun i j=>.int (i ^ j.toNat)
 |.RShift=>rII (fun _ j=>0<=j) fun i j=>.int (i / 2 ^ j.toNat)
 |.BitAnd=>rI2 fun i j=>.int (Builtin.bitAnd i j)
 |_=>fun _ _ _ _=>False
noncomputable def rNeg(x:D)(M:MH)(Q:VK3):Prop:=match x with
 |.int i=>Q (.int (-i)) M
 |_=>False
noncomputable def cr(fz:Bool)(x y:D)(M:MH)(Q:VK3):Prop:=match ai M x,ai M y with
 |some a,some b=>aW fz (a++b) M Q
 |_,_=>match x,y with
  |.tup a,.tup b=>a.length+b.length<=sizeLine/\Q (.tup (a++b)) M
  |_,_=>False
noncomputable def rs(M:MH)(x:D):D:=match ai M x with
 |some ds=>.rol (if pls ds=true then ds else ds.map (res M))
 |none=>x
noncomputable def eS(neg:Bool)(x y:D)(M:MH)(Q:VK3):Prop:=pl (rs M x)=true/\pl (rs M y)=true/\Q (.bl (neg ^^ eqD (rs M x) (rs M y))) M
noncomputable def kK(neg:Bool)(x y:D)(M:MH)(Q:VK3):Prop:=match y with
 |.non=>Q (.bl (neg ^^ x.isN)) M
 |.bl b=>match x with
  |.bl a=>Q (.bl (neg ^^ (a == b))) M
  |.non=>Q (.bl neg) M
  |_=>False
 |_=>False
noncomputable def vd:D->Option Key
 |.int i=>some (.inl i)
 |.str s=>some (.inr s)
 |_=>none
noncomputable def cR:List D->Option (List Int)
 |[]=>some []
 |.int i::r=>match cR r with
  |some ns=>some (i::ns)
  |none=>none
 |_::_=>none
noncomputable def qm:D->Option (List Int)
 |.tup es=>cR es
 |_=>none
noncomputable def getD[DecidableEq κ]:List κ->List D->κ->Option D
 |k::ks,d::ds,x=>if k=x then some d else getD ks ds x
 |_,_,_=>none
noncomputable def ak[DecidableEq κ]:List κ->κ->List κ
 |[],x=>[x]
 |k::ks,x=>if k=x then k::ks else k::ak ks x
noncomputable def aN[DecidableEq κ]:List κ->List D->κ->D->List D
 |k::ks,d::ds,x,y=>if k=x then y::ds else d::aN ks ds x y
 |_,_,_,y=>[y]
noncomputable def d5(M:MH):D->Option (List Key×List D)
 |.dik ks ds=>some (ks,ds)
 |.ref a=>match M a with
  |some (.dk ks ds)=>some (ks,ds)
  |_=>none
 |_=>none
noncomputable def cP(M:MH):D->Option (List (List Int)×List D)
 |.dit ks ds=>some (ks,ds)
 |.ref a=>match M a with
  |some (.dt ks ds)=>some (ks,ds)
  |_=>none
 |_=>none
noncomputable def dI(M:MH)(x y:D):Option (Option D):=match d5 M x with
 |some (ks,ds)=>match vd y with
  |some k=>some (getD ks ds k)
  |none=>none
 |none=>match cP M x with
  |some (ks,ds)=>match qm y with
   |some k=>some (getD ks ds k)
   |none=>none
  |none=>none
noncomputable def qK(a b:Str):Bool:=!(Builtin.Str.occurrences b a 0 b.length 1).isEmpty
noncomputable def qQ(z:Str)(i:Nat):Str:=⟨#[z.cps.getD i 0]⟩
noncomputable def eJ(z:Str):List D:=z.cps.toList.map fun c=>.str ⟨#[c]⟩
noncomputable def jX(neg:Bool)(x y:D)(M:MH)(Q:VK3):Prop:=match ay M y with
 |some ds=>pl (res M x)=true/\pls ds=true/\Q (.bl (neg ^^ ds.any fun d=>eqD d (res M x))) M
 |none=>match dI M y x with
  |some o=>Q (.bl (neg ^^ o.isSome)) M
  |none=>match x,y with
   |.str a,.str b=>Q (.bl (neg ^^ qK a b)) M
   |_,_=>False
noncomputable def ao:CmpOp->D->D->MH->VK3->Prop
 |.Eq=>eS false
 |.NotEq=>eS true
 |.Lt=>rI2 fun i j=>.bl (decide (i < j))
 |.LtE=>rI2 fun i j=>.bl (decide (i<=j))
 |.Gt=>rI2 fun i j=>.bl (decide (j < i))
 |.GtE=>rI2 fun i j=>.bl (decide (j<=i))
 |.Is=>kK false
 |.IsNot=>kK true
 |.In=>jX false
 |.NotIn=>jX true
noncomputable def am(x y:D)(M:MH)(Q:VK3):Prop:=match ay M x with
 |some ds=>match y with
  |.int i=>match atI ds i with
   |some d=>Q d M
   |none=>False
  |_=>False
 |none=>match dI M x y with
  |some (some d)=>Q d M
  |some none=>False
  |none=>match x,y with
   |.str z,.int i=>(0<=i/\i < z.length/\i < 2 ^ 63)/\Q (.str (qQ z i.toNat)) M
   |_,_=>False
noncomputable def fW(xs:List D)(lo hi:Option Int):List D:=(xs.drop (HT.sIx xs.length 0 lo)).take (HT.sIx xs.length xs.length hi - HT.sIx xs.length 0 lo)
noncomputable def whole(n:Nat)(lo hi:Option Int):Bool:=HT.sIx n 0 lo == 0&&HT.sIx n n hi == n
noncomputable def iC(fz:Bool)(x:D)(lo hi:Option Int)(M:MH)(Q:VK3):Prop:=match x with
 |.tup ds=>whole ds.length lo hi=false/\Q (.tup (fW ds lo hi)) M
 |.str z=>z.length<=sizeLine/\Q (.str (Txt.slice z lo hi)) M
 |x=>match ai M x with
  |some ds=>aW fz (fW ds lo hi) M Q
  |none=>False
noncomputable def c6:List D->Option (List Bool)
 |[]=>some []
 |.bl i::r=>match c6 r with
  |some ns=>some (i::ns)
  |none=>none
 |_::_=>none
noncomputable def nP(y:D):List D->Nat->Option Nat
 |[],_=>none
 |d::r,k=>if eqD d y=true then some k else nP y r (k+1)
noncomputable def t7(n:Nat)(i:Int):Nat:=if i < 0 then (i+n).toNat else min i.toNat n
noncomputable def tyB:BM->D->MH->Bool
 |.index,x,M=>(ai M x).isSome
 |.get,x,M=>(d5 M x).isSome||(cP M x).isSome
noncomputable def rBm:BM->D->List D->MH->VK3->Prop
 |.index,x,ys,M,Q=>match ai M x,ys with
  |some ds,[y]=>(pl (res M y)=true/\pls ds=true)/\(match nP (res M y) ds 0 with
   |some k=>Q (.int k) M
   |none=>False)
  |_,_=>False
 |.get,x,ys,M,Q=>match ys with
  |[y]=>match dI M x y with
   |some o=>Q (o.getD .non) M
   |none=>False
  |[y,z]=>match dI M x y with
   |some o=>Q (o.getD z) M
   |none=>False
  |_=>False
noncomputable def cJ(k:List Int):D:=.tup (k.map D.int)
noncomputable def rBi:BI->List D->MH->VK3->Prop
 |.len,xs,M,Q=>match xs with
  |[x]=>match ay M x with
   |some ds=>Q (.int ds.length) M
   |none=>match cP M x with
    |some (ks,_)=>Q (.int ks.length) M
    |none=>match x with
     |.str z=>z.length<=sizeLine/\Q (.int z.length) M
     |_=>False
  |_=>False
 |.max,xs,M,Q=>match xs with
  |[.int i,.int j]=>Q (.int (if j > i then j else i)) M
  |_=>False
 |.min,xs,M,Q=>match xs with
  |[.int i,.int j]=>Q (.int (if j < i then j else i)) M
  |_=>False
 |.list fz,xs,M,Q=>match xs with
  |[x]=>match ay M x with
   |some ds=>aW fz ds M Q
   |none=>match cP M x with
    |some (ks,_)=>aW fz (ks.map cJ) M Q
    |none=>False
  |_=>False
 |.all,xs,M,Q=>match xs with
  |[x]=>match ai M x with
   |some ds=>match c6 ds with
    |some bs=>Q (.bl (bs.all id)) M
    |none=>False
   |none=>False
  |_=>False
 |.any,xs,M,Q=>match xs with
  |[x]=>match ai M x with
   |some ds=>match c6 ds with
    |some bs=>Q (.bl (bs.any id)) M
    |none=>False
   |none=>False
  |_=>False
noncomputable def dn(t:BT)(x:D)(M:MH)(Q:VK3):Prop:=match x with
 |.non=>Q (.bl false) M
 |.bl _=>Q (.bl (match t with|.int=>true|.bool=>true|_=>false)) M
 |.int _=>Q (.bl (match t with|.int=>true|_=>false)) M
 |.str _=>Q (.bl (match t with|.str=>true|_=>false)) M
 |.tup _=>Q (.bl (match t with|.tuple=>true|_=>false)) M
 |.rol _=>Q (.bl (match t with|.list=>true|_=>false)) M
 |.ref a=>match M a with
  |some (.lst _)=>Q (.bl (match t with|.list=>true|_=>false)) M
  |some (.dk _ _)=>Q (.bl (match t with|.dict=>true|_=>false)) M
  |some (.dt _ _)=>Q (.bl (match t with|.dict=>true|_=>false)) M
  |_=>False
 |.dik _ _=>Q (.bl (match t with|.dict=>true|_=>false)) M
 |.dit _ _=>Q (.bl (match t with|.dict=>true|_=>false)) M
 |.obj _ _ _ _=>False
noncomputable def zu(ne:Nat)(cls:Nat->Addr)(r:Nat->Bool)(x:D)(M:MH)(Q:VK3):Prop:=match x with
 |.ref a=>match M a with
  |some (.exc i v)=>i.c < ne/\v=.ref (cls i.c)/\Q (.bl (r i.c)) M
  |_=>False
 |_=>False
noncomputable def bO:List D->Option (List Int)
 |[]=>some []
 |.int i::r=>match bO r with
  |some ns=>some (i::ns)
  |none=>none
 |_::_=>none
noncomputable def mmI(mx:Bool)(a b:Int):Int:=if mx=true then (if b > a then b else a) else (if b < a then b else a)
noncomputable def rMM(mx dflt:Bool)(x:D)(M:MH)(Q:VK3):Prop:=match ai M x with
 |some ds=>match bO ds with
  |some []=>dflt=true/\Q .non M
  |some (n::ns)=>Q (.int (ns.foldl (mmI mx) n)) M
  |none=>False
 |none=>False
noncomputable def rSm(x:D)(M:MH)(Q:VK3):Prop:=match ai M x with
 |some ds=>match bO ds with
  |some ns=>Q (.int ns.sum) M
  |none=>False
 |none=>False
noncomputable def rLg(fz:Bool)(x:D)(M:MH)(Q:VK3):Prop:=match x with
 |.int j=>(-(2 ^ 62)<=j/\j<=2 ^ 20)/\aW fz (rng 0 j.toNat) M Q
 |_=>False
noncomputable def lc(mx:Bool)(x:D)(M:MH)(Q:VK3):Prop:=match ai M x with
 |some ds=>match bO ds with
  |some []=>Q (.int 0) M
  |some (n::ns)=>Q (.int (ns.foldl (mmI mx) n)) M
  |none=>False
 |none=>False
noncomputable def ow(fz:Bool)(x:D)(M:MH)(Q:VK3):Prop:=match ai M x with
 |some ds=>aW fz ds.reverse M Q
 |none=>False
noncomputable def yW(p:Addr)(x y:D)(M:MH)(Q:VK3):Prop:=match x with
 |.int i=>M p=some (.dk [] [])/\Q (.ref p) (put M p (.dk [.inl i] [y]))
 |_=>False
noncomputable def fH(p:Addr)(x y:D)(M:MH)(Q:VK3):Prop:=match qm x with
 |some k=>M p=some (.dt [] [])/\Q (.ref p) (put M p (.dt [k] [y]))
 |none=>False
structure WB where
 ne:Nat
 cls:Nat->Addr
 sub:Nat->Nat->Bool
 nk:Nat
 kls:Nat->Addr
 ksub:Nat->Nat->Bool
 fok:Nat->Nat->Bool
 mth:Nat->Nat->Option Nat
 ini:Nat->Option Nat
 xin:Nat->Option Nat
 glo:Nat->D
 fad:Nat->Addr
structure WC extends WB where
 call:Nat->List D->MH->VK3->XN->Prop
noncomputable def bc(f:Nat):List Nat->List D->Option D
 |n::ns,d::ds=>if n=f then some d else bc f ns ds
 |_,_=>none
noncomputable def bx(f:Nat):List Nat->List Nat
 |n::ns=>if n=f then n::ns else n::bx f ns
 |[]=>[f]
noncomputable def bz(f:Nat)(y:D):List Nat->List D->List D
 |n::ns,d::ds=>if n=f then y::ds else d::bz f y ns ds
 |_,_=>[y]
noncomputable def jn(f:Nat)(ns:List Nat)(ds:List D)(M:MH)(Q:VK3):Prop:=match bc f ns ds with
 |some d=>Q d M
 |none=>False
noncomputable def fX(B:WB)(f:Nat)(x:D)(M:MH)(Q:VK3):Prop:=match x with
 |.obj i C ns ds=>(C=B.kls i/\i < B.nk/\B.fok i f=true)/\jn f ns ds M Q
 |.ref a=>match M a with
  |some (.ins i C ns ds)=>(C=B.kls i/\i < B.nk/\B.fok i f=true)/\jn f ns ds M Q
  |_=>False
 |_=>False
noncomputable def rXf(B:WB)(f:Nat)(x:D)(M:MH)(Q:VK3):Prop:=match x with
 |.ref a=>match M a with
  |some (.exc i v)=>(v=.ref (B.cls i.c)/\i.c < B.ne/\B.xin i.c=some f)/\(match i.pl with
   |some (g,y)=>g=f/\Q y M
   |none=>False)
  |_=>False
 |_=>False
noncomputable def dq(o:Option Nat)(R:Nat->Prop):Prop:=match o with
 |some f=>R f
 |none=>False
noncomputable def eU(B:WB)(m:Nat)(x:D)(M:MH)(R:Nat->Prop):Prop:=match x with
 |.obj i C ns ds=>(C=B.kls i/\i < B.nk/\bc m ns ds=none)/\dq (B.mth i m) R
 |.ref a=>match M a with
  |some (.ins i C ns ds)=>(C=B.kls i/\i < B.nk/\bc m ns ds=none)/\dq (B.mth i m) R
  |_=>False
 |_=>False
noncomputable def CC(B:WB)(j:Nat)(x:D)(M:MH)(Q:VK3):Prop:=match x with
 |.obj i C _ _=>(C=B.kls i/\i < B.nk/\j < B.nk)/\Q (.bl (B.ksub i j)) M
 |.ref a=>match M a with
  |some (.ins i C _ _)=>(C=B.kls i/\i < B.nk/\j < B.nk)/\Q (.bl (B.ksub i j)) M
  |_=>False
 |_=>False
noncomputable def dP(Q:VK3):VK3:=fun x M=>match x with
 |.ref a=>match M a with
  |some (.lst ds)=>Q (.rol ds) (del M a)
  |_=>False
 |_=>False
noncomputable def br:List D->MH->(List D->MH->Prop)->Prop
 |[],M,R=>R [] M
 |d::ds,M,R=>match d with
  |.ref a=>match M a with
   |some (.lst es)=>br ds (del M a) fun r M'=>R (.rol es::r) M'
   |some (.dk ks es)=>br ds (del M a) fun r M'=>R (.dik ks es::r) M'
   |some (.dt ks es)=>br ds (del M a) fun r M'=>R (.dit ks es::r) M'
   |_=>br ds M fun r M'=>R (.ref a::r) M'
  |d=>br ds M fun r M'=>R (d::r) M'
noncomputable def bp(Q:VK3):VK3:=fun x M=>match x with
 |.ref a=>match M a with
  |some (.lst ds)=>Q (.rol ds) (del M a)
  |some (.dk ks ds)=>Q (.dik ks ds) (del M a)
  |some (.dt ks ds)=>Q (.dit ks ds) (del M a)
  |some (.ins i C ns ds)=>br ds (del M a) fun r M'=>Q (.obj i C ns r) M'
  |_=>False
 |_=>False
noncomputable def wpG:ITg->D->St3->MH->(St3->MH->Prop)->Prop
 |.name i,d,σ,M,Q=>Q (σ.set i (some d)) M
 |.tup is,d,σ,M,Q=>match d with
  |.tup ds=>ds.length=is.length/\Q ((is.zip ds).foldl (fun σ p=>σ.set p.1 (some p.2)) σ) M
  |_=>False
noncomputable def aK(js:List (Option Nat))(σ:St3):St3:=js.map fun o=>o.bind fun j=>(σ[j]?).bind id
noncomputable def cx(g:D->St3->MH->(St3->MH->Prop)->Prop)(tt:St3->MH->(Bool->MH->Prop)->Prop)(te:St3->MH->VK3->Prop)(S:MH->Prop)(p:Addr)(Q:VK3):List D->List D->St3->MH->Prop
 |[],_,_,M=>S M/\Q (.ref p) M
 |d::r,ys,σ,M=>S M/\ys.length < sizeLine/\g d σ M fun σ2 M2=>tt σ2 M2 fun b M3=>if b=true then te σ2 M3 fun y M4=>M4 p=some (.lst ys)/\cx g tt te S p Q r (ys++[y]) σ2 (put M4 p (.lst (ys++[y]))) else cx g tt te S p Q r ys σ2 M3
noncomputable def bh(x k y:D)(M:MH)(R:MH->Prop):Prop:=match x with
 |.ref a=>match M a,k with
  |some (.lst ds),.int i=>(match ixN ds.length i with
   |some j=>R (put M a (.lst (ds.set j y)))
   |none=>False)
  |some (.dk ks ds),k=>(match vd k with
   |some q=>ks.length < sizeLine/\R (put M a (.dk (ak ks q) (aN ks ds q y)))
   |none=>False)
  |some (.dt ks ds),k=>(match qm k with
   |some q=>ks.length < sizeLine/\R (put M a (.dt (ak ks q) (aN ks ds q y)))
   |none=>False)
  |_,_=>False
 |_=>False
noncomputable def aG(ks:List (List Int))(ds:List D):List D:=(ks.zip ds).map fun p=>.tup [.tup (p.1.map D.int),p.2]
noncomputable def cpF(f:Nat):Bool:=f == 217822450
noncomputable def rXp(f:Nat)(y:D)(M:MH)(R:D->Prop):Prop:=if cpF f=true then (match ai M y with
 |some ds=>R (.rol ds)
 |none=>False) else R y
noncomputable def rLr(fz:Bool)(x:D)(M:MH)(Q:VK3):Prop:=match ai M x with
 |some ds=>aW fz ds.reverse M Q
 |none=>False
noncomputable def fV(x:D)(M:MH)(R:Addr->List (List Int)->List D->Prop):Prop:=match x with
 |.ref d=>match M d with
  |some (.dt ks es)=>R d ks es
  |_=>False
 |_=>False
noncomputable def fq(d:Addr)(φ:Heap->Prop)(ks:List (List Int))(es:List D)(D:Ends3):Ends3:=
 ⟨fun σ M=>M d=some (.stl φ)/\D.nx σ (put M d (.dt ks es)),fun v M=>M d=some (.stl φ)/\D.rt v (put M d (.dt ks es)),fun σ M=>M d=some (.stl φ)/\D.bk σ (put M d (.dt ks es)),fun σ M=>M d=some (.stl φ)/\D.ct σ (put M d (.dt ks es))⟩
section
variable (W:WC)
mutual
noncomputable def wpE:IE->St3->MH->VK3->XN->Prop
 |.var i,σ,M,Q,_=>match σ[i]? with
  |some (some d)=>Q d M
  |_=>False
 |.con d,_,M,Q,_=>Q d M
 |.bin op a b,σ,M,Q,E=>wpE a σ M (fun x M1=>wpE b σ M1 (fun y M2=>d8 op x y M2 Q) E) E
 |.neg a,σ,M,Q,E=>wpE a σ M (fun x M1=>rNeg x M1 Q) E
 |.cat fz a b,σ,M,Q,E=>wpE a σ M (fun x M1=>wpE b σ M1 (fun y M2=>cr fz x y M2 Q) E) E
 |.cmp op a b,σ,M,Q,E=>wpE a σ M (fun x M1=>wpE b σ M1 (fun y M2=>ao op x y M2 Q) E) E
 |.and a b,σ,M,Q,E=>wpE a σ M (fun x M1=>match x with
  |.bl c=>if c=true then wpE b σ M1 Q E else Q (.bl false) M1
  |_=>False) E
 |.or a b,σ,M,Q,E=>wpE a σ M (fun x M1=>match x with
  |.bl c=>if c=true then Q (.bl true) M1 else wpE b σ M1 Q E
  |_=>False) E
 |.not a,σ,M,Q,E=>wpE a σ M (fun x M1=>match x with
  |.bl c=>Q (.bl (!c)) M1
  |_=>False) E
 |.ifx c a b,σ,M,Q,E=>wpT c σ M (fun k M1=>if k=true then wpE a σ M1 Q E else wpE b σ M1 Q E) E
 |.tup es,σ,M,Q,E=>wpA es σ M (fun xs M1=>xs.length<=sizeLine/\Q (.tup xs) M1) E
 |.lst fz es,σ,M,Q,E=>wpA es σ M (fun xs M1=>aW fz xs M1 Q) E
 |.frz e,σ,M,Q,E=>wpE e σ M (bp Q) E
 |.ix a b,σ,M,Q,E=>wpE a σ M (fun x M1=>wpE b σ M1 (fun y M2=>am x y M2 Q) E) E
 |.sl fz a lo hi,σ,M,Q,E=>wpE a σ M (fun x M1=>wpO lo σ M1 (fun l M2=>wpO hi σ M2 (fun h M3=>iC fz x l h M3 Q) E) E) E
 |.call f es,σ,M,Q,E=>wpA es σ M (fun xs M1=>W.call f xs M1 Q E) E
 |.bi b es,σ,M,Q,E=>wpA es σ M (fun xs M1=>rBi b xs M1 Q) E
 |.isB e t,σ,M,Q,E=>wpE e σ M (fun x M1=>dn t x M1 Q) E
 |.rev fz e,σ,M,Q,E=>wpE e σ M (fun x M1=>ow fz x M1 Q) E
 |.dctT k v,σ,M,Q,E=>∀p,M p=none->wpE k σ (put M p (.dt [] [])) (fun x M1=>wpE v σ M1 (fun y M2=>fH p x y M2 Q) E) E
 |.comp fz _ js tg it cond elt,σ,M,Q,E=>wpI it σ M (fun ds S M1=>∀p,M1 p=none->
   cx (wpG tg) (fun σ M Q=>gW cond σ M Q (fun _ _=>False)) (fun σ M Q=>wpE elt σ M Q (fun _ _=>False)) S p (if fz=true then dP Q else Q) ds [] (aK js σ) (put M1 p (.lst []))) E
 |.mmz mx e,σ,M,Q,E=>wpE e σ M (fun x M1=>lc mx x M1 Q) E
 |.lrng fz e,σ,M,Q,E=>wpE e σ M (fun x M1=>rLg fz x M1 Q) E
 |.sm e,σ,M,Q,E=>wpE e σ M (fun x M1=>rSm x M1 Q) E
 |.fld e f,σ,M,Q,E=>wpE e σ M (fun x M1=>fX W.toWB f x M1 Q) E
 |.xfld e f,σ,M,Q,E=>wpE e σ M (fun x M1=>rXf W.toWB f x M1 Q) E
 |.make fz i es,σ,M,Q,E=>wpA es σ M (fun xs M1=>i < W.nk/\dq (W.ini i) fun f=>∀p,M1 p=none->
   W.call f (.ref p::xs) (put M1 p (.ins i (W.kls i) [] [])) (fun v M2=>v=.non/\if fz=true then bp Q (.ref p) M2 else Q (.ref p) M2) (fun i M'=>E i (del M' p))) E
 |.meth e m es,σ,M,Q,E=>wpE e σ M (fun x M1=>eU W.toWB m x M1 fun f=>wpA es σ M1 (fun xs M2=>W.call f (x::xs) M2 Q E) E) E
 |.bm b o es,σ,M,Q,E=>wpE o σ M (fun x M1=>tyB b x M1=true/\wpA es σ M1 (fun xs M2=>rBm b x xs M2 Q) E) E
 |.dnew tk,_,M,Q,_=>∀p,M p=none->Q (.ref p) (put M p (if tk=true then .dt [] [] else .dk [] []))
 |.lrev fz a,σ,M,Q,E=>wpE a σ M (fun x M1=>rLr fz x M1 Q) E
noncomputable def wpT:IT->St3->MH->(Bool->MH->Prop)->XN->Prop
 |.val e,σ,M,Q,E=>wpE e σ M (fun x M1=>match x with
  |.bl k=>Q k M1
  |_=>False) E
 |.cmp op a b,σ,M,Q,E=>wpE a σ M (fun x M1=>wpE b σ M1 (fun y M2=>ao op x y M2 fun r M3=>match r with
  |.bl k=>Q k M3
  |_=>False) E) E
 |.chain op op' a b c,σ,M,Q,E=>wpE a σ M (fun x M1=>wpE b σ M1 (fun y M2=>ao op x y M2 fun r M3=>match r with
  |.bl k=>if k=true then wpE c σ M3 (fun z M4=>ao op' y z M4 fun r M5=>match r with
   |.bl k=>Q k M5
   |_=>False) E else Q false M3
  |_=>False) E) E
 |.chain3 op op' op'' a b c d,σ,M,Q,E=>wpE a σ M (fun x M1=>wpE b σ M1 (fun y M2=>ao op x y M2 fun r M3=>match r with
  |.bl k=>if k=true then wpE c σ M3 (fun z M4=>ao op' y z M4 fun r M5=>match r with
   |.bl k=>if k=true then wpE d σ M5 (fun u M6=>ao op'' z u M6 fun r M7=>match r with
    |.bl k=>Q k M7
    |_=>False) E else Q false M5
   |_=>False) E else Q false M3
  |_=>False) E) E
 |.and a b,σ,M,Q,E=>wpT a σ M (fun c M1=>if c=true then wpT b σ M1 Q E else Q false M1) E
 |.or a b,σ,M,Q,E=>wpT a σ M (fun c M1=>if c=true then Q true M1 else wpT b σ M1 Q E) E
 |.not a,σ,M,Q,E=>wpT a σ M (fun c M1=>Q (!c) M1) E
noncomputable def wpA:IA->St3->MH->(List D->MH->Prop)->XN->Prop
 |.nil,_,M,Q,_=>Q [] M
 |.cons e r,σ,M,Q,E=>wpE e σ M (fun x M1=>wpA r σ M1 (fun xs M2=>Q (x::xs) M2) E) E
noncomputable def wpO:IO->St3->MH->(Option Int->MH->Prop)->XN->Prop
 |.no,_,M,Q,_=>Q none M
 |.yes e,σ,M,Q,E=>wpE e σ M (fun x M1=>match x with
  |.int i=>Q (some i) M1
  |_=>False) E
noncomputable def gW:ITO->St3->MH->(Bool->MH->Prop)->XN->Prop
 |.no,_,M,Q,_=>Q true M
 |.yes e,σ,M,Q,E=>wpT e σ M Q E
noncomputable def wpI:II->St3->MH->(List D->(MH->Prop)->MH->Prop)->XN->Prop
 |.seq e,σ,M,R,E=>wpE e σ M (fun x M1=>match x with
  |.tup ds=>R ds (fun _=>True) M1
  |.rol ds=>R ds (fun _=>True) M1
  |.ref a=>match M1 a with
   |some (.lst ds)=>R ds (fun M=>M a=some (.lst ds)) M1
   |_=>False
  |.str z=>R (eJ z) (fun _=>True) M1
  |_=>False) E
 |.rng1 a,σ,M,R,E=>wpE a σ M (fun x M1=>match x with
  |.int j=>-(2 ^ 62)<=j/\j < 2 ^ 62/\R (rng 0 j.toNat) (fun _=>True) M1
  |_=>False) E
end
noncomputable def bK(g:D->St3->MH->(St3->MH->Prop)->Prop)(tb:Ends3->St3->MH->Prop)(S:MH->Prop)(D:Ends3):List L2.D->St3->MH->Prop
 |[],σ,M=>S M/\D.nx σ M
 |d::r,σ,M=>S M/\g d σ M fun σ2 M2=>tb {D with nx:=bK g tb S D r,ct:=bK g tb S D r,bk:=D.nx} σ2 M2
noncomputable def fB(D:Ends3)(i:Nat):Ends3:=⟨fun σ M=>D.nx (σ.set i none) M,D.rt,fun σ M=>D.bk (σ.set i none) M,fun σ M=>D.ct (σ.set i none) M⟩
mutual
noncomputable def wpS:IS->Ends3->(St3->XN)->St3->MH->Prop
 |.set i e,D,E,σ,M=>wpE W e σ M (fun x M1=>D.nx (σ.set i (some x)) M1) (E σ)
 |.expr e,D,E,σ,M=>wpE W e σ M (fun _ M1=>D.nx σ M1) (E σ)
 |.ret e,D,E,σ,M=>wpE W e σ M D.rt (E σ)
 |.retN,D,_,_,M=>D.rt .non M
 |.ifs c a b,D,E,σ,M=>wpT W c σ M (fun k M1=>if k=true then aq a D E σ M1 else aq b D E σ M1) (E σ)
 |.for_ tg it body,D,E,σ,M=>wpI W it σ M (fun ds S M1=>bK (wpG tg) (fun D σ M=>aq body D E σ M) S D ds σ M1) (E σ)
 |.whl c body,D,E,σ,M=>∃P:Nat->St3->MH->Prop,(∃m,P m σ M)/\∀m σ M,P m σ M->wpT W c σ M (fun b M1=>if b=true then
   aq body {D with nx:=fun σ' M'=>∃m',m' < m/\P m' σ' M',ct:=fun σ' M'=>∃m',m' < m/\P m' σ' M',bk:=D.nx} E σ M1 else D.nx σ M1) (E σ)
 |.raiseI c es,_,E,σ,M=>wpA W es σ M (fun xs M1=>match xs with
  |[y]=>dq (W.xin c) fun f=>rXp f y M1 fun y'=>E σ ⟨c,some (f,y')⟩ M1
  |_=>False) (E σ)
 |.try_ body hs,D,E,σ,M=>aq body D (fun σ' i M'=>wpH hs i D σ' M') σ M
 |.app o e,D,E,σ,M=>wpE W o σ M (fun x M1=>match x with
  |.ref a=>match M1 a with
   |some (.lst _)=>wpE W e σ M1 (fun y M2=>match M2 a with
    |some (.lst ds)=>ds.length < sizeLine/\D.nx σ (put M2 a (.lst (ds++[y])))
    |_=>False) (E σ)
   |_=>False
  |_=>False) (E σ)
 |.del i,D,_,σ,M=>match σ[i]? with
  |some (some (.ref a))=>D.nx σ (L2.del M a)
  |_=>False
 |.fset o f e,D,E,σ,M=>wpE W e σ M (fun y M1=>wpE W o σ M1 (fun x M2=>match x with
  |.ref a=>match M2 a with
   |some (.ins i C ns ds)=>(C=W.kls i/\i < W.nk/\W.fok i f=true/\ns.length < 1000)/\D.nx σ (put M2 a (.ins i C (bx f ns) (bz f y ns ds)))
   |_=>False
  |_=>False) (E σ)) (E σ)
 |.ixset o i e,D,E,σ,M=>wpE W e σ M (fun y M1=>wpE W o σ M1 (fun x M2=>wpE W i σ M2 (fun k M3=>bh x k y M3 fun M4=>D.nx σ M4) (E σ)) (E σ)) (E σ)
 |.dead,_,_,_,_=>False
 |.forD tg o body,D,E,σ,M=>wpE W o σ M (fun x M1=>fV x M1 fun d ks es=>∀φ,bK (wpG tg) (fun D σ M=>aq body D (fun _ _ _=>False) σ M) (fun M=>M d=some (.stl φ)) (fq d φ ks es D) (aG ks es) σ (put M1 d (.stl φ))) (E σ)
 |.forK tg o body,D,E,σ,M=>wpE W o σ M (fun x M1=>fV x M1 fun d ks es=>∀φ,bK (wpG tg) (fun D σ M=>aq body D (fun _ _ _=>False) σ M) (fun M=>M d=some (.stl φ)) (fq d φ ks es D) (ks.map cJ) σ (put M1 d (.stl φ))) (E σ)
noncomputable def aq:ISs->Ends3->(St3->XN)->St3->MH->Prop
 |.nil,D,_,σ,M=>D.nx σ M
 |.cons s r,D,E,σ,M=>wpS s {D with nx:=fun σ' M'=>aq r D E σ' M'} E σ M
noncomputable def wpH:IHs->XE->Ends3->St3->MH->Prop
 |.nil,_,_,_,_=>False
 |.cons c nm body r,i,D,σ,M=>i.c < W.ne/\if W.sub i.c c=true then (match nm with
  |none=>aq body D (fun _ _ _=>False) σ M
  |some j=>∀a,M a=none->aq body (fB D j) (fun _ _ _=>False) (σ.set j (some (.ref a))) (put M a (.exc i (.ref (W.cls i.c))))) else wpH r i D σ M
end
end
end L2
namespace L2
open PySem PySem.Spec PyProof.Rows
noncomputable def LkE(K:PySem.W.Frag)(cls:Nat->Addr)(H:Hp)(E3:XN)(E:XK):Prop:=∀i M' H',TM K H H'->RelM K M' H'->E3 i M'->∀dx,XD K H' i dx->E (.ref (cls i.c)) dx H'
noncomputable def LkS(K:PySem.W.Frag)(cls:Nat->Addr)(H:Hp)(E3:St3->XN)(E2:St->XK):Prop:=∀σ3 σ i M' H',TM K H H'->DenS K H' σ3 σ->RelM K M' H'->E3 σ3 i M'->∀dx,XD K H' i dx->E2 σ (.ref (cls i.c)) dx H'
section
variable {K:PySem.W.Frag}
theorem LkE.mono(h:LkE K cls H E3 E)(t:TM K H H1):LkE K cls H1 E3 E:=fun i M' H' t' r q=>h i M' H' (t.trans t') r q
theorem LkS.mono(h:LkS K cls H E3 E2)(t:TM K H H1):LkS K cls H1 E3 E2:=fun σ3 σ i M' H' t' d r q=>h σ3 σ i M' H' (t.trans t') d r q
theorem LkS.at(h:LkS K cls H E3 E2)(ds:DenS K H σ3 σ):LkE K cls H (E3 σ3) (E2 σ):=fun i M' H' t r q=>h σ3 σ i M' H' t (ds.mono t) r q
theorem LkE.no:LkE K cls H (fun _ _=>False) E:=fun _ _ _ _ _ h=>h.elim
theorem Back.mono(h:Back K H Q Q2)(t:TM K H H1):Back K H1 Q Q2:=fun v H' d M' a b c e=>h v H' d M' a b (t.trans c) e
end
section
variable (K:PySem.W.Frag) (cls:Nat->Addr) (E2:St->XK)
noncomputable def low(t:St3->MH->VK3->XN->Prop):TE:=fun σ H Q2=>∃σ3 M Q E3,RelM K M H/\DenS K H σ3 σ/\LkE K cls H E3 (E2 σ)/\t σ3 M Q E3/\Back K H Q Q2
noncomputable def bw(t:St3->MH->(Bool->MH->Prop)->XN->Prop):TT:=fun σ H Q2=>∃σ3 M Q E3,RelM K M H/\DenS K H σ3 σ/\LkE K cls H E3 (E2 σ)/\t σ3 M Q E3/\∀b H' M',RelM K M' H'->TM K H H'->Q b M'->Q2 b H'
noncomputable def cT(t:St3->MH->(List D->MH->Prop)->XN->Prop):TA:=fun σ H Q2=>∃σ3 M Q E3,RelM K M H/\DenS K H σ3 σ/\LkE K cls H E3 (E2 σ)/\t σ3 M Q E3/\∀vs H' ds M',DenL K H' ds vs->RelM K M' H'->TM K H H'->Q ds M'->Q2 vs H'
noncomputable def n8(t:St3->MH->(Option Int->MH->Prop)->XN->Prop):TO:=fun σ H Q2=>∃σ3 M Q E3,RelM K M H/\DenS K H σ3 σ/\LkE K cls H E3 (E2 σ)/\t σ3 M Q E3/\∀o H' M',RelM K M' H'->TM K H H'->Q o M'->Q2 o H'
noncomputable def nK(t:St3->MH->(List D->(MH->Prop)->MH->Prop)->XN->Prop):TI:=fun σ H R2=>∃σ3 M R E3,RelM K M H/\DenS K H σ3 σ/\LkE K cls H E3 (E2 σ)/\t σ3 M R E3/\∀J H' ds S M',ItOk K H' J ds S->RelM K M' H'->TM K H H'->R ds S M'->R2 J H'
noncomputable def aP(t:Ends3->(St3->XN)->St3->MH->Prop):TS:=fun D2 σ H=>∃σ3 M D3 E3,RelM K M H/\DenS K H σ3 σ/\LkS K cls H E3 E2/\t D3 E3 σ3 M/\ER K H D3 D2
noncomputable def lq(t:D->St3->MH->(St3->MH->Prop)->Prop):TG:=fun v σ H Q2=>∃d σ3 M Q,Den K H d v/\RelM K M H/\DenS K H σ3 σ/\t d σ3 M Q/\BackS K H Q Q2
end
section
variable {X:Cx}{st:Stmt}
theorem PE.imp(h:PE X e t)(f:∀σ H Q,t' σ H Q->t σ H Q):PE X e t':=fun pins s σ H Q I q=>h pins s σ H Q I (f σ H Q q)
theorem PT.imp(h:PT X e t)(f:∀σ H Q,t' σ H Q->t σ H Q):PT X e t':=fun pins s σ H Q I q=>h pins s σ H Q I (f σ H Q q)
theorem PW.imp(h:PW X e t)(f:∀σ H Q,t' σ H Q->t σ H Q):PW X e t':=fun whole pins s σ H Q I q=>h whole pins s σ H Q I (f σ H Q q)
theorem PA.imp(h:PA X es t)(f:∀σ H Q,t' σ H Q->t σ H Q):PA X es t':=fun pos pins s σ H Q I q=>h pos pins s σ H Q I (f σ H Q q)
theorem PO.imp(h:PO X o t)(f:∀σ H Q,t' σ H Q->t σ H Q):PO X o t':=fun pins s σ H Q I q=>h pins s σ H Q I (f σ H Q q)
theorem PI.imp(h:PI X tg e t)(f:∀σ H Q,t' σ H Q->t σ H Q):PI X tg e t':=fun pins s σ H Q I q=>h pins s σ H Q I (f σ H Q q)
theorem PS.imp(h:PS X st t)(f:∀D σ H,t' D σ H->t D σ H):PS X st t':=fun pins s σ H D I q=>h pins s σ H D I (f D σ H q)
theorem PSs.imp(h:PSs X sts t)(f:∀D σ H,t' D σ H->t D σ H):PSs X sts t':=fun pins s σ H D I q=>h pins s σ H D I (f D σ H q)
theorem PG.imp(h:PG X e t)(f:∀v σ H Q,t' v σ H Q->t v σ H Q):PG X e t':=fun pins s σ H v u Q I r q=>h pins s σ H v u Q I r (f v σ H Q q)
end
section
variable {X:Cx}{s:Shared}
theorem HOk.freeze(x:HOk P w H h)(e:H a=some (.lst xs)):∃o,HOk P w (upd H a (.frz o (.lst xs))) h:=by
 obtain⟨o,ho⟩:=(x a _ e).isAt;refine⟨o,fun b u q=>?_⟩
 have own:∀c y,H c=some (.own y)->(upd H a (.frz o (.lst xs))) c=some (.own y):=fun c y z=>by
  rw[aa (cq z e (fun w=>nomatch w))];exact z
 have tup:∀c ys,H c=some (.tup ys)->(upd H a (.frz o (.lst xs))) c=some (.tup ys):=fun c ys z=>by
  rw[aa (cq z e (fun w=>nomatch w))];exact z
 by_cases hb:b=a
 ·subst hb;rw[ae]at q;cases q;exact⟨ho,(x b _ e).stay (fun _ _ _ q=>q) (fun c z=>own c _ z) fun c ys z=>tup c ys z⟩
 ·rw[aa hb]at q;exact (x b u q).stay (fun _ _ _ q=>q) (fun c z=>own c _ z) fun c ys z=>tup c ys z
theorem Inv.freeze(I:Inv X pins σ H s)(e:H a=some (.lst xs)):∃o,Inv X pins σ (upd H a (.frz o (.lst xs))) s:=by
 obtain⟨o,ok⟩:=I.hok.freeze e;have ne:∀b,H b=none->b≠a:=fun b z=>fun q=>by rw[q,e]at z;cases z
 refine⟨o,⟨I.ok,I.os,I.bare,⟨I.base.keep,I.base.slot,fun b ob q n hx=>?_,I.base.there,fun b ys q=>?_,fun b ob u q=>?_,fun b ps q=>?_⟩,I.loc,I.cell,?_,fun x c z=>?_,fun p hp=>?_,ok,I.len⟩⟩
 ·have z:=I.base.free b ob q n hx;rw[aa (ne b z)];exact z
 ·have z:=I.base.tups b ys q;rw[aa (cq z e (fun w=>nomatch w))];exact z
 ·have z:=I.base.frzs b ob u q;rw[aa (cq z e (fun w=>nomatch w))];exact z
 ·obtain⟨more,z⟩:=I.base.tbls b ps q;exact⟨more,by rw[aa (cq z e (fun w=>nomatch w))];exact z⟩
 ·rw[aa (ne _ I.free)];exact I.free
 ·rw[aa (ne _ (I.freeC x c z))];exact I.freeC x c z
 ·obtain⟨p1,p2,p3⟩:=I.pin p hp;exact⟨p1,by rw[aa (ne _ p2)];exact p2,p3⟩
end
section
variable {K:PySem.W.Frag}{xs:List V}
theorem TM.freeze(e:H a=some (.lst xs)):TM K H (upd H a (.frz o (.lst xs))):=
 .put e (fun _=>fun z=>nomatch z) fun _ _=>fun z=>nomatch z
theorem RelM.freeze(r:RelM K M H)(e:H a=some (.lst xs)):RelM K (del M a) (upd H a (.frz o (.lst xs))):=fun b u q=>by
 obtain⟨ne,q⟩:=gD q;exact (r b u q).stay (.freeze e) (aa ne)
theorem dO(h:DenL K H ds xs)(e:H a=some (.lst xs)):Den K (upd H a (.frz o (.lst xs))) (.rol ds) (.ref a):=⟨a,xs,rfl,.inl ⟨o,ae⟩,h.mono (.freeze e)⟩
end
theorem be{X:Cx}
  (I:Inv X pins σ (upd H p (.lst vs)) s) (hp:H p=none) (dl:DenL X.K H ds vs)(rm:RelM X.K M H)(tm:TM X.K H0 H)(h:aW fz ds M Q)(back:Back X.K H0 Q Q2):EP X pins σ Q2 (.ref p) s:=by
 obtain⟨_,h⟩:=h;cases fz with
 |true=>
  rw[if_pos rfl]at h;obtain⟨o,I2⟩:=I.freeze ae;refine⟨.ref p,_,I2,rfl,back _ _ _ _ (dO (o:=o) (dl.mono (.new hp)) ae) ?_ (tm.trans ((TM.new hp).trans (.freeze ae))) h⟩;have r2:RelM X.K (put M p (.lst ds)) (upd H p (.lst vs)):=rm.lay hp ⟨vs,ae,dl.mono (.new hp)⟩;have r3:=r2.freeze (o:=o) (xs:=vs) ae;rw[gg (rm.fresh hp)]at r3;exact r3
 |false=>
  rw[if_neg Bool.false_ne_true]at h;exact⟨.ref p,_,I,rfl,back _ _ _ _ eR (rm.lay (u:=.lst ds) hp ⟨vs,ae,dl.mono (.new hp)⟩) (tm.trans (.new hp)) (h p (rm.fresh hp))⟩
noncomputable def RdL(K:PySem.W.Frag)(H:Hp)(p:Addr)(vs:List V):Prop:=Rd H p (.lst vs)\/SqM K p vs
theorem RdL.sq{K:PySem.W.Frag}(h:RdL K H p vs):SqL K H p vs:=by
 rcases h with h|h
 ·exact .inl h
 ·exact h.sq
theorem SqF.rd{K:PySem.W.Frag}(h:SqF K H p vs):RdL K H p vs:=by
 rcases h with h|h
 ·exact .inl (.inr h)
 ·exact .inr h
theorem aE{K:PySem.W.Frag}(rm:RelM K M H)(h:ai M x=some ds)(dv:Den K H x v):∃p vs,v=.ref p/\RdL K H p vs/\DenL K H ds vs:=by
 cases x with
 |rol es=>
  cases (show es=ds from Option.some.inj h);obtain⟨p,vs,e,s,l⟩:=dv;exact⟨p,vs,e,s.rd,l⟩
 |ref a=>
  have h:(match M a with|some (.lst ds)=>some ds|_=>none)=some ds:=h
  split at h
  next es q=>
   cases h;obtain⟨vs,e,l⟩:=rm a _ q;exact⟨a,vs,dv,.inl (.inl e),l⟩
  next=>cases h
 |_=>cases h
theorem fg{K:PySem.W.Frag}(rm:RelM K M H)(h:ay M x=some ds)(dv:Den K H x v):∃p vs,v=.ref p/\(SqL K H p vs\/SqT K H p vs)/\DenL K H ds vs:=by
 cases x with
 |tup es=>
  cases (show es=ds from Option.some.inj h);obtain⟨p,vs,e,s,l⟩:=dv;exact⟨p,vs,e,.inr s,l⟩
 |rol es=>obtain⟨p,vs,e,s,l⟩:=aE rm (show ai M (.rol es)=some ds from h) dv;exact⟨p,vs,e,.inl s.sq,l⟩
 |ref a=>obtain⟨p,vs,e,s,l⟩:=aE rm (show ai M (.ref a)=some ds from h) dv;exact⟨p,vs,e,.inl s.sq,l⟩
 |_=>cases h
theorem Inv.rdL{X:Cx}{s:Shared}{xs:List V}(I:Inv X pins σ H s)(h:RdL X.K H l xs):xs.length<=sizeLine/\∃(its:List Value) (n:Nat),Vals xs its/\xs.length=its.length/\s.heap.get? l=some {cls:=.type "list",data:=.seq its.toArray n}:=by
 rcases h with h|⟨its,n,e,z,r⟩
 ·obtain⟨z,its,n,r,e⟩:=h.ok I.hok;exact⟨z,its,n,r,r.length,e⟩
 ·exact⟨by rw[r.length];exact z,its,n,r,r.length,I.kIn _ _ e⟩
noncomputable def pA:HO->Bool
 |.lst _=>true
 |.dK _=>true
 |.dT _=>true
 |.ins _ _ _=>true
 |.ext _=>true
 |_=>false
theorem jZ(h:pA u=true):(∀y,HO.own y≠u)/\(∀xs,HO.tup xs≠u)/\(∀o v,HO.frz o v≠u)/\∀ps,HO.tbl ps≠u:=by
 cases u<;>first
  |(cases h;done)
  |exact⟨fun _ z=>(by cases z),fun _ z=>(by cases z),fun _ _ z=>(by cases z),fun _ z=>(by cases z)⟩
section
variable {X:Cx}
theorem HOk.frzU(x:HOk P w H h)(e:H a=some u)(hu:pA u=true):∃o,HOk P w (upd H a (.frz o u)) h:=by
 obtain⟨n1,n2,_,_⟩:=jZ hu;obtain⟨o,ho⟩:=(x a _ e).isAt;refine⟨o,fun b v q=>?_⟩
 have own:∀c y,H c=some (.own y)->(upd H a (.frz o u)) c=some (.own y):=fun c y z=>by
  rw[aa (cq z e (n1 y))];exact z
 have tup:∀c ys,H c=some (.tup ys)->(upd H a (.frz o u)) c=some (.tup ys):=fun c ys z=>by
  rw[aa (cq z e (n2 ys))];exact z
 by_cases hb:b=a
 ·subst hb;rw[ae]at q;cases q;exact⟨ho,(x b _ e).stay (fun _ _ _ q=>q) (fun c z=>own c _ z) fun c ys z=>tup c ys z⟩
 ·rw[aa hb]at q;exact (x b v q).stay (fun _ _ _ q=>q) (fun c z=>own c _ z) fun c ys z=>tup c ys z
theorem Inv.frzU(I:Inv X pins σ H s)(e:H a=some u)(hu:pA u=true):∃o,Inv X pins σ (upd H a (.frz o u)) s:=by
 obtain⟨n1,n2,n3,n4⟩:=jZ hu;obtain⟨o,ok⟩:=I.hok.frzU e hu;have ne:∀b,H b=none->b≠a:=fun b z=>fun q=>by rw[q,e]at z;cases z
 refine⟨o,⟨I.ok,I.os,I.bare,⟨I.base.keep,I.base.slot,fun b ob q n hx=>?_,I.base.there,fun b ys q=>?_,fun b ob u q=>?_,fun b ps q=>?_⟩,I.loc,I.cell,?_,fun x c z=>?_,fun p hp=>?_,ok,I.len⟩⟩
 ·have z:=I.base.free b ob q n hx;rw[aa (ne b z)];exact z
 ·have z:=I.base.tups b ys q;rw[aa (cq z e (n2 _))];exact z
 ·have z:=I.base.frzs b ob u q;rw[aa (cq z e (n3 _ _))];exact z
 ·obtain⟨more,z⟩:=I.base.tbls b ps q;exact⟨more,by rw[aa (cq z e (n4 _))];exact z⟩
 ·rw[aa (ne _ I.free)];exact I.free
 ·rw[aa (ne _ (I.freeC x c z))];exact I.freeC x c z
 ·obtain⟨p1,p2,p3⟩:=I.pin p hp;exact⟨p1,by rw[aa (ne _ p2)];exact p2,p3⟩
end
section
variable {K:PySem.W.Frag}
theorem TM.frzU(e:H a=some u)(hu:pA u=true):TM K H (upd H a (.frz o u)):=by
 obtain⟨_,n2,n3,_⟩:=jZ hu;exact .put e (fun xs z=>n2 xs z.symm) fun ob v z=>n3 ob v z.symm
theorem RelM.frzU(r:RelM K M H)(e:H a=some u)(hu:pA u=true):RelM K (del M a) (upd H a (.frz o u)):=fun b v q=>by
 obtain⟨ne,q⟩:=gD q;exact (r b v q).stay (.frzU e hu) (aa ne)
end
noncomputable def fzD:DO->D
 |.lst ds=>.rol ds
 |.dk ks ds=>.dik ks ds
 |.dt ks ds=>.dit ks ds
 |.ins i C ns ds=>.obj i C ns ds
 |.exc _ _=>.non
 |.stl _=>.non
theorem db{X:Cx}(I:Inv X pins σ H s)(rm:RelM X.K M H)(e:M a=some o)(ho:(∀i c,o≠.exc i c)/\∀φ,o≠.stl φ) :
  ∃H',Inv X pins σ H' s/\TM X.K H H'/\RelM X.K (del M a) H'/\Den X.K H' (fzD o) (.ref a):=by
 cases o with
 |lst ds=>
  obtain⟨vs,e1,dl⟩:=rm a _ e;obtain⟨ob,I2⟩:=I.frzU e1 rfl;exact⟨_,I2,.frzU e1 rfl,rm.frzU e1 rfl,a,vs,rfl,.inl ⟨ob,ae⟩,dl.mono (.frzU e1 rfl)⟩
 |dk ks ds=>
  obtain⟨vs,e1,hl,dl⟩:=rm a _ e;obtain⟨ob,I2⟩:=I.frzU e1 rfl;exact⟨_,I2,.frzU e1 rfl,rm.frzU e1 rfl,a,vs,ob,rfl,ae,hl,dl.mono (.frzU e1 rfl)⟩
 |dt ks ds=>
  obtain⟨vs,xs,e1,z,dl⟩:=rm a _ e;obtain⟨ob,I2⟩:=I.frzU e1 rfl;have t:TM X.K H (upd H a (.frz ob (.ext (av a xs)))):=.frzU e1 rfl;exact⟨_,I2,t,rm.frzU e1 rfl,a,vs,ob,xs,rfl,ae,⟨z.kx,z.nd,z.sz,z.no,z.vx,fun x hx=>t.t _ _ (z.at_ x hx)⟩,dl.mono t⟩
 |ins i C ns ds=>
  obtain⟨dx,vs,e1,hl,dl⟩:=rm a _ e;obtain⟨ob,I2⟩:=I.frzU e1 rfl;exact⟨_,I2,.frzU e1 rfl,rm.frzU e1 rfl,a,vs,ob,dx,rfl,ae,hl,dl.mono (.frzU e1 rfl)⟩
 |exc i c=>exact absurd rfl (ho.1 i c)
 |stl φ=>exact absurd rfl (ho.2 φ)
theorem dU{X:Cx}:∀{ds:List D}{vs:List V}{H:Hp}{M:MH}{R:List D->MH->Prop},Inv X pins σ H s->RelM X.K M H->DenL X.K H ds vs->br ds M R->
  ∃H' M' r,Inv X pins σ H' s/\TM X.K H H'/\RelM X.K M' H'/\DenL X.K H' r vs/\R r M'
 |[],vs,H,M,R,I,rm,dl,h=>⟨H,M,[],I,.refl _,rm,dl,h⟩
 |d::ds,_,H,M,R,I,rm,dl,h=>by
  obtain⟨v,r,rfl,dv,dl⟩:=dl;have keep:∀(d:D),Den X.K H d v->br ds M (fun r M'=>R (d::r) M')->∃H' M' r',Inv X pins σ H' s/\TM X.K H H'/\RelM X.K M' H'/\DenL X.K H' r' (v::r)/\R r' M':=fun d dv h=>by
   obtain⟨H',M',r',I',t,rm',dl',q⟩:=dU I rm dl h;exact⟨H',M',d::r',I',t,rm',.cons (dv.mono t) dl',q⟩
  have fz:∀(a:Addr)(o:DO),v=.ref a->M a=some o->((∀i c,o≠.exc i c)/\∀φ,o≠.stl φ)->br ds (del M a) (fun r M'=>R (fzD o::r) M')->∃H' M' r',Inv X pins σ H' s/\TM X.K H H'/\RelM X.K M' H'/\DenL X.K H' r' (v::r)/\R r' M':=fun a o e eM ne h=>by
   subst e;obtain⟨H1,I1,t1,rm1,d1⟩:=db I rm eM ne;obtain⟨H',M',r',I',t,rm',dl',q⟩:=dU I1 rm1 (dl.mono t1) h;exact⟨H',M',_::r',I',t1.trans t,rm',.cons (d1.mono t) dl',q⟩
  cases d with
  |ref a=>
   simp only[br]at h;have e:v=.ref a:=dv;split at h
   ·rename_i es q;exact fz a (.lst es) e q ⟨(fun _ _ z=>nomatch z),(fun _ z=>nomatch z)⟩ h
   ·rename_i ks es q;exact fz a (.dk ks es) e q ⟨(fun _ _ z=>nomatch z),(fun _ z=>nomatch z)⟩ h
   ·rename_i ks es q;exact fz a (.dt ks es) e q ⟨(fun _ _ z=>nomatch z),(fun _ z=>nomatch z)⟩ h
   ·exact keep _ dv h
  |_=>exact keep _ dv (by simpa only[br] using h)
theorem jB{X:Cx}(I:Inv X pins σ H s)(rm:RelM X.K M H)(dx:Den X.K H x v)(h:bp Q x M) :
  ∃H' M' d,Inv X pins σ H' s/\TM X.K H H'/\RelM X.K M' H'/\Den X.K H' d v/\Q d M':=by
 unfold bp at h;split at h
 ·rename_i a;cases (show v=.ref a from dx);split at h
  ·rename_i es q;obtain⟨H1,I1,t1,rm1,d1⟩:=db (o:=.lst es) I rm q ⟨(fun _ _ z=>nomatch z),(fun _ z=>nomatch z)⟩
   exact⟨H1,_,_,I1,t1,rm1,d1,h⟩
  ·rename_i ks es q;obtain⟨H1,I1,t1,rm1,d1⟩:=db (o:=.dk ks es) I rm q ⟨(fun _ _ z=>nomatch z),(fun _ z=>nomatch z)⟩
   exact⟨H1,_,_,I1,t1,rm1,d1,h⟩
  ·rename_i ks es q;obtain⟨H1,I1,t1,rm1,d1⟩:=db (o:=.dt ks es) I rm q ⟨(fun _ _ z=>nomatch z),(fun _ z=>nomatch z)⟩
   exact⟨H1,_,_,I1,t1,rm1,d1,h⟩
  ·rename_i i C ns es q;obtain⟨H1,I1,t1,rm1,d1⟩:=db (o:=.ins i C ns es) I rm q ⟨(fun _ _ z=>nomatch z),(fun _ z=>nomatch z)⟩
   obtain⟨a',vs,ob,dx',e',he,hl,dl⟩:=d1;cases e';obtain⟨H2,M2,r,I2,t2,rm2,dl2,q2⟩:=dU I1 rm1 dl h;refine⟨H2,M2,.obj i C ns r,I2,t1.trans t2,rm2,?_,q2⟩;exact⟨a,vs,ob,dx',rfl,t2.g _ _ _ he,hl,dl2⟩
  ·exact h.elim
 ·exact h.elim
end L2
namespace L2
open PySem PySem.Spec PySem.Calls PyProof.Rows
noncomputable def ss(E:XK)(cp:Bool)(K:PySem.W.Frag)(C:Addr)(f:Str)(t:TA):TS:=fun _ σ H=>t σ H fun vs H1=>∃v,vs=[v]/\(cp=false->∀dx ob,H1 dx=none->E (.ref C) (some dx) (upd H1 dx (.frz ob (.xd [(f,v)]))))/\
 (cp=true->∃p ws,v=.ref p/\SqL K H1 p ws/\∀q o dx ob,H1 q=none->H1 dx=none->dx≠q->E (.ref C) (some dx) (upd (upd H1 q (.frz o (.lst ws))) dx (.frz ob (.xd [(f,.ref q)]))))
theorem SqL.new{K:PySem.W.Frag}(h:SqL K H p ws)(hn:H a=none):SqL K (upd H a o) p ws:=by
 rcases h with (h|⟨ob,h⟩)|h
 ·exact .inl (.inl (by rw[aa (au h hn)];exact h))
 ·exact .inl (.inr ⟨ob,by rw[aa (au h hn)];exact h⟩)
 ·exact .inr h
section
variable {X:Cx}{D:Addr}
theorem oG(hx:gu X E)(hc:X.calm=true)(hg:Gl X x)(hm:X.mg x=some (.ref C))(q:XIni X.K C fI f)(F:FnOk X.prog X.w X.K X.mg X.base (CX1 X.prog X.w) k fI fd ps (fM cp X.K C f))(hr:Room (k+1) X.A)(hb:Binds X.K fd ps [])(ha:PA X (e::es) t)
  (hdb:(x == ("__debug__" : Str))=false) (he:starEach (e::es) X.env=(false,eval e X.env)::starEach es X.env) (hpl:(backTo cpos (starEach es X.env)).any (·.1)=false) :
  PS X (.Raise (some (.Call (.Name x np) (e::es) [] cpos)) none pos) (ss E cp X.K C f t):=by
 intro pins s σ H D I h;refine n6 (K:=X.K) (I.ok.hd hc) q.cl (wpAny_Call_Name_kw (bo I hg hm (PySem.W.callWith_K (h₀:=X.base) I.ok.mod.kin q.kp (thn (ha cpos pins s σ H _ I h) fun us s1 ⟨vs,H1,I1,r,v,ev,q0,q1⟩=>⟨I1.kIn,?_⟩) he hpl) hdb))
 subst ev;cases r with
 |@cons _ u _ us rv r=>
 cases r with
 |nil=>
 obtain⟨h1,g1,d1,t1,os1⟩:=s1;refine qD I1.kIn q.cl q.ini q.fn (by rw[sizeLine_eq];simp) fun h' a hsz hm=>?_
 obtain⟨t0,go,_,_⟩:=hm.there;have I2:=I1.laid (a:=a) (o:=eA a C) (h':=h') (t':=t1) hm.keeps hsz (mw go);have hn:H1 a=none:=I1.hok.fresh hsz;have r2:Vals [V.ref a,v] [Value.ref a,u]:=.cons rfl (.cons rv .nil);have hsp:fM cp X.K C f [V.ref a,v] (upd H1 a (eA a C)) (fun r H'=>r=.non/\((cp=false/\∃dx ob,H1 dx=none/\dx≠a/\H'=upd (upd (upd H1 a (eA a C)) a (eh a C dx)) dx (.frz ob (.xd [(f,v)])))\/
   (cp=true/\∃ws q dx ob,H1 q=none/\q≠a/\H1 dx=none/\dx≠a/\dx≠q/\(∀o,E (.ref C) (some dx) (upd (upd H1 q (.frz o (.lst ws))) dx (.frz ob (.xd [(f,.ref q)]))))/\H'=upd (upd (upd (upd H1 a (eA a C)) q (.lst ws)) a (eh a C dx)) dx (.frz ob (.xd [(f,.ref q)]))))) (fun _ _ _=>False):=by
  refine⟨a,v,rfl,ae,fun z dx ob n ne=>⟨rfl,.inl ⟨z,dx,ob,by rw[aa ne]at n;exact n,ne,rfl⟩⟩,fun z=>?_⟩
  obtain⟨p,ws,ep,sq,qE⟩:=q1 z;refine⟨p,ws,ep,sq.new hn,fun q dx ob nq nd ne nn=>⟨rfl,.inr ⟨z,ws,q,dx,ob,?_⟩⟩⟩
  have hqa:q≠a:=fun w=>by rw[w,ae]at nq;cases nq
  rw[aa hqa]at nq;rw[aa ne]at nd;exact⟨nq,hqa,nd,ne,nn,fun o=>qE q o dx ob nq nd nn,rfl⟩
 have hl:([Value.ref a,u]++([]:List Value)).length=ps.length:=by
  rw[<-F.len _ _ _ _ hsp];rfl
 have hb':=hb _ [Value.ref a,u] I2.kIn hl;rw[List.append_nil]at hb';refine wpAny_call (codeAny_mono (F.run _ X.stack _ _ ⟨[Value.ref a,u],[]⟩ [Value.ref a,u] _ _ _ (hr.make C [u] []) (I2.env0.make C [u] []) hb' r2 hsp) fun r s' hq=>?_)
 match r,hq with
 |.error e,hq=>
  obtain⟨_,_,_,_,_,_,_,_,_,_,_,_,_,z⟩:=hq;exact z.elim
 |.ok (.ret u'),hq=>
  obtain⟨v',H',I3,rv',e1,hh⟩:=I2.after hq;subst e1;rcases hh with ⟨zc,dx,ob,n,ne,eH⟩|⟨zc,ws,q',dx,ob,nq,qa,n,ne,nn,qE,eH⟩
  ·subst eH;have ea:upd (upd (upd H1 a (eA a C)) a (eh a C dx)) dx (.frz ob (.xd [(f,v)])) a=some (eh a C dx):=by rw[aa (Ne.symm ne),ae]
   obtain⟨⟨t1,go1⟩,_,_⟩:=I3.hok a _ ea;have I4:=I3.forget ea;have eF:forget (upd (upd (upd H1 a (eA a C)) a (eh a C dx)) dx (.frz ob (.xd [(f,v)]))) a=upd H1 dx (.frz ob (.xd [(f,v)])):=by
    funext b;by_cases w:b=a
    ·rw[w,bX,aa (Ne.symm ne),hn]
    ·rw[cf w];by_cases w2:b=dx
     ·rw[w2,ae,ae]
     ·rw[aa w2,aa w2,aa w,aa w]
   rw[eF]at I4;exact⟨rv',a,t1,dx,rfl,I3.kIn,go1,hx pins σ _ s' a _ _ _ I4 (by rw[aa (Ne.symm ne)];exact hn) (Heap.get?_none_of_le (Nat.le_trans I1.sz hsz)) go1 rfl rfl rfl (q0 zc dx ob n)⟩
  ·subst eH;have ea:upd (upd (upd (upd H1 a (eA a C)) q' (.lst ws)) a (eh a C dx)) dx (.frz ob (.xd [(f,.ref q')])) a=some (eh a C dx):=by rw[aa (Ne.symm ne),ae]
   obtain⟨⟨t1,go1⟩,_,_⟩:=I3.hok a _ ea;have I4:=I3.forget ea;have eF:forget (upd (upd (upd (upd H1 a (eA a C)) q' (.lst ws)) a (eh a C dx)) dx (.frz ob (.xd [(f,.ref q')]))) a=upd (upd H1 q' (.lst ws)) dx (.frz ob (.xd [(f,.ref q')])):=by
    funext b;by_cases w:b=a
    ·rw[w,bX,aa (Ne.symm ne),aa (Ne.symm qa),hn]
    ·rw[cf w];by_cases w2:b=dx
     ·rw[w2,ae,ae]
     ·rw[aa w2,aa w2,aa w];by_cases w3:b=q'
      ·rw[w3,ae,ae]
      ·rw[aa w3,aa w3,aa w]
   rw[eF]at I4;obtain⟨o,I5⟩:=I4.freeze (a:=q') (xs:=ws) (by rw[aa (Ne.symm nn),ae])
   have eG:upd (upd (upd H1 q' (.lst ws)) dx (.frz ob (.xd [(f,.ref q')]))) q' (.frz o (.lst ws))=upd (upd H1 q' (.frz o (.lst ws))) dx (.frz ob (.xd [(f,.ref q')])):=by
    funext b;by_cases w:b=q'
    ·rw[w,ae,aa (Ne.symm nn),ae]
    ·rw[aa w];by_cases w2:b=dx
     ·rw[w2,ae,ae]
     ·rw[aa w2,aa w2,aa w,aa w]
   rw[eG]at I5;exact⟨rv',a,t1,dx,rfl,I3.kIn,go1,hx pins σ _ s' a _ _ _ I5 (by rw[aa (Ne.symm ne),aa (Ne.symm qa)];exact hn) (Heap.get?_none_of_le (Nat.le_trans I1.sz hsz)) go1 rfl rfl rfl (qE o)⟩
 |.ok .next,hq=>exact hq.elim
 |.ok .brk,hq=>exact hq.elim
 |.ok .cont,hq=>exact hq.elim
end
end L2
namespace L2
open PySem PySem.Spec PyProof.Rows
section
variable {X:Cx}
theorem gX:∀{xs ys:List D},cb xs ys=true->xs.length=ys.length
 |[],[],_=>rfl
 |[],_::_,h=>by simp[cb]at h
 |_::_,[],h=>by simp[cb]at h
 |x::xs,y::ys,h=>by
  simp only[cb,Bool.and_eq_true]at h;rw[List.length_cons,List.length_cons,gX h.2]
theorem dM:∀{xs ys:List D},xs.length=ys.length->cb xs ys=(List.range xs.length).all fun j=>eqD (xs.getD j .non) (ys.getD j .non)
 |[],[],_=>by simp[cb]
 |[],_::_,h=>by simp at h
 |_::_,[],h=>by simp at h
 |x::xs,y::ys,h=>by
  have ih:=dM (xs:=xs) (ys:=ys) (by simpa using h)
  simp only[cb,List.length_cons,List.range_succ_eq_map,List.all_cons,List.all_map,ih];rfl
theorem qL{xs ys:List D}:cb xs ys=((List.range (min xs.length ys.length)).all (fun j=>eqD (xs.getD j .non) (ys.getD j .non))&&(xs.length == ys.length)):=by
 by_cases h:xs.length=ys.length
 ·rw[dM h,h,Nat.min_self,beq_self_eq_true,Bool.and_true]
 ·have e1:(xs.length == ys.length)=false:=beq_eq_false_iff_ne.mpr h;rw[e1,Bool.and_false];cases q:cb xs ys with
  |false=>rfl
  |true=>exact absurd (gX q) h
theorem jQ{K:PySem.W.Frag}(I:Inv X pins σ H s)(hK:K=X.K):∀(n:Nat) {x y:D}{v:V},plN n x=true->plN n y=true->Den K H x v->Den K H y v->x=y:=by
 subst hK;have lists:∀(n:Nat),(∀{x y:D}{v:V},plN n x=true->plN n y=true->Den X.K H x v->Den X.K H y v->x=y)->∀{xs ys:List D}{vs:List V},xs.all (plN n)=true->ys.all (plN n)=true->DenL X.K H xs vs->DenL X.K H ys vs->xs=ys:=by
  intro n ih xs
  induction xs with
  |nil=>
   intro ys vs _ _ h1 h2;cases (show vs=[] from h1);cases ys with
   |nil=>rfl
   |cons y ys=>obtain⟨_,_,e,_⟩:=h2;cases e
  |cons x xs iht=>
   intro ys vs p1 p2 h1 h2;obtain⟨v,r,rfl,d1,l1⟩:=h1;cases ys with
   |nil=>cases (show v::r=[] from h2)
   |cons y ys=>
    obtain⟨v',r',e,d2,l2⟩:=h2;cases e;simp only[List.all_cons,Bool.and_eq_true]at p1 p2;rw[ih p1.1 p2.1 d1 d2,iht p1.2 p2.2 l1 l2]
 have clash:∀{p:Addr}{vs ws:List V},SqT X.K H p vs->SqF X.K H p ws->False:=fun {p vs ws} h1 h2=>by
  obtain⟨its,_,t1,_⟩:=I.tuple h1;obtain⟨z,its2,n2,_,_,e2⟩:=I.rdL h2.rd;obtain⟨o,e1,c1,_⟩:=(show s.heap.IsTuple p its.toArray from t1);rw[e2]at e1;cases e1;injection c1 with z;exact absurd z (by decide)
 intro n
 induction n with
 |zero=>
  intro x y v p1 p2 d1 d2;cases x with
  |non=>
   cases (show v=.non from d1);cases y with
   |non=>rfl
   |bl b=>cases (show V.non=.bl b from d2)
   |int b=>cases (show V.non=.int b from d2)
   |str b=>cases (show V.non=.str b from d2)
   |tup es=>cases p2
   |rol es=>cases p2
   |ref a=>cases p2
   |obj _ _ _ _=>cases p2
   |dik _ _=>cases p2
   |dit _ _=>cases p2
  |bl a=>
   cases (show v=.bl a from d1);cases y with
   |non=>cases (show V.bl a=.non from d2)
   |bl b=>cases (show V.bl a=.bl b from d2);rfl
   |int b=>cases (show V.bl a=.int b from d2)
   |str b=>cases (show V.bl a=.str b from d2)
   |tup es=>cases p2
   |rol es=>cases p2
   |ref a=>cases p2
   |obj _ _ _ _=>cases p2
   |dik _ _=>cases p2
   |dit _ _=>cases p2
  |int a=>
   cases (show v=.int a from d1);cases y with
   |non=>cases (show V.int a=.non from d2)
   |bl b=>cases (show V.int a=.bl b from d2)
   |int b=>cases (show V.int a=.int b from d2);rfl
   |str b=>cases (show V.int a=.str b from d2)
   |tup es=>cases p2
   |rol es=>cases p2
   |ref a=>cases p2
   |obj _ _ _ _=>cases p2
   |dik _ _=>cases p2
   |dit _ _=>cases p2
  |str a=>
   cases (show v=.str a from d1);cases y with
   |non=>cases (show V.str a=.non from d2)
   |bl b=>cases (show V.str a=.bl b from d2)
   |int b=>cases (show V.str a=.int b from d2)
   |str b=>cases (show V.str a=.str b from d2);rfl
   |tup es=>cases p2
   |rol es=>cases p2
   |ref a=>cases p2
   |obj _ _ _ _=>cases p2
   |dik _ _=>cases p2
   |dit _ _=>cases p2
  |tup es=>cases p1
  |rol es=>cases p1
  |ref a=>cases p1
  |obj _ _ _ _=>cases p1
  |dik _ _=>cases p1
  |dit _ _=>cases p1
 |succ n ih=>
  intro x y v p1 p2 d1 d2;cases x with
  |non=>
   cases (show v=.non from d1);cases y with
   |non=>rfl
   |bl b=>cases (show V.non=.bl b from d2)
   |int b=>cases (show V.non=.int b from d2)
   |str b=>cases (show V.non=.str b from d2)
   |tup es=>obtain⟨p,vs,e,_⟩:=d2;cases e
   |rol es=>obtain⟨p,vs,e,_⟩:=d2;cases e
   |ref a=>cases p2
   |obj _ _ _ _=>cases p2
   |dik _ _=>cases p2
   |dit _ _=>cases p2
  |bl a=>
   cases (show v=.bl a from d1);cases y with
   |non=>cases (show V.bl a=.non from d2)
   |bl b=>cases (show V.bl a=.bl b from d2);rfl
   |int b=>cases (show V.bl a=.int b from d2)
   |str b=>cases (show V.bl a=.str b from d2)
   |tup es=>obtain⟨p,vs,e,_⟩:=d2;cases e
   |rol es=>obtain⟨p,vs,e,_⟩:=d2;cases e
   |ref a=>cases p2
   |obj _ _ _ _=>cases p2
   |dik _ _=>cases p2
   |dit _ _=>cases p2
  |int a=>
   cases (show v=.int a from d1);cases y with
   |non=>cases (show V.int a=.non from d2)
   |bl b=>cases (show V.int a=.bl b from d2)
   |int b=>cases (show V.int a=.int b from d2);rfl
   |str b=>cases (show V.int a=.str b from d2)
   |tup es=>obtain⟨p,vs,e,_⟩:=d2;cases e
   |rol es=>obtain⟨p,vs,e,_⟩:=d2;cases e
   |ref a=>cases p2
   |obj _ _ _ _=>cases p2
   |dik _ _=>cases p2
   |dit _ _=>cases p2
  |str a=>
   cases (show v=.str a from d1);cases y with
   |non=>cases (show V.str a=.non from d2)
   |bl b=>cases (show V.str a=.bl b from d2)
   |int b=>cases (show V.str a=.int b from d2)
   |str b=>cases (show V.str a=.str b from d2);rfl
   |tup es=>obtain⟨p,vs,e,_⟩:=d2;cases e
   |rol es=>obtain⟨p,vs,e,_⟩:=d2;cases e
   |ref a=>cases p2
   |obj _ _ _ _=>cases p2
   |dik _ _=>cases p2
   |dit _ _=>cases p2
  |tup ds=>
   obtain⟨p,vs,rfl,q1,l1⟩:=d1;cases y with
   |tup es=>
    obtain⟨p',vs',e,q2,l2⟩:=d2;cases e;have e:vs=vs':=by
     obtain⟨its,r1,t1,_⟩:=I.tuple q1;obtain⟨its2,r2,t2,_⟩:=I.tuple q2;obtain⟨o1,e1,c1,n1,f1⟩:=(show s.heap.IsTuple p its.toArray from t1);obtain⟨o2,e2,c2,n2,f2⟩:=(show s.heap.IsTuple p its2.toArray from t2);rw[e1]at e2;cases e2;rw[f1]at f2;have:its=its2:=by injection f2 with z;simpa using z
     subst this;exact r1.inj r2
    subst e;rw[lists n ih (by simpa [plN] using p1) (by simpa [plN] using p2) l1 l2]
   |rol es=>obtain⟨p',vs',e,q2,l2⟩:=d2;cases e;exact (clash q1 q2).elim
   |non=>cases (show V.ref p=.non from d2)
   |bl b=>cases (show V.ref p=.bl b from d2)
   |int b=>cases (show V.ref p=.int b from d2)
   |str b=>cases (show V.ref p=.str b from d2)
   |ref a=>cases p2
   |obj _ _ _ _=>cases p2
   |dik _ _=>cases p2
   |dit _ _=>cases p2
  |rol ds=>
   obtain⟨p,vs,rfl,q1,l1⟩:=d1;cases y with
   |rol es=>
    obtain⟨p',vs',e,q2,l2⟩:=d2;cases e;have e:vs=vs':=by
     obtain⟨_,its,n1,r1,_,e1⟩:=I.rdL q1.rd;obtain⟨_,its2,n2,r2,_,e2⟩:=I.rdL q2.rd;rw[e1]at e2;have:its=its2:=by
      have z:=Option.some.inj e2;injection z with z1 z2 z3 z4
      injection z3 with z5 z6
      simpa using z5
     subst this;exact r1.inj r2
    subst e;rw[lists n ih (by simpa [plN] using p1) (by simpa [plN] using p2) l1 l2]
   |tup es=>obtain⟨p',vs',e,q2,l2⟩:=d2;cases e;exact (clash q2 q1).elim
   |non=>cases (show V.ref p=.non from d2)
   |bl b=>cases (show V.ref p=.bl b from d2)
   |int b=>cases (show V.ref p=.int b from d2)
   |str b=>cases (show V.ref p=.str b from d2)
   |ref a=>cases p2
   |obj _ _ _ _=>cases p2
   |dik _ _=>cases p2
   |dit _ _=>cases p2
  |ref a=>cases p1
  |obj _ _ _ _=>cases p1
  |dik _ _=>cases p1
  |dit _ _=>cases p1
theorem oZ:∀(n:Nat) {x:D},plN n x=true->eqD x x=true:=by
 have lists:∀(n:Nat),(∀{x:D},plN n x=true->eqD x x=true)->∀{xs:List D},xs.all (plN n)=true->cb xs xs=true:=by
  intro n ih xs
  induction xs with
  |nil=>intro _;rfl
  |cons x xs iht=>
   intro h;simp only[List.all_cons,Bool.and_eq_true]at h;simp only[cb,Bool.and_eq_true];exact⟨ih h.1,iht h.2⟩
 intro n
 induction n with
 |zero=>
  intro x h;cases x with
  |tup es=>cases h
  |rol es=>cases h
  |ref a=>cases h
  |obj _ _ _ _=>cases h
  |dik _ _=>cases h
  |dit _ _=>cases h
  |_=>simp[eqD]
 |succ n ih=>
  intro x h;cases x with
  |tup es=>simp only[eqD];exact lists n ih (by simpa [plN] using h)
  |rol es=>simp only[eqD];exact lists n ih (by simpa [plN] using h)
  |ref a=>cases h
  |obj _ _ _ _=>cases h
  |dik _ _=>cases h
  |dit _ _=>cases h
  |_=>simp[eqD]
theorem kz{K:PySem.W.Frag}(I:Inv X pins σ H s)(hK:K=X.K)(n:Nat)(p1:plN n x=true)(p2:plN n y=true)(d1:Den K H x v)(d2:Den K H y v):eqD x y=true:=by
 rw[jQ I hK n p1 p2 d1 d2];exact oZ n p2
theorem wz(a b:Bool):eqD (.bl a) (.bl b)=(a == b):=by simp[eqD]
theorem u9(a:Bool)(b:Int):eqD (.bl a) (.int b)=((if a then 1 else 0) == b):=by simp[eqD];rfl
theorem wC(a:Int)(b:Bool):eqD (.int a) (.bl b)=(a == (if b then 1 else 0)):=by simp[eqD];rfl
theorem vF(a b:Int):eqD (.int a) (.int b)=(a == b):=by simp[eqD];rfl
theorem wY(a b:Str):eqD (.str a) (.str b)=(a == b):=by simp[eqD];rfl
noncomputable abbrev Eq3(A:Around)(s:Shared)(v u:Value)(k:Bool):Prop:=SeqAt.RcAt A s v u k/\SeqAt.RcNeAt A s v u (!k)/\SeqAt.EqAt A s v u k
inductive Seen (s:Shared):D->Value->Prop where
 |non:Seen s .non .none
 |bl (b:Bool):Seen s (.bl b) (.bool b)
 |int (i:Int) (t:Tok):Seen s (.int i) (.int i t)
 |str (x:Str) (t:Tok):Seen s (.str x) (.str x t)
 |tup {ds:List D}{p:Addr}{its:List Value} (h:s.heap.IsTuple p its.toArray):Seen s (.tup ds) (.ref p)
 |rol {ds:List D}{p:Addr}{its:List Value} (h:s.heap.IsList p its.toArray):Seen s (.rol ds) (.ref p)
theorem gt{X:Cx}(I:Inv X pins σ H s)(p:plN n x=true)(d:Den X.K H x v)(r:RelV v v2):Seen s x v2:=by
 cases x with
 |non=>cases (show v=.non from d);cases r;exact .non
 |bl b=>cases (show v=.bl b from d);cases r;exact .bl b
 |int i=>cases (show v=.int i from d);obtain⟨t,rfl⟩:=r;exact .int i t
 |str i=>cases (show v=.str i from d);obtain⟨t,rfl⟩:=r;exact .str i t
 |tup ds=>
  obtain⟨q,vs,rfl,sq,_⟩:=d;cases r;obtain⟨its,_,t,_⟩:=I.tuple sq;exact .tup (its:=its) t
 |rol ds=>
  obtain⟨q,vs,rfl,sq,_⟩:=d;cases r;obtain⟨its,_,t,_⟩:=I.list sq.sq;exact .rol (its:=its) t.isList
 |ref a=>simp[plN]at p
 |obj _ _ _ _=>simp[plN]at p
 |dik _ _=>simp[plN]at p
 |dit _ _=>simp[plN]at p
theorem oP{A:Around}(hx:Seen s x v)(hy:Seen s y u)(hu:A.units < cLine)(seq:∀ds es,(x=.tup ds/\y=.tup es)\/(x=.rol ds/\y=.rol es)->Eq3 A s v u (eqD x y)):Eq3 A s v u (eqD x y):=by
 cases hx with
 |non=>
  cases hy with
  |non=>exact⟨.none_none,.none_none,.same _⟩
  |bl b=>rw[show eqD (.non) (.bl b)=false by simp[eqD]];exact⟨.none_bool b,.none_bool b,.none_bool b⟩
  |int b tb=>rw[show eqD (.non) (.int b)=false by simp[eqD]];exact⟨.none_int b tb,.none_int b tb,.none_int b tb⟩
  |str b tb=>rw[show eqD (.non) (.str b)=false by simp[eqD]];exact⟨.none_str b tb,.none_str b tb,.none_str b tb⟩
  |@tup es p2 its2 h2=>rw[show eqD (.non) (.tup es)=false by simp[eqD]];exact⟨.none_tuple h2 hu,.none_tuple h2 hu,.none_tuple h2 hu⟩
  |@rol es p2 its2 h2=>rw[show eqD (.non) (.rol es)=false by simp[eqD]];exact⟨.none_list h2 hu,.none_list h2 hu,.none_list h2 hu⟩
 |bl a=>
  cases hy with
  |non=>rw[show eqD (.bl a) (.non)=false by simp[eqD]];exact⟨.bool_none a,.bool_none a,.bool_none a⟩
  |bl b=>rw[wz];exact⟨.bool_bool a b,.bool_bool a b,.bool_bool a b⟩
  |int b tb=>rw[u9];exact⟨.bool_int a b tb,.bool_int a b tb,.bool_int a b tb⟩
  |str b tb=>rw[show eqD (.bl a) (.str b)=false by simp[eqD]];exact⟨.bool_str a b tb,.bool_str a b tb,.bool_str a b tb⟩
  |@tup es p2 its2 h2=>rw[show eqD (.bl a) (.tup es)=false by simp[eqD]];exact⟨.bool_tuple a h2 hu,.bool_tuple a h2 hu,.bool_tuple a h2 hu⟩
  |@rol es p2 its2 h2=>rw[show eqD (.bl a) (.rol es)=false by simp[eqD]];exact⟨.bool_list a h2 hu,.bool_list a h2 hu,.bool_list a h2 hu⟩
 |int a ta=>
  cases hy with
  |non=>rw[show eqD (.int a) (.non)=false by simp[eqD]];exact⟨.int_none a ta,.int_none a ta,.int_none a ta⟩
  |bl b=>rw[wC];exact⟨.int_bool a ta b,.int_bool a ta b,.int_bool a ta b⟩
  |int b tb=>rw[vF];exact⟨.int_int a ta b tb,.int_int a ta b tb,.int_int a ta b tb⟩
  |str b tb=>rw[show eqD (.int a) (.str b)=false by simp[eqD]];exact⟨.int_str a ta b tb,.int_str a ta b tb,.int_str a ta b tb⟩
  |@tup es p2 its2 h2=>rw[show eqD (.int a) (.tup es)=false by simp[eqD]];exact⟨.int_tuple a ta h2 hu,.int_tuple a ta h2 hu,.int_tuple a ta h2 hu⟩
  |@rol es p2 its2 h2=>rw[show eqD (.int a) (.rol es)=false by simp[eqD]];exact⟨.int_list a ta h2 hu,.int_list a ta h2 hu,.int_list a ta h2 hu⟩
 |str a ta=>
  cases hy with
  |non=>rw[show eqD (.str a) (.non)=false by simp[eqD]];exact⟨.str_none a ta,.str_none a ta,.str_none a ta⟩
  |bl b=>rw[show eqD (.str a) (.bl b)=false by simp[eqD]];exact⟨.str_bool a ta b,.str_bool a ta b,.str_bool a ta b⟩
  |int b tb=>rw[show eqD (.str a) (.int b)=false by simp[eqD]];exact⟨.str_int a ta b tb,.str_int a ta b tb,.str_int a ta b tb⟩
  |str b tb=>rw[wY];exact⟨.str_str a ta b tb,.str_str a ta b tb,.str_str a ta b tb⟩
  |@tup es p2 its2 h2=>rw[show eqD (.str a) (.tup es)=false by simp[eqD]];exact⟨.str_tuple a ta h2 hu,.str_tuple a ta h2 hu,.str_tuple a ta h2 hu⟩
  |@rol es p2 its2 h2=>rw[show eqD (.str a) (.rol es)=false by simp[eqD]];exact⟨.str_list a ta h2 hu,.str_list a ta h2 hu,.str_list a ta h2 hu⟩
 |@tup ds p its h=>
  cases hy with
  |non=>rw[show eqD (.tup ds) (.non)=false by simp[eqD]];exact⟨.tuple_none h hu,.tuple_none h hu,.tuple_none h hu⟩
  |bl b=>rw[show eqD (.tup ds) (.bl b)=false by simp[eqD]];exact⟨.tuple_bool b h hu,.tuple_bool b h hu,.tuple_bool b h hu⟩
  |int b tb=>rw[show eqD (.tup ds) (.int b)=false by simp[eqD]];exact⟨.tuple_int b tb h hu,.tuple_int b tb h hu,.tuple_int b tb h hu⟩
  |str b tb=>rw[show eqD (.tup ds) (.str b)=false by simp[eqD]];exact⟨.tuple_str b tb h hu,.tuple_str b tb h hu,.tuple_str b tb h hu⟩
  |@tup es p2 its2 h2=>exact seq ds es (.inl ⟨rfl,rfl⟩)
  |@rol es p2 its2 h2=>rw[show eqD (.tup ds) (.rol es)=false by simp[eqD]];exact⟨.tuple_list h h2 hu,.tuple_list h h2 hu,.tuple_list h h2 hu⟩
 |@rol ds p its h=>
  cases hy with
  |non=>rw[show eqD (.rol ds) (.non)=false by simp[eqD]];exact⟨.list_none h hu,.list_none h hu,.list_none h hu⟩
  |bl b=>rw[show eqD (.rol ds) (.bl b)=false by simp[eqD]];exact⟨.list_bool b h hu,.list_bool b h hu,.list_bool b h hu⟩
  |int b tb=>rw[show eqD (.rol ds) (.int b)=false by simp[eqD]];exact⟨.list_int b tb h hu,.list_int b tb h hu,.list_int b tb h hu⟩
  |str b tb=>rw[show eqD (.rol ds) (.str b)=false by simp[eqD]];exact⟨.list_str b tb h hu,.list_str b tb h hu,.list_str b tb h hu⟩
  |@tup es p2 its2 h2=>rw[show eqD (.rol ds) (.tup es)=false by simp[eqD]];exact⟨.list_tuple h h2 hu,.list_tuple h h2 hu,.list_tuple h h2 hu⟩
  |@rol es p2 its2 h2=>exact seq ds es (.inr ⟨rfl,rfl⟩)
theorem we{K:PySem.W.Frag}(I:Inv X pins σ H s)(hK:K=X.K):∀(n:Nat) {A:Around}{x y:D}{v u:V}{v2 u2:Value},plN n x=true->plN n y=true->Den K H x v->Den K H y u->RelV v v2->RelV u u2->A.units+n < cLine->
  SeqAt.RcAt A s v2 u2 (eqD x y)/\SeqAt.RcNeAt A s v2 u2 (!eqD x y)/\SeqAt.EqAt A s v2 u2 (eqD x y):=by
 subst hK;have items:∀(n:Nat),(∀{A:Around}{x y:D}{v u:V}{v2 u2:Value},plN n x=true->plN n y=true->Den X.K H x v->Den X.K H y u->RelV v v2->RelV u u2->A.units+n < cLine->
   SeqAt.RcAt A s v2 u2 (eqD x y)/\SeqAt.RcNeAt A s v2 u2 (!eqD x y)/\SeqAt.EqAt A s v2 u2 (eqD x y))->∀{A:Around}{xs ys:List D}{vs us:List V}{its its2:List Value},xs.all (plN n)=true->ys.all (plN n)=true->DenL X.K H xs vs->DenL X.K H ys us->Vals vs its->Vals us its2->A.units+(n+1) < cLine->
   ∀j (h1:j < its.toArray.size)(h2:j < its2.toArray.size),SeqAt.EqAt A.in1 s its.toArray[j] its2.toArray[j] (eqD (xs.getD j .non) (ys.getD j .non)):=by
  intro n ih A xs ys vs us its its2 p1 p2 l1 l2 r1 r2 hu j h1 h2;have h1:j < its.length:=by simpa using h1
  have h2:j < its2.length:=by simpa using h2
  have hx:j < xs.length:=by rw[l1.length,r1.length];exact h1
  have hy:j < ys.length:=by rw[l2.length,r2.length];exact h2
  obtain⟨v,e1,d1⟩:=l1.get (i:=j) (d:=xs[j]) (by simp[hx])
  obtain⟨u,e2,d2⟩:=l2.get (i:=j) (d:=ys[j]) (by simp[hy])
  obtain⟨v2,e3,rv⟩:=r1.get e1;obtain⟨u2,e4,ru⟩:=r2.get e2;have f1:its.toArray[j]=v2:=by
   have:=e3;rw[List.getElem?_eq_getElem h1]at this;simpa using this
  have f2:its2.toArray[j]=u2:=by
   have:=e4;rw[List.getElem?_eq_getElem h2]at this;simpa using this
  rw[f1,f2];have g1:xs.getD j .non=xs[j]:=by simp[List.getD,hx]
  have g2:ys.getD j .non=ys[j]:=by simp[List.getD,hy]
  rw[g1,g2];exact (ih (List.all_eq_true.mp p1 _ (List.getElem_mem hx)) (List.all_eq_true.mp p2 _ (List.getElem_mem hy)) d1 d2 rv ru (by show A.units+1+n < cLine;omega)).2.2
 intro n
 induction n with
 |zero=>
  intro A x y v u v2 u2 p1 p2 d1 d2 r1 r2 hu;refine oP (gt I p1 d1 r1) (gt I p2 d2 r2) (by omega) fun ds es z=>?_
  rcases z with ⟨rfl,rfl⟩|⟨rfl,rfl⟩<;>cases p1
 |succ n ih=>
  intro A x y v u v2 u2 p1 p2 d1 d2 r1 r2 hu;refine oP (gt I p1 d1 r1) (gt I p2 d2 r2) (by omega) fun ds es z=>?_
  rcases z with ⟨rfl,rfl⟩|⟨rfl,rfl⟩
  ·obtain⟨p,vs,rfl,q1,l1⟩:=id d1;obtain⟨p',us,rfl,q2,l2⟩:=id d2;cases r1;cases r2;obtain⟨its,v1,t1,_⟩:=I.tuple q1;obtain⟨its2,v2,t2,_⟩:=I.tuple q2;have he:=items n ih (A:=A) (by simpa [plN] using p1) (by simpa [plN] using p2) l1 l2 v1 v2 hu
   have ee:eqD (.tup ds) (.tup es)=((List.range (min its.toArray.size its2.toArray.size)).all (fun j=>eqD (ds.getD j .non) (es.getD j .non))&&its.toArray.size == its2.toArray.size):=by
    simp only[eqD];rw[qL,l1.length,v1.length,l2.length,v2.length];rfl
   have rc:=SeqAt.RcAt.tuples (A:=A) t1 t2 (by omega) he
   rw[<-ee]at rc;have rn:=SeqAt.RcNeAt.tuples (A:=A) t1 t2 (by omega) he
   rw[<-ee]at rn;refine⟨rc,rn,?_⟩;by_cases hp:p=p'
   ·subst hp;rw[kz I rfl (n+1) p1 p2 d1 d2];exact .same _
   ·exact .of_refs hp rc
  ·obtain⟨p,vs,rfl,q1,l1⟩:=id d1;obtain⟨p',us,rfl,q2,l2⟩:=id d2;cases r1;cases r2;obtain⟨its,v1,t1,_⟩:=I.list q1.sq;obtain⟨its2,v2,t2,_⟩:=I.list q2.sq;have he:=items n ih (A:=A) (by simpa [plN] using p1) (by simpa [plN] using p2) l1 l2 v1 v2 hu
   have rcn:SeqAt.RcAt A s (.ref p) (.ref p') (eqD (.rol ds) (.rol es))/\SeqAt.RcNeAt A s (.ref p) (.ref p') (!eqD (.rol ds) (.rol es)):=by
    by_cases hl:its.toArray.size=its2.toArray.size
    ·have ee:eqD (.rol ds) (.rol es)=(List.range its.toArray.size).all fun j=>eqD (ds.getD j .non) (es.getD j .non):=by
      have e1:ds.length=es.length:=by rw[l1.length,v1.length,l2.length,v2.length];simpa using hl
      simp only[eqD];rw[dM e1,l1.length,v1.length];rfl
     rw[ee];exact⟨.lists t1.isList t2.isList hl (by omega) he,.lists t1.isList t2.isList hl (by omega) he⟩
    ·have ee:eqD (.rol ds) (.rol es)=false:=by
      simp only[eqD];cases q:cb ds es with
      |false=>rfl
      |true=>
       have:=gX q;rw[l1.length,v1.length,l2.length,v2.length]at this;exact absurd (by simpa using this) hl
     rw[ee];exact⟨.lists_lengths t1.isList t2.isList (by simpa using hl) (by omega),.lists_lengths t1.isList t2.isList (by simpa using hl) (by omega)⟩
   refine⟨rcn.1,rcn.2,?_⟩;by_cases hp:p=p'
   ·subst hp;rw[kz I rfl (n+1) p1 p2 d1 d2];exact .same _
   ·exact .of_refs hp rcn.1
end
end L2
namespace L2
open PySem PySem.Spec PyProof.Rows
noncomputable def VO(X:Cx)(f:Value->Value->Sem Value)(r:D->D->MH->VK3->Prop):Prop:=
 ∀(pins:List (Addr×Obj)) (s:Shared)(σ:St)(H:Hp)(x y:D)(v u:V)(v2 u2:Value)(M:MH)(Q:VK3)(Q2:VK),Inv X pins σ H s->RelV v v2->RelV u u2->Den X.K H x v->Den X.K H y u->RelM X.K M H->r x y M Q->Back X.K H Q Q2->
  wpAny (model X.prog X.w) X.A (f v2 u2) (EP X pins σ Q2) X.xe s
noncomputable def VU(X:Cx)(f:Value->Sem Value)(r:D->MH->VK3->Prop):Prop:=
 ∀(pins:List (Addr×Obj)) (s:Shared)(σ:St)(H:Hp)(x:D)(v:V)(v2:Value)(M:MH)(Q:VK3)(Q2:VK),Inv X pins σ H s->RelV v v2->Den X.K H x v->RelM X.K M H->r x M Q->Back X.K H Q Q2->
  wpAny (model X.prog X.w) X.A (f v2) (EP X pins σ Q2) X.xe s
noncomputable def VC(X:Cx)(f:Value)(r:List D->MH->VK3->Prop):Prop:=
 ∀(pins:List (Addr×Obj)) (s:Shared)(σ:St)(H:Hp)(xs:List D)(vs:List V)(us:List Value)(M:MH)(Q:VK3)(Q2:VK),Inv X pins σ H s->Vals vs us->DenL X.K H xs vs->RelM X.K M H->r xs M Q->Back X.K H Q Q2->
  wpAny (model X.prog X.w) X.A (call f us) (EP X pins σ Q2) X.xe s
section
variable {X:Cx}
theorem VO.of3(h:Op3 X f r):VO X f r:=by
 obtain⟨r2,h2,hl⟩:=h;exact fun pins s σ H x y v u v2 u2 M Q Q2 I rv ru dx dy rm q back=>h2 pins s σ H v u v2 u2 Q2 I rv ru (hl H x y v u M Q Q2 dx dy rm q back)
theorem VU.of3(h:Un3 X f r):VU X f r:=by
 obtain⟨r2,h2,hl⟩:=h;exact fun pins s σ H x v v2 M Q Q2 I rv dx rm q back=>h2 pins s σ H v v2 Q2 I rv (hl H x v M Q Q2 dx rm q back)
theorem VC.of3(h:mE X f r):VC X f r:=by
 obtain⟨r2,h2,hl⟩:=h;exact fun pins s σ H xs vs us M Q Q2 I rv dx rm q back=>h2 pins s σ H vs us Q2 I rv (hl H xs vs M Q Q2 dx rm q back)
theorem VO.imp(h:VO X f r)(g:∀x y M Q,r' x y M Q->r x y M Q):VO X f r':=
 fun pins s σ H x y v u v2 u2 M Q Q2 I rv ru dx dy rm q back=>h pins s σ H x y v u v2 u2 M Q Q2 I rv ru dx dy rm (g x y M Q q) back
theorem VU.imp(h:VU X f r)(g:∀x M Q,r' x M Q->r x M Q):VU X f r':=
 fun pins s σ H x v v2 M Q Q2 I rv dx rm q back=>h pins s σ H x v v2 M Q Q2 I rv dx rm (g x M Q q) back
theorem VC.imp(h:VC X f r)(g:∀x M Q,r' x M Q->r x M Q):VC X f r':=
 fun pins s σ H x v v2 M Q Q2 I rv dx rm q back=>h pins s σ H x v v2 M Q Q2 I rv dx rm (g x M Q q) back
theorem e8(h:rI2 g x y M Q):jR g x y M Q:=by
 unfold rI2 at h;split at h
 ·exact⟨_,_,rfl,rfl,h⟩
 ·exact h.elim
theorem jG(h:rII C g x y M Q):rI3 C g x y M Q:=by
 unfold rII at h;split at h
 ·exact⟨_,_,rfl,rfl,h⟩
 ·exact h.elim
theorem tE{s:Shared}{ws:List Value}(ht:IsTup s.heap t #[])(hb:IsTup s.heap b ws.toArray)(h:Q (.ref b) s):wpAny (model prog w) A (binaryOp .Add (.ref t) (.ref b)) Q E s:=by
 obtain⟨⟨cls,dd,data,sl⟩,ho,hc,n,hd⟩:=id ht;obtain⟨⟨cls2,dd2,data2,sl2⟩,ho2,hc2,n2,hd2⟩:=id hb;simp only at hc hd hc2 hd2;subst hc hd hc2 hd2;exact concat_meets ⟨_,ho,rfl⟩ ⟨_,ho2,rfl⟩ noFill_tuple_add seq_tuple_add PySem.F.slot_tuple_add PySem.F.entry_tuple_add (PySem.F.args_tuple_add_2 _ _) (tuple_addW0 t b #[] ws.toArray n n2 dd dd2 sl sl2 rfl) ⟨ho,ho2,h⟩
theorem ng{a b:List D}(I:Inv X pins σ H s)(rv:RelV v v2)(ru:RelV u u2)(dx:Den X.K H (.tup a) v)(dy:Den X.K H (.tup b) u)(rm:RelM X.K M H)
  (q:a.length+b.length<=sizeLine/\Q (.tup (a++b)) M) (back:Back X.K H Q Q2):wpAny (model X.prog X.w) X.A (binaryOp .Add v2 u2) (EP X pins σ Q2) X.xe s:=by
 obtain⟨p1,vs,rfl,sq1,dl1⟩:=dx;obtain⟨p2,us,rfl,sq2,dl2⟩:=dy;obtain⟨h2,q⟩:=q;by_cases h1:a=[]
 ·subst h1;cases (show vs=[] from dl1);cases rv;cases ru;obtain⟨its,r1,p1',_⟩:=I.tuple sq1;obtain⟨its2,r2,p2',_⟩:=I.tuple sq2;cases r1;exact tE p1' p2' ⟨.ref p2,H,I,rfl,back _ _ (.tup b) _ ⟨p2,us,rfl,sq2,dl2⟩ rm (.refl _) q⟩
 refine sQ pins s σ H _ _ v2 u2 Q2 I rv ru ⟨p1,p2,vs,us,rfl,rfl,sq1,sq2,fun z=>?_,by rw[<-dl1.length,<-dl2.length];exact h2,fun z=>?_,fun _ p hp=>?_⟩
 ·have:=dl1.length;rw[z]at this;cases a with
  |nil=>exact h1 rfl
  |cons _ _=>cases this
 ·have hb:b=[]:=List.length_eq_zero_iff.mp (by rw[dl2.length,z];rfl)
  subst hb;rw[List.append_nil]at q;exact back _ _ (.tup a) _ ⟨p1,vs,rfl,sq1,dl1⟩ rm (.refl _) q
 ·exact back _ _ (.tup (a++b)) _ ⟨p,_,rfl,.of ae,(dl1.append dl2).mono (.new hp)⟩ (rm.grow hp) (.new hp) q
theorem kW(a:Array α):∀(k:Nat)(b:Array α),((List.replicate k a).foldl (·++·) b).size=b.size+k * a.size
 |0,b=>by simp
 |k+1,b=>by
  rw[List.replicate_succ,List.foldl_cons,kW a k,Array.size_append,Nat.succ_mul];omega
theorem qo{z:Str}(n0:0<=n)(n1:n<=100000)(hz:z.length<=10)
  (h:∀t' tk,Q (.str (im z n) t') {s with toks:=tk}):wpAny (model prog w) A (binaryOp .Mult (.str z t) (.int n u)) Q E s:=by
 have e1:decide (n < -(2 ^ 63:Int))=false:=decide_eq_false (by omega)
 have e2:decide (n>=2 ^ 63)=false:=decide_eq_false (by omega)
 refine PySem.P.mul_str (by rw[e1,e2];rfl) (fun h1 h2=>?_) (fun h1 h2=>?_) ?_
 ·have:(2 ^ 63 - 1) / n>=10:=by
   rw[ge_iff_le,Int.le_ediv_iff_mul_le (by omega)]
   omega
  omega
 ·have hl:z.length * n.toNat<=10 * 100000:=Nat.mul_le_mul hz (by omega)
  unfold Builtin.Str.tooLong;exact decide_eq_false (by rw[sizeLine_eq];omega)
 ·unfold im at h;split
  ·rename_i hn;rw[if_pos hn]at h;exact⟨by decide,h _ _⟩
  ·rename_i hn;rw[if_neg hn]at h;split
   ·rename_i hb;rw[if_pos hb]at h;exact h _ _
   ·rename_i hb;rw[if_neg hb]at h;refine⟨?_,h _ _⟩;show ((List.replicate n.toNat z.cps).foldl (·++·) #[]).size<=sizeLine;rw[kW];have hl:n.toNat * z.cps.size<=100000 * 10:=Nat.mul_le_mul (by omega) hz
    rw[sizeLine_eq];simp;omega
theorem xr(op:Operator):VO X (binaryOp op) (d8 op):=by
 cases op with
 |Add=>
  intro pins s σ H x y v u v2 u2 M Q Q2 I rv ru dx dy rm q back;have q':nu x y M Q:=q;clear q;unfold nu at q';split at q'
  ·exact VO.of3 xU pins s σ H _ _ v u v2 u2 M Q Q2 I rv ru dx dy rm ⟨_,_,rfl,rfl,q'⟩ back
  ·rename_i a b;cases (show v=.str a from dx);cases (show u=.str b from dy);exact lM pins s σ H _ _ v2 u2 Q2 I rv ru ⟨a,b,rfl,rfl,q'.1,back _ _ _ _ gz rm (.refl _) q'.2⟩
  ·exact ng I rv ru dx dy rm q' back
  ·exact q'.elim
 |Sub=>exact (VO.of3 AC).imp fun _ _ _ _ h=>e8 h
 |Mult=>
  intro pins s σ H x y v u v2 u2 M Q Q2 I rv ru dx dy rm q back;have q':qZ x y M Q:=q;clear q;unfold qZ at q';split at q'
  ·exact VO.of3 An pins s σ H _ _ v u v2 u2 M Q Q2 I rv ru dx dy rm ⟨_,_,rfl,rfl,q'⟩ back
  ·rename_i z n;cases (show v=.str z from dx);cases (show u=.int n from dy);obtain⟨t,rfl⟩:=rv;obtain⟨t',rfl⟩:=ru;obtain⟨⟨n0,n1,hz⟩,q'⟩:=q';exact qo n0 n1 hz fun t2 tk=>⟨.str (im z n),H,I.tok _,⟨_,rfl⟩,back _ _ _ _ gz rm (.refl _) q'⟩
  ·exact q'.elim
 |FloorDiv=>exact (VO.of3 vG).imp fun _ _ _ _ h=>jG h
 |Mod=>exact (VO.of3 yu).imp fun _ _ _ _ h=>jG h
 |Pow=>exact (VO.of3 zF).imp fun _ _ _ _ h=>jG h
 |RShift=>exact (VO.of3 zd).imp fun _ _ _ _ h=>jG h
 |BitAnd=>exact (VO.of3 Ac).imp fun _ _ _ _ h=>e8 h
 |_=>exact fun pins s σ H x y v u v2 u2 M Q Q2 I rv ru dx dy rm q back=>False.elim q
theorem pz:VU X (unaryOp .USub) rNeg:=(VU.of3 yg).imp fun x M Q h=>by
 unfold rNeg at h;split at h
 ·exact⟨_,rfl,h⟩
 ·exact h.elim
theorem xl(fz:Bool):VO X (binaryOp .Add) (cr fz):=by
 intro pins s σ H x y v u v2 u2 M Q Q2 I rv ru dx dy rm q back;unfold cr at q;split at q
 next a b ea eb=>
  obtain⟨l,xs,rfl,hH,dl⟩:=aE rm ea dx;obtain⟨b',zs,rfl,hB,dl2⟩:=aE rm eb dy;cases rv;cases ru;obtain⟨z,its,n,r,hl,e⟩:=I.rdL hH;obtain⟨z2,its2,n2,r2,hl2,e2⟩:=I.rdL hB;have hlen:xs.length+zs.length<=sizeLine:=by
   have:=q.1;rw[List.length_append,dl.length,dl2.length]at this;exact this
  refine PySem.P.add_list e e2 ?_ (by rw[List.size_toArray,List.size_toArray];omega)
  have ea:its.toArray++its2.toArray=(its++its2).toArray:=by simp
  rw[ea];exact be (I.lnew (t':=s.toks) (r.append r2) (by rw[List.length_append];omega)) I.fresh (dl.append dl2) rm (.refl _) q back
 next=>
  split at q
  ·exact ng I rv ru dx dy rm q back
  ·exact q.elim
theorem tj{K:PySem.W.Frag}(rm:RelM K M H)(dx:Den K H x v)(hp:pl (res M x)=true) :
  (∃a ds,x=.ref a/\M a=some (.lst ds)/\res M x=.rol ds)\/(res M x=x):=by
 cases x with
 |ref a=>
  cases e:M a with
  |none=>
   have:res M (.ref a)=.ref a:=by simp[res,ai,e]
   rw[this]at hp;simp[plN]at hp
  |some o=>
   cases o with
   |lst ds=>exact .inl ⟨a,ds,rfl,e,by simp[res,ai,e]⟩
   |_=>
    have:res M (.ref a)=.ref a:=by simp[res,ai,e]
    rw[this]at hp;simp[plN]at hp
 |rol ds=>exact .inr rfl
 |_=>exact .inr rfl
theorem lu(I:Inv X pins σ H s)(rm:RelM X.K M H)(dx:Den X.K H x v)(hp:pl (res M x)=true) :
  ∃H',Inv X pins σ H' s/\TM X.K H H'/\Den X.K H' (res M x) v:=by
 rcases tj rm dx hp with ⟨a,ds,rfl,q,e⟩|e
 ·obtain⟨vs,e1,l⟩:=rm a _ q;obtain⟨o,I2⟩:=I.freeze e1;refine⟨_,I2,.freeze e1,?_⟩;rw[e];cases (show v=.ref a from dx);exact dO l e1
 ·rw[e];exact⟨H,I,.refl _,dx⟩
noncomputable def jz(K:PySem.W.Frag)(M:MH)(H:Hp):Prop:=∀a ds,M a=some (.lst ds)->∃vs,(H a=some (.lst vs)\/∃o,H a=some (.frz o (.lst vs)))/\DenL K H ds vs
theorem RelM.z{K:PySem.W.Frag}(rm:RelM K M H):jz K M H:=fun a ds q=>by
 obtain⟨vs,e,l⟩:=rm a _ q;exact⟨vs,.inl e,l⟩
theorem yB(I:Inv X pins σ H s)(rz:jz X.K M H)(q:M a=some (.lst ds)) :
  ∃H',Inv X pins σ H' s/\TM X.K H H'/\jz X.K M H'/\∃vs,SqF X.K H' a vs/\DenL X.K H' ds vs/\DenL X.K H ds vs:=by
 obtain⟨vs,e|⟨o,e⟩,l⟩:=rz a ds q
 ·obtain⟨o,I2⟩:=I.freeze e;have t:TM X.K H (upd H a (.frz o (.lst vs))):=.freeze e;refine⟨_,I2,t,fun b es qb=>?_,vs,.inl ⟨o,ae⟩,l.mono t,l⟩
  obtain⟨us,e2,l2⟩:=rz b es qb;by_cases hb:b=a
  ·subst hb;rw[q]at qb;cases qb;exact⟨vs,.inr ⟨o,ae⟩,l.mono t⟩
  ·refine⟨us,?_,l2.mono t⟩;rw[aa hb];exact e2
 ·exact⟨H,I,.refl _,rz,vs,.inl ⟨o,e⟩,l,l⟩
theorem zD(I:Inv X pins σ H s)(rz:jz X.K M H)(dx:Den X.K H x v) :
  ∃H',Inv X pins σ H' s/\TM X.K H H'/\jz X.K M H'/\Den X.K H' (res M x) v:=by
 cases x with
 |ref a=>
  cases e:M a with
  |none=>
   have:res M (.ref a)=.ref a:=by simp[res,ai,e]
   rw[this];exact⟨H,I,.refl _,rz,dx⟩
  |some o=>
   cases o with
   |lst ds=>
    obtain⟨H',I2,t,rz2,vs,sq,l,_⟩:=yB I rz e;have:res M (.ref a)=.rol ds:=by simp[res,ai,e]
    rw[this];exact⟨H',I2,t,rz2,a,vs,dx,sq,l⟩
   |_=>
    have:res M (.ref a)=.ref a:=by simp[res,ai,e]
    rw[this];exact⟨H,I,.refl _,rz,dx⟩
 |rol ds=>exact⟨H,I,.refl _,rz,dx⟩
 |_=>exact⟨H,I,.refl _,rz,dx⟩
theorem oM:∀{ds:List D}{vs:List V}{H:Hp},Inv X pins σ H s->jz X.K M H->DenL X.K H ds vs->
  ∃H',Inv X pins σ H' s/\TM X.K H H'/\jz X.K M H'/\DenL X.K H' (ds.map (res M)) vs
 |[],vs,H,I,rz,dl=>⟨H,I,.refl _,rz,dl⟩
 |d::ds,vs,H,I,rz,dl=>by
  obtain⟨v,r,rfl,dv,dr⟩:=dl;obtain⟨H1,I1,t1,rz1,d1⟩:=zD I rz dv;obtain⟨H2,I2,t2,rz2,d2⟩:=oM I1 rz1 (dr.mono t1);exact⟨H2,I2,t1.trans t2,rz2,v,r,rfl,d1.mono t2,d2⟩
theorem tU(I:Inv X pins σ H s)(rz:jz X.K M H)(dx:Den X.K H x v) :
  ∃H',Inv X pins σ H' s/\TM X.K H H'/\jz X.K M H'/\Den X.K H' (rs M x) v:=by
 cases x with
 |ref a=>
  cases e:M a with
  |none=>
   have:rs M (.ref a)=.ref a:=by simp[rs,ai,e]
   rw[this];exact⟨H,I,.refl _,rz,dx⟩
  |some o=>
   cases o with
   |lst ds=>
    have:rs M (.ref a)=.rol (if pls ds=true then ds else ds.map (res M)):=by simp[rs,ai,e]
    rw[this];obtain⟨H',I2,t,rz2,vs,sq,l,_⟩:=yB I rz e;split
    ·exact⟨H',I2,t,rz2,a,vs,dx,sq,l⟩
    ·obtain⟨H3,I3,t3,rz3,l3⟩:=oM I2 rz2 l;exact⟨H3,I3,t.trans t3,rz3,a,vs,dx,t3.f _ _ sq,l3⟩
   |_=>
    have:rs M (.ref a)=.ref a:=by simp[rs,ai,e]
    rw[this];exact⟨H,I,.refl _,rz,dx⟩
 |rol ds=>
  have:rs M (.rol ds)=.rol (if pls ds=true then ds else ds.map (res M)):=by simp[rs,ai]
  rw[this];split
  ·exact⟨H,I,.refl _,rz,dx⟩
  ·obtain⟨p,vs,e,sq,l⟩:=dx;obtain⟨H3,I3,t3,rz3,l3⟩:=oM I rz l;exact⟨H3,I3,t3,rz3,p,vs,e,t3.f _ _ sq,l3⟩
 |_=>exact⟨H,I,.refl _,rz,dx⟩
theorem zb(I:Inv X pins σ H s)(rm:RelM X.K M H)(dx:Den X.K H x v)(dy:Den X.K H y u) :
  ∃H',Inv X pins σ H' s/\Den X.K H' (rs M x) v/\Den X.K H' (rs M y) u:=by
 obtain⟨H1,I1,t1,rz1,d1⟩:=tU I rm.z dx;obtain⟨H2,I2,t2,rz2,d2⟩:=tU I1 rz1 (dy.mono t1);exact⟨H2,I2,d1.mono t2,d2⟩
theorem ue(hu:X.A.units+64 < cLine)(neg:Bool):VO X (compareOp (if neg=true then .NotEq else .Eq)) (eS neg):=by
 intro pins s σ H x y v u v2 u2 M Q Q2 I rv ru dx dy rm q back;obtain⟨h1,h2,q⟩:=q;obtain⟨H',I',d1,d2⟩:=zb I rm dx dy;obtain⟨rc,rn,_⟩:=we I' rfl 8 (A:=X.A) h1 h2 d1 d2 rv ru (by omega)
 have fin:=back _ _ _ _ (bj (K:=X.K) (H:=H)) rm (.refl _) q;cases neg with
 |true=>
  refine rn _ _ _ _ ⟨.bl _,H,I,rfl,?_⟩;rw[Bool.true_xor]at fin;exact fin
 |false=>
  refine rc _ _ _ _ ⟨.bl _,H,I,rfl,?_⟩;rw[Bool.false_xor]at fin;exact fin
end
end L2
namespace L2
open PySem PySem.Spec PyProof.Rows
section
variable {K:PySem.W.Frag}
theorem gT[DecidableEq κ]:∀{ks:List κ}{ds:List D}{vs:List V}{k:κ},DenL K H ds vs->ks.length=vs.length->
  (∀d,getD ks ds k=some d->∃v,cO (ks.zip vs) k=some v/\Den K H d v)/\(getD ks ds k=none->cO (ks.zip vs) k=none)
 |[],_,vs,k,_,_=>⟨fun d e=>by simp[getD]at e,fun _=>by simp[cO]⟩
 |q::ks,[],vs,k,dl,hl=>by cases (show vs=[] from dl);cases hl
 |q::ks,d0::ds,_,k,dl,hl=>by
  obtain⟨v,r,rfl,dv,dl⟩:=dl;have ih:=gT (ks:=ks) (k:=k) dl (by simpa using hl)
  by_cases z:q=k
  ·refine⟨fun d e=>?_,fun e=>?_⟩
   ·simp only[getD,if_pos z]at e;cases e;exact⟨v,cW (p:=(q,v)) z,dv⟩
   ·simp only[getD,if_pos z]at e;cases e
  ·refine⟨fun d e=>?_,fun e=>?_⟩
   ·simp only[getD,if_neg z]at e;obtain⟨w,h1,h2⟩:=ih.1 d e;exact⟨w,(ck (p:=(q,v)) z).trans h1,h2⟩
   ·simp only[getD,if_neg z]at e;exact (ck (p:=(q,v)) z).trans (ih.2 e)
theorem lh(h:vd y=some k)(d:Den K H y u):u=kV k:=by
 cases y with
 |int i=>cases (show some (Sum.inl i)=some k from h);exact d
 |str x=>cases (show some (Sum.inr x)=some k from h);exact d
 |_=>cases h
theorem iG:∀{es:List D}{vs:List V}{k:List Int},cR es=some k->DenL K H es vs->vs=k.map V.int
 |[],vs,k,h,dl=>by cases (show some []=some k from h);exact dl
 |d::es,_,k,h,dl=>by
  obtain⟨v,r,rfl,dv,dl⟩:=dl;cases d with
  |int i=>
   simp only[cR]at h;split at h
   ·rename_i ns q;cases h;rw[iG q dl];cases (show v=.int i from dv);rfl
   ·cases h
  |_=>cases h
theorem g9{k:List Int}(h:qm y=some k)(d:Den K H y u):∃b,u=.ref b/\SqT K H b (k.map V.int):=by
 cases y with
 |tup es=>
  obtain⟨b,vs,e,sq,dl⟩:=d;refine⟨b,e,?_⟩;rw[<-iG h dl];exact sq
 |_=>cases h
theorem kH{ks:List Key}(h:d5 M x=some (ks,ds))(rm:RelM K M H)(d:Den K H x v):∃p vs,v=.ref p/\Rd H p (.dK (ks.zip vs))/\ks.length=vs.length/\DenL K H ds vs:=by
 cases x with
 |dik ks' ds'=>
  cases h;obtain⟨p,vs,o,rfl,e,hl,dl⟩:=d;exact⟨p,vs,rfl,.inr ⟨o,e⟩,hl,dl⟩
 |ref a=>
  simp only[d5]at h;split at h
  ·rename_i q;cases h;obtain⟨vs,e,hl,dl⟩:=rm a _ q;exact⟨a,vs,d,.inl e,hl,dl⟩
  ·cases h
 |_=>cases h
theorem ef(h:cP M x=some (ks,ds))(rm:RelM K M H)(d:Den K H x v):∃p vs xs,v=.ref p/\Rd H p (.ext (av p xs))/\TabOk K H p ks xs vs/\DenL K H ds vs:=by
 cases x with
 |dit ks' ds'=>
  cases h;obtain⟨p,vs,o,xs,rfl,e,z,dl⟩:=d;exact⟨p,vs,xs,rfl,.inr ⟨o,e⟩,z,dl⟩
 |ref a=>
  simp only[cP]at h;split at h
  ·rename_i q;cases h;obtain⟨vs,xs,e,z,dl⟩:=rm a _ q;exact⟨a,vs,xs,d,.inl e,z,dl⟩
  ·cases h
 |_=>cases h
theorem TabOk.len{ks:List (List Int)}{vs:List V}(z:TabOk K H a ks xs vs):ks.length=vs.length:=by
 rw[<-z.kx,List.length_map,z.vx.length,List.length_map]
theorem cg:∀{xs:List (List Int×Addr×Value)}{vs:List V} (k:List Int),Vals vs (xs.map (·.2.2))->RelO (cO ((xs.map (·.1)).zip vs) k) ((atKey xs k).map (·.2))
 |[],vs,k,r=>by cases r;exact True.intro
 |x::xs,vs,k,r=>by
  rw[List.map_cons]at r;cases r with
  |@cons v _ vs _ h t=>
   have ih:=cg k t;by_cases e:x.1=k
   ·have b:atKey (x::xs) k=some x.2:=by simp[atKey,List.find?_cons,e]
    rw[List.map_cons,List.zip_cons_cons,cW (p:=(x.1,v)) e,b];exact h
   ·have b:atKey (x::xs) k=atKey xs k:=by simp[atKey,List.find?_cons,e]
    rw[List.map_cons,List.zip_cons_cons,ck (p:=(x.1,v)) e,b];exact ih
end
inductive DRd (X:Cx) (H:Hp) (a:Addr) (u:V):Option V->Prop where
 |k {kvs:List (Key×V)}{k:Key} (e:Rd H a (.dK kvs)) (hu:u=kV k):DRd X H a u (cO kvs k)
 |t {ks:List (List Int)}{xs:List (List Int×Addr×Value)}{vs:List V}{k:List Int}{b:Addr} (e:Rd H a (.ext (av a xs))) (z:TabOk X.K H a ks xs vs) (hu:u=.ref b) (sq:SqT X.K H b (k.map V.int)):DRd X H a u (cO (ks.zip vs) k)
noncomputable def OptDen(K:PySem.W.Frag)(H:Hp):Option D->Option V->Prop
 |some d,some v=>Den K H d v
 |none,none=>True
 |_,_=>False
theorem et{X:Cx}(h:dI M x y=some o)(rm:RelM X.K M H)(dx:Den X.K H x v)(dy:Den X.K H y u):∃a ov,v=.ref a/\DRd X H a u ov/\OptDen X.K H o ov:=by
 unfold dI at h;split at h
 ·rename_i ks ds e;split at h
  ·rename_i k ek;cases h;obtain⟨p,vs,rfl,rd,hl,dl⟩:=kH e rm dx;refine⟨p,_,rfl,.k rd (lh ek dy),?_⟩;have g:=gT (k:=k) dl hl;cases q:getD ks ds k with
   |none=>rw[g.2 q];exact True.intro
   |some d=>obtain⟨w,h1,h2⟩:=g.1 d q;rw[h1];exact h2
  ·cases h
 ·split at h
  ·rename_i ks ds e;split at h
   ·rename_i k ek;cases h;obtain⟨p,vs,xs,rfl,rd,z,dl⟩:=ef e rm dx;obtain⟨b,hb,sq⟩:=g9 ek dy;refine⟨p,_,rfl,.t rd z hb sq,?_⟩;have g:=gT (k:=k) dl z.len;cases q:getD ks ds k with
    |none=>rw[g.2 q];exact True.intro
    |some d=>obtain⟨w,h1,h2⟩:=g.1 d q;rw[h1];exact h2
   ·cases h
  ·cases h
section
variable {X:Cx}{s:Shared}{o:Option V}{A:Around}
theorem hZ:∀{ks:List Int}{us:List Value},Vals (ks.map V.int) us->ItemsAre (intKind P w) ks us
 |[],_,r=>by rw[List.map_nil]at r;cases r;exact .nil
 |k::ks,_,r=>by
  rw[List.map_cons]at r;cases r with
  |cons h t=>
   obtain⟨tk,rfl⟩:=h;exact .cons (by show Value.isInt k (.int k tk)=true;simp[Value.isInt]) (hZ t)
theorem cZ{k:List Int}(I:Inv X pins σ H s)(sq:SqT X.K H b (k.map V.int)):(tupleKind (intKind X.prog X.w)).is s.heap k b:=by
 obtain⟨its,r,⟨o,e,c,n,d⟩,_⟩:=I.tuple sq;exact⟨o,its.toArray,n,e,c,d,by simpa using hZ r⟩
theorem bq(I:Inv X pins σ H s)(e:Rd H a (.ext (av a xs)))(z:TabOk X.K H a ks xs vs):s.heap.DictOfH (tupleKind (intKind X.prog X.w)) a xs:=by
 obtain⟨⟨ob,es,ep,h1,h2,h3,h4⟩,_⟩:=(show ObjOk X.prog X.w H s.heap a (.ext (av a xs)) from e.ok I.hok);exact⟨ob,es,ep,h1,h2,h3,h4,fun x hx=>cZ I (z.at_ x hx),by rw[z.kx];exact z.nd⟩
theorem DRd.isDict(I:Inv X pins σ H s)(g:DRd X H a y o):s.TypeIs (.ref a) "dict":=by
 cases g with
 |k e _=>obtain⟨_,_,vs,_,dd⟩:=fN I.hok e;exact dd.typeIs
 |t e z _ _=>exact (bq I e z).typeIs
theorem nG(hu:A.units+1 < cLine)(I:Inv X pins σ H s)(g:DRd X H a y o)(ho:o=some v)(ry:RelV y u)(h:∀w' s',Inv X pins σ H s'->RelV v w'->Q w' s') :
  wpAny (model X.prog X.w) A (getItem (.ref a) u) Q E s:=by
 cases g with
 |k e hk=>exact oy hu I (.inl ⟨_,_,e,hk,ho.symm⟩) ry h
 |@t ks xs vs k b e z hb sq=>
  subst hb;cases (show u=Value.ref b from ry);have dd:=bq I e z;have rel:=cg (vs:=vs) k z.vx;rw[z.kx]at rel;obtain⟨w',hw,rw'⟩:=RelO.some_of (v:=v) (o:=(atKey xs k).map (·.2)) (by rw[<-ho];exact rel)
  obtain⟨p,hp,hp2⟩:=Option.map_eq_some_iff.mp hw;refine wpAny_getItem_heap (tupleKind_room_in1 hu) (cZ I sq) dd hp ?_;rw[hp2];exact h w' _ (I.tok _) rw'
theorem Dy(neg:Bool)(hu:A.units+1 < cLine)(I:Inv X pins σ H s)(g:DRd X H a y o)(ry:RelV y u)(h:∀s',Inv X pins σ H s'->Q (.bool (neg ^^ o.isSome)) s') :
  wpAny (model X.prog X.w) A (compareOp (if neg=true then .NotIn else .In) u (.ref a)) Q E s:=by
 cases g with
 |k e hk=>
  cases neg with
  |true=>exact r8 hu I (.inl ⟨_,_,e,hk,rfl⟩) ry fun s' I'=>by have:=h s' I';rw[Bool.true_xor]at this;exact this
  |false=>exact C0 hu I (.inl ⟨_,_,e,hk,rfl⟩) ry fun s' I'=>by have:=h s' I';rw[Bool.false_xor]at this;exact this
 |@t ks xs vs k b e z hb sq=>
  subst hb;cases (show u=Value.ref b from ry);have dd:=bq I e z;have rel:=cg (vs:=vs) k z.vx;rw[z.kx]at rel;have q:=rel.isSome_eq;rw[Option.isSome_map]at q;rw[q]at h;cases neg with
  |true=>
   refine wpAny_notIn_heap (tupleKind_room_in1 hu) (cZ I sq) z.no dd ?_;have:=h _ (I.tok (s.toks+(tupleKind (intKind X.prog X.w)).draws k));rw[Bool.true_xor]at this;exact this
  |false=>
   refine wpAny_in_heap (tupleKind_room_in1 hu) (cZ I sq) z.no dd ?_;have:=h _ (I.tok (s.toks+(tupleKind (intKind X.prog X.w)).draws k));rw[Bool.false_xor]at this;exact this
theorem uP(hu:A.units+1 < cLine)(I:Inv X pins σ H s)(g:DRd X H a y o)(ry:RelV y u)(h:∀w' s',Inv X pins σ H s'->RelV (o.getD .non) w'->Q w' s') :
  wpAny (model X.prog X.w) A (call (.builtin "dict.get") [.ref a,u]) Q E s:=by
 cases g with
 |k e hk=>exact uK hu I (.inl ⟨_,_,e,hk,rfl⟩) ry h
 |@t ks xs vs k b e z hb sq=>
  subst hb;cases (show u=Value.ref b from ry);have dd:=bq I e z;have rel:=cg (vs:=vs) k z.vx;rw[z.kx]at rel;exact call_meetsIn PySem.F.slot_dict_get dd.typeIs PySem.F.entry_dict_get (PySem.F.args_dict_get_2 _ _) (meetsH_dict_get (tupleKind (intKind X.prog X.w)) a b z.no) ⟨tupleKind_room_in1 hu,k,xs,cZ I sq,dd,h _ _ (I.tok _) (rel.getD rfl)⟩
theorem uG(hu:A.units+1 < cLine)(I:Inv X pins σ H s)(g:DRd X H a y o)(ry:RelV y u)(rd:RelV d r)(h:∀w' s',Inv X pins σ H s'->RelV (o.getD d) w'->Q w' s') :
  wpAny (model X.prog X.w) A (call (.builtin "dict.get") [.ref a,u,r]) Q E s:=by
 cases g with
 |k e hk=>exact wc hu I (.inl ⟨_,_,e,hk,rfl⟩) ry rd h
 |@t ks xs vs k b e z hb sq=>
  subst hb;cases (show u=Value.ref b from ry);have dd:=bq I e z;have rel:=cg (vs:=vs) k z.vx;rw[z.kx]at rel;exact call_meetsIn PySem.F.slot_dict_get dd.typeIs PySem.F.entry_dict_get (PySem.F.args_dict_get_3 _ _ _) (meetsH_dict_get_default (tupleKind (intKind X.prog X.w)) a b z.no r) ⟨tupleKind_room_in1 hu,k,xs,cZ I sq,dd,h _ _ (I.tok _) (rel.getD rd)⟩
end
section
variable {K:PySem.W.Frag}
theorem nN[DecidableEq κ]{l:List (κ×V)}:cY ((q,w)::l) k v=if q=k then (q,v)::l.map (fun kv=>if kv.1=k then (kv.1,v) else kv) else (q,w)::cY l k v:=by
 unfold cY;by_cases e:q=k
 ·simp[e]
 ·by_cases g:(l.any fun kv=>decide (kv.1=k))=true
  ·simp[e,g]
  ·simp[e,g]
theorem lz[DecidableEq κ]:∀{ks:List κ}{vs:List V},¬ k∈ks->(ks.zip vs).map (fun kv=>if kv.1=k then (kv.1,v) else kv)=ks.zip vs
 |[],_,_=>by simp
 |q::ks,[],_=>by simp
 |q::ks,w::vs,h=>by
  have hq:¬ q=k:=fun z=>h (by simp[z])
  have ih:=lz (k:=k) (v:=v) (ks:=ks) (vs:=vs) fun m=>h (List.mem_cons_of_mem _ m)
  simp only[List.zip_cons_cons,List.map_cons,if_neg hq,ih]
theorem lj[DecidableEq κ]:∀{ks:List κ}{ds:List D}{vs:List V}{k:κ}{y:D}{v:V},ks.Nodup->DenL K H ds vs->ks.length=vs.length->Den K H y v->
  ∃vs',cY (ks.zip vs) k v=(ak ks k).zip vs'/\(ak ks k).length=vs'.length/\DenL K H (aN ks ds k y) vs'
 |[],ds,vs,k,y,v,_,dl,hl,dy=>by
  cases vs with
  |nil=>exact⟨[v],rfl,rfl,by unfold aN;exact .one dy⟩
  |cons _ _=>cases hl
 |q::ks,[],vs,k,y,v,_,dl,hl,dy=>by cases (show vs=[] from dl);cases hl
 |q::ks,d::ds,_,k,y,v,nd,dl,hl,dy=>by
  obtain⟨w,r,rfl,dw,dl⟩:=dl;obtain⟨n1,n2⟩:=List.nodup_cons.mp nd;rw[List.zip_cons_cons,nN];by_cases e:q=k
  ·subst e;rw[if_pos rfl,lz n1];refine⟨v::r,?_,?_,?_⟩
   ·simp[ak]
   ·simpa [ak] using hl
   ·simp only[aN,if_pos];exact .cons dy dl
  ·rw[if_neg e];obtain⟨vs',h1,h2,h3⟩:=lj (k:=k) (v:=v) n2 dl (by simpa using hl) dy
   refine⟨w::vs',?_,?_,?_⟩
   ·simp[ak,if_neg e,h1]
   ·simp[ak,if_neg e,h2]
   ·simp only[aN,if_neg e];exact .cons dw h3
theorem kQ{x:List Int×Addr×Value}{xs:List (List Int×Addr×Value)}:storedH (x::xs) k b r=if x.1=k then (x.1,x.2.1,r)::xs.map (putAt k r) else x::storedH xs k b r:=by
 unfold storedH;by_cases e:x.1=k
 ·have b':atKey (x::xs) k=some x.2:=by simp[atKey,List.find?_cons,e]
  rw[b',if_pos e];simp[putAt,e]
 ·have b':atKey (x::xs) k=atKey xs k:=by simp[atKey,List.find?_cons,e]
  rw[b',if_neg e];by_cases g:(atKey xs k).isSome=true
  ·rw[if_pos g,if_pos g];simp[putAt,e]
  ·rw[if_neg g,if_neg g];rfl
theorem gY:∀{xs:List (List Int×Addr×Value)},¬ k∈xs.map (·.1)->xs.map (putAt k r)=xs
 |[],_=>rfl
 |x::xs,h=>by
  have hq:¬ x.1=k:=fun z=>h (by simp[z])
  rw[List.map_cons,gY fun m=>h (List.mem_cons_of_mem _ m)]
  simp[putAt,hq]
theorem dW:∀{xs:List (List Int×Addr×Value)}{ds:List D}{vs:List V}{k:List Int}{b:Addr}{r:Value}{y:D}{v:V},(xs.map (·.1)).Nodup->Vals vs (xs.map (·.2.2))->RelV v r->DenL K H ds vs->Den K H y v->
  ∃vs',(storedH xs k b r).map (·.1)=ak (xs.map (·.1)) k/\Vals vs' ((storedH xs k b r).map (·.2.2))/\DenL K H (aN (xs.map (·.1)) ds k y) vs'/\∀x∈storedH xs k b r,(x.1=k/\x.2.1=b)\/∃x'∈xs,x'.1=x.1/\x'.2.1=x.2.1
 |[],ds,vs,k,b,r,y,v,_,vr,rv,dl,dy=>by
  cases vr;cases ds with
  |cons _ _=>obtain⟨_,_,z,_⟩:=dl;cases z
  |nil=>exact⟨[v],rfl,.cons rv .nil,by unfold aN;exact .one dy,fun x hx=>.inl (by simp[storedH,atKey]at hx;simp[hx])⟩
 |x::xs,ds,vs,k,b,r,y,v,nd,vr,rv,dl,dy=>by
  rw[List.map_cons]at vr nd;cases vr with
  |@cons w _ vs _ h t=>
   cases ds with
   |nil=>cases (show w::vs=[] from dl)
   |cons d ds=>
    obtain⟨w',r',e',dw,dl⟩:=dl;cases e';obtain⟨n1,n2⟩:=List.nodup_cons.mp nd;rw[kQ];by_cases e:x.1=k
    ·rw[if_pos e,gY (by rw[<-e];exact n1)]
     refine⟨v::vs,?_,.cons rv t,?_,fun z hz=>?_⟩
     ·simp[ak,e]
     ·simp only[List.map_cons,aN,if_pos e];exact .cons dy dl
     ·rcases List.mem_cons.mp hz with rfl|hz
      ·exact .inr ⟨x,List.mem_cons_self,rfl,rfl⟩
      ·exact .inr ⟨z,List.mem_cons_of_mem _ hz,rfl,rfl⟩
    ·rw[if_neg e];obtain⟨vs',h1,h2,h3,h4⟩:=dW (k:=k) (b:=b) n2 t rv dl dy;refine⟨w::vs',?_,.cons h h2,?_,fun z hz=>?_⟩
     ·simp only[List.map_cons,ak,if_neg e,h1]
     ·simp only[List.map_cons,aN,if_neg e];exact .cons dw h3
     ·rcases List.mem_cons.mp hz with rfl|hz
      ·exact .inr ⟨z,List.mem_cons_self,rfl,rfl⟩
      ·rcases h4 z hz with q|⟨x',hx',q⟩
       ·exact .inl q
       ·exact .inr ⟨x',List.mem_cons_of_mem _ hx',q⟩
theorem fj[DecidableEq κ]:∀{ks:List κ}{k:κ},(ak ks k).length<=ks.length+1
 |[],_=>by simp[ak]
 |q::ks,k=>by
  unfold ak;split
  ·simp
  ·have:=fj (ks:=ks) (k:=k);simp only[List.length_cons];omega
theorem putD1_mem[DecidableEq κ]:∀{ks:List κ}{k x:κ},x∈ak ks k<->x∈ks\/x=k
 |[],k,x=>by simp[ak]
 |q::ks,k,x=>by
  unfold ak;split
  ·rename_i e;subst e;simp;intro z;exact .inl z
  ·rw[List.mem_cons,putD1_mem,List.mem_cons,or_assoc]
theorem cS[DecidableEq κ]:∀{ks:List κ}{k:κ},ks.Nodup->(ak ks k).Nodup
 |[],k,_=>by simp[ak]
 |q::ks,k,h=>by
  obtain⟨n1,n2⟩:=List.nodup_cons.mp h;unfold ak;split
  ·exact h
  ·rename_i e;refine List.nodup_cons.mpr ⟨fun m=>?_,cS n2⟩
   rcases putD1_mem.mp m with z|z
   ·exact n1 z
   ·exact e z
end
section
variable {X:Cx}{A:Around}{ks:List Key}
theorem k7:∀{ks:List κ}{vs:List V},ks.length=vs.length->(ks.zip vs).map (·.1)=ks
 |[],_,_=>by simp
 |q::ks,[],h=>by cases h
 |q::ks,v::vs,h=>by simp[k7 (ks:=ks) (vs:=vs) (by simpa using h)]
theorem qd{vs:List V}(I:Inv X pins σ H s)(e:H a=some (.dK (ks.zip vs)))(hl:ks.length=vs.length):ks.Nodup:=by
 obtain⟨_,_,ws,rel,_,_,_,_,_,_,_,_,nd⟩:=tX I.hok e;rw[<-rel.keys,k7 hl]at nd;exact nd
theorem xx{k:Key}{y:D}{v w:V}{R:MH->Prop}{R2:Hp->Prop}(hu:A.units+1 < cLine)(I:Inv X pins σ H s)(rm:RelM X.K M H)(q:M a=some (.dk ks ds))(hk:w=kV k)(rw':RelV w u)(dy:Den X.K H y v)(rv:RelV v r)(hz:ks.length < sizeLine)
  (h:R (put M a (.dk (ak ks k) (aN ks ds k y)))) (back:∀H' M',RelM X.K M' H'->TM X.K H H'->R M'->R2 H'):wpAny (model X.prog X.w) A (setItem (.ref a) u r) (fun _ s'=>∃H',Inv X pins σ H' s'/\R2 H') E s:=by
 obtain⟨vs,e,hl,dl⟩:=rm a _ q;subst hk;obtain⟨vs',h1,h2,h3⟩:=lj (k:=k) (v:=v) (qd I e hl) dl hl dy;refine om hu I (.inl ⟨_,k,e,rfl,?_,rfl⟩) rw' rv fun s' I'=>⟨_,I',?_⟩
 ·rw[List.length_zip,hl,Nat.min_self,<-hl];exact hz
 ·have tw:TM X.K H (upd H a (.dK (cY (ks.zip vs) k v))):=.put e (fun _ z=>by cases z) fun _ _ z=>by cases z
  exact back _ _ (rm.write (u:=.dk (ak ks k) (aN ks ds k y)) e (fun _ z=>by cases z) (fun _ _ z=>by cases z) ⟨vs',by rw[ae,h1],h2,h3.mono tw⟩) tw h
theorem uU{kt:List (List Int)}{k:List Int}{y:D}{v:V}{b:Addr}{R:MH->Prop}{R2:Hp->Prop}(hu:A.units+1 < cLine)(I:Inv X pins σ H s)(rm:RelM X.K M H)(q:M a=some (.dt kt ds))(sq:SqT X.K H b (k.map V.int))(dy:Den X.K H y v)(rv:RelV v r)(hz:kt.length < sizeLine)
  (h:R (put M a (.dt (ak kt k) (aN kt ds k y)))) (back:∀H' M',RelM X.K M' H'->TM X.K H H'->R M'->R2 H'):wpAny (model X.prog X.w) A (setItem (.ref a) (.ref b) r) (fun _ s'=>∃H',Inv X pins σ H' s'/\R2 H') E s:=by
 obtain⟨vs,xs,e,z,dl⟩:=rm a _ q;have dd:=bq I (.inl e) z;have nd:(xs.map (·.1)).Nodup:=by rw[z.kx];exact z.nd
 obtain⟨vs',h1,h2,h3,h4⟩:=dW (k:=k) (b:=b) nd z.vx rv dl dy;rw[z.kx]at h1 h3;have hsz:xs.length<=sizeLine:=by
  have:=congrArg List.length z.kx;rw[List.length_map]at this;omega
 refine wpAny_setItem_heap (hsz:=hsz) (tupleKind_room_in1 hu) (cZ I sq) dd fun h' dd' hs=>?_
 obtain⟨ob,es,ep,hq,hx,hd,he,_,_⟩:=dd';have tw:TM X.K H (upd H a (.ext (av a (storedH xs k b r)))):=.put e (fun _ z=>by cases z) fun _ _ z=>by cases z
 have tb:av a (storedH xs k b r) h':=⟨ob,es,ep,hq,hx,hd,he⟩;have I':Inv X pins σ (upd H a (.ext (av a (storedH xs k b r)))) {s with heap:=h',toks:=s.toks+(tupleKind (intKind X.prog X.w)).draws k}:=
  gA I (by rw[e];exact True.intro) hs ⟨ob,hq⟩ ⟨tb,⟨ob,hq⟩,fun g1 g2 ⟨o1,es1,ep1,a1,a2,a3,a4⟩ kk=>⟨o1,es1,ep1,kk _ a1,a2,a3,a4⟩⟩
 refine⟨_,I',back _ _ (rm.write (u:=.dt (ak kt k) (aN kt ds k y)) e (fun _ z=>by cases z) (fun _ _ z=>by cases z) ⟨vs',_,ae,⟨h1,cS z.nd,Nat.le_trans fj hz,z.no,h2,fun x hx'=>?_⟩,h3.mono tw⟩) tw h⟩
 rcases h4 x hx' with ⟨q1,q2⟩|⟨x',m,q1,q2⟩
 ·rw[q1,q2];exact tw.t _ _ sq
 ·rw[<-q1,<-q2];exact tw.t _ _ (z.at_ x' m)
end
end L2
namespace L2
open PySem PySem.Spec PyProof.Rows PySem.W
section
variable {A:Around}{s:Shared}{ob:Obj}{es:Array DictEntry}{e:DictEntry}
theorem nM(hn:(d == sysModules)=false):MeetsIn prog w (Builtin.«dict.__len__» ⟨[.ref d],[]⟩) (fun _ R s=>∃ob es ep,s.heap.get? d=some ob/\ob.data=.dict es ep/\R (.ok (.ret (.int es.size s.toks))) {s with toks:=s.toks+1}):=
 .of_wp fun A R s ⟨ob,es,ep,ho,hd,q⟩=>by
  show wpAny _ _ (dictSize d >>=_) _ _ s;unfold dictSize;refine wpAny_bind (wpAny_bind (wpAny_dictEntries ho hd (wpAny_pure ?_)));show wpAny _ _ (Builtin.Dict.pendingCount d >>=_) _ _ s;exact wpAny_bind (wpAny_pendingCount_other hn (wpAny_ret_mkInt q))
theorem Cj(hn:(d == sysModules)=false)(ho:s.heap.get? d=some ob)(hx:ob.ExactDict)(hd:ob.data=.dict es ep)(hz:(es.size:Int) < 2 ^ 63)(q:Q (.int es.size (s.toks+1)) {s with toks:=s.toks+1+1}) :
  wpAny (model prog w) A (call (.builtin "len") [.ref d]) Q E s:=by
 have hT:s.TypeIs (.ref d) "dict":=⟨_,ho,hx.1⟩;refine Calls.call_function_entry kind_len plain_len entry_len (args_len1 _) ?_;unfold Builtin.«len»;refine wpAny_bind (m:=oneArg "len" _) (wpAny_pure ?_);refine wpAny_bind (m:=callSpecial? (.ref d) (Str.ofString "__len__")) (wpAny_callSpecial?_slot (name:=Str.ofString "__len__") hT F.slot_dict_len
  (call_meetsIn F.slot_dict_len hT F.entry_dict_len (F.args_dict_len_1 _) (nM hn) ⟨ob,es,ep,ho,hd,?_⟩))
 show wpAny _ _ _ _ _ {s with toks:=s.toks+1}
 refine wpAny_bind (wpAny_holding (wpAny_pure ?_));refine wpAny_bind (wpAny_letGo ?_);show wpAny _ _ (if ((es.size:Nat):Int) < 0 then _ else _) _ _ _
 rw[if_neg (by omega)]
 show wpAny _ _ (if ((es.size:Nat):Int)>=2 ^ 63 then _ else _) _ _ _
 rw[if_neg (by omega)]
 exact wpAny_bind (wpAny_mkInt (wpAny_pure ⟨_,rfl,q⟩))
theorem uh(hn:(d == sysModules)=false)(ho:s.heap.get? d=some ob)(hx:ob.ExactDict)(hd:ob.data=.dict es ep)
  (hQ:Q (.ref s.heap.objs.size) {s with heap:=s.heap.push {cls:=.type "dict_keyiterator",data:=.fields #[.ref d,.int 0 0,.int es.size 0,.int ep 0]}}):wpAny (model prog w) A (pyIter (.ref d)) Q E s:=by
 have hT:s.TypeIs (.ref d) "dict":=⟨_,ho,hx.1⟩;refine wpAny_pyIter_slot hT F.slot_dict_iter (wpAny_call_entry F.slot_dict_iter hT F.entry_dict_iter ?_ (F.args_dict_iter_1 _));unfold Builtin.«dict.__iter__»;refine wpAny_bind ?_;unfold Builtin.Dict.dictSlotNone;refine wpAny_bind (wpAny_notOrdered_dict hT ?_);show wpAny _ _ (pure (Value.ref d)) _ _ s;refine wpAny_pure ?_;show wpAny _ _ (Builtin.Dict.showsAll d >>=_) _ _ s;unfold Builtin.Dict.showsAll;rw[if_neg (by rw[hn];exact Bool.false_ne_true)]
 refine wpAny_bind (wpAny_pure (wpAny_bind (wpAny_dictEntries ho hd (wpAny_bind (wpAny_dictEpoch ho hd ?_)))));refine wpAny_bind (wpAny_newObj_type (wpAny_pure ⟨_,rfl,"dict_keyiterator",_,⟨_,Heap.get?_push_size _ rfl,rfl⟩,F.slot_dict_keyiterator_next.lookup,?_⟩));simpa [rawInt] using hQ
theorem kO(hit:s.heap.IsKeyIter it d i es.size ep)(hod:s.heap.get? d=some ob)(hdd:ob.data=.dict es ep)(he:es[i]?=some e)
  (hQ:∀h',h'.IsKeyIter it d (i+1) es.size ep->Heap.SameBut it s.heap h'->Q (some e.key) {s with heap:=h'}):wpAny (model prog w) A (pyNext (.ref it)) Q E s:=by
 obtain⟨o,ho,hc,hd⟩:=id hit;unfold pyNext;refine wpAny_bind (wpAny_attempt (wpAny_callSpecial?_slot (name:=Str.ofString "__next__") hit.typeIs F.slot_dict_keyiterator_next
  (wpAny_call_entry F.slot_dict_keyiterator_next hit.typeIs F.entry_dict_keyiterator_next ?_ (F.args_dict_keyiterator_next_1 _))))
 refine wpAny_bind (wpAny_pure (wpAny_bind (wpAny_bind ?_)))
 first|refine wpAny_bind (wpAny_typeNameOfWhole_keyiter hit.typeIs (wpAny_pure ?_))|refine wpAny_bind (wpAny_typeNameOf_keyiter hit.typeIs (wpAny_pure ?_))
 refine wpAny_bind (wpAny_fieldsOf ho hd ?_);simp only[show Builtin.Dict_items.ownsTuple "dict_keyiterator"=false by decide,Bool.false_eq_true,if_false]
 show wpAny _ _ (if (Value.ref d == Value.none)=true then _ else _) _ _ s
 rw[if_neg (show ¬ ((Value.ref d == Value.none)=true) from Bool.false_ne_true)];refine wpAny_bind (wpAny_pure (wpAny_bind (wpAny_dictEntries hod hdd ?_)));rw[if_neg (by simp)]
 refine wpAny_bind (wpAny_pure (wpAny_bind (wpAny_dictEpoch hod hdd ?_)));rw[if_neg (by simp)]
 refine wpAny_pure ?_;simp only[show ¬ ((i:Int) < 0) from by omega,if_false,Int.toNat_natCast,he]
 refine wpAny_bind ?_
 first|refine wpAny_bind (wpAny_typeNameOfWhole_keyiter hit.typeIs (wpAny_pure ?_))|refine wpAny_bind (wpAny_typeNameOf_keyiter hit.typeIs (wpAny_pure ?_))
 refine wpAny_bind (wpAny_isOneOf_keyiter hit.typeIs ?_);show wpAny _ _ (setField (.ref it) 1 (rawInt ((i:Int)+1)) >>=_) _ _ s;refine wpAny_bind (wpAny_setField ho hd (by simp) ?_)
 have hit':(s.heap.update it (Obj.mapFields (·.setIfInBounds 1 (rawInt ((i:Int)+1))))).IsKeyIter it d (i+1) es.size ep:=
  ⟨_,Heap.get?_update_self _ ho (Obj.isFreed_of_fields (Obj.data_mapFields hd _)),(Obj.cls_mapFields ..).trans hc,by rw[Obj.data_mapFields hd];simp[rawInt]⟩
 refine wpAny_bind (wpAny_holding ?_);refine wpAny_bind (wpAny_isOneOf_keyiter (s:={s with heap:=s.heap.update it (Obj.mapFields (·.setIfInBounds 1 (rawInt ((i:Int)+1))))}) hit'.typeIs ?_)
 show wpAny _ _ (pure e.key) _ _ _;exact wpAny_pure (wpAny_pure ⟨_,rfl,wpAny_pure (hQ _ hit' (Heap.SameBut.update ..))⟩)
theorem kY(hh:A.handled=none)(hit:s.heap.IsKeyIter it d i es.size ep)(hod:s.heap.get? d=some ob)(hdd:ob.data=.dict es ep)(he:es.size<=i)
  (hQ:∀h',Heap.ExtBut it s.heap h'->Q none {s with heap:=h'}):wpAny (model prog w) A (pyNext (.ref it)) Q E s:=by
 obtain⟨o,ho,hc,hd⟩:=id hit;unfold pyNext;refine wpAny_bind (wpAny_attempt (wpAny_callSpecial?_slot (name:=Str.ofString "__next__") hit.typeIs F.slot_dict_keyiterator_next
  (wpAny_call_entry F.slot_dict_keyiterator_next hit.typeIs F.entry_dict_keyiterator_next ?_ (F.args_dict_keyiterator_next_1 _))))
 refine wpAny_bind (wpAny_pure (wpAny_bind (wpAny_bind ?_)))
 first|refine wpAny_bind (wpAny_typeNameOfWhole_keyiter hit.typeIs (wpAny_pure ?_))|refine wpAny_bind (wpAny_typeNameOf_keyiter hit.typeIs (wpAny_pure ?_))
 refine wpAny_bind (wpAny_fieldsOf ho hd ?_);simp only[show Builtin.Dict_items.ownsTuple "dict_keyiterator"=false by decide,Bool.false_eq_true,if_false]
 show wpAny _ _ (if (Value.ref d == Value.none)=true then _ else _) _ _ s
 rw[if_neg (show ¬ ((Value.ref d == Value.none)=true) from Bool.false_ne_true)];refine wpAny_bind (wpAny_pure (wpAny_bind (wpAny_dictEntries hod hdd ?_)));rw[if_neg (by simp)]
 refine wpAny_bind (wpAny_pure (wpAny_bind (wpAny_dictEpoch hod hdd ?_)));rw[if_neg (by simp)]
 refine wpAny_pure ?_;simp only[show ¬ ((i:Int) < 0) from by omega,if_false,Int.toNat_natCast,Array.getElem?_eq_none he]
 refine wpAny_bind ?_
 first|refine wpAny_bind (wpAny_typeNameOfWhole_keyiter hit.typeIs (wpAny_pure ?_))|refine wpAny_bind (wpAny_typeNameOf_keyiter hit.typeIs (wpAny_pure ?_))
 show wpAny _ _ (setField (.ref it) 0 .none >>=_) _ _ s;refine wpAny_bind (wpAny_setField ho hd (by simp) ?_)
 show wpAny _ _ (newExc (.type "StopIteration") [] >>=_) _ _ _;refine wpAny_bind ?_;simp only[newExc,newTuple];refine wpAny_bind (wpAny_newObj_type ?_ (by size_fits))
 refine wpAny_bind (m:=firstArgMember _ _) (wpAny_of_eq (a:=Value.none) (by first|rfl|(simp only[firstArgMember];rfl)) ?_)
 refine wpAny_newObj_type ?_ (by size_fits)
 simp only[raiseNew];refine wpAny_bind (wpAny_handled ?_);rw[show A.in1.handled=none from hh];refine wpAny_bind (wpAny_pure (wpAny_throw ?_));refine wpAny_bind (wpAny_isInstance (T:="StopIteration") (b:=true) ⟨_,Heap.get?_push_size _ rfl,rfl⟩ isSubtype_stop ?_);exact wpAny_pure (hQ _ (((Heap.SameBut.update ..).extBut.push _).push _))
theorem ox(hh:A.handled=none)(I d:Addr)(hne:d≠I)(hd:ob.data=.dict es ep) :
  Walks prog w A I [I,d] [I] es.size (fun i v=>∃e,es[i]?=some e/\v=e.key) (fun i h=>h.IsKeyIter I d i es.size ep/\h.get? d=some ob) where
 sub:=fun b hb=>by simp at hb;simp[hb]
 frame:=fun _ _ _ st hk=>⟨st.1.at fun o e=>hk I (by simp) o e,hk d (by simp) _ st.2⟩
 item:=fun i s Q E hi st hQ=>by
  have he:es[i]?=some es[i]:=by simp[hi]
  refine kO st.1 st.2 hd he fun h' hit' hs'=>?_
  exact hQ _ h' s.toks ⟨_,he,rfl⟩ ⟨hit',hs'.extBut d ob hne st.2⟩ fun b o hb e=>hs'.extBut b o (fun h=>hb (by simp[h])) e
 done:=fun s Q E st hQ=>kY hh st.1 st.2 hd (Nat.le_refl _) fun h' he'=>hQ h' s.toks fun b o hb e=>he' b o (fun h=>hb (by simp[h])) e
 self:=fun _ _ _ _ st hQ=>wpAny_pyIter_keyiter st.1 hQ
theorem qO(lo:(d == sysModules)=false)(hx:ob.ExactDict)(hd:ob.data=.dict es ep):KdlSrc prog w "dict" d d es.size (fun i v=>∃e,es[i]?=some e/\v=e.key) (fun h=>h.get? d=some ob) where
 type:=fun _ hm=>⟨_,hm,hx.1⟩
 there:=fun _ hm=>⟨Heap.lt_size hm,Heap.lt_size hm⟩
 keep:=fun _ _ hm hk=>hk d (.inl rfl) _ hm
 notList:=by decide
 notTuple:=by decide
 hint:=fun _ _ _ _ hm hq=>kdl_hint_dict ⟨_,hm,hx.1⟩ hq
 iter:=fun _ _ hh hm=>⟨_,_,(fun _ _ hq=>uh lo hm hx hd hq),ox hh _ d (Nat.ne_of_lt (Heap.lt_size hm)) hd,⟨⟨_,Heap.get?_push_size _ rfl,rfl,rfl⟩,Heap.get?_push_of_some _ hm⟩⟩
end
end L2
namespace L2
open PySem PySem.Spec PyProof.Rows
section
variable {X:Cx}
theorem uc(neg:Bool):VO X (compareOp (if neg=true then .IsNot else .Is)) (kK neg):=by
 intro pins s σ H x y v u v2 u2 M Q Q2 I rv ru dx dy rm q back;unfold kK at q;split at q
 ·cases (show u=.non from dy);cases neg with
  |true=>exact VO.of3 rg pins s σ H x .non v .non v2 u2 M Q Q2 I rv ru dx dy rm ⟨rfl,by rw[Bool.true_xor]at q;exact q⟩ back
  |false=>exact VO.of3 Cg pins s σ H x .non v .non v2 u2 M Q Q2 I rv ru dx dy rm ⟨rfl,by rw[Bool.false_xor]at q;exact q⟩ back
 ·rename_i b;cases (show u=.bl b from dy);cases ru;have fin:∀k,Q (.bl k) M->EP X pins σ Q2 (.bool k) s:=fun k q=>⟨.bl k,H,I,rfl,back _ _ _ _ bj rm (.refl _) q⟩
  split at q
  ·rename_i a;cases (show v=.bl a from dx);cases rv;have e:((Value.bool a == Value.bool b):Bool)=(a == b):=by cases a<;>cases b<;>rfl
   cases neg with
   |true=>exact wpAny_isNot_plain rfl (by rw[e];rw[Bool.true_xor]at q;exact fin _ q)
   |false=>exact wpAny_is_plain rfl (by rw[e];rw[Bool.false_xor]at q;exact fin _ q)
  ·cases (show v=.non from dx);cases rv;cases neg with
   |true=>exact wpAny_isNot_other rfl (fun z=>nomatch z) (fin _ q)
   |false=>exact wpAny_is_other rfl (fun z=>nomatch z) (fin _ q)
  ·exact q.elim
 ·exact q.elim
theorem qT:∀{ds:List D}{us:List β},Paired R ds us->(∀d u,d∈ds->R d u->e u=f d)->us.any e=ds.any f
 |_,_,.nil,_=>rfl
 |d::ds,u::us,.cons r t,h=>by
  rw[List.any_cons,List.any_cons,h d u List.mem_cons_self r,qT t fun d u hd=>h d u (List.mem_cons_of_mem _ hd)]
theorem fu{K:PySem.W.Frag}:∀{ds:List D}{vs:List V}{us:List Value},DenL K H ds vs->Vals vs us->Paired (fun d u=>∃v,Den K H d v/\RelV v u) ds us
 |[],_,_,h,r=>by cases (show _=[] from h);cases r;exact .nil
 |d::ds,_,_,h,r=>by
  obtain⟨v,r',rfl,dv,dl⟩:=h;cases r with
  |cons r1 r2=>exact .cons ⟨v,dv,r1⟩ (fu dl r2)
theorem Paired.mem_right:∀{l:List α}{m:List β},Paired R l m->∀b∈m,∃a∈l,R a b
 |_,_,.nil,b,hb=>by cases hb
 |a::l,c::m,.cons r t,b,hb=>by
  rcases List.mem_cons.mp hb with rfl|hb
  ·exact⟨a,List.mem_cons_self,r⟩
  ·obtain⟨a',h1,h2⟩:=Paired.mem_right t b hb;exact⟨a',List.mem_cons_of_mem _ h1,h2⟩
theorem tT(hu:X.A.units+64 < cLine)(neg:Bool):VO X (compareOp (if neg=true then .NotIn else .In)) (jX neg):=by
 intro pins s σ H x y v u v2 u2 M Q Q2 I rv ru dx dy rm q back;unfold jX at q;split at q
 ·rename_i ds eds;obtain⟨p1,p2,q⟩:=q;obtain⟨p,vs,rfl,hq,dl⟩:=fg rm eds dy;cases ru;obtain⟨H',I',t',d1⟩:=lu I rm dx p1;have dl':=dl.mono t';have fin:EP X pins σ Q2 (.bool (neg ^^ ds.any fun d=>eqD d (res M x))) s:=⟨.bl _,H,I,rfl,back _ _ _ _ bj rm (.refl _) q⟩
  classical
  have key:∀{its:List Value},Vals vs its->∃e:Value->Bool,its.any e=(ds.any fun d=>eqD d (res M x))/\∀w∈its,SeqAt.EqAt X.A.in1 s w v2 (e w):=fun {its} r=>by
   have pd:=fu dl' r
   let e:Value->Bool:=fun w=>if h:∃d∈ds,∃v,Den X.K H' d v/\RelV v w then eqD h.choose (res M x) else false
   have he:∀d w,d∈ds->(∃v,Den X.K H' d v/\RelV v w)->e w=eqD d (res M x):=fun d w hd ⟨v',dv,rw'⟩=>by
    have h:∃d∈ds,∃v,Den X.K H' d v/\RelV v w:=⟨d,hd,v',dv,rw'⟩;obtain⟨hm,v'',dv2,rw2⟩:=h.choose_spec;have:v''=v':=rw2.inj rw';subst this;have e1:h.choose=d:=jQ I' rfl 8 (List.all_eq_true.mp p2 _ hm) (List.all_eq_true.mp p2 _ hd) dv2 dv;show (if h:∃d∈ds,∃v,Den X.K H' d v/\RelV v w then eqD h.choose (res M x) else false)=_
    rw[dif_pos h,e1]
   refine⟨e,qT pd he,fun w hw=>?_⟩
   obtain⟨d,hd,v',dv,rw'⟩:=Paired.mem_right pd w hw;rw[he d w hd ⟨v',dv,rw'⟩];exact (we I' rfl 8 (A:=X.A.in1) (List.all_eq_true.mp p2 _ hd) p1 dv d1 rw' rv (by show X.A.units+1+8 < cLine;omega)).2.2
  rcases hq with hq|hq
  ·obtain⟨its,r,pl',hz⟩:=I.list hq;obtain⟨e,e1,e2⟩:=key r;have ea:its.toArray.any e=ds.any fun d=>eqD d (res M x):=by rw[<-e1];simp
   cases neg with
   |true=>exact SeqAt.notIn_listAt e pl'.isList (fun w hw=>e2 w (by simpa using hw)) (by rw[ea];rw[Bool.true_xor]at fin;exact fin)
   |false=>exact SeqAt.in_listAt e pl'.isList (fun w hw=>e2 w (by simpa using hw)) (by rw[ea];rw[Bool.false_xor]at fin;exact fin)
  ·obtain⟨its,r,pl',hz⟩:=I.tuple hq;obtain⟨e,e1,e2⟩:=key r;have ea:its.toArray.any e=ds.any fun d=>eqD d (res M x):=by rw[<-e1];simp
   cases neg with
   |true=>exact SeqAt.notIn_tupleAt e pl' (fun w hw=>e2 w (by simpa using hw)) (by rw[ea];rw[Bool.true_xor]at fin;exact fin)
   |false=>exact SeqAt.in_tupleAt e pl' (fun w hw=>e2 w (by simpa using hw)) (by rw[ea];rw[Bool.false_xor]at fin;exact fin)
 ·split at q
  ·rename_i o e;obtain⟨a,ov,rfl,g,od⟩:=et (X:=X) e rm dy dx;cases ru;refine Dy neg (by omega) I g rv fun s' I'=>⟨.bl (neg ^^ ov.isSome),H,I',rfl,back _ _ (.bl _) _ bj rm (.refl _) ?_⟩
   have:o.isSome=ov.isSome:=by
    cases o<;>cases ov<;>first|rfl|exact od.elim
   rw[<-this];exact q
  ·split at q
   ·rename_i i j _ _;cases (show v=.str i from dx);cases (show u=.str j from dy);cases neg with
    |false=>exact nO pins s σ H _ _ v2 u2 Q2 I rv ru ⟨i,j,rfl,rfl,back _ _ (.bl _) _ bj rm (.refl _) (by rw[Bool.false_xor]at q;exact q)⟩
    |true=>exact jt pins s σ H _ _ v2 u2 Q2 I rv ru ⟨i,j,rfl,rfl,back _ _ (.bl _) _ bj rm (.refl _) (by rw[Bool.true_xor]at q;exact q)⟩
   ·exact q.elim
theorem dZ(hu:X.A.units+64 < cLine)(op:CmpOp):VO X (compareOp op) (ao op):=by
 cases op with
 |Eq=>exact ue hu false
 |NotEq=>exact ue hu true
 |Lt=>exact (VO.of3 CA).imp fun _ _ _ _ h=>e8 h
 |LtE=>exact (VO.of3 Ca).imp fun _ _ _ _ h=>e8 h
 |Gt=>exact (VO.of3 Dq).imp fun _ _ _ _ h=>e8 h
 |GtE=>exact (VO.of3 CS).imp fun _ _ _ _ h=>e8 h
 |Is=>exact uc false
 |IsNot=>exact uc true
 |In=>exact tT hu false
 |NotIn=>exact tT hu true
theorem fL{K:PySem.W.Frag}(h:DenL K H [d] vs):∃v,vs=[v]/\Den K H d v:=by
 obtain⟨v,r,rfl,dv,rfl⟩:=h;exact⟨v,rfl,dv⟩
noncomputable def rLen0(xs:List D)(M:MH)(Q:VK3):Prop:=match xs with
  |[x]=>match ay M x with
   |some ds=>Q (.int ds.length) M
   |none=>False
  |_=>False
theorem sK:VC X (.builtin "len") rLen0:=(VC.of3 zI).imp fun xs M Q h=>by
 simp only[rLen0]at h;split at h
 ·rename_i x;split at h
  ·rename_i ds e;refine⟨x,ds,rfl,?_,h⟩;cases x with
   |tup es=>exact .inr (by rw[show es=ds from Option.some.inj e])
   |rol es=>exact .inl (.inl (by rw[show es=ds from Option.some.inj e]))
   |ref a=>
    cases q:M a with
    |none=>simp[ay,ai,q]at e
    |some o=>
     cases o with
     |lst es=>exact .inl (.inr ⟨a,rfl,by rw[q];simp[ay,ai,q]at e;rw[e]⟩)
     |_=>simp[ay,ai,q]at e
   |_=>cases e
  ·exact h.elim
 ·exact h.elim
theorem ni{s:Shared}{ks:List (List Int)}{xs:List (List Int×Addr×Value)}(I:Inv X pins σ H s)(e:Rd H p (.ext (av p xs)))(z:TabOk X.K H p ks xs vs) :
  ∃ob es ep,s.heap.get? p=some ob/\ob.ExactDict/\ob.data=.dict es ep/\es.toList=(xs.map fun x=>(⟨tH x.1,.ref x.2.1,x.2.2⟩:DictEntry))/\es.size=ks.length:=by
 obtain⟨⟨ob,es,ep,h1,h2,h3,h4⟩,_⟩:=(show ObjOk X.prog X.w H s.heap p (.ext (av p xs)) from e.ok I.hok);refine⟨ob,es,ep,h1,h2,h3,h4,?_⟩;have:=congrArg List.length h4;have l3:xs.length=ks.length:=by rw[<-z.kx];simp
 simp at this;omega
theorem uB:VC X (.builtin "len") (rBi .len):=by
 intro pins s σ H xs vs us M Q Q2 I rs dl rm q back;by_cases h:rLen0 xs M Q
 ·exact sK pins s σ H xs vs us M Q Q2 I rs dl rm h back
 ·simp only[rBi]at q;split at q
  ·rename_i x;split at q
   ·rename_i ds e;exact absurd (by simp only[rLen0,e];exact q) h
   ·split at q
    ·rename_i ks ds e;obtain⟨v,rfl,dv⟩:=fL dl;obtain⟨p,ws,ts,rfl,rd,z,_⟩:=ef e rm dv;obtain⟨ob,es,ep,h1,h2,h3,h4,h5⟩:=ni I rd z;obtain⟨u,rfl,rx⟩:=dD rs;cases rx;refine Cj z.no h1 h2 h3 (by have:=z.sz;have:=sizeLine_eq;omega) ⟨.int es.size,H,I.tok _,⟨_,rfl⟩,?_⟩
     rw[h5];exact back _ _ _ _ aQ rm (.refl _) q
    ·split at q
     ·rename_i z _ _;obtain⟨v,rfl,dv⟩:=fL dl;cases (show v=.str z from dv);exact jN pins s σ H _ us Q2 I rs ⟨z,rfl,q.1,back _ _ _ _ aQ rm (.refl _) q.2⟩
     ·exact q.elim
  ·exact q.elim
theorem wt(hc:X.calm=true):VC X (.builtin "max") (rBi .max):=(VC.of3 (yF hc)).imp fun xs M Q h=>by
 simp only[rBi]at h;split at h
 ·exact⟨_,_,rfl,h⟩
 ·exact h.elim
theorem xo(hc:X.calm=true):VC X (.builtin "min") (rBi .min):=(VC.of3 (ym hc)).imp fun xs M Q h=>by
 simp only[rBi]at h;split at h
 ·exact⟨_,_,rfl,h⟩
 ·exact h.elim
theorem iW{K:PySem.W.Frag}:∀ks:List Int,DenL K H (ks.map D.int) (ks.map V.int)
 |[]=>rfl
 |k::r=>⟨_,_,rfl,rfl,iW r⟩
theorem kJ{K:PySem.W.Frag}:∀{ts:List (List Int×Addr×Value)},(∀x∈ts,SqT K H x.2.1 (x.1.map V.int))->DenL K H ((ts.map (·.1)).map cJ) (ts.map fun x=>V.ref x.2.1)
 |[],_=>rfl
 |x::r,h=>⟨_,_,rfl,mP (h x List.mem_cons_self) (iW _),kJ fun y hy=>h y (List.mem_cons_of_mem _ hy)⟩
theorem iQ:∀ts:List (List Int×Addr×Value),Vals (ts.map fun x=>V.ref x.2.1) (ts.map fun x=>Value.ref x.2.1)
 |[]=>.nil
 |x::r=>.cons rfl (iQ r)
theorem rq(fz:Bool)(hc:X.calm=true):VC X (.type "list") (rBi (.list fz)):=by
 intro pins s σ H xs vs us M Q Q2 I r dl rm q back;simp only[rBi]at q;split at q
 ·rename_i x;split at q
  ·rename_i ds e;obtain⟨v,rfl,dv⟩:=fL dl;obtain⟨p,vs,rfl,hq,dl2⟩:=fg rm e dv;refine thn (d7 pins s σ H _ us (fun w H'=>∃l,w=.ref l/\H l=none/\H'=upd H l (.lst vs)) I r ⟨p,vs,rfl,hq,fun l hl=>⟨l,rfl,hl,rfl⟩⟩) fun u s1 ⟨w,H1,I1,r1,l,e1,hl,e2⟩=>?_
   subst e1;subst e2;cases r1;exact be I1 hl dl2 rm (.refl _) q back
  ·split at q
   ·rename_i ks ds e;obtain⟨v,rfl,dv⟩:=fL dl;obtain⟨p,ws,ts,rfl,rd,z,_⟩:=ef e rm dv;obtain⟨ob,es,ep,h1,h2,h3,h4,h5⟩:=ni I rd z;obtain⟨u,rfl,rx⟩:=dD r;cases rx;have hz:es.size<=sizeLine:=by have:=z.sz;omega
    refine PySem.W.kdl_call (qO z.no h2 h3) (I.ok.hd hc) h1 hz fun h' tk acc' c' kp e hi=>?_
    have hp:H s.heap.objs.size=none:=I.hok.fresh (Nat.le_refl _);have ea:acc'.toList=ts.map fun x=>Value.ref x.2.1:=by
     refine List.ext_getElem? fun j=>?_
     by_cases hj:j < acc'.size
     ·have e1:acc'[j]?=some acc'[j]:=by simp[hj]
      obtain⟨en,e2,e3⟩:=hi.2 j _ e1;have e4:es.toList[j]?=some en:=by simpa using e2
      rw[h4,List.getElem?_map]at e4;cases hx:ts[j]? with
      |none=>rw[hx]at e4;cases e4
      |some x=>
       rw[hx]at e4;cases e4;rw[Array.getElem?_toList,e1,e3,List.getElem?_map,hx];rfl
     ·have h6:=hi.1;have h7:ts.length=es.size:=by
       have:=congrArg List.length h4;simpa using this.symm
      rw[List.getElem?_eq_none (by simpa using hj),List.getElem?_eq_none (by rw[List.length_map];omega)]
    have hv:Vals (ts.map fun x=>V.ref x.2.1) acc'.toList:=by rw[ea];exact iQ ts
    have I1:=I.laid (a:=s.heap.objs.size) (o:=.lst (ts.map fun x=>V.ref x.2.1)) (t':=tk) kp (Nat.le_refl _) ⟨by rw[hv.length,ea,List.length_map];have:=z.sz;rw[<-z.kx,List.length_map]at this;exact this,acc'.toList,c',hv,by simpa using e⟩
    exact be I1 hp (by rw[<-z.kx];exact kJ z.at_) rm (.refl _) q back
   ·exact q.elim
 ·exact q.elim
end
end L2
namespace L2
open PySem PySem.Spec PyProof.Rows PySem.W
theorem ints_of{K:PySem.W.Frag}:∀{es:List D}{ns:List Int}{vs:List V}{us:List Value},cR es=some ns->DenL K H es vs->Vals vs us->IntsAre us ns
 |[],ns,vs,us,h,dl,r=>by
  cases (show []=ns from Option.some.inj h);cases (show vs=[] from dl);cases r;exact .nil
 |d::es,ns,vs,us,h,dl,r=>by
  obtain⟨v,ws,rfl,dv,dl⟩:=dl;cases d with
  |int i=>
   cases q:cR es with
   |none=>simp[cR,q]at h
   |some ms=>
    simp[cR,q]at h;subst h;cases (show v=.int i from dv);cases r with
    |cons h1 h2=>
     obtain⟨t,rfl⟩:=h1;exact .cons _ _ (ints_of q dl h2)
  |_=>simp[cR]at h
end L2
namespace L2
open PySem PySem.Spec PyProof.Rows
theorem ex9{α β γ δ:Sort _}{P1 P2 P3 P4 P5:α->β->γ->δ->Prop}{R:Prop}(h:∃a b c d,P1 a b c d/\P2 a b c d/\P3 a b c d/\P4 a b c d/\P5 a b c d)(k:∀a b c d,P1 a b c d->P2 a b c d->P3 a b c d->P4 a b c d->P5 a b c d->R):R:=
 h.elim fun a h=>h.elim fun b h=>h.elim fun c h=>h.elim fun d h=>k a b c d h.1 h.2.1 h.2.2.1 h.2.2.2.1 h.2.2.2.2
noncomputable def B5(K:PySem.W.Frag)(r:D->D->MH->VK3->Prop):R2:=fun v u H Q2=>∃x y M Q,Den K H x v/\Den K H y u/\RelM K M H/\r x y M Q/\Back K H Q Q2
noncomputable def B4(K:PySem.W.Frag)(r:D->MH->VK3->Prop):V->Hp->VK->Prop:=fun v H Q2=>∃x M Q,Den K H x v/\RelM K M H/\r x M Q/\Back K H Q Q2
noncomputable def B6(K:PySem.W.Frag)(r:List D->MH->VK3->Prop):List V->Hp->VK->Prop:=fun vs H Q2=>∃xs M Q,DenL K H xs vs/\RelM K M H/\r xs M Q/\Back K H Q Q2
section
variable {X:Cx}
theorem VO.op{f:Value->Value->Sem Value}{r:D->D->MH->VK3->Prop}(h:VO X f r):OpR X f (B5 X.K r):=fun pins s σ H v u v2 u2 Q2 I rv ru ⟨x,y,M,Q,dx,dy,rm,q,back⟩=>h pins s σ H x y v u v2 u2 M Q Q2 I rv ru dx dy rm q back
theorem VU.op{f:Value->Sem Value}{r:D->MH->VK3->Prop}(h:VU X f r):UnR X f (B4 X.K r):=fun pins s σ H v v2 Q2 I rv ⟨x,M,Q,dx,rm,q,back⟩=>h pins s σ H x v v2 M Q Q2 I rv dx rm q back
theorem VC.op{f:Value}{r:List D->MH->VK3->Prop}(h:VC X f r):CallR X f (B6 X.K r):=fun pins s σ H vs us Q2 I rv ⟨xs,M,Q,dx,rm,q,back⟩=>h pins s σ H xs vs us M Q Q2 I rv dx rm q back
end
section
variable {K:PySem.W.Frag}
theorem nD{ta tb:St3->MH->VK3->XN->Prop}{R3:D->D->MH->Prop}{R2:V->V->Hp->Prop}(rm:RelM K M H)(ds:DenS K H σ3 σ)(lk:LkE K cls H E3 (E2 σ))
  (h:ta σ3 M (fun x M1=>tb σ3 M1 (fun y M2=>R3 x y M2) E3) E3) (k:∀v u H' x y M',Den K H' x v->Den K H' y u->RelM K M' H'->TM K H H'->R3 x y M'->R2 v u H') :
  low K cls E2 ta σ H fun v H1=>low K cls E2 tb σ H1 fun u H2=>R2 v u H2:=
 ⟨σ3,M,_,E3,rm,ds,lk,h,fun v H1 x M1 dv rm1 t1 h1=>⟨σ3,M1,_,E3,rm1,ds.mono t1,lk.mono t1,h1,fun u H2 y M2 du rm2 t2 h2=>k v u H2 x y M2 (dv.mono t2) du rm2 (t1.trans t2) h2⟩⟩
theorem aI{ta:St3->MH->VK3->XN->Prop}{R3:VK3}{R2:VK}(rm:RelM K M H)(ds:DenS K H σ3 σ)(lk:LkE K cls H E3 (E2 σ))(h:ta σ3 M R3 E3)(k:∀v H' x M',Den K H' x v->RelM K M' H'->TM K H H'->R3 x M'->R2 v H') :
  low K cls E2 ta σ H R2:=⟨σ3,M,R3,E3,rm,ds,lk,h,k⟩
end
section
variable {X:Cx}{cls:Nat->Addr}{E2:St->XK}{a b c e:Expr}{ta tb tc te:St3->MH->VK3->XN->Prop}{pos:Pos}
theorem ye{i:Nat}{x:Str}(hN:X.N[i]?=some x)(hv:Vis X.env.scope x)(hd:(x == ("__debug__" : Str))=false)(hcd:(x == ("__classdict__" : Str))=false) :
  PE X (.Name x pos) (low X.K cls E2 fun σ M Q _=>match σ[i]? with|some (some d)=>Q d M|_=>False):=
 (jr hN hv hd hcd).imp fun σ H Q2 hl_=>ex9 hl_ fun σ3 M Q E3 rm ds lk h back=>by
  try dsimp only at h
  split at h
  ·rename_i d e;obtain⟨v,e1,e2⟩:=ds.2 i d e;exact⟨v,e1,back _ _ _ _ e2 rm (.refl _) h⟩
  ·exact h.elim
theorem kj{v:V}{d:D}(h:PE X e (tC v))(hd:∀H,Den X.K H d v):PE X e (low X.K cls E2 fun _ M Q _=>Q d M):=
 h.imp fun σ H Q2 hl_=>ex9 hl_ fun σ3 M Q E3 rm ds lk h back=>back _ _ _ _ (hd H) rm (.refl _) h
theorem zR{op:Operator}{r:D->D->MH->VK3->Prop}(ho:VO X (binaryOp op) r)(ha:PE X a (low X.K cls E2 ta))(hb:PE X b (low X.K cls E2 tb)) :
  PE X (.BinOp a op b pos) (low X.K cls E2 fun σ M Q E=>ta σ M (fun x M1=>tb σ M1 (fun y M2=>r x y M2 Q) E) E):=
 (yo ho.op ha hb).imp fun σ H Q2 hl_=>ex9 hl_ fun σ3 M Q E3 rm ds lk h back=>nD rm ds lk h fun v u H' x y M' dx dy rm' t q=>⟨x,y,M',Q,dx,dy,rm',q,back.mono t⟩
theorem yd{op:UnaryOp}{r:D->MH->VK3->Prop}(ho:VU X (unaryOp op) r)(ha:PE X a (low X.K cls E2 ta)) :
  PE X (.UnaryOp op a pos) (low X.K cls E2 fun σ M Q E=>ta σ M (fun x M1=>r x M1 Q) E):=
 (zB ho.op ha).imp fun σ H Q2 hl_=>ex9 hl_ fun σ3 M Q E3 rm ds lk h back=>aI rm ds lk h fun v H' x M' dx rm' t q=>⟨x,M',Q,dx,rm',q,back.mono t⟩
theorem yL{op:CmpOp}{r:D->D->MH->VK3->Prop}(ho:VO X (compareOp op) r)(ha:PE X a (low X.K cls E2 ta))(hb:PE X b (low X.K cls E2 tb))(hm:behindInMarks op b=false) :
  PE X (.Compare a [op] [b] pos) (low X.K cls E2 fun σ M Q E=>ta σ M (fun x M1=>tb σ M1 (fun y M2=>r x y M2 Q) E) E):=
 (rX ho.op ha hb hm).imp fun σ H Q2 hl_=>ex9 hl_ fun σ3 M Q E3 rm ds lk h back=>nD rm ds lk h fun v u H' x y M' dx dy rm' t q=>⟨x,y,M',Q,dx,dy,rm',q,back.mono t⟩
noncomputable abbrev boolQ(Q:Bool->MH->Prop):VK3:=fun r M=>match r with
 |.bl k=>Q k M
 |_=>False
theorem dj{K:PySem.W.Frag}{H:Hp}{Q:Bool->MH->Prop}{Q2:Bool->Hp->Prop}(k:∀b H' M',RelM K M' H'->TM K H H'->Q b M'->Q2 b H'):Back K H (boolQ Q) fun x H1=>∃k,x=.bl k/\Q2 k H1:=fun v H' d M' dv rm t q=>by
 unfold boolQ at q;split at q
 ·exact⟨_,dv,k _ _ _ rm t q⟩
 ·exact q.elim
theorem yp{op:CmpOp}{r:D->D->MH->VK3->Prop}(ho:VO X (compareOp op) r)(ha:PE X a (low X.K cls E2 ta))(hb:PE X b (low X.K cls E2 tb))(hm:behindInMarks op b=false) :
  PT X (.Compare a [op] [b] pos) (bw X.K cls E2 fun σ M Q E=>ta σ M (fun x M1=>tb σ M1 (fun y M2=>r x y M2 (boolQ Q)) E) E):=
 (sv ho.op ha hb hm).imp fun σ H Q2 hl_=>ex9 hl_ fun σ3 M Q E3 rm ds lk h back=>nD rm ds lk h fun v u H' x y M' dx dy rm' t q=>⟨x,y,M',_,dx,dy,rm',q,(dj back).mono t⟩
theorem yE(ha:PE X a (low X.K cls E2 ta))(he:∀whole,isTrue a X.env whole=(do let v<-whole;standAt a.pos;holding [v] (truthy v))):PT X a (bw X.K cls E2 fun σ M Q E=>ta σ M (boolQ Q) E):=
 (wm ha he).imp fun σ H Q2 hl_=>ex9 hl_ fun σ3 M Q E3 rm ds lk h back=>aI rm ds lk h fun v H' x M' dx rm' t q=>dj back v H' x M' dx rm' t q
variable {tA tB:St3->MH->(Bool->MH->Prop)->XN->Prop}{rest:List Expr}
theorem fD{K:PySem.W.Frag}{σ:St}{H:Hp}{σ3:St3}{M:MH}{E3:XN}{R3:Bool->MH->Prop}{R2:Bool->Hp->Prop}(rm:RelM K M H)(ds:DenS K H σ3 σ)(lk:LkE K cls H E3 (E2 σ))(h:tA σ3 M R3 E3)(k:∀b H' M',RelM K M' H'->TM K H H'->R3 b M'->R2 b H') :
  bw K cls E2 tA σ H R2:=⟨σ3,M,R3,E3,rm,ds,lk,h,k⟩
theorem mR(ha:PT X a (bw X.K cls E2 tA)):PW X (.BoolOp .And [a] pos) (bw X.K cls E2 tA):=rh ha
theorem oJ(ha:PT X a (bw X.K cls E2 tA)):PW X (.BoolOp .Or [a] pos) (bw X.K cls E2 tA):=wV ha
theorem nt(ha:PT X a (bw X.K cls E2 tA))(hb:PW X (.BoolOp .And (b::rest) pos) (bw X.K cls E2 tB)) :
  PW X (.BoolOp .And (a::b::rest) pos) (bw X.K cls E2 fun σ M Q E=>tA σ M (fun c M1=>if c=true then tB σ M1 Q E else Q false M1) E):=
 (uC ha hb).imp fun σ H Q2 hl_=>ex9 hl_ fun σ3 M Q E3 rm ds lk h back=>fD rm ds lk h fun c H' M' rm' t q=>by
  cases c with
  |true=>rw[if_pos rfl]at q ⊢;exact fD rm' (ds.mono t) (lk.mono t) q fun b H2 M2 r2 t2 q2=>back b H2 M2 r2 (t.trans t2) q2
  |false=>rw[if_neg Bool.false_ne_true]at q ⊢;exact back _ _ _ rm' t q
theorem rY(ha:PT X a (bw X.K cls E2 tA))(hb:PW X (.BoolOp .Or (b::rest) pos) (bw X.K cls E2 tB)) :
  PW X (.BoolOp .Or (a::b::rest) pos) (bw X.K cls E2 fun σ M Q E=>tA σ M (fun c M1=>if c=true then Q true M1 else tB σ M1 Q E) E):=
 (yR ha hb).imp fun σ H Q2 hl_=>ex9 hl_ fun σ3 M Q E3 rm ds lk h back=>fD rm ds lk h fun c H' M' rm' t q=>by
  cases c with
  |true=>rw[if_pos rfl]at q ⊢;exact back _ _ _ rm' t q
  |false=>rw[if_neg Bool.false_ne_true]at q ⊢;exact fD rm' (ds.mono t) (lk.mono t) q fun b H2 M2 r2 t2 q2=>back b H2 M2 r2 (t.trans t2) q2
theorem yn(ha:PT X a (bw X.K cls E2 tA)):PT X (.UnaryOp .Not a pos) (bw X.K cls E2 fun σ M Q E=>tA σ M (fun c M1=>Q (!c) M1) E):=
 (xJ ha).imp fun σ H Q2 hl_=>ex9 hl_ fun σ3 M Q E3 rm ds lk h back=>fD rm ds lk h fun c H' M' rm' t q=>back _ _ _ rm' t q
theorem t6(ha:PE X a (low X.K cls E2 ta))(hb:PE X (.BoolOp .And (b::rest) pos) (low X.K cls E2 tb)) :
  PE X (.BoolOp .And (a::b::rest) pos) (low X.K cls E2 fun σ M Q E=>ta σ M (fun x M1=>match x with|.bl c=>if c=true then tb σ M1 Q E else Q (.bl false) M1|_=>False) E):=
 (v6 ha hb).imp fun σ H Q2 hl_=>ex9 hl_ fun σ3 M Q E3 rm ds lk h back=>aI rm ds lk h fun v H' x M' dx rm' t q=>by
  split at q
  ·rename_i c;cases (show v=.bl c from dx);refine⟨c,rfl,?_⟩;cases c with
   |true=>rw[if_pos rfl]at q ⊢;exact aI rm' (ds.mono t) (lk.mono t) q fun v2 H2 x2 M2 d2 r2 t2 q2=>back v2 H2 x2 M2 d2 r2 (t.trans t2) q2
   |false=>rw[if_neg Bool.false_ne_true]at q ⊢;exact back _ _ _ _ bj rm' t q
  ·exact q.elim
theorem yK(ha:PE X a (low X.K cls E2 ta))(hb:PE X (.BoolOp .Or (b::rest) pos) (low X.K cls E2 tb)) :
  PE X (.BoolOp .Or (a::b::rest) pos) (low X.K cls E2 fun σ M Q E=>ta σ M (fun x M1=>match x with|.bl c=>if c=true then Q (.bl true) M1 else tb σ M1 Q E|_=>False) E):=
 (AA ha hb).imp fun σ H Q2 hl_=>ex9 hl_ fun σ3 M Q E3 rm ds lk h back=>aI rm ds lk h fun v H' x M' dx rm' t q=>by
  split at q
  ·rename_i c;cases (show v=.bl c from dx);refine⟨c,rfl,?_⟩;cases c with
   |true=>rw[if_pos rfl]at q ⊢;exact back _ _ _ _ bj rm' t q
   |false=>rw[if_neg Bool.false_ne_true]at q ⊢;exact aI rm' (ds.mono t) (lk.mono t) q fun v2 H2 x2 M2 d2 r2 t2 q2=>back v2 H2 x2 M2 d2 r2 (t.trans t2) q2
  ·exact q.elim
theorem zS(ha:PE X a (low X.K cls E2 ta)):PE X (.UnaryOp .Not a pos) (low X.K cls E2 fun σ M Q E=>ta σ M (fun x M1=>match x with|.bl c=>Q (.bl (!c)) M1|_=>False) E):=
 (xK ha).imp fun σ H Q2 hl_=>ex9 hl_ fun σ3 M Q E3 rm ds lk h back=>aI rm ds lk h fun v H' x M' dx rm' t q=>by
  split at q
  ·rename_i c;cases (show v=.bl c from dx);exact⟨c,rfl,back _ _ _ _ bj rm' t q⟩
  ·exact q.elim
theorem CY(hc:PT X c (bw X.K cls E2 tA))(ha:PE X a (low X.K cls E2 ta))(hb:PE X b (low X.K cls E2 tb)) :
  PE X (.IfExp c a b pos) (low X.K cls E2 fun σ M Q E=>tA σ M (fun k M1=>if k=true then ta σ M1 Q E else tb σ M1 Q E) E):=
 (pO hc ha hb).imp fun σ H Q2 hl_=>ex9 hl_ fun σ3 M Q E3 rm ds lk h back=>fD rm ds lk h fun k H' M' rm' t q=>by
  cases k with
  |true=>rw[if_pos rfl]at q ⊢;exact aI rm' (ds.mono t) (lk.mono t) q fun v2 H2 x2 M2 d2 r2 t2 q2=>back v2 H2 x2 M2 d2 r2 (t.trans t2) q2
  |false=>rw[if_neg Bool.false_ne_true]at q ⊢;exact aI rm' (ds.mono t) (lk.mono t) q fun v2 H2 x2 M2 d2 r2 t2 q2=>back v2 H2 x2 M2 d2 r2 (t.trans t2) q2
theorem sy{op op':CmpOp}{r r':D->D->MH->VK3->Prop}(ho:VO X (compareOp op) r)(ho':VO X (compareOp op') r')(ha:PE X a (low X.K cls E2 ta))(hb:PE X b (low X.K cls E2 tb))(hc:PE X c (low X.K cls E2 tc))(hm:lastMarks [op,op'] [b,c]=false) :
  PT X (.Compare a [op,op'] [b,c] pos) (bw X.K cls E2 fun σ M Q E=>ta σ M (fun x M1=>tb σ M1 (fun y M2=>r x y M2 fun z M3=>match z with
   |.bl k=>if k=true then tc σ M3 (fun z M4=>r' y z M4 (boolQ Q)) E else Q false M3
   |_=>False) E) E):=
 (oS ho.op ho'.op ha hb hc hm).imp fun σ H Q2 hl_=>ex9 hl_ fun σ3 M Q E3 rm ds lk h back=>nD rm ds lk h fun v u H' x y M' dx dy rm' t q=>⟨x,y,M',_,dx,dy,rm',q,fun w H1 z M1 dz rm1 t1 q1=>by
  split at q1
  ·rename_i k;refine⟨k,dz,?_⟩;cases k with
   |true=>rw[if_pos rfl]at q1 ⊢;exact aI rm1 ((ds.mono t).mono t1) ((lk.mono t).mono t1) q1 fun v2 H2 x2 M2 d2 r2 t2 q2=>⟨y,x2,M2,_,(dy.mono t1).mono t2,d2,r2,q2,((dj back).mono t).mono (t1.trans t2)⟩
   |false=>rw[if_neg Bool.false_ne_true]at q1 ⊢;exact⟨false,rfl,back _ _ _ rm1 (t.trans t1) q1⟩
  ·exact q1.elim⟩
noncomputable def rL(r r' r'':R2)(ta tb tc td:TE):TE:=fun σ H Q=>ta σ H fun x H1=>tb σ H1 fun y H2=>r x y H2 fun z H3=>∃k,z=.bl k/\
 (if k=true then tc σ H3 (fun w H4=>r' y w H4 fun z2 H5=>∃k2,z2=.bl k2/\(if k2=true then td σ H5 fun u H6=>r'' w u H6 Q else Q (.bl false) H5)) else Q (.bl false) H3)
theorem nR{a b c d:Expr}{ta tb tc td:TE}{op op' op'':CmpOp}{r r' r'':R2}(ho:OpR X (compareOp op) r)(ho':OpR X (compareOp op') r')(ho'':OpR X (compareOp op'') r'')(ha:PE X a ta)(hb:PE X b tb)(hc:PE X c tc)(hd:PE X d td)
  (hm:lastMarks [op,op',op''] [b,c,d]=false):PT X (.Compare a [op,op',op''] [b,c,d] pos) (qk (rL r r' r'' ta tb tc td)):=by
 intro pins s σ H Q I h;refine isTrue_chain (thn (ha pins s σ H _ I h) fun v s1 ⟨x,H1,I1,r1,q1⟩=>test_link (thn (hb pins s1 σ H1 _ I1 q1) fun u s2 ⟨y,H2,I2,r2,q2⟩=>
  thn (ho pins s2 σ H2 x y v u _ I2 r1 r2 q2) fun d s3 ⟨z,H3,I3,r3,k,e,q3⟩=>?_)) hm
 subst e;cases r3;refine wpAny_truthy_bool ?_;cases k with
 |false=>
  obtain⟨k',e',q'⟩:=q3;cases e';exact ite_ff ⟨H3,I3,q'⟩
 |true=>
  refine ite_tt (test_link (thn (hc pins s3 σ H3 _ I3 q3) fun w' s4 ⟨z',H4,I4,r4,q4⟩=>thn (ho' pins s4 σ H4 y z' u w' _ I4 r2 r4 q4) fun d' s5 ⟨z2,H5,I5,r5,k2,e2,q5⟩=>?_))
  subst e2;cases r5;refine wpAny_truthy_bool ?_;cases k2 with
  |false=>
   obtain⟨k',e',q'⟩:=q5;cases e';exact ite_ff ⟨H5,I5,q'⟩
  |true=>
   refine ite_tt (test_last (thn (hd pins s5 σ H5 _ I5 q5) fun w2 s6 ⟨z3,H6,I6,r6,q6⟩=>thn (ho'' pins s6 σ H6 z' z3 w' w2 _ I6 r4 r6 q6) fun d2 s7 ⟨z4,H7,I7,r7,k3,e3,q7⟩=>?_))
   subst e3;cases r7;exact wpAny_truthy_bool ⟨H7,I7,q7⟩
theorem qh{d:Expr}{td:St3->MH->VK3->XN->Prop}{op op' op'':CmpOp}{r r' r'':D->D->MH->VK3->Prop}(ho:VO X (compareOp op) r)(ho':VO X (compareOp op') r')(ho'':VO X (compareOp op'') r'')(ha:PE X a (low X.K cls E2 ta))(hb:PE X b (low X.K cls E2 tb))(hc:PE X c (low X.K cls E2 tc))(hd:PE X d (low X.K cls E2 td))(hm:lastMarks [op,op',op''] [b,c,d]=false) :
  PT X (.Compare a [op,op',op''] [b,c,d] pos) (bw X.K cls E2 fun σ M Q E=>ta σ M (fun x M1=>tb σ M1 (fun y M2=>r x y M2 fun z M3=>match z with
   |.bl k=>if k=true then tc σ M3 (fun z M4=>r' y z M4 fun o M5=>match o with
    |.bl k=>if k=true then td σ M5 (fun u M6=>r'' z u M6 (boolQ Q)) E else Q false M5
    |_=>False) E else Q false M3
   |_=>False) E) E):=
 (nR ho.op ho'.op ho''.op ha hb hc hd hm).imp fun σ H Q2 hl_=>ex9 hl_ fun σ3 M Q E3 rm ds lk h back=>nD rm ds lk h fun v u H' x y M' dx dy rm' t q=>⟨x,y,M',_,dx,dy,rm',q,fun w H1 z M1 dz rm1 t1 q1=>by
  split at q1
  ·rename_i k;refine⟨k,dz,?_⟩;cases k with
   |true=>
    rw[if_pos rfl]at q1 ⊢;refine aI rm1 ((ds.mono t).mono t1) ((lk.mono t).mono t1) q1 fun v2 H2 x2 M2 d2 r2 t2 q2=>⟨y,x2,M2,_,(dy.mono t1).mono t2,d2,r2,q2,fun w3 H3 z3 M3 dz3 rm3 t3 q3=>?_⟩
    split at q3
    ·rename_i k;refine⟨k,dz3,?_⟩;cases k with
     |true=>
      rw[if_pos rfl]at q3 ⊢;exact aI rm3 ((((ds.mono t).mono t1).mono t2).mono t3) ((((lk.mono t).mono t1).mono t2).mono t3) q3 fun v4 H4 x4 M4 d4 r4 t4 q4=>⟨x2,x4,M4,_,(d2.mono t3).mono t4,d4,r4,q4,(((dj back).mono t).mono (t1.trans t2)).mono (t3.trans t4)⟩
     |false=>rw[if_neg Bool.false_ne_true]at q3 ⊢;exact⟨false,rfl,back _ _ _ rm3 (((t.trans t1).trans t2).trans t3) q3⟩
    ·exact q3.elim
   |false=>rw[if_neg Bool.false_ne_true]at q1 ⊢;exact⟨false,rfl,back _ _ _ rm1 (t.trans t1) q1⟩
  ·exact q1.elim⟩
variable {es:List Expr}{tr:St3->MH->(List D->MH->Prop)->XN->Prop}
theorem dC{K:PySem.W.Frag}{σ:St}{H:Hp}{σ3:St3}{M:MH}{E3:XN}{R3:List D->MH->Prop}{R2:List V->Hp->Prop}(rm:RelM K M H)(ds:DenS K H σ3 σ)(lk:LkE K cls H E3 (E2 σ))(h:tr σ3 M R3 E3)(k:∀vs H' xs M',DenL K H' xs vs->RelM K M' H'->TM K H H'->R3 xs M'->R2 vs H') :
  cT K cls E2 tr σ H R2:=⟨σ3,M,R3,E3,rm,ds,lk,h,k⟩
theorem zC:PA X [] (cT X.K cls E2 fun _ M Q _=>Q [] M):=pa_nil.imp fun σ H Q2 hl_=>ex9 hl_ fun σ3 M Q E3 rm ds lk h back=>back _ _ _ _ .nil rm (.refl _) h
theorem xM(ha:PE X e (low X.K cls E2 te))(hr:PA X es (cT X.K cls E2 tr))(hs:starEach (e::es) X.env=(false,eval e X.env)::starEach es X.env) :
  PA X (e::es) (cT X.K cls E2 fun σ M Q E=>te σ M (fun x M1=>tr σ M1 (fun xs M2=>Q (x::xs) M2) E) E):=
 (aT ha hr hs).imp fun σ H Q2 hl_=>ex9 hl_ fun σ3 M Q E3 rm ds lk h back=>aI rm ds lk h fun v H1 x M1 dx rm1 t1 q1=>dC rm1 (ds.mono t1) (lk.mono t1) q1 fun vs H2 xs M2 dl rm2 t2 q2=>back _ _ _ _ (.cons (dx.mono t2) dl) rm2 (t1.trans t2) q2
theorem zU{x1}(h:PA X es (cT X.K cls E2 tr)):PE X (.Tuple es x1 pos) (low X.K cls E2 fun σ M Q E=>tr σ M (fun xs M1=>xs.length<=sizeLine/\Q (.tup xs) M1) E):=
 (xb h).imp fun σ H Q2 hl_=>ex9 hl_ fun σ3 M Q E3 rm ds lk h back=>dC rm ds lk h fun vs H' xs M' dl rm' t ⟨z,q⟩=>⟨by rw[<-dl.length];exact z,fun p hp=>
  back _ _ _ _ (mP (.of ae) (dl.mono (.new hp))) (rm'.grow hp) (t.trans (.new hp)) q⟩
theorem t5{t2:TE}(h:PE X e t2){t:St3->MH->VK3->XN->Prop}{fz:Bool}
  (f:∀σ H σ3 M Q E3 (R2:VK),RelM X.K M H->DenS X.K H σ3 σ->LkE X.K cls H E3 (E2 σ)->t σ3 M Q E3->(∀H' vs ds M' p,H' p=none->DenL X.K H' ds vs->RelM X.K M' H'->TM X.K H H'->aW fz ds M' Q->R2 (.ref p) (upd H' p (.lst vs)))->t2 σ H R2):PE X e (low X.K cls E2 t):=by
 refine fun pins s σ H Q2 I hl_=>ex9 hl_ fun σ3 M Q E3 rm ds lk q back=>?_
 refine thn (h pins s σ H (fun v H1=>∃p H' vs ds M',v=.ref p/\H1=upd H' p (.lst vs)/\H' p=none/\DenL X.K H' ds vs/\RelM X.K M' H'/\TM X.K H H'/\aW fz ds M' Q) I
  (f σ H σ3 M Q E3 _ rm ds lk q fun H' vs ds M' p hp dl rm' t' n=>⟨p,H',vs,ds,M',rfl,rfl,hp,dl,rm',t',n⟩)) fun u s1 ⟨v,H1,I1,r1,p,H',vs,ds',M',e1,e2,hp,dl,rm',t',n⟩=>?_
 subst e1;subst e2;cases r1;exact be I1 hp dl rm' t' n back
theorem yY(h:PA X es (cT X.K cls E2 tr)):PE X (.List es pos) (low X.K cls E2 fun σ M Q E=>tr σ M (fun xs M1=>aW fz xs M1 Q) E):=
 t5 (fz:=fz) (vC h) fun σ H σ3 M Q E3 R2 rm ds lk q k=>dC rm ds lk q fun vs H' xs M' dl rm' t n=>⟨by rw[<-dl.length];exact n.1,fun p hp=>k H' vs xs M' p hp dl rm' t n⟩
theorem wF(hu:X.A.units+64 < cLine):IxR X (fun v u H Q2=>∃x y M Q,Den X.K H x v/\Den X.K H y u/\RelM X.K M H/\am x y M Q/\Back X.K H Q Q2):=by
 intro value slice pins s σ H v u v2 u2 Q2 I rv ru ⟨x,y,M,Q,dx,dy,rm,q,back⟩ hs;unfold am at q;split at q
 ·rename_i es e;split at q
  ·rename_i i;cases (show u=.int i from dy);split at q
   ·rename_i d e2;obtain⟨p,vs,rfl,hq,dl⟩:=fg rm e dx;obtain⟨w,e4,e5⟩:=tD dl e2;refine uH value slice pins s σ H _ _ v2 u2 Q2 I rv ru ?_ hs;rcases hq with hq|hq
    ·exact .inl ⟨p,vs,i,w,rfl,rfl,hq,e4,back _ _ _ _ e5 rm (.refl _) q⟩
    ·exact .inr (.inl ⟨p,vs,i,w,rfl,rfl,hq,e4,back _ _ _ _ e5 rm (.refl _) q⟩)
   ·exact q.elim
  ·exact q.elim
 ·split at q
  ·rename_i d e;obtain⟨a,ov,rfl,g,od⟩:=et (X:=X) e rm dx dy;cases rv;cases ov with
   |none=>exact od.elim
   |some w=>exact tail_any (g.isDict I) PySem.F.slot_dict_getitem.lookup (nG (by omega) I g rfl ru fun w' s' I' rw'=>⟨w,H,I',rw',back _ _ _ _ od rm (.refl _) q⟩) hs
  ·exact q.elim
  ·split at q
   ·rename_i z i _ _;cases (show v=.str z from dx);cases (show u=.int i from dy);obtain⟨t,rfl⟩:=rv;obtain⟨t',rfl⟩:=ru;obtain⟨⟨h0,h1,h63⟩,q⟩:=q;have e:seqIndex? i z.length=some i.toNat:=PySem.StrLaws.seqIndex_nonneg h0 h1;have hz:i.toNat < z.cps.size:=by
     have:(i:Int) < (z.cps.size:Int):=h1;omega
    have hc:z.cps[i.toNat]?=some (z.cps.getD i.toNat 0):=by simp[hz]
    exact tail_any (typeIs_str s z t) slot_str_getitem.lookup (getItem_str (c:=z.cps.getD i.toNat 0) (by
     rw[decide_eq_false (by omega:¬ i < -(2 ^ 63:Int)),decide_eq_false (by omega:¬ i>=2 ^ 63)];rfl) (by rw[e];exact hc) ⟨.str (qQ z i.toNat),H,I.tok _,⟨_,rfl⟩,back _ _ _ _ gz rm (.refl _) q⟩) hs
   ·exact q.elim
theorem DG(hu:X.A.units+64 < cLine)(ha:PE X a (low X.K cls E2 ta))(hb:PE X b (low X.K cls E2 tb))(hs:jY b):PE X (.Subscript a b pos) (low X.K cls E2 fun σ M Q E=>ta σ M (fun x M1=>tb σ M1 (fun y M2=>am x y M2 Q) E) E):=
 (AE (wF hu) ha hb hs).imp fun σ H Q2 hl_=>ex9 hl_ fun σ3 M Q E3 rm ds lk h back=>nD rm ds lk h fun v u H' x y M' dx dy rm' t q=>⟨x,y,M',Q,dx,dy,rm',q,back.mono t⟩
variable {lo hi:Option Expr}{tl th:St3->MH->(Option Int->MH->Prop)->XN->Prop}{p2:Pos}
theorem C3:PO X none (n8 X.K cls E2 fun _ M Q _=>Q none M):=po_none.imp fun σ H Q2 hl_=>ex9 hl_ fun σ3 M Q E3 rm ds lk h back=>back _ _ _ rm (.refl _) h
theorem zA(h:PE X e (low X.K cls E2 te)):PO X (some e) (n8 X.K cls E2 fun σ M Q E=>te σ M (fun x M1=>match x with|.int i=>Q (some i) M1|_=>False) E):=
 (sU h).imp fun σ H Q2 hl_=>ex9 hl_ fun σ3 M Q E3 rm ds lk h back=>aI rm ds lk h fun v H1 x M1 dx rm1 t1 q1=>by
  split at q1
  ·exact⟨_,dx,back _ _ _ rm1 t1 q1⟩
  ·exact q1.elim
theorem tZ{t:St3->MH->(Option Int->MH->Prop)->XN->Prop}{K:PySem.W.Frag}{σ:St}{H:Hp}{σ3:St3}{M:MH}{E3:XN}{R3:Option Int->MH->Prop}{R2:Option Int->Hp->Prop}(rm:RelM K M H)(ds:DenS K H σ3 σ)(lk:LkE K cls H E3 (E2 σ))(h:t σ3 M R3 E3)(k:∀o H' M',RelM K M' H'->TM K H H'->R3 o M'->R2 o H') :
  n8 K cls E2 t σ H R2:=⟨σ3,M,R3,E3,rm,ds,lk,h,k⟩
theorem z9(ha:PE X a (low X.K cls E2 ta))(hb:PE X b (low X.K cls E2 tb)) :
  PE X (.BinOp a .Add b pos) (low X.K cls E2 fun σ M Q E=>ta σ M (fun x M1=>tb σ M1 (fun y M2=>cr fz x y M2 Q) E) E):=zR (xl fz) ha hb
theorem yQ(h:PE X e (low X.K cls E2 te)):PE X e (low X.K cls E2 fun σ M Q E=>te σ M (bp Q) E):=by
 refine fun pins s σ H Q2 I hl_=>ex9 hl_ fun σ3 M Q E3 rm ds lk q back=>?_
 refine thn (h pins s σ H (fun v H1=>∃d M1,Den X.K H1 d v/\RelM X.K M1 H1/\TM X.K H H1/\bp Q d M1) I ⟨σ3,M,_,E3,rm,ds,lk,q,fun v H' d M' a b c e=>⟨d,M',a,b,c,e⟩⟩) fun u s1 ⟨v,H1,I1,r1,d,M1,dv,rm1,t1,q1⟩=>?_
 obtain⟨H2,M2,d2,I2,t2,rm2,dv2,q2⟩:=jB I1 rm1 dv q1;exact⟨v,H2,I2,r1,back _ _ _ _ dv2 rm2 (t1.trans t2) q2⟩
theorem ur(h:PE X e (low X.K cls E2 te)):PE X e (low X.K cls E2 fun σ M Q E=>te σ M (dP Q) E):=by
 refine fun pins s σ H Q2 I hl_=>ex9 hl_ fun σ3 M Q E3 rm ds lk q back=>?_
 refine thn (h pins s σ H (fun v H1=>∃d M1,Den X.K H1 d v/\RelM X.K M1 H1/\TM X.K H H1/\dP Q d M1) I ⟨σ3,M,_,E3,rm,ds,lk,q,fun v H' d M' a b c e=>⟨d,M',a,b,c,e⟩⟩) fun u s1 ⟨v,H1,I1,r1,d,M1,dv,rm1,t1,q1⟩=>?_
 have q1:bp Q d M1:=by
  unfold dP at q1;split at q1
  ·split at q1
   ·rename_i a ds' e;simp only[bp,e];exact q1
   ·exact q1.elim
  ·exact q1.elim
 obtain⟨H2,M2,d2,I2,t2,rm2,dv2,q2⟩:=jB I1 rm1 dv q1;exact⟨v,H2,I2,r1,back _ _ _ _ dv2 rm2 (t1.trans t2) q2⟩
end
end L2
namespace L2
open PySem PySem.Spec PyProof.Rows
theorem qe{K:PySem.W.Frag}(h:CX1 P w outer H s (fun c d H'=>TM K H H'->E c d H') e s'):CX1 P w outer H s E e s':=by
 obtain⟨a,cls,B,H',dx,h1,h2,h3,un,hok,fl,ha,inc,he⟩:=h;exact⟨a,cls,B,H',dx,h1,h2,h3,un,hok,fl,ha,inc,he (.un un.tups un.frzs)⟩
section
variable {X:Cx}{cls:Nat->Addr}{E2:St->XK}{k:Nat}{f:Addr}{fd:FuncData}{ps:List Str}{x:Str}{p pos:Pos}{e:Expr}{es:List Expr}{tr:St3->MH->(List D->MH->Prop)->XN->Prop}{t3:List D->MH->VK3->XN->Prop}
noncomputable def spX(K:PySem.W.Frag)(cls:Nat->Addr)(t3:List D->MH->VK3->XN->Prop):Sp:=fun vs H Q E=>∃ds M Q3 E3,DenL K H ds vs/\RelM K M H/\t3 ds M Q3 E3/\Back K H Q3 Q/\LkE K cls H E3 E
noncomputable def BdT(K:PySem.W.Frag)(cls:Nat->Addr)(fd:FuncData)(ps:List Str)(t3:List D->MH->VK3->XN->Prop)(sp:Sp):Prop:=∀vs H Q E,spX K cls t3 vs H Q E->∃dvs ds,Vals dvs ds/\Binds K fd ps ds/\sp (vs++dvs) H Q E
theorem gh(F:FnOk X.prog X.w X.K X.mg X.base (CX1 X.prog X.w) k f fd ps sp)(hr:Room k X.A)(hb:BdT X.K cls fd ps t3 sp)(hx:aJ (CX1 X.prog X.w) X E2)
  (I:Inv X pins σ H s)(r:Vals vs us) (h:spX X.K cls t3 vs H Q (fun c d H'=>TM X.K H H'->E2 σ c d H')):wpAny (model X.prog X.w) X.A (call (.ref f) us) (EP X pins σ Q) X.xe s:=by
 obtain⟨dvs,dsv,hv,bd,h'⟩:=hb _ _ _ _ h;have r2:Vals (vs++dvs) (us++dsv):=r.append hv;have hl:(us++dsv).length=ps.length:=by rw[<-r2.length];exact F.len _ _ _ _ h'
 refine wpAny_call (codeAny_mono (F.run X.A X.stack s H ⟨us,[]⟩ (us++dsv) (vs++dvs) Q _ hr I.env0 (bd s us I.kIn hl) r2 h') fun z s' hq=>?_)
 match z,hq with
 |.error e,hq=>exact hx pins σ H s e s' I (qe hq)
 |.ok (.ret u),hq=>exact I.after hq
 |.ok .next,hq=>exact hq.elim
 |.ok .brk,hq=>exact hq.elim
 |.ok .cont,hq=>exact hq.elim
theorem jT{σ:St}{H:Hp}{xs:List D}{vs:List V}{M:MH}{Q:VK3}{Q2:VK}{E3:XN}(dl:DenL X.K H xs vs)(rm:RelM X.K M H)(lk:LkE X.K cls H E3 (E2 σ))(q:t3 xs M Q E3)(back:Back X.K H Q Q2) :
  spX X.K cls t3 vs H Q2 (fun c d H'=>TM X.K H H'->E2 σ c d H'):=
 ⟨xs,M,Q,E3,dl,rm,q,back,fun i M' H' t rm' q dx xd _=>lk i M' H' t rm' q dx xd⟩
theorem xt(F:FnOk X.prog X.w X.K X.mg X.base (CX1 X.prog X.w) k f fd ps sp)(hr:Room k X.A)(hg:Gl X x)(hm:X.mg x=some (.ref f))(hk:PySem.W.keepIn X.K (.ref f)=true)(hb:BdT X.K cls fd ps t3 sp)(hx:aJ (CX1 X.prog X.w) X E2)
  (ha:PA X (e::es) (cT X.K cls E2 tr)) (hdb:(x == ("__debug__" : Str))=false) (he:starEach (e::es) X.env=(false,eval e X.env)::starEach es X.env) (hpl:(backTo pos (starEach es X.env)).any (·.1)=false) :
  PE X (.Call (.Name x p) (e::es) [] pos) (low X.K cls E2 fun σ M Q E=>tr σ M (fun xs M1=>t3 xs M1 Q E) E):=fun pins s σ H Q2 I hl_=>ex9 hl_ fun σ3 M Q E3 rm ds lk h back=>
 wpAny_Call_Name_kw (bo I hg hm (PySem.W.callWith_K (h₀:=X.base) I.ok.mod.kin hk (thn (ha pos pins s σ H _ I (dC (R2:=fun vs H1=>spX X.K cls t3 vs H1 Q2 (fun c d H'=>TM X.K H1 H'->E2 σ c d H')) rm ds lk h
  fun vs H1 xs M1 dl rm1 t1 q1=>jT dl rm1 (lk.mono t1) q1 (back.mono t1))) fun us s1 ⟨vs,H1,I1,r,q⟩=>⟨I1.kIn,gh F hr hb hx I1 r q⟩) he hpl) hdb)
theorem rf(F:FnOk X.prog X.w X.K X.mg X.base (CX1 X.prog X.w) k f fd ps sp)(hr:Room k X.A)(hg:Gl X x)(hm:X.mg x=some (.ref f))(hk:PySem.W.keepIn X.K (.ref f)=true)(hb:BdT X.K cls fd ps t3 sp)(hx:aJ (CX1 X.prog X.w) X E2)(hdb:(x == ("__debug__" : Str))=false) :
  PE X (.Call (.Name x p) [] [] pos) (low X.K cls E2 fun σ M Q E=>t3 [] M Q E):=fun pins s σ H Q2 I hl_=>ex9 hl_ fun σ3 M Q E3 rm ds lk h back=>
 wpAny_Call_Name_kw (bo I hg hm (PySem.W.callWith_K0 I.kIn hk (gh (us:=[]) F hr hb hx I .nil (jT (xs:=[]) .nil rm lk h back))) hdb)
theorem eu{id:String}(hc:VC X (.builtin id) r)(hg:Gl X x)(hm:X.mg x=none)(hv:bootBuiltins x=some (.builtin id))(ha:PA X (e::es) (cT X.K cls E2 tr))(hn:x≠"__name__")(hdb:(x == ("__debug__" : Str))=false)
  (he:starEach (e::es) X.env=(false,eval e X.env)::starEach es X.env) (hpl:(backTo pos (starEach es X.env)).any (·.1)=false):PE X (.Call (.Name x p) (e::es) [] pos) (low X.K cls E2 fun σ M Q E=>tr σ M (fun xs M1=>r xs M1 Q) E):=
 (hJ hc.op hg hm hv ha hn hdb he hpl).imp fun σ H Q2 hl_=>ex9 hl_ fun σ3 M Q E3 rm ds lk h back=>dC rm ds lk h fun vs H1 xs M1 dl rm1 t1 q1=>⟨xs,M1,Q,dl,rm1,q1,back.mono t1⟩
theorem rT(hc:VC X (.type T) r)(hg:Gl X x)(hm:X.mg x=none)(hv:bootBuiltins x=some (.type T))(ha:PA X (e::es) (cT X.K cls E2 tr))(hn:x≠"__name__")(hdb:(x == ("__debug__" : Str))=false)
  (he:starEach (e::es) X.env=(false,eval e X.env)::starEach es X.env) (hpl:(backTo pos (starEach es X.env)).any (·.1)=false):PE X (.Call (.Name x p) (e::es) [] pos) (low X.K cls E2 fun σ M Q E=>tr σ M (fun xs M1=>r xs M1 Q) E):=
 (jl hc.op hg hm hv ha hn hdb he hpl).imp fun σ H Q2 hl_=>ex9 hl_ fun σ3 M Q E3 rm ds lk h back=>dC rm ds lk h fun vs H1 xs M1 dl rm1 t1 q1=>⟨xs,M1,Q,dl,rm1,q1,back.mono t1⟩
noncomputable def bv:BT->String
 |.int=>"int"|.bool=>"bool"|.str=>"str"|.tuple=>"tuple"|.list=>"list"|.dict=>"dict"
theorem xG{pins:List (Addr×Obj)}{σ:St}{H:Hp}{s:Shared}{A:Around}{Ex:Value->Shared->Prop}{t:BT}{x:D}{v:V}{v2:Value}{M:MH}{Q:VK3}{Q2:VK}(I:Inv X pins σ H s)(rv:RelV v v2)(dx:Den X.K H x v)(rm:RelM X.K M H)(q:dn t x M Q)(back:Back X.K H Q Q2) :
  wpAny (model X.prog X.w) A (call (.builtin "isinstance") [v2,.type (bv t)]) (EP X pins σ Q2) Ex s:=by
 have fin:∀b,Q (.bl b) M->∀tk,EP X pins σ Q2 (.bool b) {s with toks:=tk}:=fun b q tk=>⟨.bl b,H,I.tok _,rfl,back _ _ _ _ bj rm (.refl _) q⟩
 cases x with
 |non=>cases (show v=.non from dx);cases rv;cases t<;>exact PySem.W.kia_one PySem.W.kitx_none I.kIn True.intro rfl (fun z=>nomatch z) (fin _ q)
 |bl b=>cases (show v=.bl b from dx);cases rv;cases t<;>exact PySem.W.kia_one PySem.W.kitx_bool I.kIn True.intro rfl (fun z=>nomatch z) (fin _ q)
 |int i=>cases (show v=.int i from dx);obtain⟨tk,rfl⟩:=rv;cases t<;>exact PySem.W.kia_one PySem.W.kitx_int I.kIn True.intro rfl (fun z=>nomatch z) (fin _ q)
 |str i=>cases (show v=.str i from dx);obtain⟨tk,rfl⟩:=rv;cases t<;>exact PySem.W.kia_one PySem.W.kitx_str I.kIn True.intro rfl (fun z=>nomatch z) (fin _ q)
 |tup ds=>
  obtain⟨a,vs,rfl,sq,_⟩:=dx;cases rv;obtain⟨its,_,tt,_⟩:=I.tuple sq;obtain⟨o,h1,h2,_⟩:=(show s.heap.IsTuple a its.toArray from tt);cases t<;>exact PySem.W.kia_one PySem.W.kitx_tuple I.kIn ⟨o,h1,h2⟩ rfl (fun z=>nomatch z) (fin _ q)
 |rol ds=>
  obtain⟨a,vs,rfl,sq,_⟩:=dx;cases rv;obtain⟨_,its,n,_,_,h1⟩:=I.rdL sq.rd;cases t<;>exact PySem.W.kia_one PySem.W.kitx_list I.kIn ⟨_,h1,rfl⟩ rfl (fun z=>nomatch z) (fin _ q)
 |ref a=>
  cases (show v=.ref a from dx);cases rv;simp only[dn]at q;split at q
  ·rename_i ds e;obtain⟨vs,e1,_⟩:=rm a _ e;obtain⟨_,its,n,_,_,h1⟩:=I.rdL (.inl (.inl e1));cases t<;>exact PySem.W.kia_one PySem.W.kitx_list I.kIn ⟨_,h1,rfl⟩ rfl (fun z=>nomatch z) (fin _ q)
  ·rename_i ks ds e;obtain⟨vs,e1,_,_⟩:=rm a _ e;obtain⟨_,_,_,_,o,_,_,h1,h2,_⟩:=I.hok a _ e1;cases t<;>exact PySem.W.kia_one PySem.W.kitx_dict I.kIn ⟨o,h1,h2.1⟩ rfl (fun z=>nomatch z) (fin _ q)
  ·rename_i ks ds e;obtain⟨vs,xs,e1,_⟩:=rm a _ e;obtain⟨⟨o,es,ep,h1,h2,_⟩,_⟩:=(show ObjOk X.prog X.w H s.heap a (.ext (av a xs)) from I.hok a _ e1);cases t<;>exact PySem.W.kia_one PySem.W.kitx_dict I.kIn ⟨o,h1,h2.1⟩ rfl (fun z=>nomatch z) (fin _ q)
  ·exact q.elim
 |dik ks ds=>
  obtain⟨a,vs,ob,rfl,e1,_⟩:=dx;cases rv;obtain⟨_,_,_,ws,_,p⟩:=(show ObjOk X.prog X.w H s.heap a (.frz ob (.dK (ks.zip vs))) from I.hok a _ e1);obtain⟨o,es,ep,h1,h2,_⟩:=p;cases t<;>exact PySem.W.kia_one PySem.W.kitx_dict I.kIn ⟨o,h1,h2.1⟩ rfl (fun z=>nomatch z) (fin _ q)
 |dit ks ds=>
  obtain⟨a,vs,ob,xs,rfl,e1,_⟩:=dx;cases rv;obtain⟨_,⟨o,es,ep,h1,h2,_⟩,_⟩:=(show ObjOk X.prog X.w H s.heap a (.frz ob (.ext (av a xs))) from I.hok a _ e1);cases t<;>exact PySem.W.kia_one PySem.W.kitx_dict I.kIn ⟨o,h1,h2.1⟩ rfl (fun z=>nomatch z) (fin _ q)
 |obj i C ns ds=>exact (show False from q).elim
theorem yZ(ha:PE X e (low X.K cls E2 te))(hg:Gl X "isinstance")(hm:X.mg "isinstance"=none)(hg2:Gl X (bv t))(hm2:X.mg (bv t)=none)(hs:starEach (e::[.Name (bv t) p2]) X.env=(false,eval e X.env)::starEach [.Name (bv t) p2] X.env) :
  PE X (.Call (.Name "isinstance" p) [e,.Name (bv t) p2] [] pos) (low X.K cls E2 fun σ M Q E=>te σ M (fun x M1=>dn t x M1 Q) E):=by
 have hT:PE X (.Name (bv t) p2) (tC (.ty (bv t))):=by
  cases t<;>exact tN hg2 hm2 (by decide +kernel) rfl
 have hc:CallR X (.builtin "isinstance") (fun vs H Q2=>∃x v M Q,vs=[v,.ty (bv t)]/\Den X.K H x v/\RelM X.K M H/\dn t x M Q/\Back X.K H Q Q2):=by
  refine fun pins s σ H vs us Q2 I r hl_=>ex9 hl_ fun x v M Q e dx rm q back=>?_
  subst e;obtain⟨u,w,rfl,ru,rw⟩:=Vals.two r;cases (show w=Value.type (bv t) from rw);exact xG I ru dx rm q back
 refine (hJ hc hg hm (by decide +kernel) (aT ha (aT hT pa_nil (by rfl)) hs) (by decide +kernel) (by decide +kernel) hs (by rfl)).imp fun σ H Q2 hl_=>ex9 hl_ fun σ3 M Q E3 rm ds lk h back=>?_
 exact aI rm ds lk h fun v H1 x M1 dx rm1 t1 q1=>⟨x,v,M1,Q,rfl,dx,rm1,q1,back.mono t1⟩
end
section
variable {X:Cx}
theorem wO{K:PySem.W.Frag}(sq:SqT K H0 p vs)(dl:DenL K H0 ds vs):ItOk K H0 (Itt K p) ds (fun _=>True):=by
 refine⟨fun i H M t rm s hi=>?_,fun i H M x H' t rm s hi y=>?_,fun H M t rm s=>?_⟩
 ·have hi':i < vs.length:=by rw[<-dl.length];exact hi
  exact⟨vs,vs[i],t.t _ _ sq,by simp[hi']⟩
 ·obtain⟨e,y⟩:=y;subst e;obtain⟨d,e1,e2⟩:=(dl.mono t).get' (y vs (t.t _ _ sq));exact⟨.refl _,rm,d,e1,e2⟩
 ·exact⟨vs,t.t _ _ sq,by rw[dl.length];exact Nat.le_refl _⟩
theorem vp{K:PySem.W.Frag}(sq:SqF K H0 p vs)(dl:DenL K H0 ds vs):ItOk K H0 (Itl K p) ds (fun _=>True):=by
 refine⟨fun i H M t rm s hi=>?_,fun i H M x H' t rm s hi y=>?_,fun H M t rm s=>?_⟩
 ·have hi':i < vs.length:=by rw[<-dl.length];exact hi
  exact⟨vs,vs[i],(t.f _ _ sq).sq,by simp[hi']⟩
 ·obtain⟨e,y⟩:=y;subst e;obtain⟨d,e1,e2⟩:=(dl.mono t).get' (y vs (t.f _ _ sq).sq);exact⟨.refl _,rm,d,e1,e2⟩
 ·exact⟨vs,(t.f _ _ sq).sq,by rw[dl.length];exact Nat.le_refl _⟩
theorem xB{K:PySem.W.Frag}:ItOk K H0 (Itl K p) ds (fun M=>M p=some (.lst ds)):=by
 refine⟨fun i H M t rm s hi=>?_,fun i H M x H' t rm s hi y=>?_,fun H M t rm s=>?_⟩
 ·obtain⟨vs,e,dl⟩:=rm p _ s;have hi':i < vs.length:=by rw[<-dl.length];exact hi
  exact⟨vs,vs[i],.of e,by simp[hi']⟩
 ·obtain⟨vs,e,dl⟩:=rm p _ s;obtain⟨e',y⟩:=y;subst e';obtain⟨d,e1,e2⟩:=dl.get' (y vs (.of e));exact⟨.refl _,rm,d,e1,e2⟩
 ·obtain⟨vs,e,dl⟩:=rm p _ s;exact⟨vs,.of e,by rw[dl.length];exact Nat.le_refl _⟩
theorem jh(I:Inv X pins σ H s)(hq:SqL X.K H a xs)(q:R (Itl X.K a) H):wpAny (model X.prog X.w) X.A (pyIter (.ref a)) (PIE X pins σ tg R) Ex s:=by
 obtain⟨its,rv,p,hz⟩:=I.list hq;refine wpAny_pyIter_list p.isList ?_;refine⟨s.heap.objs.size,[s.heap.objs.size],_,_,H,rfl,I.kept (t':=s.toks) fun b o e=>Heap.get?_push_of_some _ e,nZ a _,⟨_,Heap.get?_push_size _ rfl,rfl,rfl⟩,fun b hb=>?_,q⟩
 have e:b=s.heap.objs.size:=by simpa using hb
 subst e;exact I.fpOk (Nat.le_refl _) (I.hok.fresh (Nat.le_refl _))
theorem oO(I:Inv X pins σ H s)(hq:SqT X.K H a xs)(q:R (Itt X.K a) H):wpAny (model X.prog X.w) X.A (pyIter (.ref a)) (PIE X pins σ tg R) Ex s:=by
 obtain⟨its,rv,p,hz⟩:=I.tuple hq;refine wpAny_pyIter_tuple (show s.heap.IsTuple a its.toArray from p) ?_;refine⟨s.heap.objs.size,[s.heap.objs.size],_,_,H,rfl,I.kept (t':=s.toks) fun b o e=>Heap.get?_push_of_some _ e,lQ a _,⟨_,Heap.get?_push_size _ rfl,rfl,rfl⟩,fun b hb=>?_,q⟩
 have e:b=s.heap.objs.size:=by simpa using hb
 subst e;exact I.fpOk (Nat.le_refl _) (I.hok.fresh (Nat.le_refl _))
noncomputable def tq(z:Str):It:=⟨fun i _=>i < z.cps.size,fun i H x H'=>H'=H/\∃c,z.cps[i]?=some c/\x=.str ⟨#[c]⟩,fun i _=>z.cps.size<=i⟩
theorem pY{K:PySem.W.Frag}(it:Addr)(z:Str)(t:Tok)(ty:String)(hty:ty = "str_ascii_iterator"\/ty = "str_iterator"):Turn P w K tg (tq z) [it] it (fun i h=>h.IsStrIter it ty z t i) where
 mem:=by simp
 obj:=fun i h st b hb=>by
  have e:b=it:=by simpa using hb
  subst e;obtain⟨o,e,c,d⟩:=st;exact⟨o,e,fun v z=>by rw[d]at z;cases z⟩
 keep:=fun i h h' st k=>let ⟨o,e,r⟩:=st;⟨o,k it (by simp) o e,r⟩
 item:=by
  intro X hP hw hK hc i pins s σ H E I hf st hg;subst hP hw hK;have hi:i < z.cps.size:=hg;obtain⟨f0,f1,f2,f3,f4,f5⟩:=hf it (by simp)
  have hx:z.cps[i]?=some z.cps[i]:=by simp[hi]
  have fin:∀h':Heap,h'.IsStrIter it ty z t (i+1)->Heap.SameBut it s.heap h'->∃u,some (Value.str ⟨#[z.cps[i]]⟩ s.toks)=some u/\wpAny (model X.prog X.w) X.A (letOwnedTupleGo tg (.ref it) u) (fun _ s2=>∃x H',Inv X pins σ H' s2/\RelV x u/\(tq z).yld i H x H'/\s2.heap.IsStrIter it ty z t (i+1)/\∀b∈[it],H' b=none) E {s with heap:=h',toks:=s.toks+1}:=fun h' st' sb=>by
   have I1:Inv X pins σ H {s with heap:=h',toks:=s.toks+1}:=I.turned (t':=s.toks+1) (fun b o hb e=>(sb.2 b hb).trans e) f0 f1 f3 f4 f5
   obtain⟨o,e,c,d⟩:=id st';exact⟨_,rfl,m9 (s:={s with heap:=h',toks:=s.toks+1}) e c d (by rcases hty with rfl|rfl<;>decide) ⟨.str ⟨#[z.cps[i]]⟩,H,I1,⟨_,rfl⟩,⟨rfl,_,hx,rfl⟩,st',fun b hb=>(hf b hb).1⟩⟩
  rcases hty with rfl|rfl
  ·exact wpAny_pyNext_ascii_item st hx fin
  ·exact wpAny_pyNext_wide_item st hx fin
 done:=by
  intro X hP hw hK hc i pins s σ H E I hf st hg;subst hP hw hK;obtain⟨f0,f1,f2,f3,f4,f5⟩:=hf it (by simp)
  have hx:z.cps[i]?=none:=by simpa using (show z.cps.size<=i from hg)
  rcases hty with rfl|rfl
  ·exact wpAny_pyNext_ascii_end (I.ok.hd hc) st hx fun h' eb=>⟨rfl,I.turned (t':=s.toks) (fun b o hb e=>eb b o hb e) f0 f1 f3 f4 f5⟩
  ·exact wpAny_pyNext_wide_end (I.ok.hd hc) st hx fun h' eb=>⟨rfl,I.turned (t':=s.toks) (fun b o hb e=>eb b o hb e) f0 f1 f3 f4 f5⟩
 self:=fun _ _ _ _ _ st h=>by
  rcases hty with rfl|rfl
  ·exact wpAny_pyIter_striter_ascii st h
  ·exact wpAny_pyIter_striter_wide st h
theorem uD{K:PySem.W.Frag}:ItOk K H0 (tq z) (eJ z) (fun _=>True):=by
 have hl:(eJ z).length=z.cps.size:=by simp[eJ]
 refine⟨fun i H M t rm s hi=>by rw[hl]at hi;exact hi,fun i H M x H' t rm s hi y=>?_,fun H M t rm s=>by show z.cps.size<=_;rw[hl];exact Nat.le_refl _⟩
 obtain⟨rfl,c,hc,rfl⟩:=y;exact⟨.refl _,rm,.str ⟨#[c]⟩,by simp[eJ,hc],rfl⟩
theorem pT{X:Cx}(I:Inv X pins σ H s)(q:R (tq z) H):wpAny (model X.prog X.w) X.A (pyIter (.str z t)) (PIE X pins σ tg R) X.xe s:=by
 have go:∀ty:String,(ty = "str_ascii_iterator"\/ty = "str_iterator")->PIE X pins σ tg R (.ref s.heap.objs.size) {s with heap:=s.heap.push {cls:=.type ty,data:=.fields #[.str z t,.int 0 0]}}:=fun ty hty=>
  ⟨s.heap.objs.size,[s.heap.objs.size],_,_,H,rfl,I.kept (t':=s.toks) (fun b o e=>Heap.get?_push_of_some _ e),pY s.heap.objs.size z t ty hty,⟨_,Heap.get?_push_size _ rfl,rfl,rfl⟩,fun b hb=>by
   have e':b=s.heap.objs.size:=by simpa using hb
   subst e';exact I.fpOk (Nat.le_refl _) (I.hok.fresh (Nat.le_refl _)),q⟩
 cases ha:z.cps.all (· < 128)
 ·exact wpAny_pyIter_wide ha (go _ (.inr rfl))
 ·exact wpAny_pyIter_ascii ha (go _ (.inl rfl))
theorem yM(hl:PE X l (low X.K cls E2 te)):PI X tg l (nK X.K cls E2 fun σ M R E=>te σ M (fun x M1=>match x with
  |.tup ds=>R ds (fun _=>True) M1
  |.rol ds=>R ds (fun _=>True) M1
  |.ref a=>match M1 a with
   |some (.lst ds)=>R ds (fun M=>M a=some (.lst ds)) M1
   |_=>False
  |.str z=>R (eJ z) (fun _=>True) M1
  |_=>False) E):=by
 refine fun pins s σ H R2 I hl_=>ex9 hl_ fun σ3 M R E3 rm ds lk h k=>?_
 refine thn (hl pins s σ H _ I ⟨σ3,M,_,E3,rm,ds,lk,h,fun v H' d M' a b c e=>(⟨d,M',a,b,c,e⟩:(fun v H'=>∃d M',Den X.K H' d v/\RelM X.K M' H'/\TM X.K H H'/\(match d with
  |.tup ds=>R ds (fun _=>True) M'
  |.rol ds=>R ds (fun _=>True) M'
  |.ref a=>match M' a with
   |some (.lst ds)=>R ds (fun M=>M a=some (.lst ds)) M'
   |_=>False
  |.str z=>R (eJ z) (fun _=>True) M'
  |_=>False)) v H')⟩) fun u s1 ⟨v,H1,I1,r1,d,M1,dv,rm1,t1,q1⟩=>?_
 split at q1
 ·obtain⟨p,vs,rfl,sq,dl⟩:=dv;cases r1;exact oO I1 sq (k _ _ _ _ _ (wO sq dl) rm1 t1 q1)
 ·obtain⟨p,vs,rfl,sq,dl⟩:=dv;cases r1;exact jh I1 sq.sq (k _ _ _ _ _ (vp sq dl) rm1 t1 q1)
 ·rename_i a;cases (show v=.ref a from dv);cases r1;split at q1
  ·rename_i ds' e;obtain⟨vs,e1,dl⟩:=rm1 a _ e;exact jh I1 (.of e1) (k _ _ _ _ _ xB rm1 t1 q1)
  ·exact q1.elim
 ·rename_i z;cases (show v=.str z from dv);obtain⟨tt,rfl⟩:=r1;exact pT I1 (k _ _ _ _ _ uD rm1 t1 q1)
 ·exact q1.elim
theorem DK(hg:Gl X "range")(hm:X.mg "range"=none)(ha:PE X a (low X.K cls E2 ta))(hs:starEach [a] X.env=[(false,eval a X.env)]):PI X tg (.Call (.Name "range" p) [a] [] pos) (nK X.K cls E2 fun σ M R E=>ta σ M (fun x M1=>match x with
  |.int j=>-(2 ^ 62)<=j/\j < 2 ^ 62/\R (rng 0 j.toNat) (fun _=>True) M1
  |_=>False) E):=
 (nY hg hm (aT ha pa_nil hs) hs).imp fun σ H R2 hl_=>ex9 hl_ fun σ3 M R E3 rm ds lk h k=>aI rm ds lk h fun v H1 x M1 dx rm1 t1 q1=>by
  split at q1
  ·rename_i j;cases (show v=.int j from dx);exact⟨j,rfl,q1.1,q1.2.1,k _ _ _ _ _ vD rm1 t1 q1.2.2⟩
  ·exact q1.elim
end
end L2
namespace L2
open PySem PySem.Spec PyProof.Rows
section
variable {X:Cx}
end
end L2
namespace L2
open PySem PySem.Spec PyProof.Rows
section
variable {K:PySem.W.Frag}
theorem dL:∀{ns:List Nat}{ds:List D}{vs:List V}{f:Nat}{d:D},DenL K H ds vs->bc f ns ds=some d->∃v,((ns.map fnm).zip vs).lookup (fnm f)=some v/\Den K H d v
 |[],_,_,_,_,_,e=>by simp[bc]at e
 |n::ns,[],_,_,_,_,e=>by simp[bc]at e
 |n::ns,d0::ds,_,f,d,dl,e=>by
  obtain⟨v,r,rfl,dv,dl⟩:=dl;simp only[bc]at e;by_cases z:n=f
  ·rw[if_pos z]at e;cases e;subst z;exact⟨v,by simp[List.lookup],dv⟩
  ·rw[if_neg z]at e;obtain⟨u,h1,h2⟩:=dL dl e;refine⟨u,?_,h2⟩;have nb:(fnm f == fnm n)=false:=beq_eq_false_iff_ne.mpr fun q=>z (jH q).symm
   simp[List.lookup,nb,h1]
theorem dY:∀{ns:List Nat}{ds:List D}{vs:List V}{f:Nat},DenL K H ds vs->ns.length=vs.length->bc f ns ds=none->((ns.map fnm).zip vs).lookup (fnm f)=none
 |[],_,_,_,_,_,_=>by simp
 |n::ns,[],vs,_,dl,hl,_=>by cases (show vs=[] from dl);cases hl
 |n::ns,d0::ds,_,f,dl,hl,e=>by
  obtain⟨v,r,rfl,dv,dl⟩:=dl;simp only[bc]at e;by_cases z:n=f
  ·rw[if_pos z]at e;cases e
  ·rw[if_neg z]at e;have h1:=dY dl (by simpa using hl) e
   have nb:(fnm f == fnm n)=false:=beq_eq_false_iff_ne.mpr fun q=>z (jH q).symm
   simp[List.lookup,nb,h1]
theorem ku:∀{ns:List Nat}{ds:List D}{vs:List V}{f:Nat}{y:D}{u:V},DenL K H ds vs->ns.length=vs.length->Den K H y u->
  ∃ws,cw (fnm f) u ((ns.map fnm).zip vs)=((bx f ns).map fnm).zip ws/\(bx f ns).length=ws.length/\DenL K H (bz f y ns ds) ws
 |[],ds,vs,f,y,u,dl,hl,dy=>by
  cases vs with
  |nil=>exact⟨[u],rfl,rfl,by unfold bz;exact .one dy⟩
  |cons _ _=>cases hl
 |n::ns,[],vs,f,y,u,dl,hl,dy=>by cases (show vs=[] from dl);cases hl
 |n::ns,d::ds,_,f,y,u,dl,hl,dy=>by
  obtain⟨v,r,rfl,dv,dl⟩:=dl;have hl':ns.length=r.length:=by simpa using hl
  by_cases z:n=f
  ·subst z;refine⟨u::r,?_,?_,?_⟩
   ·simp[cw,bx]
   ·simp[bx,hl']
   ·simp only[bz,if_pos];exact .cons dy dl
  ·obtain⟨ws,h1,h2,h3⟩:=ku (f:=f) (u:=u) dl hl' dy;have nf:¬ fnm n=fnm f:=fun q=>z (jH q)
   refine⟨v::ws,?_,?_,?_⟩
   ·simp only[List.map_cons,List.zip_cons_cons,cw,if_neg nf,bx,if_neg z];rw[h1]
   ·simp[bx,if_neg z,h2]
   ·simp only[bz,if_neg z];exact .cons dv h3
end
theorem pW{fs:List (Str×V)}(hok:HOk P w H h)(e:Rd H a (.ins C dx fs)):∃mA,ObjM h a dx C mA/\(∀f,RelO (fs.lookup f) (mA f))/\H dx=some (.own a):=by
 obtain⟨d,z,ne,ob,mA,n,r,q⟩:=(show ObjOk P w H h a (.ins C dx fs) from e.ok hok);exact⟨mA,⟨ob,n,ne⟩,r,d⟩
section
variable {X:Cx}{fs:List (Str×V)}
theorem pF(I:Inv X pins σ H s)(e:Rd H a (.ins C dx fs))(c:Cls X.K C)(n:NoAttr X.K C f)(l:fs.lookup f=some v)
  (h:∀u s',Inv X pins σ H s'->RelV v u->Q u s'):wpAny (model X.prog X.w) A (getAttr (.ref a) f b) Q E s:=by
 obtain⟨mA,O,r,_⟩:=pW I.hok e;obtain⟨u,hu,ru⟩:=RelO.some_of (v:=v) (o:=mA f) (by rw[<-l];exact r f)
 exact r0 I.kIn O (c.get f) c.hd n hu (iN ru) (h u _ (I.tok _) ru)
theorem j3{m:Str}{g:Addr}{pl:Sem Bool}{Q:Value×List Value->Shared->Prop}(I:Inv X pins σ H s)(e:Rd H a (.ins C dx fs))(c:Cls X.K C)(k:Meth X.K C m g)(l:fs.lookup m=none)
  (h:Q (.ref g,[.ref a]) s):wpAny (model X.prog X.w) A (getMethod (.ref a) m pl) Q E s:=by
 obtain⟨mA,O,r,_⟩:=pW I.hok e;have hn:mA m=none:=RelO.none_of (by rw[<-l];exact r m)
 exact pJ I.kIn O (c.get m) k.at_ k.fn hn h
end
structure ClsI (K:PySem.W.Frag)(C f:Addr):Prop where
 ga:PySem.W.specialIn K (.ref C) "__getattribute__"=some (some (.builtin "type.__getattribute__"))
 rd:PySem.W.readsIn K C (.type "type")=true
 at_:PySem.W.findCls K (.ref C) (.type "type") "__init__"=some (.val (.ref f))
structure TyI (K:PySem.W.Frag)(C:Addr):Prop where
 ha:PySem.W.findIn K (.ref C) "__class__"=some (some (.builtin "object.__class__"))
 hn:PySem.W.specialIn K (.builtin "object.__class__") "__get__"=some (some (.builtin "getset_descriptor.__get__"))
 htk:PySem.W.takesIn K (.builtin "object.__class__")=some true
 hm:PySem.W.mroIn K C (.type "object")=some true
structure KOk (K:PySem.W.Frag)(B:WB)(fad:Nat->Addr)(i:Nat):Prop where
 cl:Cls K (B.kls i)
 na:∀f,B.fok i f=true->NoAttr K (B.kls i) (fnm f)
 mt:∀m f,B.mth i m=some f->Meth K (B.kls i) (fnm m) (fad f)
 mkr:∀f,B.ini i=some f->Mk K (B.kls i) (fad f)
 ci:∀f,B.ini i=some f->ClsI K (B.kls i) (fad f)
 ty:TyI K (B.kls i)
 is:∀j,j < B.nk->PySem.W.kitOne K (.ref (B.kls i)) (.ref (B.kls j))=some (B.ksub i j)
section
variable {X:Cx}{B:WB}
theorem tG{K:PySem.W.Frag}(hk:∀i,i < B.nk->KOk K B fad i)(dx:Den K H x v)(rm:RelM K M H)(h:fX B f x M Q) :
  ∃a C dx fs u d,v=.ref a/\Rd H a (.ins C dx fs)/\Cls K C/\NoAttr K C (fnm f)/\fs.lookup (fnm f)=some u/\Den K H d u/\Q d M:=by
 unfold fX at h;split at h
 ·rename_i i C ns ds;obtain⟨p,vs,ob,dx',rfl,e,hl,dl⟩:=dx;obtain⟨⟨rfl,hi,hf⟩,h⟩:=h;unfold jn at h;split at h
  ·rename_i d q;obtain⟨u,h1,h2⟩:=dL dl q;exact⟨p,_,dx',_,u,d,rfl,.inr ⟨ob,e⟩,(hk i hi).cl,(hk i hi).na f hf,h1,h2,h⟩
  ·exact h.elim
 ·rename_i a;split at h
  ·rename_i i C ns ds q;obtain⟨dx',vs,e,hl,dl⟩:=rm a _ q;obtain⟨⟨rfl,hi,hf⟩,h⟩:=h;unfold jn at h;split at h
   ·rename_i d q;obtain⟨u,h1,h2⟩:=dL dl q;exact⟨a,_,dx',_,u,d,dx,.inl e,(hk i hi).cl,(hk i hi).na f hf,h1,h2,h⟩
   ·exact h.elim
  ·exact h.elim
 ·exact h.elim
theorem z7(hk:∀i,i < B.nk->KOk X.K B fad i)(he:PE X e (low X.K cls E2 te))(hb:attributeBase e (fnm f) X.env (eval e X.env)=eval e X.env):PE X (.Attribute e (fnm f) pos) (low X.K cls E2 fun σ M Q E=>te σ M (fun x M1=>fX B f x M1 Q) E):=by
 refine fun pins s σ H Q2 I hl_=>ex9 hl_ fun σ3 M Q E3 rm ds lk h back=>?_
 refine mX hb (thn (he pins s σ H (fun v H1=>∃x M1,Den X.K H1 x v/\RelM X.K M1 H1/\TM X.K H H1/\fX B f x M1 Q) I ⟨σ3,M,_,E3,rm,ds,lk,h,fun v H' d M' a b c e=>⟨d,M',a,b,c,e⟩⟩) fun u s1 ⟨v,H1,I1,r1,x,M1,dx,rm1,t1,q1⟩=>?_)
 obtain⟨a,C,dx',fs,u',d,rfl,rd,c,n,l,du,q⟩:=tG hk dx rm1 q1;obtain rfl:u=Value.ref a:=r1;exact pF I1 rd c n l fun u'' s2 I2 ru=>⟨u',H1,I2,ru,back _ _ _ _ du rm1 t1 q⟩
theorem wu(hX:∀i,i < B.ne->ExcI X.K (B.cls i))(hn:∀i f,i < B.ne->B.xin i=some f->NoAttr X.K (B.cls i) (fnm f))(he:PE X e (low X.K cls E2 te))(hb:attributeBase e (fnm f) X.env (eval e X.env)=eval e X.env):PE X (.Attribute e (fnm f) pos) (low X.K cls E2 fun σ M Q E=>te σ M (fun x M1=>rXf B f x M1 Q) E):=by
 refine (rJ he hb).imp fun σ H Q2 hl_=>ex9 hl_ fun σ3 M Q E3 rm ds lk h back=>aI rm ds lk h fun v H1 x M1 dx rm1 t1 q=>?_
 unfold rXf at q;split at q
 ·rename_i a;cases (show v=.ref a from dx);split at q
  ·rename_i i w e;obtain⟨⟨rfl,hi,hxi⟩,q⟩:=q;obtain⟨d0,e0,xd⟩:=rm1 a _ e;obtain⟨c,pl⟩:=i;cases pl with
   |none=>exact q.elim
   |some gy=>
    obtain⟨g,y⟩:=gy;have qq:g=f/\Q y M1:=q;obtain⟨eg,q2⟩:=qq;subst eg;obtain⟨p,ob,u,rfl,ep,dy⟩:=xd;exact⟨a,_,p,ob,_,u,rfl,e0,hX _ hi,hn _ _ hi hxi,ep,by rw[List.lookup_cons,beq_self_eq_true],back _ _ _ _ dy rm1 t1 q2⟩
  ·exact q.elim
 ·exact q.elim
end
end L2
namespace L2
open PySem PySem.Spec PyProof.Rows
noncomputable def oW(X:Cx)(cls:Nat->Addr)(k:Nat)(a:Addr)(t3:List D->MH->VK3->XN->Prop):Prop:=∃fd ps sp,PySem.W.keepIn X.K (.ref a)=true/\BdT X.K cls fd ps t3 sp/\FnOk X.prog X.w X.K X.mg X.base (CX1 X.prog X.w) k a fd ps sp
section
variable {X:Cx}{B:WB}{fad:Nat->Addr}{cls:Nat->Addr}{E2:St->XK}{o e:Expr}{es:List Expr}{to te:St3->MH->VK3->XN->Prop}{tr:St3->MH->(List D->MH->Prop)->XN->Prop}{pos apos p:Pos}{m k:Nat}
 {cl3:Nat->List D->MH->VK3->XN->Prop}
theorem mO{K:PySem.W.Frag}{H:Hp}{x:D}{v:V}{M:MH}{R:Nat->Prop}(hk:∀i,i < B.nk->KOk K B fad i)(dx:Den K H x v)(rm:RelM K M H)(h:eU B m x M R) :
  ∃a C dx fs f,v=.ref a/\Rd H a (.ins C dx fs)/\Cls K C/\Meth K C (fnm m) (fad f)/\fs.lookup (fnm m)=none/\(∃i,i < B.nk/\B.mth i m=some f)/\R f:=by
 unfold eU at h;split at h
 ·rename_i i C ns ds;obtain⟨p,vs,ob,dx',rfl,e,hl,dl⟩:=dx;obtain⟨⟨rfl,hi,hf⟩,h⟩:=h;unfold dq at h;split at h
  ·rename_i f q;exact⟨p,_,dx',_,f,rfl,.inr ⟨ob,e⟩,(hk i hi).cl,(hk i hi).mt m f q,dY dl hl hf,⟨i,hi,q⟩,h⟩
  ·exact h.elim
 ·rename_i a;split at h
  ·rename_i i C ns ds q;obtain⟨dx',vs,e,hl,dl⟩:=rm a _ q;obtain⟨⟨rfl,hi,hf⟩,h⟩:=h;unfold dq at h;split at h
   ·rename_i f q;exact⟨a,_,dx',_,f,dx,.inl e,(hk i hi).cl,(hk i hi).mt m f q,dY dl hl hf,⟨i,hi,q⟩,h⟩
   ·exact h.elim
  ·exact h.elim
 ·exact h.elim
theorem wD(hk:∀i,i < B.nk->KOk X.K B fad i)(hf:∀i m f,i < B.nk->B.mth i m=some f->oW X cls k (fad f) (cl3 f))(hr:Room k X.A)(hx:aJ (CX1 X.prog X.w) X E2)
  (ho:PE X o (low X.K cls E2 to)) (ha:PA X (e::es) (cT X.K cls E2 tr)) (hb:attributeBase o (fnm m) X.env (eval o X.env)=eval o X.env) (hl:(apos.endLine == pos.line)=true) (hn:(e::es).length < 30)
  (he:starEach (e::es) X.env=(false,eval e X.env)::starEach es X.env) (hpl:(backTo pos (starEach es X.env)).any (·.1)=false) :
  PE X (.Call (.Attribute o (fnm m) apos) (e::es) [] pos) (low X.K cls E2 fun σ M Q E=>to σ M (fun x M1=>eU B m x M1 fun f=>tr σ M1 (fun xs M2=>cl3 f (x::xs) M2 Q E) E) E):=by
 refine fun pins s σ H Q2 I hl_=>ex9 hl_ fun σ3 M Q E3 rm ds lk h back=>?_
 have hst:(backTo pos (starEach (e::es) X.env)).any (·.1)=false:=by
  rw[he];show ((false,_)::backTo pos (starEach es X.env)).any (·.1)=false;rw[List.any_cons,hpl];rfl
 refine PySem.W.methodCall_KW (thn (ho pins s σ H (fun v H1=>∃x M1,Den X.K H1 x v/\RelM X.K M1 H1/\TM X.K H H1/\eU B m x M1 fun f=>tr σ3 M1 (fun xs M2=>cl3 f (x::xs) M2 Q E3) E3) I ⟨σ3,M,_,E3,rm,ds,lk,h,fun v H' d M' a b c e=>⟨d,M',a,b,c,e⟩⟩) fun u s1 ⟨v,H1,I1,r1,x,M1,dx,rm1,t1,q1⟩=>?_) (eW hb (gF hst hn) hl)
 obtain⟨a,C,dx',fs,f,rfl,rd,c,mt,l,⟨i,hi,hfi⟩,q⟩:=mO hk dx rm1 q1;obtain rfl:u=Value.ref a:=r1;obtain⟨fd,ps,sp,kp,bd,F⟩:=hf i m f hi hfi;refine j3 I1 rd c mt l ?_;refine PySem.W.callWith_K (first:=[.ref a]) (h₀:=X.base) I.ok.mod.kin mt.kp (thn (ha pos pins s1 σ H1 _ I1 (dC (R2:=fun vs H2=>spX X.K cls (cl3 f) (.ref a::vs) H2 Q2 (fun c d H'=>TM X.K H2 H'->E2 σ c d H')) rm1 (ds.mono t1) (lk.mono t1) q
  fun vs H2 xs M2 dl rm2 t2 q2=>jT (.cons (dx.mono t2) dl) rm2 (lk.mono (t1.trans t2)) q2 (back.mono (t1.trans t2)))) fun us s2 ⟨vs,H2,I2,r,q2⟩=>⟨I2.kIn,?_⟩) he hpl
 exact gh (us:=.ref a::us) (vs:=.ref a::vs) F hr bd hx I2 (.cons rfl r) q2
theorem rH(hk:∀i,i < B.nk->KOk X.K B fad i)(hf:∀i m f,i < B.nk->B.mth i m=some f->oW X cls k (fad f) (cl3 f))(hr:Room k X.A)(hx:aJ (CX1 X.prog X.w) X E2)
  (ho:PE X o (low X.K cls E2 to)) (hb:attributeBase o (fnm m) X.env (eval o X.env)=eval o X.env) (hl:(apos.endLine == pos.line)=true) :
  PE X (.Call (.Attribute o (fnm m) apos) [] [] pos) (low X.K cls E2 fun σ M Q E=>to σ M (fun x M1=>eU B m x M1 fun f=>cl3 f [x] M1 Q E) E):=by
 refine fun pins s σ H Q2 I hl_=>ex9 hl_ fun σ3 M Q E3 rm ds lk h back=>?_
 refine PySem.W.methodCall_KW (thn (ho pins s σ H (fun v H1=>∃x M1,Den X.K H1 x v/\RelM X.K M1 H1/\TM X.K H H1/\eU B m x M1 fun f=>cl3 f [x] M1 Q E3) I ⟨σ3,M,_,E3,rm,ds,lk,h,fun v H' d M' a b c e=>⟨d,M',a,b,c,e⟩⟩) fun u s1 ⟨v,H1,I1,r1,x,M1,dx,rm1,t1,q1⟩=>?_) (eW hb (gF (by rfl) (by decide)) hl)
 obtain⟨a,C,dx',fs,f,rfl,rd,c,mt,l,⟨i,hi,hfi⟩,q⟩:=mO hk dx rm1 q1;obtain rfl:u=Value.ref a:=r1;obtain⟨fd,ps,sp,kp,bd,F⟩:=hf i m f hi hfi;refine j3 I1 rd c mt l ?_;exact PySem.W.callWith_K0 (first:=[.ref a]) I1.kIn mt.kp (gh (us:=[.ref a]) (vs:=[.ref a]) F hr bd hx I1 (.cons rfl .nil) (jT (.one dx) rm1 (lk.mono t1) q (back.mono t1)))
theorem i4(M:Mk X.K C f)(F:FnOk X.prog X.w X.K X.mg X.base (CX1 X.prog X.w) k f fd ps sp)(hr:Room (k+1) X.A)(hb:BdT X.K cls fd ps t3 sp)
  (hx:aJ (CX1 X.prog X.w) X E2) (I:Inv X pins σ H s)(r:Vals vs us)
  (h:∀x dx,H x=none->H dx=none->dx≠x->spX X.K cls t3 (.ref x::vs) (upd (upd H dx (.own x)) x (.ins C dx [])) (fun v H2=>v=.non/\Q (.ref x) H2) (fun c d H'=>TM X.K (upd (upd H dx (.own x)) x (.ins C dx [])) H'->E2 σ c d H')) :
  wpAny (model X.prog X.w) X.A (call (.ref C) us) (EP X pins σ Q) X.xe s:=by
 have hq:=h (s.heap.objs.size+1) s.heap.objs.size (I.hok.fresh (Nat.le_succ _)) (I.hok.fresh (Nat.le_refl _)) (Nat.ne_of_lt (Nat.lt_succ_self _));have I2:=Inv.made (C:=C) I;have r2:Vals (V.ref (s.heap.objs.size+1)::vs) (Value.ref (s.heap.objs.size+1)::us):=.cons rfl r;obtain⟨dvs,dsv,hv,bd,hq⟩:=hb _ _ _ _ hq;have r2:Vals ((V.ref (s.heap.objs.size+1)::vs)++dvs) ((Value.ref (s.heap.objs.size+1)::us)++dsv):=r2.append hv;have hl:(Value.ref (s.heap.objs.size+1)::us++dsv).length=ps.length:=by rw[<-r2.length];exact F.len _ _ _ _ hq
 have hb':=bd _ (Value.ref (s.heap.objs.size+1)::us) I2.kIn hl;refine wpAny_call (qJ (f:=f) I.kIn M.makes M.init (beq_iff_eq.mp M.fn) (codeAny_mono (F.run _ X.stack _ _ ⟨Value.ref (s.heap.objs.size+1)::us,[]⟩ (Value.ref (s.heap.objs.size+1)::us++dsv) _ _ _ (hr.make C us [])
  (I2.env0.make C us []) hb' r2 hq) fun r s' hq'=>?_))
 match r,hq' with
 |.error e,hq'=>exact hx pins σ _ _ e s' I2 (qe hq')
 |.ok (.ret u),hq'=>
  obtain⟨v,H',I3,rv,ev,q3⟩:=I2.after hq';subst ev;exact⟨rv,⟨V.ref (s.heap.objs.size+1),H',I3,rfl,q3⟩⟩
 |.ok .next,hq'=>exact hq'.elim
 |.ok .brk,hq'=>exact hq'.elim
 |.ok .cont,hq'=>exact hq'.elim
theorem TM.made{K:PySem.W.Frag}(hx:H x=none)(hd:H dx=none)(ne:dx≠x):TM K H (upd (upd H dx (.own x)) x (.ins C dx [])):=
 (TM.new hd).trans (.new (by rw[aa (Ne.symm ne)];exact hx))
theorem nj{σ:St}{H:Hp}{xs:List D}{vs:List V}{M:MH}{Q:VK3}{Q2:VK}{E3:XN}{i:Nat}{fz:Bool}{t3:List D->MH->VK3->XN->Prop}(dl:DenL X.K H xs vs)(rm:RelM X.K M H)(lk:LkE X.K cls H E3 (E2 σ))
  (q:∀p,M p=none->t3 (.ref p::xs) (put M p (.ins i (B.kls i) [] [])) (fun v M2=>v=.non/\if fz=true then bp Q (.ref p) M2 else Q (.ref p) M2) (fun j M'=>E3 j (del M' p))) :
  ∀x dx,H x=none->H dx=none->dx≠x->spX X.K cls t3 (.ref x::vs) (upd (upd H dx (.own x)) x (.ins (B.kls i) dx [])) (fun v H2=>v=.non/\∃M2,RelM X.K M2 H2/\TM X.K H H2/\if fz=true then bp Q (.ref x) M2 else Q (.ref x) M2)
   (fun c d H'=>TM X.K (upd (upd H dx (.own x)) x (.ins (B.kls i) dx [])) H'->E2 σ c d H'):=fun x dx hx hd ne=>by
 have t:=TM.made (K:=X.K) (C:=B.kls i) hx hd ne;have hx':(upd H dx (.own x)) x=none:=by rw[aa (Ne.symm ne)];exact hx
 have rm2:RelM X.K (put M x (.ins i (B.kls i) [] [])) (upd (upd H dx (.own x)) x (.ins (B.kls i) dx [])):=(rm.grow hd).lay hx' ⟨dx,[],ae,rfl,rfl⟩;refine⟨.ref x::xs,_,_,_,.cons rfl (dl.mono t),rm2,q x (rm.fresh hx),fun v H' d M' dv rm' t' ⟨e,q'⟩=>?_,fun j M' H' t' rm' q' dy xd _=>lk j (del M' x) H' (t.trans t') (rm'.sub fun b o z=>(gD z).2) q' dy xd⟩
 subst e;exact⟨dv,M',rm',t.trans t',q'⟩
theorem kU(back:Back X.K H Q Q2)
  (h:EP X pins σ (fun v H2=>∃x,v=.ref x/\∃M2,RelM X.K M2 H2/\TM X.K H H2/\if fz=true then bp Q (.ref x) M2 else Q (.ref x) M2) u s'):EP X pins σ Q2 u s':=by
 obtain⟨v,H2,I2,r,x,rfl,M2,rm2,t2,q⟩:=h;cases fz with
 |true=>
  obtain⟨H3,M3,d,I3,t3,rm3,dv,q3⟩:=jB I2 rm2 eR (show bp Q (.ref x) M2 from q);exact⟨.ref x,H3,I3,r,back _ _ _ _ dv rm3 (t2.trans t3) q3⟩
 |false=>exact⟨.ref x,H2,I2,r,back _ _ _ _ eR rm2 t2 q⟩
theorem vi{i f:Nat}{fz:Bool}{x:Str}(hg:Gl X x)(hm:X.mg x=some (.ref (B.kls i)))(hdb:(x == ("__debug__" : Str))=false)(mk:Mk X.K (B.kls i) (fad f))(hf:oW X cls k (fad f) (cl3 f))(hr:Room (k+1) X.A)(hx:aJ (CX1 X.prog X.w) X E2)
  (ha:PA X (e::es) (cT X.K cls E2 tr)) (he:starEach (e::es) X.env=(false,eval e X.env)::starEach es X.env) (hpl:(backTo pos (starEach es X.env)).any (·.1)=false) :
  PE X (.Call (.Name x p) (e::es) [] pos) (low X.K cls E2 fun σ M Q E=>tr σ M (fun xs M1=>∀p,M1 p=none->cl3 f (.ref p::xs) (put M1 p (.ins i (B.kls i) [] [])) (fun v M2=>v=.non/\if fz=true then bp Q (.ref p) M2 else Q (.ref p) M2) (fun i M'=>E i (del M' p))) E):=by
 refine fun pins s σ H Q2 I hl_=>ex9 hl_ fun σ3 M Q E3 rm ds lk h back=>?_
 obtain⟨fd,ps,sp,kp,bd,F⟩:=hf;refine wpAny_Call_Name_kw (bo I hg hm ?_ hdb);refine PySem.W.callWith_K (h₀:=X.base) I.ok.mod.kin mk.kp (thn (ha pos pins s σ H (fun vs H1=>TM X.K H H1/\∃xs M1,DenL X.K H1 xs vs/\RelM X.K M1 H1/\∀p,M1 p=none->cl3 f (.ref p::xs) (put M1 p (.ins i (B.kls i) [] [])) (fun v M2=>v=.non/\if fz=true then bp Q (.ref p) M2 else Q (.ref p) M2) (fun i M'=>E3 i (del M' p))) I
  (dC rm ds lk h fun vs H1 xs M1 dl rm1 t1 q1=>⟨t1,xs,M1,dl,rm1,q1⟩)) fun us s1 ⟨vs,H1,I1,r,t1,xs,M1,dl,rm1,q1⟩=>⟨I1.kIn,?_⟩) he hpl
 refine thn (i4 (Q:=fun v H2=>∃x,v=.ref x/\∃M2,RelM X.K M2 H2/\TM X.K H1 H2/\if fz=true then bp Q (.ref x) M2 else Q (.ref x) M2) mk F hr bd hx I1 r fun x dx n1 n2 n3=>?_) fun u s2 q2=>kU (fz:=fz) (back.mono t1) q2
 obtain⟨a1,a2,a3,a4,b1,b2,b3,b4,b5⟩:=nj (fz:=fz) (i:=i) (t3:=cl3 f) (Q2:=Q2) dl rm1 (lk.mono t1) q1 x dx n1 n2 n3;exact⟨a1,a2,a3,a4,b1,b2,b3,fun v H' d M' dv rm' t' q'=>by
  obtain⟨e,w⟩:=b4 v H' d M' dv rm' t' q';exact⟨e,x,rfl,w⟩,b5⟩
theorem sH{i f:Nat}{fz:Bool}{x:Str}(hg:Gl X x)(hm:X.mg x=some (.ref (B.kls i)))(hdb:(x == ("__debug__" : Str))=false)(mk:Mk X.K (B.kls i) (fad f))(hf:oW X cls k (fad f) (cl3 f))(hr:Room (k+1) X.A)(hx:aJ (CX1 X.prog X.w) X E2) :
  PE X (.Call (.Name x p) [] [] pos) (low X.K cls E2 fun σ M Q E=>∀p,M p=none->cl3 f [.ref p] (put M p (.ins i (B.kls i) [] [])) (fun v M2=>v=.non/\if fz=true then bp Q (.ref p) M2 else Q (.ref p) M2) (fun i M'=>E i (del M' p))):=by
 refine fun pins s σ H Q2 I hl_=>ex9 hl_ fun σ3 M Q E3 rm ds lk h back=>?_
 obtain⟨fd,ps,sp,kp,bd,F⟩:=hf;refine wpAny_Call_Name_kw (bo I hg hm ?_ hdb);refine PySem.W.callWith_K0 I.kIn mk.kp ?_;refine thn (i4 (us:=[]) (vs:=[]) (Q:=fun v H2=>∃x,v=.ref x/\∃M2,RelM X.K M2 H2/\TM X.K H H2/\if fz=true then bp Q (.ref x) M2 else Q (.ref x) M2) mk F hr bd hx I .nil fun x dx n1 n2 n3=>?_) fun u s2 q2=>kU (fz:=fz) back q2
 obtain⟨a1,a2,a3,a4,b1,b2,b3,b4,b5⟩:=nj (fz:=fz) (i:=i) (t3:=cl3 f) (xs:=[]) (vs:=[]) (Q2:=Q2) .nil rm lk h x dx n1 n2 n3;exact⟨a1,a2,a3,a4,b1,b2,b3,fun v H' d M' dv rm' t' q'=>by
  obtain⟨e,w⟩:=b4 v H' d M' dv rm' t' q';exact⟨e,x,rfl,w⟩,b5⟩
theorem wJ(hk:∀i,i < B.nk->KOk X.K B fad i)(ho:PE X o (low X.K cls E2 to))(hv:PE X value (low X.K cls E2 tv))(hs:swapsWith value (some (.Attribute o (fnm f) pos')) pos.line X.env=pure false) :
  PS X (.Assign [.Attribute o (fnm f) pos'] value pos) (aP X.K cls E2 fun D E σ M=>tv σ M (fun y M1=>to σ M1 (fun x M2=>match x with
  |.ref a=>match M2 a with
   |some (.ins i C ns ds)=>(C=B.kls i/\i < B.nk/\B.fok i f=true/\ns.length < 1000)/\D.nx σ (put M2 a (.ins i C (bx f ns) (bz f y ns ds)))
   |_=>False
  |_=>False) (E σ)) (E σ)):=
 (vt ho hv hs).imp fun D2 σ H hl_=>ex9 hl_ fun σ3 M D3 E3 rm ds lk h er=>aI rm ds (lk.at ds) h fun v H1 y M1 dy rm1 t1 q1=>aI rm1 (ds.mono t1) ((lk.at ds).mono t1) q1 fun w H2 x M2 dx rm2 t2 q2=>by
  split at q2
  ·rename_i a;split at q2
   ·rename_i i C ns es q;obtain⟨dx',vs,e,hl,dl⟩:=rm2 a _ q;obtain⟨⟨rfl,hi,hf,hz⟩,q2⟩:=q2;obtain⟨ws,h1,h2,h3⟩:=ku (f:=f) (u:=v) dl hl (dy.mono t2);refine⟨a,_,dx',_,dx,e,(hk i hi).cl,(hk i hi).na f hf,?_,?_⟩
    ·rw[List.length_zip,List.length_map,hl,Nat.min_self,<-hl];exact hz
    ·have tw:TM X.K H2 (upd H2 a (.ins (B.kls i) dx' (cw (fnm f) v ((ns.map fnm).zip vs)))):=.put e (fun _ z=>by cases z) fun _ _ z=>by cases z
     refine er.nx _ _ σ3 _ (rm2.write (u:=.ins i (B.kls i) (bx f ns) (bz f y ns es)) e (fun _ z=>by cases z) (fun _ _ z=>by cases z) ⟨dx',ws,by rw[ae,h1],h2,h3.mono tw⟩) (((ds.mono t1).mono t2).mono tw) ((t1.trans t2).trans tw) q2
   ·exact q2.elim
  ·exact q2.elim
end
end L2
namespace L2
open PySem PySem.Spec PyProof.Rows
noncomputable def VS(X:Cx)(r:D->Option Int->Option Int->MH->VK3->Prop):Prop:=
 ∀(pins:List (Addr×Obj)) (s:Shared)(σ:St)(H:Hp)(x:D)(v:V)(v2 vl vu:Value)(lo hi:Option Int)(sl:Addr)(M:MH)(Q:VK3)(Q2:VK),Inv X pins σ H s->RelV v v2->Den X.K H x v->RelM X.K M H->s.heap.IsSliceOf sl vl vu .none->IsPart vl lo->IsPart vu hi->r x lo hi M Q->Back X.K H Q Q2->
  ∃T id,typeLookup (.type T) "__getitem__"=pure (some (.builtin id))/\s.TypeIs v2 T/\wpAny (model X.prog X.w) X.A (getItem v2 (.ref sl)) (EP X pins σ Q2) X.xe s
section
variable {X:Cx}{lo:Option Expr}
theorem VS.op(h:VS X r):SlR X (fun v lo hi H Q2=>∃x M Q,Den X.K H x v/\RelM X.K M H/\r x lo hi M Q/\Back X.K H Q Q2):=by
 intro pins s σ H v v2 vl vu lo hi sl Q2 I rv hs pl pu ⟨x,M,Q,dx,rm,q,back⟩;exact h pins s σ H x v v2 vl vu lo hi sl M Q Q2 I rv dx rm hs pl pu q back
theorem kM{K:PySem.W.Frag}{lo:Option Int}(dl:DenL K H ds vs):DenL K H (fW ds lo hi) (mq vs lo hi):=by
 unfold fW mq;rw[dl.length];exact (dl.drop _).take _
theorem za(fz:Bool):VS X (iC fz):=by
 intro pins s σ H x v v2 vl vu lo hi sl M Q Q2 I rv dx rm hs pl pu q back;unfold iC at q;split at q
 ·rename_i ds;obtain⟨p,vs,rfl,sq,dl⟩:=dx;obtain⟨hw,q⟩:=q;refine v8 pins s σ H _ v2 vl vu lo hi sl Q2 I rv hs pl pu ⟨p,vs,rfl,sq,fun z=>?_,fun p' hp=>?_⟩
  ·unfold whole at hw;rw[dl.length,z.1,z.2]at hw;simp at hw
  ·exact back _ _ (.tup (fW ds lo hi)) _ ⟨p',_,rfl,.of ae,(kM dl).mono (.new hp)⟩ (rm.grow hp) (.new hp) q
 ·rename_i z;cases (show v=.str z from dx);obtain⟨t,rfl⟩:=rv;obtain⟨hz,q⟩:=q;have fin:∀t' k,EP X pins σ Q2 (.str (Txt.slice z lo hi) t') {s with toks:=k}:=fun t' k=>⟨.str _,H,I.tok _,⟨_,rfl⟩,back _ _ _ _ gz rm (.refl _) q⟩
  refine⟨"str",_,PySem.F.slot_str_getitem.lookup,typeIs_str _ _ _,?_⟩;cases pl with
  |none=>
   cases pu with
   |none=>exact wpAny_getItem_str_slice (l:=none) (u:=none) (st:=none) hs rfl (post_val_or_str ⟨Nat.le_trans (Txt.slice_le z _ _) hz,fin⟩)
   |int j u=>exact wpAny_getItem_str_slice (l:=none) (u:=some (j,u)) (st:=none) hs rfl (post_val_or_str ⟨Nat.le_trans (Txt.slice_le z _ _) hz,fin⟩)
  |int i u'=>
   cases pu with
   |none=>exact wpAny_getItem_str_slice (l:=some (i,u')) (u:=none) (st:=none) hs rfl (post_val_or_str ⟨Nat.le_trans (Txt.slice_le z _ _) hz,fin⟩)
   |int j u=>exact wpAny_getItem_str_slice (l:=some (i,u')) (u:=some (j,u)) (st:=none) hs rfl (post_val_or_str ⟨Nat.le_trans (Txt.slice_le z _ _) hz,fin⟩)
 ·split at q
  ·rename_i ds e;obtain⟨p,vs,rfl,hq,dl⟩:=aE rm e dx;cases rv;obtain⟨its,r,ht,hz⟩:=I.list hq.sq;have hlen:=r.length;refine⟨"list",_,slot_list_getitem.lookup,ht.isList.typeIs,?_⟩;refine wpAny_getItem_list_slice ht.isList hs pl pu .none (by simp) ?_ (by rw[List.size_toArray]<;>omega)
   rw[iF,<-hlen];have I2:=I.laid (t':=s.toks) (o:=.lst (mq vs lo hi)) (h':=s.heap.push {cls:=.type "list",data:=.seq ((its.drop (HT.sIx vs.length 0 lo)).take (HT.sIx vs.length vs.length hi - HT.sIx vs.length 0 lo)).toArray 0}) (fun b ob q=>Heap.get?_push_of_some _ q) (Nat.le_refl _)
    ⟨Nat.le_trans (fP vs lo hi) hz,_,0,(r.drop (HT.sIx vs.length 0 lo)).take (HT.sIx vs.length vs.length hi - HT.sIx vs.length 0 lo),Heap.get?_push_size _ rfl⟩
   exact be I2 (I.hok.fresh (Nat.le_refl _)) (kM dl) rm (.refl _) q back
  ·exact q.elim
theorem Cs(ha:PE X a (low X.K cls E2 ta))(hl:PO X lo (n8 X.K cls E2 tl))(hh:PO X hi (n8 X.K cls E2 th)) :
  PE X (.Subscript a (.Slice lo hi none p2) pos) (low X.K cls E2 fun σ M Q E=>ta σ M (fun x M1=>tl σ M1 (fun l M2=>th σ M2 (fun h M3=>iC fz x l h M3 Q) E) E) E):=
 (qU (za fz).op ha hl hh).imp fun σ H Q2 hl_=>ex9 hl_ fun σ3 M Q E3 rm ds lk h back=>aI rm ds lk h fun v H1 x M1 dx rm1 t1 q1=>tZ rm1 (ds.mono t1) (lk.mono t1) q1 fun l H2 M2 rm2 t2 q2=>tZ rm2 ((ds.mono t1).mono t2) ((lk.mono t1).mono t2) q2 fun h H3 M3 rm3 t3 q3=>
  ⟨x,M3,Q,(dx.mono t2).mono t3,rm3,q3,back.mono ((t1.trans t2).trans t3)⟩
theorem iL{K:PySem.W.Frag}:∀{ds:List D}{bs:List Bool}{vs:List V}{us:List Value},c6 ds=some bs->DenL K H ds vs->Vals vs us->LSm.BoolsAre us bs
 |[],bs,vs,us,e,dl,r=>by
  cases (show vs=[] from dl);cases r;cases (show some []=some bs from e);exact .nil
 |d::ds,bs,_,us,e,dl,r=>by
  obtain⟨v,vs,rfl,dv,dl⟩:=dl;cases r with
  |cons ru rt=>
   cases d with
   |bl b=>
    simp only[c6]at e;split at e
    ·rename_i ns q;cases e;cases (show v=.bl b from dv);cases ru;exact .cons b (iL q dl rt)
    ·cases e
   |_=>cases e
theorem tW(al:Bool)(hc:X.calm=true):VC X (.builtin (if al=true then "all" else "any")) (rBi (if al=true then .all else .any)):=by
 intro pins s σ H xs vs us M Q Q2 I r dl rm q back;have hh:X.A.handled=none:=I.ok.hd hc;have key:∃x ds bs,xs=[x]/\ai M x=some ds/\c6 ds=some bs/\Q (.bl (if al=true then bs.all id else bs.any id)) M:=by
  cases al with
  |true=>
   simp only[if_true,rBi]at q;split at q
   ·split at q
    ·split at q
     ·exact⟨_,_,_,rfl,by assumption,by assumption,q⟩
     ·exact q.elim
    ·exact q.elim
   ·exact q.elim
  |false=>
   simp only[Bool.false_eq_true,if_false,rBi]at q;split at q
   ·split at q
    ·split at q
     ·exact⟨_,_,_,rfl,by assumption,by assumption,q⟩
     ·exact q.elim
    ·exact q.elim
   ·exact q.elim
 obtain⟨x,ds,bs,rfl,e1,e2,q⟩:=key;obtain⟨v,rfl,dv⟩:=fL dl;obtain⟨u,rfl,ru⟩:=dD r;obtain⟨p,ws,rfl,hq,dl2⟩:=aE rm e1 dv;cases ru;obtain⟨its,r2,pl',hz⟩:=I.list hq.sq;have hb:=iL e2 dl2 r2;have hl:=pl'.isList;have hlt:p < s.heap.objs.size:=by obtain⟨_,e,_⟩:=hl;exact Heap.lt_size e
 have fin:∀h' tk,(∀b o,s.heap.get? b=some o->h'.get? b=some o)->EP X pins σ Q2 (.bool (if al=true then bs.all id else bs.any id)) {s with heap:=h',toks:=tk}:=fun h' tk hk=>
  ⟨.bl _,H,I.kept (t':=tk) hk,rfl,back _ _ _ _ bj rm (.refl _) q⟩
 cases al with
 |true=>
  refine call_all_walk (wpAny_pyIter_list hl ?_);refine⟨s.heap.objs.size,[s.heap.objs.size,p],[s.heap.objs.size],its.toArray.size,_,_,fun i=>(bs[i]?).getD true,rfl,Walks.list (A:=X.A.in1) hh _ p (Nat.ne_of_lt hlt) its.toArray,
   ⟨⟨_,Heap.get?_push_size _ rfl,rfl,rfl⟩,hl.push _⟩,fun i v s' Q' E' hP hQ=>?_,fun h' tk hk=>?_⟩
  ·obtain⟨b,e,rfl⟩:=hb.get i v (by simpa using hP)
   simp only[e,Option.getD_some]at hQ;exact wpAny_truthy_bool hQ
  ·have e:((List.range its.toArray.size).all fun i=>(bs[i]?).getD true)=bs.all id:=by
    rw[List.size_toArray,hb.length];exact LSm.range_all bs
   rw[e];exact fin h' tk (LSm.kept_iter hk)
 |false=>
  refine call_any_walk (wpAny_pyIter_list hl ?_);refine⟨s.heap.objs.size,[s.heap.objs.size,p],[s.heap.objs.size],its.toArray.size,_,_,fun i=>(bs[i]?).getD false,rfl,Walks.list (A:=X.A.in1) hh _ p (Nat.ne_of_lt hlt) its.toArray,
   ⟨⟨_,Heap.get?_push_size _ rfl,rfl,rfl⟩,hl.push _⟩,fun i v s' Q' E' hP hQ=>?_,fun h' tk hk=>?_⟩
  ·obtain⟨b,e,rfl⟩:=hb.get i v (by simpa using hP)
   simp only[e,Option.getD_some]at hQ;exact wpAny_truthy_bool hQ
  ·have e:((List.range its.toArray.size).any fun i=>(bs[i]?).getD false)=bs.any id:=by
    rw[List.size_toArray,hb.length];exact LSm.range_any bs
   rw[e];exact fin h' tk (LSm.kept_iter hk)
end
end L2
namespace L2
open PySem PySem.Spec PyProof.Rows
noncomputable def TyV(X:Cx)(T:String)(x:V)(H:Hp):Prop:=∀(pins:List (Addr×Obj)) (σ:St)(s:Shared)(v:Value),Inv X pins σ H s->RelV x v->s.TypeIs v T/\∀a,v=.ref a->∃ob,s.heap.get? a=some ob/\ob.dict=none
section
variable {X:Cx}{o:Expr}{apos cpos pos:Pos}{id:String}
theorem wU(pa:PlainAttrs T)(slot:Slot T name id)(hty:typeOf (.builtin id)=pure (.type "method_descriptor"))(hm:MtR X id r)(ho:PE X o t2)(ha:PA X (e::es) ta)
  (hbase:attributeBase o name X.env (eval o X.env)=eval o X.env)
  (hfew:((backTo cpos (starEach (e::es) X.env)).all (fun x=>!x.1)&&(backToKw cpos (keywordEach [] X.env)).all (fun x=>x.1.isSome)
   &&decide ((e::es).length+([]:List Keyword).length+(if ([]:List Keyword).isEmpty then 0 else 1) < 30))=true)
  (hline:(apos.endLine == cpos.line)=true) (hs:starEach (e::es) X.env=(false,eval e X.env)::starEach es X.env) (hplain:(backTo cpos (starEach es X.env)).any (·.1)=false) :
  PE X (.Call (.Attribute o name apos) (e::es) [] cpos) (fun σ H Q=>t2 σ H fun x H1=>TyV X T x H1/\ta σ H1 fun xs H2=>r x xs H2 Q):=by
 intro pins s σ H Q I h;refine wpAny_Call_method_late hbase hfew hline rfl (thn (ho pins s σ H _ I h) fun v s1 ⟨x,H1,I1,r1,ty,q1⟩=>?_)
 obtain⟨h1,h2⟩:=ty pins σ s1 v I1 r1;refine⟨T,id,pa,slot,hty,h1,h2,?_⟩;have hA:=ha cpos pins s1 σ H1 _ I1 q1;rw[hs]at hA ⊢;refine Calls.callWith_builtin (by show (false||(backTo cpos (starEach es X.env)).any (·.1))=false;rw[hplain]<;>rfl) (Calls.evalArgs_plain ?_)
 exact thn hA fun us s2 ⟨vs,H2,I2,r2,q2⟩=>hm pins s2 σ H2 x vs v us Q I2 r1 r2 q2
theorem sZ(pa:PlainAttrs T)(slot:Slot T name id)(hty:typeOf (.builtin id)=pure (.type "method_descriptor"))(hm:MtR X id r)(ho:PE X o t2)
  (hbase:attributeBase o name X.env (eval o X.env)=eval o X.env) (hline:(apos.endLine == cpos.line)=true):PE X (.Call (.Attribute o name apos) [] [] cpos) (fun σ H Q=>t2 σ H fun x H1=>TyV X T x H1/\r x [] H1 Q):=by
 intro pins s σ H Q I h;refine wpAny_Call_method0_late hbase hline (thn (ho pins s σ H _ I h) fun v s1 ⟨x,H1,I1,r1,ty,q1⟩=>?_)
 obtain⟨h1,h2⟩:=ty pins σ s1 v I1 r1;exact⟨T,id,pa,slot,hty,h1,h2,Calls.callWith_builtin rfl (PySem.evalArgs_none (hm pins s1 σ H1 x [] v [] Q I1 r1 .nil q1))⟩
noncomputable def VM(X:Cx)(id:String)(r:D->List D->MH->VK3->Prop):Prop:=
 ∀(pins:List (Addr×Obj)) (s:Shared)(σ:St)(H:Hp)(x:D)(xs:List D)(v:V)(vs:List V)(v2:Value)(us:List Value)(M:MH)(Q:VK3)(Q2:VK),Inv X pins σ H s->RelV v v2->Vals vs us->Den X.K H x v->DenL X.K H xs vs->RelM X.K M H->r x xs M Q->Back X.K H Q Q2->
  wpAny (model X.prog X.w) X.A (call (.builtin id) (v2::us)) (EP X pins σ Q2) X.xe s
theorem VM.op(h:VM X id r):MtR X id (fun v vs H Q2=>∃x xs M Q,Den X.K H x v/\DenL X.K H xs vs/\RelM X.K M H/\r x xs M Q/\Back X.K H Q Q2):=by
 intro pins s σ H v vs v2 us Q2 I rv rs ⟨x,xs,M,Q,dx,dl,rm,q,back⟩;exact h pins s σ H x xs v vs v2 us M Q Q2 I rv rs dx dl rm q back
noncomputable def TyD(X:Cx)(T:String)(tb:D->MH->Bool):Prop:=∀(x:D)(v:V)(M:MH)(H:Hp),Den X.K H x v->RelM X.K M H->tb x M=true->TyV X T v H
theorem zp(pa:PlainAttrs T)(slot:Slot T name id)(hty:typeOf (.builtin id)=pure (.type "method_descriptor"))(hm:VM X id r)(ht:TyD X T tb)(ho:PE X o (low X.K cls E2 to))(ha:PA X (e::es) (cT X.K cls E2 tr))
  (hbase:attributeBase o name X.env (eval o X.env)=eval o X.env) (hn:(e::es).length < 30)
  (hline:(apos.endLine == cpos.line)=true) (hs:starEach (e::es) X.env=(false,eval e X.env)::starEach es X.env) (hplain:(backTo cpos (starEach es X.env)).any (·.1)=false) :
  PE X (.Call (.Attribute o name apos) (e::es) [] cpos) (low X.K cls E2 fun σ M Q E=>to σ M (fun x M1=>tb x M1=true/\tr σ M1 (fun xs M2=>r x xs M2 Q) E) E):=by
 have hst:(backTo cpos (starEach (e::es) X.env)).any (·.1)=false:=by
  rw[hs];show ((false,_)::backTo cpos (starEach es X.env)).any (·.1)=false;rw[List.any_cons,hplain];rfl
 refine (wU pa slot hty hm.op ho ha hbase (gF hst hn) hline hs hplain).imp fun σ H Q2 hl_=>ex9 hl_ fun σ3 M Q E3 rm ds lk h back=>aI rm ds lk h fun v H1 x M1 dx rm1 t1 q1=>?_
 exact⟨ht x v M1 H1 dx rm1 q1.1,dC rm1 (ds.mono t1) (lk.mono t1) q1.2 fun vs H2 xs M2 dl rm2 t2 q2=>⟨x,xs,M2,Q,dx.mono t2,dl,rm2,q2,back.mono (t1.trans t2)⟩⟩
theorem uj(pa:PlainAttrs T)(slot:Slot T name id)(hty:typeOf (.builtin id)=pure (.type "method_descriptor"))(hm:VM X id r)(ht:TyD X T tb)(ho:PE X o (low X.K cls E2 to))
  (hbase:attributeBase o name X.env (eval o X.env)=eval o X.env) (hline:(apos.endLine == cpos.line)=true) :
  PE X (.Call (.Attribute o name apos) [] [] cpos) (low X.K cls E2 fun σ M Q E=>to σ M (fun x M1=>tb x M1=true/\r x [] M1 Q) E):=
 (sZ pa slot hty hm.op ho hbase hline).imp fun σ H Q2 hl_=>ex9 hl_ fun σ3 M Q E3 rm ds lk h back=>aI rm ds lk h fun v H1 x M1 dx rm1 t1 q1=>⟨ht x v M1 H1 dx rm1 q1.1,x,[],M1,Q,dx,.nil,rm1,q1.2,back.mono t1⟩
theorem nz(hb:∀x M,tb x M=true->(ai M x).isSome=true):TyD X "list" tb:=fun x v M H dx rm h pins σ s v2 I rv=>by
 obtain⟨ds,e⟩:=Option.isSome_iff_exists.mp (hb x M h);obtain⟨p,vs,rfl,hq,dl⟩:=aE rm e dx;cases rv;obtain⟨its,_,pl,_⟩:=I.list hq.sq;refine⟨pl.isList.typeIs,fun a e=>?_⟩
 cases e;obtain⟨o,n,e,c,hd,_⟩:=pl;exact⟨o,e,hd⟩
theorem m8:∀{ds:List D}{k j:Nat},nP y ds k=some j->k<=j/\(∃d,ds[j - k]?=some d/\eqD d y=true)/\∀m d,m < j - k->ds[m]?=some d->eqD d y=false
 |[],_,_,e=>by cases e
 |d::r,k,j,e=>by
  simp only[nP]at e;by_cases h:eqD d y=true
  ·rw[if_pos h]at e;cases e;exact⟨Nat.le_refl _,⟨d,by simp,h⟩,fun m d' hm _=>absurd hm (by omega)⟩
  ·rw[if_neg h]at e;obtain⟨h1,⟨d1,h2,h3⟩,h4⟩:=m8 e;refine⟨by omega,⟨d1,?_,h3⟩,fun m d' hm he=>?_⟩
   ·have:j - k=(j - (k+1))+1:=by omega
    rw[this,List.getElem?_cons_succ];exact h2
   ·cases m with
    |zero=>simp at he;subst he;simpa using h
    |succ m=>exact h4 m d' (by omega) (by simpa using he)
theorem ln(hu:X.A.units+64 < cLine):VM X "list.index" (rBm .index):=by
 intro pins s σ H x xs v vs v2 us M Q Q2 I rv rs dx dl rm q back;simp only[rBm]at q;split at q
 ·rename_i ds y e;obtain⟨⟨p1,p2⟩,q⟩:=q;split at q
  ·rename_i j ej;obtain⟨_,⟨d1,h2,h3⟩,h4⟩:=m8 ej;obtain⟨p,ws,rfl,hq,dl2⟩:=aE rm e dx;cases rv;obtain⟨yv,rfl,dy⟩:=fL dl;obtain⟨u,rfl,ru⟩:=rs.one;obtain⟨z,its,n,r2,hl2,ho⟩:=I.rdL hq;obtain⟨H',I',t',d2⟩:=lu I rm dy p1;have dl':=dl2.mono t';have pd:=fu dl' r2
   classical
   let f:Value->Bool:=fun w=>if h:∃d∈ds,∃v,Den X.K H' d v/\RelV v w then eqD h.choose (res M y) else false
   have hf:∀d w,d∈ds->(∃v,Den X.K H' d v/\RelV v w)->f w=eqD d (res M y):=fun d w hd ⟨v',dv,rw'⟩=>by
    have h:∃d∈ds,∃v,Den X.K H' d v/\RelV v w:=⟨d,hd,v',dv,rw'⟩;obtain⟨hm,v'',dv2,rw2⟩:=h.choose_spec;have:v''=v':=rw2.inj rw';subst this;have e1:h.choose=d:=jQ I' rfl 8 (List.all_eq_true.mp p2 _ hm) (List.all_eq_true.mp p2 _ hd) dv2 dv;show (if h:∃d∈ds,∃v,Den X.K H' d v/\RelV v w then eqD h.choose (res M y) else false)=_
    rw[dif_pos h,e1]
   have hat:∀(m:Nat)(hm:m < its.toArray.size),∃d,ds[m]?=some d/\f its.toArray[m]=eqD d (res M y):=fun m hm=>by
    have hm':m < ds.length:=by rw[dl2.length,hl2];simpa using hm
    refine⟨ds[m],by simp[hm'],?_⟩
    obtain⟨v',e1,e2⟩:=dl'.get (i:=m) (d:=ds[m]) (by simp[hm'])
    obtain⟨w',e3,e4⟩:=r2.get e1;have:its.toArray[m]=w':=by
     have hm2:m < its.length:=by simpa using hm
     have:its[m]?=some its[m]:=by simp[hm2]
     rw[this]at e3;simpa using e3
    rw[this];exact hf _ _ (List.getElem_mem hm') ⟨v',e2,e4⟩
   have hj:j < its.toArray.size:=by
    have h5:j < ds.length:=(List.getElem?_eq_some_iff.mp (by simpa using h2)).1
    rw[List.size_toArray,<-hl2,<-dl2.length];exact h5
   refine call_meets PySem.F.slot_list_index ⟨_,ho,rfl⟩ PySem.F.entry_list_index (PySem.F.args_list_index_2 _ _)
    (SeqAt.list_indexAt p its.toArray n none #[] u f j hj (by
     have:=sizeLine_eq;have hz2:its.length<=sizeLine:=by omega
     have:j < its.length:=by simpa using hj
     have h63:(sizeLine:Int) < 2 ^ 63 - 1:=by decide
     omega) ?_ ?_) ⟨ho,fun w hw=>?_,?_⟩
   ·obtain⟨d,e1,e2⟩:=hat j hj;rw[e2];simp at h2;rw[e1]at h2;cases h2;exact h3
   ·intro m hm hlt;obtain⟨d,e1,e2⟩:=hat m hm;rw[e2];exact h4 m d (by simpa using hlt) e1
   ·obtain⟨d,hd,v',dv,rw'⟩:=Paired.mem_right pd w (by simpa using hw)
    rw[hf d w hd ⟨v',dv,rw'⟩];exact (we I' rfl 8 (A:=X.A.in1) (List.all_eq_true.mp p2 _ hd) p1 dv d2 rw' ru (by show X.A.units+1+8 < cLine;omega)).2.2
   ·exact⟨.int j,H,I.tok _,⟨_,rfl⟩,back _ _ _ _ aQ rm (.refl _) q⟩
  ·exact q.elim
 ·exact q.elim
theorem nh:TyD X "dict" (tyB .get):=fun x v M H dx rm h pins σ s v2 I rv=>by
 simp only[tyB,Bool.or_eq_true]at h;rcases h with h|h
 ·obtain⟨⟨ks,ds⟩,e⟩:=Option.isSome_iff_exists.mp h;obtain⟨p,vs,rfl,rd,_⟩:=kH e rm dx;cases rv;obtain⟨_,_,ws,_,dd⟩:=fN I.hok rd;refine⟨dd.typeIs,fun b q=>?_⟩
  cases q;obtain⟨ob,_,_,h1,h2,_⟩:=dd;exact⟨ob,h1,h2.2.1⟩
 ·obtain⟨⟨ks,ds⟩,e⟩:=Option.isSome_iff_exists.mp h;obtain⟨p,vs,xs,rfl,rd,z,_⟩:=ef e rm dx;cases rv;have dd:=bq I rd z;refine⟨dd.typeIs,fun b q=>?_⟩
  cases q;obtain⟨ob,_,_,h1,h2,_⟩:=dd;exact⟨ob,h1,h2.2.1⟩
theorem OptDen.getD{K:PySem.W.Frag}{o:Option D}{ov:Option V}(h:OptDen K H o ov)(dv:Den K H d v):Den K H (o.getD d) (ov.getD v):=by
 cases o with
 |none=>cases ov with
  |none=>exact dv
  |some _=>exact h.elim
 |some d'=>cases ov with
  |none=>exact h.elim
  |some v'=>exact h
theorem fe{K:PySem.W.Frag}(h:DenL K H (d::ds) vs):∃v ws,vs=v::ws/\Den K H d v/\DenL K H ds ws:=by
 obtain⟨v,r,e,dv,dl⟩:=h;exact⟨v,r,e,dv,dl⟩
theorem qI(hu:X.A.units+64 < cLine):VM X "dict.get" (rBm .get):=by
 intro pins s σ H x xs v vs v2 us M Q Q2 I rv rs dx dl rm q back;simp only[rBm]at q;split at q
 ·rename_i y;split at q
  ·rename_i o e;obtain⟨yv,rfl,dy⟩:=fL dl;obtain⟨u,rfl,ru⟩:=rs.one;obtain⟨a,ov,rfl,g,od⟩:=et e rm dx dy;cases rv;exact uP (by omega) I g ru fun w' s' I' rw'=>⟨_,H,I',rw',back _ _ _ _ (od.getD (show Den X.K H .non .non from rfl)) rm (.refl _) q⟩
  ·exact q.elim
 ·rename_i y z;split at q
  ·rename_i o e;obtain⟨yv,wv,rfl,dy,dw⟩:=fe dl;obtain⟨zv,rfl,dz⟩:=fL dw;obtain⟨u,w,rfl,ru,rw'⟩:=rs.two;obtain⟨a,ov,rfl,g,od⟩:=et e rm dx dy;cases rv;exact uG (by omega) I g ru rw' fun w' s' I' rw'=>⟨_,H,I',rw',back _ _ _ _ (od.getD dz) rm (.refl _) q⟩
  ·exact q.elim
 ·exact q.elim
theorem uo(hu:X.A.units+64 < cLine):wE X (fun o i v H R2=>∃x k y M R,Den X.K H x o/\Den X.K H k i/\Den X.K H y v/\RelM X.K M H/\bh x k y M R/\∀H' M',RelM X.K M' H'->TM X.K H H'->R M'->R2 H'):=by
 intro pins s σ H o i v ov iv u R2 I ro ri rv ⟨x,k,y,M,R,dx,dk,dy,rm,q,back⟩;unfold bh at q;split at q
 ·rename_i a;cases (show o=.ref a from dx);split at q
  ·rename_i ds n e;split at q
   ·rename_i j ej;cases (show i=.int n from dk);obtain⟨vs,e1,dl⟩:=rm a _ e;have tw:TM X.K H (upd H a (.lst (vs.set j v))):=.put e1 (fun _ z=>by cases z) fun _ _ z=>by cases z
    refine pU pins s σ H _ _ v ov iv u R2 I ro ri rv ⟨a,vs,n,j,rfl,rfl,e1,by rw[<-dl.length];exact ej,?_⟩
    exact back _ _ (rm.write (u:=.lst (ds.set j y)) e1 (fun _ z=>by cases z) (fun _ _ z=>by cases z) ⟨_,ae,(dl.set dy j).mono tw⟩) tw q
   ·exact q.elim
  ·rename_i ks ds e;split at q
   ·rename_i k' ek;cases ro;exact xx (by omega) I rm e (lh ek dk) ri dy rv q.1 q.2 back
   ·exact q.elim
  ·rename_i ks ds e;split at q
   ·rename_i k' ek;cases ro;obtain⟨b,rfl,sq⟩:=g9 ek dk;cases ri;exact uU (by omega) I rm e sq dy rv q.1 q.2 back
   ·exact q.elim
  ·exact q.elim
 ·exact q.elim
theorem sF(hu:X.A.units+64 < cLine)(ho:PE X o (low X.K cls E2 to))(hi:PE X ixe (low X.K cls E2 ti))(hv:PE X value (low X.K cls E2 tv))
  (ha:∀v,assign (.Subscript o ixe pos') X.env v=(do
   let ov<-holding [v] (eval o X.env)
   let iv<-holding [v,ov] (eval ixe X.env)
   standAt pos'
   holding [v,ov,iv] (setItem ov iv v)
   release [v,ov,iv] [])) (hs:swapsWithSole [.Subscript o ixe pos'] value pos.line X.env=pure false) (hw:swappedStores [.Subscript o ixe pos'] value X.env=pure none) (h1:(assignEach [.Subscript o ixe pos'] X.env).map (·.2)=[assign (.Subscript o ixe pos') X.env]) :
  PS X (.Assign [.Subscript o ixe pos'] value pos) (aP X.K cls E2 fun D E σ M=>tv σ M (fun y M1=>to σ M1 (fun x M2=>ti σ M2 (fun k M3=>bh x k y M3 fun M4=>D.nx σ M4) (E σ)) (E σ)) (E σ)):=
 (u0 hv (vA ho hi (uo hu) ha) hs hw h1).imp fun D2 σ H hl_=>ex9 hl_ fun σ3 M D3 E3 rm ds lk h er=>aI rm ds (lk.at ds) h fun v H1 y M1 dy rm1 t1 q1=>
  aI rm1 (ds.mono t1) ((lk.at ds).mono t1) q1 fun w H2 x M2 dx rm2 t2 q2=>aI rm2 ((ds.mono t1).mono t2) (((lk.at ds).mono t1).mono t2) q2 fun z H3 k M3 dk rm3 t3 q3=>
   ⟨x,k,y,M3,_,dx.mono t3,dk,(dy.mono t2).mono t3,rm3,q3,fun H' M' rm' t' q'=>er.nx _ _ σ3 M' rm' ((((ds.mono t1).mono t2).mono t3).mono t') (((t1.trans t2).trans t3).trans t') q'⟩
end
end L2
namespace L2
open PySem PySem.Spec PyProof.Rows PySem.W
section
variable {A:Around}{s:Shared} [DecidableEq κ] {knd:HeapKind prog w κ}{xs:List (κ×Addr×Value)}{p:Addr×Value}
end
section
variable {X:Cx}
end
end L2
namespace L2
open PySem PySem.Spec PyProof.Rows
section
variable {X:Cx}
theorem VM.of{id:String}{r3:D->List D->MH->VK3->Prop}{r:V->List V->Hp->VK->Prop}(h:MtM X id r)
  (hr:∀(H:Hp)(x:D)(xs:List D)(v:V)(vs:List V)(M:MH)(Q:VK3)(Q2:VK),Den X.K H x v->DenL X.K H xs vs->RelM X.K M H->r3 x xs M Q->Back X.K H Q Q2->r v vs H Q2):VM X id r3:=
 fun pins s σ H x xs v vs v2 us M Q Q2 I rv rs dx dl rm q back=>h pins s σ H v vs v2 us Q2 I rv rs (hr H x xs v vs M Q Q2 dx dl rm q back)
theorem DenL.app{K:PySem.W.Frag}:∀{ds es:List D}{vs ws:List V},DenL K H ds vs->DenL K H es ws->DenL K H (ds++es) (vs++ws)
 |[],es,vs,ws,h,g=>by cases (show vs=[] from h);exact g
 |d::ds,es,vs,ws,h,g=>by
  obtain⟨v,us,rfl,dv,dw⟩:=fe h;exact .cons dv (DenL.app dw g)
theorem DenL.rev{K:PySem.W.Frag}{H:Hp}:∀{ds:List D}{vs:List V},DenL K H ds vs->DenL K H ds.reverse vs.reverse
 |[],vs,h=>by cases (show vs=[] from h);exact .nil
 |d::ds,vs,h=>by
  obtain⟨v,us,rfl,dv,dw⟩:=fe h;rw[List.reverse_cons,List.reverse_cons];exact DenL.app (DenL.rev dw) (.one dv)
noncomputable def yr(xs:List V)(i:Int)(y:V):List V:=xs.take (t7 xs.length i)++y::xs.drop (t7 xs.length i)
theorem ins_len{xs:List V}:(yr xs i y).length=xs.length+1:=by
 unfold yr;simp;omega
theorem DenL.at{K:PySem.W.Frag}{H:Hp}{ds:List D}{vs:List V}{k:Nat}{d:D}(h:DenL K H ds vs)(e:ds[k]?=some d):∃v,vs[k]?=some v/\Den K H d v:=h.get e
theorem DenL.erase{K:PySem.W.Frag}{H:Hp}{ds:List D}{vs:List V}(k:Nat)(h:DenL K H ds vs):DenL K H (ds.eraseIdx k) (vs.eraseIdx k):=by
 rw[List.eraseIdx_eq_take_drop_succ,List.eraseIdx_eq_take_drop_succ];exact (h.take _).app (h.drop _)
end
end L2
namespace L2
open PySem PySem.Spec PyProof.Rows PySem.Calls PySem.NumText PySem.W.KIN
end L2
namespace L2
open PySem PySem.Spec PyProof.Rows
noncomputable def vR(K:PySem.W.Frag):Prop:=PySem.W.nsIn K cStatics "sys.int_max_str_digits"=some none
section
variable {X:Cx}
end
end L2
namespace L2
open PySem PySem.Spec PyProof.Rows
section
variable {X:Cx}{s:Shared}{h':Heap}
end
end L2
namespace L2
open PySem PySem.Spec PyProof.Rows
section
variable {X:Cx}{s:Shared}{h':Heap}
end
end L2
namespace L2
open PySem PySem.Spec PyProof.Rows
section
variable {A:Around}{s:Shared}
end
section
variable {prog:Program}{w:World}{A:Around}{E:Value->Shared->Prop}{s:Shared}{z TI TO i1 i2 l1 l2 S:Addr}{xs ys:Array Value}{i:Nat}
end
section
variable {prog:Program}{w:World}{A:Around}{s:Shared}{R:Result->Shared->Prop}{z TI TO i1 i2 l1 l2 S lo:Addr}{xs ys:Array Value}
end
section
variable {prog:Program}{w:World}{A:Around}{E:Value->Shared->Prop}{s:Shared}{R:Result->Shared->Prop}{z TI TO i1 i2 l1 l2 S lo:Addr}{xs ys:Array Value}
end
section
variable {X:Cx}{s:Shared}{h':Heap}
end
end L2
namespace L2
open PySem PySem.Spec PyProof.Rows
section
variable {X:Cx}
end
end L2
namespace L2
open PySem PySem.Spec PyProof.Rows
theorem on:typeLookup (.type "list_reverseiterator") "__len__"=pure none:=by rw[typeLookup_type,builtinLookup_eq_fast];kernel_rfl
theorem qv:typeLookup (.type "list_reverseiterator") "__length_hint__"=pure (some (.builtin "list_reverseiterator.__length_hint__")):=by rw[typeLookup_type,builtinLookup_eq_fast];kernel_rfl
section
variable {A:Around}{s:Shared}{items:Array Value}
theorem qi(hT:s.TypeIs (.ref it) "list_reverseiterator")(h:Q false s):wpAny (model prog w) A (Builtin.List.listLengthHint (.ref it)) Q E s:=by
 unfold Builtin.List.listLengthHint;refine wpAny_bind (wpAny_specialOf hT on ?_);show wpAny _ A (specialOf (Value.ref it) (Str.ofString "__length_hint__") >>=_) _ _ _;refine wpAny_bind (wpAny_specialOf hT qv ?_);generalize hid:("list_reverseiterator.__length_hint__" : String)=id0
 wp_delta
 rw[show splitId id0=some ("list_reverseiterator","__length_hint__") from by subst hid;decide +kernel]
 subst hid;refine wpAny_bind (wpAny_isInstance (b:=true) hT (by rw[isSubtype_type];kernel_rfl) ?_)
 exact wpAny_pure h
theorem sj(hh:A.handled=none)(hit:s.heap.IsRevIter it l ((items.size:Int) - 1))(hl:s.heap.IsList l items)(hne:l≠it)(hn:items.size<=sizeLine)
  (hQ:∀h' tk acc c,(∀b o,b≠it->s.heap.get? b=some o->h'.get? b=some o)->h'.get? s.heap.objs.size=some {cls:=.type "list",dict:=none,data:=.seq acc c,slots:=#[]}->ItemsOf (fun i v=>items[items.size - 1 - i]?=some v) acc items.size->Q (.ref s.heap.objs.size) {s with heap:=h',toks:=tk}) :
  wpAny (model prog w) A (call (.type "list") [.ref it]) Q E s:=by
 have l1:it < s.heap.objs.size:=by obtain⟨_,e,_⟩:=hit;exact Heap.lt_size e
 have l2:l < s.heap.objs.size:=by obtain⟨_,e,_⟩:=hl;exact Heap.lt_size e
 refine callType_codes (Q₁:=fun obj s₁=>obj=.ref s.heap.objs.size/\s₁={s with heap:=s.heap.push {cls:=.type "list",data:=.seq #[]}}) PySem.F.called_list (PySem.F.typeCall_list_1 _) PySem.F.entry_list_init
  (code_list_new _ ⟨rfl,rfl⟩) fun obj s₁ h₁=>?_
 obtain⟨rfl,rfl⟩:=h₁;have hS:(s.heap.push {cls:=.type "list",data:=.seq #[]}).get? s.heap.objs.size=some {cls:=.type "list",data:=.seq #[]}:=Heap.get?_push_size _ rfl;refine⟨⟨_,hS,rfl⟩,PySem.F.args_list_init_2 _ _,?_⟩;show wpAny _ _ (do let old<-Builtin.List.listItems (.ref s.heap.objs.size);Builtin.List.listUpdate (.ref s.heap.objs.size) (fun _=>#[]);letGo old.toList.reverse;Builtin.List.listExtendWith (.ref s.heap.objs.size) (.ref it) .none) _ _ _
 refine wpAny_bind ?_;unfold Builtin.List.listItems;refine wpAny_bind (wpAny_seqItems hS rfl (wpAny_pure ?_));show wpAny _ _ (updateSeq s.heap.objs.size (fun _=>#[]) >>=fun _=>letGo (#[]:Array Value).toList.reverse >>=fun _=>Builtin.List.listExtendWith (.ref s.heap.objs.size) (.ref it) .none) _ _ _
 refine wpAny_bind (wpAny_updateSeq hS rfl ?_);have hS₂:=Heap.get?_update_self (Obj.mapSeq (fun _=>(#[]:Array Value))) hS rfl
 have oth:∀b o,s.heap.get? b=some o->((s.heap.push {cls:=.type "list",data:=.seq #[]}).update s.heap.objs.size (Obj.mapSeq (fun _=>(#[]:Array Value)))).get? b=some o:=
  fun b o e=>(Heap.get?_update_other _ _ (Nat.ne_of_gt (Heap.lt_size e))).trans (Heap.get?_push_of_some _ e)
 refine wpAny_bind (wpAny_letGo ?_);have it2:=hit.at fun o e=>oth _ o e
 have hl2:=hl.at fun o e=>oth _ o e
 have hT:Shared.TypeIs {s with heap:=(s.heap.push {cls:=.type "list",data:=.seq #[]}).update s.heap.objs.size (Obj.mapSeq (fun _=>(#[]:Array Value)))} (.ref it) "list_reverseiterator":=by
  obtain⟨o,e,c,_⟩:=it2;exact⟨o,e,c⟩
 unfold Builtin.List.listExtendWith;refine wpAny_bind (wpAny_typeOf hT ?_);have h1:Builtin.List.listSameRef (.ref s.heap.objs.size) (.ref it)=false:=by simp[Builtin.List.listSameRef,Nat.ne_of_gt l1]
 have h2:(Value.type "list_reverseiterator" == Value.type "list")=false:=by decide
 have h3:(Value.type "list_reverseiterator" == Value.type "tuple")=false:=by decide
 simp only[h1,h2,h3,Bool.or_false,Bool.false_eq_true,if_false];refine wpAny_bind (wpAny_pyIter_revIter it2 ?_);refine wpAny_bind (wpAny_holding (qi hT ?_));refine wpAny_ite_split (fun hab=>absurd hab (by decide)) (fun _=>wpAny_pure ⟨plainId_quiet PySem.F.plain_extend_loop _,?_⟩)
 have W:=Walks.listRev (prog:=prog) (w:=w) (A:=A.in1.in1) hh it l hne items;have hSf:s.heap.objs.size∉[it,l]:=by simp only[List.mem_cons,List.not_mem_nil,or_false,not_or];exact⟨Nat.ne_of_gt l1,Nat.ne_of_gt l2⟩
 refine codeAny_extend_loopS W.toS hn _ hSf _ items.size 0 _ #[] _ rfl (Nat.zero_le _) ⟨Nat.zero_le _,by simpa using it2,hl2⟩ hS₂ (ItemsOf.nil _) fun s' acc' c' hm hS' hacc=>?_
 rw[Moved.eq_with hm];refine⟨rfl,hQ s'.heap s'.toks acc' c' (fun b o hb e=>hm.heap b o (fun hmem=>?_) (oth b o e)) hS' hacc⟩
 rcases List.mem_cons.mp hmem with e'|hmem
 ·exact absurd (Heap.lt_size e) (by rw[e'];exact Nat.lt_irrefl _)
 ·exact hb (List.mem_singleton.mp hmem)
end
theorem vh{X:Cx}(hc:X.calm=true)(hgl:Gl X "list")(hml:X.mg "list"=none)(hg:Gl X "reversed")(hm:X.mg "reversed"=none)(ha:PE X a (low X.K cls E2 ta))(hs:starEach [a] X.env=[(false,eval a X.env)]) :
  PE X (.Call (.Name "list" p') [.Call (.Name "reversed" p) [a] [] pos] [] pos') (low X.K cls E2 fun σ M Q E=>ta σ M (fun x M1=>rLr fz x M1 Q) E):=by
 intro pins s σ H Q2 I hl_;refine ex9 hl_ fun σ3 M Q E3 rm ds lk h back=>?_
 refine wpAny_Call_Name_kw (cI I hgl hml (u:=.type "list") (by decide +kernel) ?_)
 refine PyProof.Rows.callWith_type1 ?_;refine Calls.spliced_cons ?_;refine Call_ (cI I hg hm (u:=.type "reversed") (by decide +kernel) (PyProof.Rows.callWith_type1 (thn ((aT ha pa_nil hs) pos pins s σ H (fun vs H1=>∃v x M1,vs=[v]/\Den X.K H1 x v/\RelM X.K M1 H1/\TM X.K H H1/\rLr fz x M1 Q) I ?_) fun us s1 ⟨vs,H1,I1,r1,q1⟩=>?_) hs rfl))
 ·exact aI rm ds lk h fun v H2 x M2 dx rm2 t2 q2=>⟨v,x,M2,rfl,dx,rm2,t2,q2⟩
 ·obtain⟨v,x,M1,rfl,dx,rm1,t1,q⟩:=q1;unfold rLr at q;split at q
  ·rename_i es ee;obtain⟨c,ws,rfl,hq,dl⟩:=aE rm1 ee dx;obtain⟨u1,rfl,ru⟩:=dD r1;cases ru;obtain⟨hz,its,n,rv,hlen,ho⟩:=I1.rdL hq;have hil:s1.heap.IsList c its.toArray:=⟨_,ho,rfl,n,rfl⟩;refine call_reversed_list hil ?_;refine Calls.spliced_nil ?_;have hlt:c < s1.heap.objs.size:=Heap.lt_size ho;have e1:=rv.length;refine sj (s:={s1 with heap:=s1.heap.push (revObj c ((its.toArray.size:Int) - 1))}) (items:=its.toArray) (I.ok.hd hc) ⟨_,Heap.get?_push_size _ rfl,rfl,rfl⟩ (hil.at fun o e=>Heap.get?_push_of_some _ e) (Nat.ne_of_lt hlt) (by simp;omega) fun h2' tk acc cc hk hS hacc=>?_
   have sz:(s1.heap.push (revObj c ((its.toArray.size:Int) - 1))).objs.size=s1.heap.objs.size+1:=Heap.size_push ..;have hk':∀b o,s1.heap.get? b=some o->h2'.get? b=some o:=fun b o e=>hk b o (Nat.ne_of_lt (Heap.lt_size e)) (Heap.get?_push_of_some _ e)
   have hHS:H1 (s1.heap.push (revObj c ((its.toArray.size:Int) - 1))).objs.size=none:=I1.hok.fresh (by rw[sz];exact Nat.le_succ _)
   have ea:acc.toList=its.reverse:=by
    refine List.ext_getElem? fun j=>?_
    by_cases hj:j < acc.size
    ·have e2:acc[j]?=some acc[j]:=by simp[hj]
     have e3:=hacc.2 j _ e2;have e4:=hacc.1;simp at e3 e4;rw[Array.getElem?_toList,e2,List.getElem?_reverse (by omega)]
     exact e3.symm
    ·have e4:=hacc.1;simp at e4;rw[List.getElem?_eq_none (by simp;omega),List.getElem?_eq_none (by simp;omega)]
   have I2:Inv X pins σ (upd H1 (s1.heap.push (revObj c ((its.toArray.size:Int) - 1))).objs.size (.lst ws.reverse)) {s1 with heap:=h2',toks:=tk}:=I1.laid hk' (by rw[sz];exact Nat.le_succ _) ⟨by rw[List.length_reverse];omega,its.reverse,cc,rv.reverse,by rw[<-ea];simpa using hS⟩
   exact be I2 hHS dl.reverse rm1 t1 q back
  ·exact q.elim
end L2
namespace L2
open PySem PySem.Spec PyProof.Rows
theorem kN:∀{ws:List V}{us:List Value},ws.length=us.length->(∀(i:Nat) w u,ws[i]?=some w->us[i]?=some u->RelV w u)->Vals ws us
 |[],[],_,_=>.nil
 |[],_::_,h,_=>by cases h
 |_::_,[],h,_=>by cases h
 |w::ws,u::us,h,g=>.cons (g 0 w u rfl rfl) (kN (by simpa using h) fun i w u h1 h2=>g (i+1) w u (by simpa using h1) (by simpa using h2))
theorem vY{X:Cx}(fz:Bool)(hc:X.calm=true)(hgl:Gl X "list")(hml:X.mg "list"=none)(hg:Gl X "range")(hm:X.mg "range"=none)(ha:PE X a (low X.K cls E2 ta))(hs:starEach [a] X.env=[(false,eval a X.env)]) :
  PE X (.Call (.Name "list" p') [.Call (.Name "range" p) [a] [] pos] [] pos') (low X.K cls E2 fun σ M Q E=>ta σ M (fun x M1=>rLg fz x M1 Q) E):=by
 intro pins s σ H Q2 I hl_;refine ex9 hl_ fun σ3 M Q E3 rm ds lk h back=>?_
 refine wpAny_Call_Name_kw (cI I hgl hml (u:=.type "list") (by decide +kernel) ?_)
 refine PyProof.Rows.callWith_type1 ?_;refine Calls.spliced_cons ?_;refine Call_ (cI I hg hm boot_range (PyProof.Rows.callWith_type1 (thn ((aT ha pa_nil hs) pos pins s σ H (fun vs H1=>∃v x M1,vs=[v]/\Den X.K H1 x v/\RelM X.K M1 H1/\TM X.K H H1/\rLg fz x M1 Q) I ?_) fun us s1 ⟨vs,H1,I1,r1,q1⟩=>?_) hs rfl))
 ·exact aI rm ds lk h fun v H2 x M2 dx rm2 t2 q2=>⟨v,x,M2,rfl,dx,rm2,t2,q2⟩
 ·obtain⟨v,x,M1,rfl,dx,rm1,t1,q⟩:=q1;unfold rLg at q;split at q
  ·rename_i j;obtain⟨⟨j1,j2⟩,q⟩:=q;obtain⟨u1,rfl,ru⟩:=dD r1;cases (show v=V.int j from dx);obtain⟨tk0,rfl⟩:=ru;refine call_range_1 ?_;refine Calls.spliced_nil ?_;refine call_list_range (n:=j.toNat) (I.ok.hd hc) (IsRange.new ..) (small_one (by omega) (by omega) (by omega) (by omega)) (by rw[rangeSize_one];split<;>omega) (by omega) fun h2' tk acc cc hk hS hacc=>?_
   generalize hpush:s1.heap.push _=hp at hk hS;have hk':∀b o,s1.heap.get? b=some o->h2'.get? b=some o:=fun b o e=>hk b o (by rw[<-hpush];exact Heap.get?_push_of_some _ e)
   have sz:s1.heap.objs.size<=hp.objs.size:=by rw[<-hpush,Heap.size_push];exact Nat.le_succ _
   have hHS:H1 hp.objs.size=none:=I1.hok.fresh sz;have e4:=hacc.1;have rv:Vals (((List.range j.toNat).map fun i:Nat=>(0+(i:Int))).map V.int) acc.toList:=kN (by simp[e4]) fun i w u h1 h2=>by
    have h3:acc[i]?=some u:=by simpa using h2
    obtain⟨t,rfl⟩:=hacc.2 i u h3;have hi:i < j.toNat:=by
     have:=(Array.getElem?_eq_some_iff.mp h3).1;omega
    have h4:w=V.int (0+(i:Int)):=by
     simp[hi]at h1;simp[<-h1]
    rw[h4];exact⟨t,by simp⟩
   have I2:Inv X pins σ (upd H1 hp.objs.size (.lst (((List.range j.toNat).map fun i:Nat=>(0+(i:Int))).map V.int))) {s1 with heap:=h2',toks:=tk}:=I1.laid hk' sz ⟨by rw[List.length_map,List.length_map,List.length_range,sizeLine_eq];omega,acc.toList,cc,rv,by simpa using hS⟩
   have dl:DenL X.K H1 (rng 0 j.toNat) (((List.range j.toNat).map fun i:Nat=>(0+(i:Int))).map V.int):=by
    have e:rng 0 j.toNat=((List.range j.toNat).map fun i:Nat=>(0+(i:Int))).map D.int:=by unfold rng;rw[List.map_map];rfl
    rw[e];exact DenL.of_int
   exact be I2 hHS dl rm1 t1 q back
  ·exact q.elim
end L2
namespace L2
open PySem PySem.Spec PyProof.Rows
theorem eN:∀{ds:List D}{ns:List Int},bO ds=some ns->ds=ns.map D.int
 |[],ns,h=>by cases h;rfl
 |d::r,ns,h=>by
  cases d<;>simp only[bO]at h<;>try cases h
  split at h
  ·rename_i ms e;cases h;rw[eN e];rfl
  ·cases h
theorem kS:∀(ns:List Int)(n m:Int),m∈n::ns->(∀a,a∈n::ns->a<=m)->ns.foldl (mmI true) n=m
 |[],n,m,h,_=>by simp at h;simp[h]
 |a::ns,n,m,h,hb=>by
  rw[List.foldl_cons];refine kS ns _ m ?_ fun b hb'=>?_
  ·have h1:=hb n (by simp)
   have h2:=hb a (by simp)
   unfold mmI;simp only[if_true];rcases List.mem_cons.mp h with rfl|h
   ·rw[if_neg (by omega)];simp
   ·rcases List.mem_cons.mp h with rfl|h
    ·by_cases z:m > n
     ·rw[if_pos z];simp
     ·rw[if_neg z];have:n=m:=by omega
      simp[this]
    ·exact List.mem_cons_of_mem _ h
  ·rcases List.mem_cons.mp hb' with rfl|hb'
   ·have h1:=hb n (by simp)
    have h2:=hb a (by simp)
    unfold mmI;simp only[if_true];split<;>assumption
   ·exact hb b (by simp[hb'])
theorem j5:∀(ns:List Int)(n m:Int),m∈n::ns->(∀a,a∈n::ns->m<=a)->ns.foldl (mmI false) n=m
 |[],n,m,h,_=>by simp at h;simp[h]
 |a::ns,n,m,h,hb=>by
  rw[List.foldl_cons];refine j5 ns _ m ?_ fun b hb'=>?_
  ·have h1:=hb n (by simp)
   have h2:=hb a (by simp)
   unfold mmI;simp only[Bool.false_eq_true,if_false];rcases List.mem_cons.mp h with rfl|h
   ·rw[if_neg (by omega)];simp
   ·rcases List.mem_cons.mp h with rfl|h
    ·by_cases z:m < n
     ·rw[if_pos z];simp
     ·rw[if_neg z];have:n=m:=by omega
      simp[this]
    ·exact List.mem_cons_of_mem _ h
  ·rcases List.mem_cons.mp hb' with rfl|hb'
   ·have h1:=hb n (by simp)
    have h2:=hb a (by simp)
    unfold mmI;simp only[Bool.false_eq_true,if_false];split<;>assumption
   ·exact hb b (by simp[hb'])
noncomputable def dN(mx:Bool):String:=if mx=true then "max" else "min"
section
variable {X:Cx}
theorem oR(rm:RelM X.K M H)(dx:Den X.K H x v)(e:ai M x=some ds):∃a vs,v=.ref a/\RdL X.K H a vs/\DenL X.K H ds vs:=by
 cases x with
 |rol es=>
  cases e;obtain⟨a,vs,rfl,sq,dl⟩:=dx;exact⟨a,vs,rfl,sq.rd,dl⟩
 |ref a=>
  cases q:M a with
  |none=>simp[ai,q]at e
  |some o=>
   cases o with
   |lst es=>
    simp[ai,q]at e;subst e;cases (show v=.ref a from dx);obtain⟨vs,e1,dl⟩:=rm a _ q;exact⟨a,vs,rfl,.inl (.inl e1),dl⟩
   |_=>simp[ai,q]at e
 |_=>cases e
theorem vV(mx:Bool)(hc:X.calm=true)
  (I:Inv X pins σ H s)(rv:RelV v v2)(dx:Den X.K H x v)(rm:RelM X.K M H)(q:lc mx x M Q)(back:Back X.K H Q Q2) :
  wpAny (model X.prog X.w) X.A (call (.builtin (dN mx)) [v2] [("default",Value.int 0 t0)]) (EP X pins σ Q2) Ex s:=by
 have hh:=I.ok.hd hc;unfold lc at q;split at q
 ·rename_i ds e1;obtain⟨a,vs,rfl,rd,dl⟩:=oR rm dx e1;cases rv;obtain⟨_,its,n,r,_,hg⟩:=I.rdL rd;have hl:s.heap.IsList a its.toArray:=⟨_,hg,rfl,n,rfl⟩;split at q
  ·rename_i e2;have z:=eN e2;subst z;cases (show vs=[] from dl);cases r;have hl0:s.heap.IsList a (intItems #[]):=by simpa [intItems] using hl
   cases mx with
   |true=>exact pZ (kw:=[("default",Value.int 0 t0)]) (dv:=some (.int 0 t0)) hh hl0 (by unfold argsOk;kernel_rfl) rfl (fun z=>nomatch z) (fun _ d h' tk ed k=>by cases ed;exact⟨.int 0,H,I.kept k,⟨_,rfl⟩,back _ _ _ _ aQ rm (.refl _) q⟩) (fun z=>absurd z (by decide))
   |false=>exact qP (kw:=[("default",Value.int 0 t0)]) (dv:=some (.int 0 t0)) hh hl0 (by unfold argsOk;kernel_rfl) rfl (fun z=>nomatch z) (fun _ d h' tk ed k=>by cases ed;exact⟨.int 0,H,I.kept k,⟨_,rfl⟩,back _ _ _ _ aQ rm (.refl _) q⟩) (fun z=>absurd z (by decide))
  ·rename_i m ns e2;have z:=eN e2;subst z;have zv:=dl.int_of;subst zv;have hi:=gM r;obtain⟨xs,e⟩:=hi.allInts.items;have hns:m::ns=xs.toList.map (·.1):=by rw[<-hi.numsOf,<-nums_intItems,<-e]
   have hsz:0 < xs.size:=by
    have h3:0 < (m::ns).length:=by simp
    rw[hns,List.length_map,Array.length_toList]at h3;exact h3
   rw[e]at hl;cases mx with
   |true=>
    have fin:0 < xs.size->∀v h' tk,(intItems xs)[argBest (fun i j=>decide (numAt xs i > numAt xs j)) (xs.size - 1)]?=some v->(∀b o,s.heap.get? b=some o->h'.get? b=some o)->EP X pins σ Q2 v {s with heap:=h',toks:=tk}:=by
     intro _ v h' tk hv k;obtain⟨t,rfl⟩:=intItems_at hv;obtain⟨h1,h2⟩:=argBest_gt (numAt xs) (xs.size - 1);refine⟨.int _,H,I.kept k,⟨_,rfl⟩,back _ _ _ _ aQ rm (.refl _) ?_⟩;rw[<-kS ns m (numAt xs (argBest (fun i j=>decide (numAt xs i > numAt xs j)) (xs.size - 1))) ?_ ?_]
     ·exact q
     ·rw[hns,numAt_eq];exact getD_mem (by rw[List.length_map,Array.length_toList];omega)
     ·intro b hb;rw[hns]at hb;obtain⟨j,hj,rfl⟩:=mem_getD hb;rw[List.length_map,Array.length_toList]at hj;rw[<-numAt_eq];exact h2 j (by omega)
    exact pZ (kw:=[("default",Value.int 0 t0)]) (dv:=some (.int 0 t0)) hh hl (by unfold argsOk;kernel_rfl) rfl (fun z=>nomatch z) (fun z=>by omega) fin
   |false=>
    have fin:0 < xs.size->∀v h' tk,(intItems xs)[argBest (fun i j=>decide (numAt xs i < numAt xs j)) (xs.size - 1)]?=some v->(∀b o,s.heap.get? b=some o->h'.get? b=some o)->EP X pins σ Q2 v {s with heap:=h',toks:=tk}:=by
     intro _ v h' tk hv k;obtain⟨t,rfl⟩:=intItems_at hv;obtain⟨h1,h2⟩:=argBest_lt (numAt xs) (xs.size - 1);refine⟨.int _,H,I.kept k,⟨_,rfl⟩,back _ _ _ _ aQ rm (.refl _) ?_⟩;rw[<-j5 ns m (numAt xs (argBest (fun i j=>decide (numAt xs i < numAt xs j)) (xs.size - 1))) ?_ ?_]
     ·exact q
     ·rw[hns,numAt_eq];exact getD_mem (by rw[List.length_map,Array.length_toList];omega)
     ·intro b hb;rw[hns]at hb;obtain⟨j,hj,rfl⟩:=mem_getD hb;rw[List.length_map,Array.length_toList]at hj;rw[<-numAt_eq];exact h2 j (by omega)
    exact qP (kw:=[("default",Value.int 0 t0)]) (dv:=some (.int 0 t0)) hh hl (by unfold argsOk;kernel_rfl) rfl (fun z=>nomatch z) (fun z=>by omega) fin
  ·exact q.elim
 ·exact q.elim
theorem Ax{te:St3->MH->VK3->XN->Prop}{k1:Nat}{k2 kp:Pos}(mx:Bool)(hc:X.calm=true)(ha:PE X e (low X.K cls E2 te))(hg:Gl X (dN mx))(hm:X.mg (dN mx)=none)(hs:starEach (e::[]) X.env=(false,eval e X.env)::starEach [] X.env) :
  PE X (.Call (.Name (dN mx) p) [e] [⟨some "default",.Constant (.int 0) k1 k2,kp⟩] pos) (low X.K cls E2 fun σ M Q E=>te σ M (fun x M1=>lc mx x M1 Q) E):=by
 intro pins s σ H Q2 I h;refine wpAny_Call_Name_kw (cI I hg hm (u:=.builtin (dN mx)) (by cases mx<;>decide +kernel) ?_ (by cases mx<;>decide +kernel) (by cases mx<;>decide +kernel))
 obtain⟨σ3,M,Q,E3,rm,ds,lk,h,back⟩:=h;have hA:t8 (low X.K cls E2 te) tNil σ H (fun vs H1=>∃x v M1,vs=[v]/\Den X.K H1 x v/\RelM X.K M1 H1/\lc mx x M1 Q/\Back X.K H1 Q Q2):=aI rm ds lk h fun v H1 x M1 dx rm1 t1 q1=>⟨x,v,M1,rfl,dx,rm1,q1,back.mono t1⟩
 refine callWith_kw (thn ((aT ha pa_nil hs) pos pins s σ H _ I hA) fun us s1 ⟨vs,H1,I1,r1,x,v,M1,ev,dx,rm1,q1,back1⟩=>kws_cons ?_) (by rw[hs];rfl) (by rw[hs];rfl)
 subst ev;obtain⟨u,rfl,ru⟩:=dD r1;refine thn (lI pins s1 σ H1 (fun v H'=>v=.int 0/\H'=H1) I1 ⟨rfl,rfl⟩) fun w s2 ⟨wv,H2,I2,rw,e1,e2⟩=>kws_nil ?_
 subst e1;subst e2;obtain⟨t0,rfl⟩:=rw;exact vV mx hc I2 ru dx rm1 q1 back1
noncomputable def CP(K:PySem.W.Frag)(ta t1:TE):TE:=fun σ H Q=>ta σ H fun x H1=>t1 σ H1 fun y H2=>y=.int (-1)/\∃a xs,x=.ref a/\SqL K H2 a xs/\∀p,H2 p=none->Q (.ref p) (upd H2 p (.lst xs.reverse))
theorem vQ(he:PE X a ta)(h1:PE X e1 t1):PE X (.Subscript a (.Slice none none (some e1) p2) pos) (CP X.K ta t1):=by
 intro pins s σ H Q I h;refine Subscript_ (thn (he pins s σ H _ I h) fun v s1 ⟨x,H1,I1,r1,q1⟩=>?_)
 refine wpAny_Slice ?_;rw[evalPart_none];refine wpAny_pure (wpAny_pure (thn (h1 pins s1 σ H1 _ I1 q1) fun vk s3 ⟨y,H3,I3,ry,ey,la,xs,ex,hx,q⟩=>?_))
 subst ey;subst ex;obtain⟨t,rfl⟩:=ry;cases r1;have I4:Inv X pins σ H3 {s3 with heap:=s3.heap.push {cls:=.type "slice",data:=.fields #[.none,.none,.int (-1) t]}}:=I3.kept (t':=s3.toks) fun b ob q=>Heap.get?_push_of_some _ q
 obtain⟨its,r,ht,hz⟩:=I4.list hx;have hlen:=r.length;show wpAny (model X.prog X.w) X.A (subscriptTail a (.Slice none none (some e1) p2) (.ref la) (.ref s3.heap.objs.size)) (EP X pins σ Q) X.xe {s3 with heap:=s3.heap.push {cls:=.type "slice",data:=.fields #[.none,.none,.int (-1) t]}}
 refine tail_any (ops:=[.ref la,.ref s3.heap.objs.size]) ht.isList.typeIs slot_list_getitem.lookup ?_ (by with_unfolding_all rfl)
 refine wpAny_getItem_list_slice ht.isList (Heap.IsSliceOf.new ..) .none .none (.int (-1) t) (by decide) ?_ (by rw[List.size_toArray]<;>omega)
 rw[PySem.W.krv_pick];refine⟨.ref _,_,I4.laid (t':=s3.toks) (o:=.lst xs.reverse) (fun b ob q=>Heap.get?_push_of_some _ q) (Nat.le_refl _) ?_,rfl,q _ (I4.hok.fresh (Nat.le_refl _))⟩
 exact⟨by rw[List.length_reverse];exact hz,_,0,r.reverse,Heap.get?_push_size _ rfl⟩
theorem yb(ha:PE X a (low X.K cls E2 ta))(h1:PE X e1 (low X.K cls E2 fun σ M Q E=>Q (.int (-1)) M)) :
  PE X (.Subscript a (.Slice none none (some e1) p2) pos) (low X.K cls E2 fun σ M Q E=>ta σ M (fun x M1=>ow fz x M1 Q) E):=
 t5 (fz:=fz) (vQ ha h1) fun σ H σ3 M Q E3 R2 rm ds lk q k=>aI rm ds lk q fun v H1 x M1 dx rm1 t1 q1=>by
  refine⟨σ3,M1,fun d M'=>d=.int (-1)/\M'=M1,E3,rm1,ds.mono t1,lk.mono t1,⟨rfl,rfl⟩,fun w H2 d M2 dw rm2 t2 ⟨ed,eM⟩=>?_⟩
  subst ed;subst eM;refine⟨dw,?_⟩;unfold ow at q1;split at q1
  ·rename_i es e;obtain⟨p,vs,rfl,hq,dl⟩:=aE rm2 e (dx.mono t2);exact⟨p,vs,rfl,hq.sq,fun p' hp=>k H2 _ _ M2 p' hp dl.reverse rm2 (t1.trans t2) q1⟩
  ·exact q1.elim
theorem qM{s:Shared}(I:Inv X pins σ H s):(s.heap.objs.size == sysModules)=false:=by
 have h:mainGlobals < s.heap.objs.size:=(I.mod.glob.keeps I.bk).lt;have h2:sysModules < mainGlobals:=by decide
 exact beq_eq_false_iff_ne.mpr (Nat.ne_of_gt (Nat.lt_trans h2 h))
theorem wA(tk:Bool):PE X (.Dict [] [] pos) (low X.K cls E2 fun σ M Q E=>∀p,M p=none->Q (.ref p) (put M p (if tk=true then .dt [] [] else .dk [] []))):=by
 refine fun pins s σ H Q2 I hl_=>ex9 hl_ fun σ3 M Q E3 rm ds lk q back=>?_
 have hp:H s.heap.objs.size=none:=I.hok.fresh (Nat.le_refl _);have hb:=qM I;have q0:=q s.heap.objs.size (rm.fresh hp);cases tk with
 |false=>
  have ok0:ObjOk X.prog X.w (upd H s.heap.objs.size (.dK [])) (s.heap.push {cls:=.type "dict",data:=.dict #[]}) s.heap.objs.size (.dK []):=⟨Nat.zero_le _,hb,[],.nil,Heap.DictOf.new s.heap⟩;have I1:=I.laid (a:=s.heap.objs.size) (o:=.dK []) (h':=s.heap.push {cls:=.type "dict",data:=.dict #[]}) (t':=s.toks) (fun _ _ q=>Heap.get?_push_of_some _ q) (Nat.le_refl _) ok0
  have rm1:RelM X.K (put M s.heap.objs.size (.dk [] [])) (upd H s.heap.objs.size (.dK [])):=rm.lay hp ⟨[],ae,rfl,rfl⟩;exact wpAny_Dict_empty ⟨.ref s.heap.objs.size,_,I1,rfl,back _ _ (.ref s.heap.objs.size) _ rfl rm1 (.new hp) q0⟩
 |true=>
  obtain⟨ob,es,ep,hq,hx,hd,he,_,_⟩:=(Heap.DictOfH.new (knd:=tupleKind (intKind X.prog X.w)) s.heap);have tb:av s.heap.objs.size [] (s.heap.push {cls:=.type "dict",data:=.dict #[]}):=⟨ob,es,ep,hq,hx,hd,he⟩;have ok0:ObjOk X.prog X.w (upd H s.heap.objs.size (.ext (av s.heap.objs.size []))) (s.heap.push {cls:=.type "dict",data:=.dict #[]}) s.heap.objs.size (.ext (av s.heap.objs.size [])):=
   ⟨tb,⟨ob,hq⟩,fun g1 g2 ⟨o1,es1,ep1,a1,a2,a3,a4⟩ kk=>⟨o1,es1,ep1,kk _ a1,a2,a3,a4⟩⟩
  have I1:=I.laid (a:=s.heap.objs.size) (o:=.ext (av s.heap.objs.size [])) (h':=s.heap.push {cls:=.type "dict",data:=.dict #[]}) (t':=s.toks) (fun _ _ q=>Heap.get?_push_of_some _ q) (Nat.le_refl _) ok0
  have rm1:RelM X.K (put M s.heap.objs.size (.dt [] [])) (upd H s.heap.objs.size (.ext (av s.heap.objs.size []))):=rm.lay hp ⟨[],[],ae,⟨rfl,.nil,Nat.zero_le _,hb,.nil,fun x hx=>nomatch hx⟩,rfl⟩
  exact wpAny_Dict_empty ⟨.ref s.heap.objs.size,_,I1,rfl,back _ _ (.ref s.heap.objs.size) _ rfl rm1 (.new hp) q0⟩
end
end L2
namespace L2
open PySem PySem.Spec PyProof.Rows
section
variable {X:Cx}
theorem zX(hc:X.calm=true)
  (I:Inv X pins σ H s)(rv:RelV v v2)(dx:Den X.K H x v)(rm:RelM X.K M H)(q:rSm x M Q)(back:Back X.K H Q Q2) :
  wpAny (model X.prog X.w) X.A (call (.builtin "sum") [v2]) (EP X pins σ Q2) Ex s:=by
 have hh:=I.ok.hd hc;unfold rSm at q;split at q
 ·rename_i ds e1;obtain⟨a,vs,rfl,rd,dl⟩:=oR rm dx e1;cases rv;obtain⟨_,its,n,r,_,hg⟩:=I.rdL rd;have hl:s.heap.IsList a its.toArray:=⟨_,hg,rfl,n,rfl⟩;split at q
  ·rename_i ns e2;have z:=eN e2;subst z;have zv:=dl.int_of;subst zv;have hi:=gM r;obtain⟨xs,e⟩:=hi.allInts.items;have hns:ns=xs.toList.map (·.1):=by rw[<-hi.numsOf,<-nums_intItems,<-e]
   rw[e]at hl;refine sum_intListG hh hl fun h' tk t' k=>⟨.int _,H,I.kept k,⟨_,rfl⟩,back _ _ _ _ aQ rm (.refl _) ?_⟩
   have:preSum (numAt xs) xs.size=ns.sum:=by rw[preSum_eq,hns,List.take_of_length_le (by simp)]
   rw[this];exact q
  ·exact q.elim
 ·exact q.elim
theorem CK(hc:X.calm=true)(ha:PE X e (low X.K cls E2 te))(hg:Gl X "sum")(hm:X.mg "sum"=none)(hs:starEach (e::[]) X.env=(false,eval e X.env)::starEach [] X.env) :
  PE X (.Call (.Name "sum" p) [e] [] pos) (low X.K cls E2 fun σ M Q E=>te σ M (fun x M1=>rSm x M1 Q) E):=by
 have hcl:CallR X (.builtin "sum") (fun vs H Q2=>∃x v M Q,vs=[v]/\Den X.K H x v/\RelM X.K M H/\rSm x M Q/\Back X.K H Q Q2):=by
  refine fun pins s σ H vs us Q2 I r hl_=>ex9 hl_ fun x v M Q e dx rm q back=>?_
  subst e;obtain⟨u,rfl,ru⟩:=dD r;exact zX hc I ru dx rm q back
 refine (hJ hcl hg hm (by decide +kernel) (aT ha pa_nil hs) (by decide +kernel) (by decide +kernel) hs (by rfl)).imp fun σ H Q2 hl_=>ex9 hl_ fun σ3 M Q E3 rm ds lk h back=>?_
 exact aI rm ds lk h fun v H1 x M1 dx rm1 t1 q1=>⟨x,v,M1,Q,rfl,dx,rm1,q1,back.mono t1⟩
end
end L2
namespace L2
open PySem PySem.Spec PyProof.Rows
noncomputable def isN(i:Int):Expr->Bool
 |.Constant k _ _=>match k with
  |.int j=>decide (j=i)
  |_=>false
 |_=>false
section
variable {X:Cx}
end
end L2
namespace L2
open PySem PySem.Spec PyProof.Rows
section
variable {X:Cx}{A:Around}
theorem xC{kt:List (List Int)}{k:List Int}{y:D}{v:V}{b:Addr}{R:MH->Prop}{R2:Hp->Prop}(hu:A.units+1 < cLine)(I:Inv X pins σ H s)(rm:RelM X.K M H)(q:M a=some (.dt kt ds))(sq:SqT X.K H b (k.map V.int))(dy:Den X.K H y v)(rv:RelV v r)(hz:kt.length < sizeLine)
  (h:R (put M a (.dt (ak kt k) (aN kt ds k y)))) (back:∀H' M',RelM X.K M' H'->TM X.K H H'->R M'->R2 H'):wpAny (model X.prog X.w) A (dictSet a (.ref b) r) (fun _ s'=>∃H',Inv X pins σ H' s'/\R2 H') E s:=by
 obtain⟨vs,xs,e,z,dl⟩:=rm a _ q;have dd:=bq I (.inl e) z;have nd:(xs.map (·.1)).Nodup:=by rw[z.kx];exact z.nd
 obtain⟨vs',h1,h2,h3,h4⟩:=dW (k:=k) (b:=b) nd z.vx rv dl dy;rw[z.kx]at h1 h3;have hsz:xs.length<=sizeLine:=by
  have:=congrArg List.length z.kx;rw[List.length_map]at this;omega
 refine wpAny_dictSet_heap (hsz:=hsz) (show A.units < cLine by omega) (cZ I sq) dd fun h' dd' hs=>?_
 obtain⟨ob,es,ep,hq,hx,hd,he,_,_⟩:=dd';have tw:TM X.K H (upd H a (.ext (av a (storedH xs k b r)))):=.put e (fun _ z=>by cases z) fun _ _ z=>by cases z
 have tb:av a (storedH xs k b r) h':=⟨ob,es,ep,hq,hx,hd,he⟩;have I':Inv X pins σ (upd H a (.ext (av a (storedH xs k b r)))) {s with heap:=h',toks:=s.toks+(tupleKind (intKind X.prog X.w)).draws k}:=
  gA I (by rw[e];exact True.intro) hs ⟨ob,hq⟩ ⟨tb,⟨ob,hq⟩,fun g1 g2 ⟨o1,es1,ep1,a1,a2,a3,a4⟩ kk=>⟨o1,es1,ep1,kk _ a1,a2,a3,a4⟩⟩
 refine⟨_,I',back _ _ (rm.write (u:=.dt (ak kt k) (aN kt ds k y)) e (fun _ z=>by cases z) (fun _ _ z=>by cases z) ⟨vs',_,ae,⟨h1,cS z.nd,Nat.le_trans fj hz,z.no,h2,fun x hx'=>?_⟩,h3.mono tw⟩) tw h⟩
 rcases h4 x hx' with ⟨q1,q2⟩|⟨x',m,q1,q2⟩
 ·rw[q1,q2];exact tw.t _ _ sq
 ·rw[<-q1,<-q2];exact tw.t _ _ (z.at_ x' m)
theorem uE(hu:X.A.units+64 < cLine)(hk:PE X k (low X.K cls E2 tk))(hv:PE X v (low X.K cls E2 tv)) :
  PE X (.Dict [some k] [v] pos) (low X.K cls E2 fun σ M Q E=>∀p,M p=none->tk σ (put M p (.dt [] [])) (fun x M1=>tv σ M1 (fun y M2=>fH p x y M2 Q) E) E):=by
 refine fun pins s σ H Q2 I hl_=>ex9 hl_ fun σ3 M Q E3 rm ds lk q back=>?_
 have hp:H s.heap.objs.size=none:=I.hok.fresh (Nat.le_refl _);have hb:=qM I;obtain⟨ob,es,ep,hq,hx,hd,he,_,_⟩:=(Heap.DictOfH.new (knd:=tupleKind (intKind X.prog X.w)) s.heap);have tb:av s.heap.objs.size [] (s.heap.push {cls:=.type "dict",data:=.dict #[]}):=⟨ob,es,ep,hq,hx,hd,he⟩;have ok0:ObjOk X.prog X.w (upd H s.heap.objs.size (.ext (av s.heap.objs.size []))) (s.heap.push {cls:=.type "dict",data:=.dict #[]}) s.heap.objs.size (.ext (av s.heap.objs.size [])):=
  ⟨tb,⟨ob,hq⟩,fun g1 g2 ⟨o1,es1,ep1,a1,a2,a3,a4⟩ kk=>⟨o1,es1,ep1,kk _ a1,a2,a3,a4⟩⟩
 have I1:=I.laid (a:=s.heap.objs.size) (o:=.ext (av s.heap.objs.size [])) (h':=s.heap.push {cls:=.type "dict",data:=.dict #[]}) (t':=s.toks) (fun _ _ q=>Heap.get?_push_of_some _ q) (Nat.le_refl _) ok0
 have rm1:RelM X.K (put M s.heap.objs.size (.dt [] [])) (upd H s.heap.objs.size (.ext (av s.heap.objs.size []))):=rm.lay hp ⟨[],[],ae,⟨rfl,.nil,Nat.zero_le _,hb,.nil,fun x hx=>nomatch hx⟩,rfl⟩
 have tm1:TM X.K H (upd H s.heap.objs.size (.ext (av s.heap.objs.size []))):=.new hp;have q0:=q s.heap.objs.size (rm.fresh hp);have hn:=pairTrees_length [some k] [v] X.env pos rfl rfl;rw[arm_eval_Dict,zip_pairTrees [some k] [v] X.env pos rfl rfl,dictDisplay_pairs (pairTrees [some k] [v] X.env pos) (by intro z;rw[z]at hn;cases hn) (by rw[hn];show 1 < 17;decide)]
 refine wpAny_bind (wpAny_standAt (wpAny_bind ?_));unfold subDict;refine wpAny_bind (wpAny_alloc (wpAny_bind (wpAny_holding ?_)));rw[if_pos (by rw[hn];show 1<=15;decide)]
 refine wpAny_bind (pairTrees_cons_walk ?_);refine thn (hk pins _ σ _ (fun u H2=>∃x M2,Den X.K H2 x u/\RelM X.K M2 H2/\TM X.K H H2/\tv σ3 M2 (fun y M3=>fH s.heap.objs.size x y M3 Q) E3) I1
  ⟨σ3,_,_,E3,rm1,ds.mono tm1,lk.mono tm1,q0,fun u H2 x M2 dx rm2 t2 q2=>⟨x,M2,dx,rm2,tm1.trans t2,q2⟩⟩) fun kv s2 ⟨u,H2,I2,ru,x,M2,dx,rm2,t2,q2⟩=>?_
 refine thn (hv pins _ σ _ (fun v H3=>∃y M3,Den X.K H3 x u/\Den X.K H3 y v/\RelM X.K M3 H3/\TM X.K H H3/\fH s.heap.objs.size x y M3 Q) I2
  ⟨σ3,_,_,E3,rm2,ds.mono t2,lk.mono t2,q2,fun v H3 y M3 dy rm3 t3 q3=>⟨y,M3,dx.mono t3,dy,rm3,t2.trans t3,q3⟩⟩) fun vv s3 ⟨v,H3,I3,rv,y,M3,dx3,dy,rm3,t3,q3⟩=>?_
 refine pairTrees_nil_walk ?_;refine wpAny_holding ?_;unfold fH at q3;split at q3
 ·rename_i kk ek;obtain⟨e,q4⟩:=q3;obtain⟨b,rfl,sq⟩:=g9 ek dx3;cases ru;refine wpAny_bind ?_;rw[List.forIn_cons];refine wpAny_bind (wpAny_bind (wpAny_mono (xC (R:=fun M'=>Q (.ref s.heap.objs.size) M') (R2:=fun H'=>Q2 (.ref s.heap.objs.size) H') (show X.A.units+1 < cLine by omega) I3 rm3 e sq dy rv (by show 0 < sizeLine;decide) q4
   (fun H' M' rm' tm' qq=>back _ _ (.ref s.heap.objs.size) _ rfl rm' (t3.trans tm') qq)) (fun _ s4 ⟨H4,I4,q5⟩=>wpAny_pure ?_) fun _ _ z=>z))
  dsimp only;rw[List.forIn_nil];exact wpAny_pure (wpAny_pure (wpAny_pure (wpAny_pure ⟨.ref s.heap.objs.size,H4,I4,rfl,q5⟩)))
 ·exact q3.elim
end
end L2
namespace L2
open PySem PySem.Spec PyProof.Rows
section
variable {A:Around}{s:Shared}{ob:Obj}{es:Array DictEntry}
theorem mm(hn:(d == sysModules)=false):MeetsIn prog w (Builtin.«dict.items» ⟨[.ref d],[]⟩) (fun _ R s=>s.TypeIs (.ref d) "dict"/\R (.ok (.ret (.ref s.heap.objs.size))) {s with heap:=s.heap.push {cls:=.type "dict_items",data:=.fields #[.ref d]}}):=
 .of_wp fun A R s ⟨ty,q⟩=>by
  unfold Builtin.«dict.items»;refine wpAny_bind ?_;unfold Builtin.Dict.noArgs;refine wpAny_bind (wpAny_notOrdered_dict ty (show wpAny _ _ (pure d) _ _ s from wpAny_pure (show wpAny _ _ (Builtin.Dict.showsAll d >>=_) _ _ s from ?_)));unfold Builtin.Dict.showsAll;rw[hn];exact wpAny_bind (wpAny_pure (wpAny_bind (wpAny_newObj_type (wpAny_pure ⟨_,rfl,q⟩))))
theorem l6(vw:s.heap.IsItemsView p d)(ho:s.heap.get? d=some ob)(hd:ob.data=.dict es ep)
  (q:Q (.ref s.heap.objs.size) {s with heap:=s.heap.push {cls:=.type "dict_itemiterator",data:=.fields #[.none,.bool false,.ref d,.int 0 0,.int es.size 0,.int ep 0,.none,.none]}}):wpAny (model prog w) A (pyIter (.ref p)) Q E s:=by
 obtain⟨ov,e1,e2,e3⟩:=id vw;refine wpAny_pyIter_slot vw.typeIs F.slot_dict_items_iter (wpAny_call_entry F.slot_dict_items_iter vw.typeIs F.entry_dict_items_iter ?_ (F.args_dict_items_iter_1 _));unfold Builtin.«dict_items.__iter__» Builtin.Dict_items.dictOf Builtin.Dict_items.newIterator;refine wpAny_bind (wpAny_pure (wpAny_bind (wpAny_bind (wpAny_field e1 e3 (x:=.ref d) rfl (wpAny_pure (wpAny_bind (wpAny_bind (wpAny_dictEntries ho hd (wpAny_bind (wpAny_dictEpoch ho hd ?_))))))))));simp only[show Builtin.Dict_items.ownsTuple "dict_itemiterator"=true by decide,if_true]
 refine wpAny_newObj_type (wpAny_pure ⟨_,rfl,"dict_itemiterator",_,⟨_,Heap.get?_push_size _ rfl,rfl⟩,F.slot_dict_itemiterator_next.lookup,?_⟩) (by simp only[sizeOk,Builtin.Dict_items.ownedTupleFields,List.size_toArray,List.length_append,List.length_cons,List.length_nil,sizeLine_eq];omega)
 simpa [rawInt,Builtin.Dict_items.ownedTupleFields] using q
theorem mr{e:DictEntry}(hit:IsItemIter s.heap it d i es.size ep a1 a2)(ho:s.heap.get? d=some ob)(hd:ob.data=.dict es ep)(he:es[i]?=some e)
  (hQ:∀h',IsItemIterOut h' it d (i+1) es.size ep e.key e.val s.heap.objs.size->h'.get? s.heap.objs.size=some {cls:=.type "tuple",data:=.seq #[e.key,e.val]}->
   (∀b o,b≠it->s.heap.get? b=some o->h'.get? b=some o)->Q (some (.ref s.heap.objs.size)) {s with heap:=h'}):wpAny (model prog w) A (pyNext (.ref it)) Q E s:=by
 obtain⟨hp,g,dr,tk,os⟩:=s;have ty:Shared.TypeIs ⟨hp,g,dr,tk,os⟩ (.ref it) "dict_itemiterator":=⟨_,hit,rfl⟩;have hlt:i < es.size:=(Array.getElem?_eq_some_iff.mp he).1;unfold pyNext;refine wpAny_bind (wpAny_attempt (wpAny_callSpecial?_slot (name:=Str.ofString "__next__") ty F.slot_dict_itemiterator_next (wpAny_call_entry F.slot_dict_itemiterator_next ty F.entry_dict_itemiterator_next ?_ (F.args_dict_itemiterator_next_1 _))));refine wpAny_bind (wpAny_pure (wpAny_bind (wpAny_bind ?_)))
 first|refine wpAny_bind (wpAny_typeNameOfWhole_itemiter ty (wpAny_pure (wpAny_bind (wpAny_fieldsOf hit rfl ?_))))|refine wpAny_bind (wpAny_typeNameOf_itemiter ty (wpAny_pure (wpAny_bind (wpAny_fieldsOf hit rfl ?_))))
 simp only[show Builtin.Dict_items.ownsTuple "dict_itemiterator"=true by decide,if_true]
 have nn:¬ ((Value.ref d == Value.none)=true):=Bool.false_ne_true;refine (show wpAny _ _ (if (Value.ref d == Value.none)=true then _ else _) _ _ _ from ?_)
 rw[if_neg nn];refine wpAny_bind (wpAny_pure (wpAny_bind (wpAny_dictEntries ho hd ?_)));rw[if_neg (by simp)]
 refine wpAny_bind (wpAny_pure (wpAny_bind (wpAny_dictEpoch ho hd ?_)));rw[if_neg (by simp)]
 refine wpAny_pure ?_;simp only[show ¬ ((i:Int) < 0) from by omega,if_false,Int.toNat_natCast,he]
 refine wpAny_bind ?_
 first|refine wpAny_bind (wpAny_typeNameOfWhole_itemiter ty (wpAny_pure (wpAny_bind (wpAny_isOneOf_itemiter ty ?_))))|refine wpAny_bind (wpAny_typeNameOf_itemiter ty (wpAny_pure (wpAny_bind (wpAny_isOneOf_itemiter ty ?_))))
 refine (show wpAny _ _ (setField (.ref it) 3 (rawInt ((i:Int)+1)) >>=_) _ _ ⟨hp,g,dr,tk,os⟩ from ?_);refine wpAny_bind (wpAny_setField_rec hit (by simp) fun k1 f1 u1=>?_)
 replace u1:Heap.SameBut it hp k1:=u1
 replace f1:IsItemIter k1 it d (i+1) es.size ep a1 a2:=by
  unfold IsItemIter;rw[show ((i+1:Nat):Int)=(i:Int)+1 by omega]
  simpa [rawInt] using f1
 have ty1:Shared.TypeIs ⟨k1,g,dr,tk,os⟩ (.ref it) "dict_itemiterator":=⟨_,f1,rfl⟩;refine wpAny_bind (wpAny_holding (wpAny_bind (wpAny_isOneOf_itemiter ty1 (wpAny_bind (wpAny_isOneOf_itemiter ty1 ?_)))));show wpAny _ _ (Builtin.Dict_items.pairFromOwner (.ref it) 6 e.key e.val) _ _ ⟨k1,g,dr,tk,os⟩;unfold Builtin.Dict_items.pairFromOwner;refine wpAny_bind (wpAny_newTuple ?_);have f2:IsItemIter (k1.push {cls:=.type "tuple",data:=.seq #[e.key,e.val]}) it d (i+1) es.size ep a1 a2:=Heap.get?_push_of_some _ f1;generalize hk2:k1.push {cls:=.type "tuple",data:=.seq #[e.key,e.val]}=k2 at f2;have z1:k1.objs.size=hp.objs.size:=u1.1;have lt:it < hp.objs.size:=Heap.lt_size hit;have t2:k2.get? hp.objs.size=some {cls:=.type "tuple",data:=.seq #[e.key,e.val]}:=by rw[<-hk2,<-z1];exact Heap.get?_push_size _ rfl
 have r2:∀b o,b≠it->hp.get? b=some o->k2.get? b=some o:=fun b o hb q=>by rw[<-hk2];exact Heap.get?_push_of_some _ (u1.extBut b o hb q)
 show wpAny _ _ (Builtin.Dict_items.ownedTupleIsFree (.ref it) >>=_) _ _ ⟨k2,g,dr,tk,os⟩;rw[z1];clear hk2 f1 u1 ty1 z1 k1;unfold Builtin.Dict_items.ownedTupleIsFree;refine wpAny_bind (wpAny_bind (wpAny_field f2 rfl (x:=.none) rfl (wpAny_pure ?_)));simp only[if_true];refine wpAny_bind (wpAny_field f2 rfl (x:=a1) rfl (wpAny_bind (wpAny_field f2 rfl (x:=a2) rfl (wpAny_bind (wpAny_setField_rec f2 (by simp) fun k3 f3 u3=>?_)))))
 replace u3:Heap.SameBut it k2 k3:=u3
 replace f3:IsItemIter k3 it d (i+1) es.size ep e.key a2:=f3
 refine wpAny_bind (wpAny_setField_rec f3 (by simp) fun k4 f4 u4=>?_)
 replace u4:Heap.SameBut it k3 k4:=u4
 replace f4:IsItemIter k4 it d (i+1) es.size ep e.key e.val:=f4
 refine wpAny_bind (wpAny_setField_rec f4 (by simp) fun k5 f5 u5=>?_)
 replace u5:Heap.SameBut it k4 k5:=u5
 replace f5:IsItemIterOut k5 it d (i+1) es.size ep e.key e.val hp.objs.size:=f5
 refine wpAny_bind (wpAny_setField_rec f5 (by simp) fun k6 f6 u6=>?_)
 replace u6:Heap.SameBut it k5 k6:=u6
 replace f6:IsItemIterOut k6 it d (i+1) es.size ep e.key e.val hp.objs.size:=f6
 have up:∀b o,b≠it->k2.get? b=some o->k6.get? b=some o:=fun b o hb q=>u6.extBut b o hb (u5.extBut b o hb (u4.extBut b o hb (u3.extBut b o hb q)))
 exact wpAny_bind (wpAny_letGo (wpAny_pure (wpAny_pure ⟨_,rfl,wpAny_pure (hQ k6 f6 (up _ _ (Nat.ne_of_gt lt) t2) fun b o hb q=>up b o hb (r2 b o hb q))⟩)))
theorem lU(cm:A.handled=none)(hit:IsItemIter s.heap it d i es.size ep a1 a2)(ho:s.heap.get? d=some ob)(hd:ob.data=.dict es ep)(he:es.size<=i)
  (hQ:∀h',Heap.ExtBut it s.heap h'->Q none {s with heap:=h'}):wpAny (model prog w) A (pyNext (.ref it)) Q E s:=by
 have ty:s.TypeIs (.ref it) "dict_itemiterator":=⟨_,hit,rfl⟩;unfold pyNext;refine wpAny_bind (wpAny_attempt (wpAny_callSpecial?_slot (name:=Str.ofString "__next__") ty F.slot_dict_itemiterator_next (wpAny_call_entry F.slot_dict_itemiterator_next ty F.entry_dict_itemiterator_next ?_ (F.args_dict_itemiterator_next_1 _))));refine wpAny_bind (wpAny_pure (wpAny_bind (wpAny_bind ?_)))
 first|refine wpAny_bind (wpAny_typeNameOfWhole_itemiter ty (wpAny_pure (wpAny_bind (wpAny_fieldsOf hit rfl ?_))))|refine wpAny_bind (wpAny_typeNameOf_itemiter ty (wpAny_pure (wpAny_bind (wpAny_fieldsOf hit rfl ?_))))
 simp only[show Builtin.Dict_items.ownsTuple "dict_itemiterator"=true by decide,if_true]
 have nn:¬ ((Value.ref d == Value.none)=true):=Bool.false_ne_true;refine (show wpAny _ _ (if (Value.ref d == Value.none)=true then _ else _) _ _ s from ?_)
 rw[if_neg nn];refine wpAny_bind (wpAny_pure (wpAny_bind (wpAny_dictEntries ho hd ?_)));rw[if_neg (by simp)]
 refine wpAny_bind (wpAny_pure (wpAny_bind (wpAny_dictEpoch ho hd ?_)));rw[if_neg (by simp)]
 refine wpAny_pure ?_;simp only[show ¬ ((i:Int) < 0) from by omega,if_false,Int.toNat_natCast,Array.getElem?_eq_none he]
 refine wpAny_bind ?_
 first|refine wpAny_bind (wpAny_typeNameOfWhole_itemiter ty (wpAny_pure ?_))|refine wpAny_bind (wpAny_typeNameOf_itemiter ty (wpAny_pure ?_))
 refine (show wpAny _ _ (setField (.ref it) 2 .none >>=_) _ _ s from wpAny_bind (wpAny_setField hit rfl (by simp) ?_))
 refine (show wpAny _ _ (newExc (.type "StopIteration") [] >>=_) _ _ _ from wpAny_bind ?_);simp only[newExc,newTuple,raiseNew];refine wpAny_bind (wpAny_newObj_type (wpAny_bind (m:=firstArgMember _ _) (wpAny_of_eq (a:=Value.none) (by first|rfl|(simp only[firstArgMember];rfl)) (wpAny_newObj_type (wpAny_bind (wpAny_handled ?_)) (by size_fits)))) (by size_fits))
 rw[show A.in1.handled=none from cm];refine wpAny_bind (wpAny_pure (wpAny_throw ?_));have fin:=fun (h':Heap) (z:Heap.ExtBut it s.heap h')=>hQ h' z
 refine wpAny_bind (wpAny_isInstance (T:="StopIteration") (b:=true) ⟨_,Heap.get?_push_size _ rfl,rfl⟩ isSubtype_stop (wpAny_pure (fin _ (((Heap.SameBut.update ..).extBut.push _).push _))))
end
section
variable {X:Cx}{apos cpos:Pos}
theorem TabOk.grow{K:PySem.W.Frag}(z:TabOk K H d ks xs vs)(t:TM K H H'):TabOk K H' d ks xs vs:=⟨z.kx,z.nd,z.sz,z.no,z.vx,fun x hx=>t.t _ _ (z.at_ x hx)⟩
end
end L2
namespace L2
open PySem PySem.Spec PyProof.Rows PySem.W
section
variable {X:Cx}{apos cpos:Pos}
end
end L2
namespace L2
open PySem PySem.Spec PyProof.Rows
section
variable {X:Cx}
end
end L2
namespace L2
open PySem PySem.Spec PyProof.Rows
theorem ER.upd_nx{K:PySem.W.Frag}(er:ER K H D3 D2)(h:∀σ' H' σ3' M',RelM K M' H'->DenS K H' σ3' σ'->TM K H H'->n3 σ3' M'->n2 σ' H'):ER K H {D3 with nx:=n3} {D2 with nx:=n2}:=⟨h,er.rt,er.bk,er.ct⟩
section
variable {X:Cx}{cls:Nat->Addr}{E2:St->XK}{st:Stmt}{rest:List Stmt}{t u:Ends3->(St3->XN)->St3->MH->Prop}{e:Expr}{te:St3->MH->VK3->XN->Prop}{pos:Pos}
theorem Ae:PSs X [] (aP X.K cls E2 fun D _ σ M=>D.nx σ M):=pss_nil.imp fun D2 σ H hl_=>ex9 hl_ fun σ3 M D3 E3 rm ds lk h er=>er.nx σ H σ3 M rm ds (.refl _) h
theorem xq(h1:PS X st (aP X.K cls E2 t))(h2:PSs X rest (aP X.K cls E2 u)):PSs X (st::rest) (aP X.K cls E2 fun D E σ M=>t {D with nx:=fun σ' M'=>u D E σ' M'} E σ M):=
 (kf h1 h2).imp fun D2 σ H hl_=>ex9 hl_ fun σ3 M D3 E3 rm ds lk h er=>⟨σ3,M,_,E3,rm,ds,lk,h,er.upd_nx fun σ' H' σ3' M' rm' ds' tm q=>⟨σ3',M',D3,E3,rm',ds',lk.mono tm,q,er.mono tm⟩⟩
theorem zq{i:Nat}(h2:PSs X rest (aP X.K cls E2 u)):PSs X rest (aP X.K cls E2 fun D E σ M=>match σ[i]? with
  |some (some (.ref a))=>u D E σ (del M a)
  |_=>False):=h2.imp fun D2 σ H hl_=>ex9 hl_ fun σ3 M D3 E3 rm ds lk h er=>by
 dsimp only at h;split at h
 ·rename_i a e;exact⟨σ3,_,D3,E3,rm.sub fun b o q=>(gD q).2,ds,lk,h,er⟩
 ·exact h.elim
theorem vy:PS X st (aP X.K cls E2 fun _ _ _ _=>False):=fun _ _ _ _ _ _ hl_=>ex9 hl_ fun _ _ _ _ _ _ _ h _=>h.elim
theorem ww(he:PE X e (low X.K cls E2 te))(hs:swapsWith e none pos.line X.env=pure false):PS X (.Expr e pos) (aP X.K cls E2 fun D E σ M=>te σ M (fun _ M1=>D.nx σ M1) (E σ)):=
 (jJ he hs).imp fun D2 σ H hl_=>ex9 hl_ fun σ3 M D3 E3 rm ds lk h er=>aI rm ds (lk.at ds) h fun v H1 x M1 dx rm1 t1 q1=>er.nx σ H1 σ3 M1 rm1 (ds.mono t1) t1 q1
theorem zf(he:PE X e (low X.K cls E2 te)):PS X (.Return (some e) pos) (aP X.K cls E2 fun D E σ M=>te σ M D.rt (E σ)):=
 (uW he).imp fun D2 σ H hl_=>ex9 hl_ fun σ3 M D3 E3 rm ds lk h er=>aI rm ds (lk.at ds) h fun v H1 x M1 dx rm1 t1 q1=>er.rt v H1 x M1 dx rm1 t1 q1
theorem vP:PS X (.Return none pos) (aP X.K cls E2 fun D _ _ M=>D.rt .non M):=ps_retN.imp fun D2 σ H hl_=>ex9 hl_ fun σ3 M D3 E3 rm ds lk h er=>er.rt .non H .non M rfl rm (.refl _) h
theorem B2(hc:PT X c (bw X.K cls E2 tA))(ha:PSs X a (aP X.K cls E2 t))(hb:PSs X b (aP X.K cls E2 u)) :
  PS X (.If c a b pos) (aP X.K cls E2 fun D E σ M=>tA σ M (fun k M1=>if k=true then t D E σ M1 else u D E σ M1) (E σ)):=
 (zy hc ha hb).imp fun D2 σ H hl_=>ex9 hl_ fun σ3 M D3 E3 rm ds lk h er=>fD rm ds (lk.at ds) h fun k H1 M1 rm1 t1 q1=>by
  cases k with
  |true=>rw[if_pos rfl]at q1 ⊢;exact⟨σ3,M1,D3,E3,rm1,ds.mono t1,lk.mono t1,q1,er.mono t1⟩
  |false=>rw[if_neg Bool.false_ne_true]at q1 ⊢;exact⟨σ3,M1,D3,E3,rm1,ds.mono t1,lk.mono t1,q1,er.mono t1⟩
theorem ua(hN:X.N.Nodup)(hi:X.N[i]?=some x)(hx:Loc X.env.scope x)(he:PE X e (low X.K cls E2 te))(hs:swapsWith e (some (.Name x pos')) pos.line X.env=pure false)(hf:X.fn x=true\/X.env.scope.names.lookup x=some .local) :
  PS X (.Assign [.Name x pos'] e pos) (aP X.K cls E2 fun D E σ M=>te σ M (fun x M1=>D.nx (σ.set i (some x)) M1) (E σ)):=
 (uy hN hi hx he hs hf).imp fun D2 σ H hl_=>ex9 hl_ fun σ3 M D3 E3 rm ds lk h er=>aI rm ds (lk.at ds) h fun v H1 x M1 dx rm1 t1 q1=>er.nx _ _ _ _ rm1 ((ds.mono t1).set dx) t1 q1
theorem wL(hN:X.N.Nodup)(hi:X.N[i]?=some x)(hx:Loc X.env.scope x)(hf:X.fn x=true\/X.env.scope.names.lookup x=some .local):PG X (.Name x pos) (lq X.K (wpG (.name i))):=
 (gp hN hi hx hf).imp fun v σ H Q2 ⟨d,σ3,M,Q,dv,rm,ds,h,back⟩=>back _ _ _ _ rm (ds.set dv) (.refl _) h
noncomputable def bP(N:List Str)(sc:Scope)(fn:Bool):List Nat->List Expr->Bool
 |[],[]=>true
 |i::is,.Name x _::es=>(N[i]? == some x)&&(sc.names.lookup x == some .local||(fn&&sc.names.lookup x == some .cell))&&bP N sc fn is es
 |_,_=>false
noncomputable def gI(is:List Nat)(xs:List α)(σ:List (Option α)):List (Option α):=(is.zip xs).foldl (fun σ p=>σ.set p.1 (some p.2)) σ
theorem ja(hN:X.N.Nodup)(hfn:fn=true->∀x,X.fn x=true):∀{is:List Nat}{es:List Expr},bP X.N X.env.scope fn is es=true->
  PGs X es (fun vs σ H Q=>vs.length=is.length/\Q (gI is vs σ) H)/\(assignEach es X.env).length=is.length/\(assignEach es X.env).findIdx? (·.1)=none
 |[],[],_=>⟨fun pins s σ H vs us Q I r ⟨e,h⟩=>re pins s σ H vs us Q I r ⟨List.length_eq_zero_iff.mp e,by cases List.length_eq_zero_iff.mp e;exact h⟩,rfl,rfl⟩
 |[],_::_,h=>by simp[bP]at h
 |i::is,es,h=>by
  unfold bP at h;split at h
  ·rename_i heq;cases heq
  ·rename_i i' is' x px es' heq;cases heq;simp only[Bool.and_eq_true,beq_iff_eq,Bool.or_eq_true]at h;obtain⟨⟨h1,h2⟩,h3⟩:=h;obtain⟨ih,il,ix⟩:=ja hN hfn h3;have hg:PG X (.Name x px) (my i):=by
    rcases h2 with h2|⟨h2,h4⟩
    ·exact gp hN h1 (.inl h2) (.inr h2)
    ·exact gp hN h1 (.inr h4) (.inl (hfn h2 x))
   refine⟨fun pins s σ H vs us Q I r ⟨e,q⟩=>?_,by show (assignEach es' X.env).length+1=is.length+1;rw[il],?_⟩
   ·cases vs with
    |nil=>cases e
    |cons v vs=>exact pX hg ih rfl pins s σ H (v::vs) us Q I r ⟨v,vs,rfl,by simpa using e,q⟩
   ·show List.findIdx? (·.1) ((false,assign (.Name x px) X.env)::assignEach es' X.env)=none;rw[List.findIdx?_cons];simp[ix]
  ·cases h
theorem hW{K:PySem.W.Frag}:∀{is:List Nat}{ds:List D}{vs:List V}{σ3:St3}{σ:St},DenL K H ds vs->DenS K H σ3 σ->DenS K H (gI is ds σ3) (gI is vs σ)
 |[],_,_,_,_,_,h=>by simpa [gI] using h
 |i::is,[],vs,_,_,dl,h=>by cases (show vs=[] from dl);simpa [gI] using h
 |i::is,d::ds,vs,_,_,dl,h=>by
  obtain⟨v,r,rfl,dv,dl⟩:=dl;exact hW (is:=is) dl (h.set (i:=i) dv)
theorem Ar(hc:X.calm=true)(hN:X.N.Nodup)(hfn:fn=true->∀x,X.fn x=true)(ok:bP X.N X.env.scope fn is es=true):PG X (.Tuple es k pos) (lq X.K (wpG (.tup is))):=by
 obtain⟨h1,h2,h3⟩:=ja hN hfn ok;refine (wb hc h1 h2 h3).imp fun v σ H Q2 ⟨d,σ3,M,Q,dv,rm,ds,h,back⟩=>?_
 simp only[wpG]at h;split at h
 ·rename_i es';obtain⟨p,vs,rfl,sq,dl⟩:=dv;obtain⟨z,q⟩:=h;exact⟨p,vs,rfl,sq,by rw[<-dl.length];exact z,by rw[<-dl.length];exact z,back _ _ _ _ rm (hW dl ds) (.refl _) q⟩
 ·exact h.elim
theorem zG(hp:PassesOwn (model X.prog X.w) X.A X.env X.xe)(hc:X.calm=true)(hi:PI X tg iter (nK X.K cls E2 wi))(hg:PG X tg (lq X.K g))(hb:PSs X body (aP X.K cls E2 t))
  (hs:∀x,foldedSetIterable iter X.env x=pure x):PS X (.For tg iter body [] pos) (aP X.K cls E2 fun D E σ M=>wi σ M (fun ds S M1=>bK g (fun D σ M=>t D E σ M) S D ds σ M1) (E σ)):=by
 refine (lT hp hc hi hg hb hs).imp fun D2 σ H hl_=>ex9 hl_ fun σ3 M D3 E3 rm ds0 lk h er=>⟨σ3,M,_,E3 σ3,rm,ds0,lk.at ds0,h,fun J H1 ds S M1 ok rm1 tm1 hP=>?_⟩
 refine⟨fun i m σ' H'=>∃σ3' M',m=ds.length - i/\i<=ds.length/\RelM X.K M' H'/\DenS X.K H' σ3' σ'/\TM X.K H1 H'/\bK g (fun D σ M=>t D E3 σ M) S D3 (ds.drop i) σ3' M',⟨ds.length,σ3,M1,by simp,Nat.zero_le _,rm1,ds0.mono tm1,.refl _,hP⟩,?_⟩
 rintro i m σ' H' ⟨σ3',M',rfl,hil,rm',ds',tm',p⟩;by_cases hlt:i < ds.length
 ·rw[List.drop_eq_getElem_cons hlt]at p;obtain⟨s',p⟩:=p;refine .inr ⟨ok.go i H' M' tm' rm' s' hlt,fun σ4 H4=>∃σ34 M4,RelM X.K M4 H4/\DenS X.K H4 σ34 σ4/\TM X.K H1 H4/\bK g (fun D σ M=>t D E3 σ M) S D3 (ds.drop (i+1)) σ34 M4,?_,?_⟩
  ·rintro σ4 H4 ⟨σ34,M4,e1,e2,e3,e4⟩;exact⟨ds.length - (i+1),by omega,σ34,M4,rfl,hlt,e1,e2,e3,e4⟩
  ·intro x H2 y;obtain⟨tm2,rm2,d,hd,dv⟩:=ok.yld i H' M' x H2 tm' rm' s' hlt y;rw[List.getElem?_eq_getElem hlt]at hd;cases hd;refine⟨_,σ3',M',_,dv,rm2,ds'.mono tm2,p,fun σ5 H5 σ35 M5 rm5 ds5 tm5 q5=>?_⟩
   have tmA:TM X.K H1 H5:=(tm'.trans tm2).trans tm5;exact⟨σ35,M5,_,E3,rm5,ds5,lk.mono (tm1.trans tmA),q5,⟨fun σ6 H6 σ36 M6 rm6 ds6 tm6 q6=>⟨σ36,M6,rm6,ds6,tmA.trans tm6,q6⟩,fun v H6 d6 M6 dv6 rm6 tm6 q6=>er.rt v H6 d6 M6 dv6 rm6 (tm1.trans (tmA.trans tm6)) q6,
    fun σ6 H6 σ36 M6 rm6 ds6 tm6 q6=>er.nx σ6 H6 σ36 M6 rm6 ds6 (tm1.trans (tmA.trans tm6)) q6,fun σ6 H6 σ36 M6 rm6 ds6 tm6 q6=>⟨σ36,M6,rm6,ds6,tmA.trans tm6,q6⟩⟩⟩
 ·have e:i=ds.length:=by omega
  subst e;rw[List.drop_length]at p;exact .inl ⟨ok.stop H' M' tm' rm' p.1,er.nx σ' H' σ3' M' rm' ds' (tm1.trans tm') p.2⟩
theorem sP(hp:PassesOwn (model X.prog X.w) X.A X.env X.xe)(hc:PT X c (bw X.K cls E2 tA))(hb:PSs X body (aP X.K cls E2 t)) :
  PS X (.While c body [] pos) (aP X.K cls E2 fun D E σ M=>∃P:Nat->St3->MH->Prop,(∃m,P m σ M)/\∀m σ M,P m σ M->tA σ M (fun b M1=>if b=true then
   t {D with nx:=fun σ' M'=>∃m',m' < m/\P m' σ' M',ct:=fun σ' M'=>∃m',m' < m/\P m' σ' M',bk:=D.nx} E σ M1 else D.nx σ M1) (E σ)):=by
 refine (oY hp hc hb).imp fun D2 σ H hl_=>ex9 hl_ fun σ3 M D3 E3 rm ds lk h er=>?_
 obtain⟨P,⟨m0,p0⟩,step⟩:=h;refine⟨fun m σ' H'=>∃σ3' M',RelM X.K M' H'/\DenS X.K H' σ3' σ'/\TM X.K H H'/\P m σ3' M',⟨m0,σ3,M,rm,ds,.refl _,p0⟩,?_⟩
 rintro m σ' H' ⟨σ3',M',rm',ds',tm',p⟩;refine fD rm' ds' ((lk.mono tm').at ds') (step m σ3' M' p) fun b H1 M1 rm1 tm1 q=>?_
 cases b with
 |true=>
  rw[if_pos rfl]at q ⊢;refine⟨fun σ4 H4=>∃σ34 M4 m',m' < m/\RelM X.K M4 H4/\DenS X.K H4 σ34 σ4/\TM X.K H H4/\P m' σ34 M4,?_,?_⟩
  ·rintro σ4 H4 ⟨σ34,M4,m',hm,e1,e2,e3,e4⟩;exact⟨m',hm,σ34,M4,e1,e2,e3,e4⟩
  ·have tmA:=tm'.trans tm1;exact⟨σ3',M1,_,E3,rm1,ds'.mono tm1,lk.mono tmA,q,⟨fun σ6 H6 σ36 M6 rm6 ds6 tm6 ⟨m',hm,q6⟩=>⟨σ36,M6,m',hm,rm6,ds6,tmA.trans tm6,q6⟩,fun v H6 d6 M6 dv6 rm6 tm6 q6=>er.rt v H6 d6 M6 dv6 rm6 (tmA.trans tm6) q6,
    fun σ6 H6 σ36 M6 rm6 ds6 tm6 q6=>er.nx σ6 H6 σ36 M6 rm6 ds6 (tmA.trans tm6) q6,fun σ6 H6 σ36 M6 rm6 ds6 tm6 ⟨m',hm,q6⟩=>⟨σ36,M6,m',hm,rm6,ds6,tmA.trans tm6,q6⟩⟩⟩
 |false=>
  rw[if_neg Bool.false_ne_true]at q ⊢;exact er.nx σ' H1 σ3' M1 rm1 (ds'.mono tm1) (tm'.trans tm1) q
theorem qN{E:XK}{x:Str}{np cpos:Pos}{i f:Nat}{xin:Nat->Option Nat}{fI:Addr}{fd:FuncData}{ps:List Str}{es:List Expr}{tr:St3->MH->(List D->MH->Prop)->XN->Prop}(hx:gu X E)(hE:E2=fun _=>E)(hc:X.calm=true)(hg:Gl X x)(hm:X.mg x=some (.ref (cls i)))(q:XIni X.K (cls i) fI (fnm f))
  (F:FnOk X.prog X.w X.K X.mg X.base (CX1 X.prog X.w) 1 fI fd ps (fM (cpF f) X.K (cls i) (fnm f))) (hr:Room 2 X.A)(hb:Binds X.K fd ps []) (hf:xin i=some f) (ha:PA X (e::es) (cT X.K cls E2 tr)) (hdb:(x == ("__debug__" : Str))=false)
  (he:starEach (e::es) X.env=(false,eval e X.env)::starEach es X.env) (hpl:(backTo cpos (starEach es X.env)).any (·.1)=false) :
  PS X (.Raise (some (.Call (.Name x np) (e::es) [] cpos)) none pos) (aP X.K cls E2 fun _ E σ M=>tr σ M (fun xs M1=>match xs with
   |[y]=>dq (xin i) fun f=>rXp f y M1 fun y'=>E σ ⟨i,some (f,y')⟩ M1
   |_=>False) (E σ)):=by
 subst hE;refine (oG hx hc hg hm q F hr hb ha hdb he hpl).imp fun D2 σ H hl_=>ex9 hl_ fun σ3 M D3 E3 rm ds lk h er=>dC rm ds (lk.at ds) h fun vs H1 xs M1 dl rm1 t1 q=>?_
 split at q
 ·rename_i y;rw[hf]at q;obtain⟨v,r,e1,dv,e2⟩:=dl;cases (show r=[] from e2);subst e1;simp only[dq,rXp]at q;refine⟨v,rfl,fun z dx ob n=>?_,fun z=>?_⟩
  ·rw[z,if_neg Bool.false_ne_true]at q;exact lk σ3 σ ⟨i,some (f,y)⟩ M1 _ (t1.trans (.new n)) (ds.mono (t1.trans (.new n))) (rm1.grow n) q (some dx) ⟨dx,ob,v,rfl,ae,dv.mono (.new n)⟩
  ·rw[z,if_pos rfl]at q;split at q
   ·rename_i es ee;obtain⟨p,ws,rfl,hq,dl2⟩:=aE rm1 ee dv;refine⟨p,ws,rfl,hq.elim .inl SqM.sq,fun q' o dx ob n1 n2 nn=>?_⟩
    have tA:TM X.K H1 (upd H1 q' (.frz o (.lst ws))):=.new n1;have n3:upd H1 q' (.frz o (.lst ws)) dx=none:=by rw[aa nn];exact n2
    have tB:=tA.trans (.new (o:=.frz ob (.xd [(fnm f,.ref q')])) n3);exact lk σ3 σ ⟨i,some (f,.rol es)⟩ M1 _ (t1.trans tB) (ds.mono (t1.trans tB)) ((rm1.grow n1).grow n3) q (some dx) ⟨dx,ob,.ref q',rfl,ae,⟨q',ws,rfl,.inl ⟨o,by rw[aa (Ne.symm nn),ae]⟩,dl2.mono tB⟩⟩
   ·exact q.elim
 ·exact q.elim
theorem Av{apos cpos:Pos}(ho:PE X o (low X.K cls E2 to))(he:PE X e (low X.K cls E2 te))(hbase:attributeBase o "append" X.env (eval o X.env)=eval o X.env)
  (hline:(apos.endLine == cpos.line)=true) (hs:starEach [e] X.env=[(false,eval e X.env)]) :
  PS X (.Expr (.Call (.Attribute o "append" apos) [e] [] cpos) pos) (aP X.K cls E2 fun D E σ M=>to σ M (fun x M1=>match x with
  |.ref a=>match M1 a with
   |some (.lst _)=>te σ M1 (fun y M2=>match M2 a with
    |some (.lst ds)=>ds.length < sizeLine/\D.nx σ (put M2 a (.lst (ds++[y])))
    |_=>False) (E σ)
   |_=>False
  |_=>False) (E σ)):=by
 have hm:MtR X "list.append" rAppend:=iX;have h1:=Aj (X:=X) PySem.F.plainAttrs_list PySem.F.slot_list_append PySem.F.type_list_append hm ho (aT he pa_nil hs) hbase (by rw[hs];rfl) hline hs (by rfl)
 refine (jJ h1 (by rfl)).imp fun D2 σ H hl_=>ex9 hl_ fun σ3 M D3 E3 rm ds lk h er=>?_
 refine aI rm ds (lk.at ds) h fun v H1 x M1 dx rm1 t1 q1=>?_
 split at q1
 ·rename_i a;cases (show v=.ref a from dx);split at q1
  ·rename_i ds0 e0;obtain⟨vs0,f0,_⟩:=rm1 a _ e0;refine⟨.inl ⟨rfl,vs0,.of f0⟩,aI rm1 (ds.mono t1) ((lk.mono t1).at (ds.mono t1)) q1 fun u H2 y M2 dy rm2 t2 q2=>?_⟩
   split at q2
   ·rename_i ds1 e1;obtain⟨vs,f1,dl⟩:=rm2 a _ e1;refine⟨a,vs,u,rfl,rfl,f1,by rw[<-dl.length];exact q2.1,?_⟩
    have tw:TM X.K H2 (upd H2 a (.lst (vs++[u]))):=.put f1 (fun _=>fun z=>nomatch z) fun _ _=>fun z=>nomatch z
    exact er.nx _ _ _ _ (rm2.write (u:=.lst (ds1++[y])) f1 (fun _=>fun z=>nomatch z) (fun _ _=>fun z=>nomatch z) ⟨_,ae,(dl.append (.one dy)).mono tw⟩) (((ds.mono t1).mono t2).mono tw) ((t1.trans t2).trans tw) q2.2
   ·exact q2.elim
  ·exact q1.elim
 ·exact q1.elim
end
end L2
namespace L2
open PySem PySem.Spec PyProof.Rows
noncomputable abbrev no2:St->XK:=fun _ _ _ _=>False
theorem qz{K:PySem.W.Frag}(h:DenS K H σ3 σ):DenS K H (aK js σ3) (ip js σ):=by
 refine⟨by simp[aK,ip],fun i d e=>?_⟩
 unfold aK at e;unfold ip;rw[List.getElem?_map]at e ⊢;cases q:js[i]? with
 |none=>rw[q]at e;cases e
 |some o=>
  rw[q]at e;cases o with
  |none=>cases e
  |some j=>
   rw[Option.map_some,Option.bind_some]at e;cases z:σ3[j]? with
   |none=>rw[z]at e;cases e
   |some y=>
    rw[z]at e;have e:some (id y)=some (some d):=e;have e:y=some d:=Option.some.inj e;subst e;obtain⟨v,e1,e2⟩:=h.2 j d z;refine⟨v,?_,e2⟩;rw[Option.map_some,Option.bind_some,e1];rfl
section
variable {X:Cx}
theorem iy(rm:RelM X.K M H)(ds0:DenS X.K H σ3 σ)(lk:LkE X.K cls H E3 (E2 σ))
  (h:wi σ3 M (fun ds S M1=>∀p,M1 p=none->cx g (fun σ M Q=>tt σ M Q (fun _ _=>False)) (fun σ M Q=>te σ M Q (fun _ _=>False)) S p Q ds [] (aK js σ3) (put M1 p (.lst []))) E3) (back:Back X.K H Q Q2) :
  mS js (nK X.K cls E2 wi) (lq X.K g) (bw X.K cls no2 tt) (low X.K cls no2 te) σ H Q2:=by
 refine⟨σ3,M,_,E3,rm,ds0,lk,h,fun J H1 ds S M1 ok rm1 tm1 hP p hp=>?_⟩
 have hP:=hP p (rm1.fresh hp);refine⟨fun i m σc H'=>∃σ3c ys M',m=ds.length - i/\i<=ds.length/\RelM X.K M' H'/\DenS X.K H' σ3c σc/\TM X.K H1 H'/\cx g (fun σ M Q=>tt σ M Q (fun _ _=>False)) (fun σ M Q=>te σ M Q (fun _ _=>False)) S p Q (ds.drop i) ys σ3c M',
  ⟨ds.length,_,[],_,by simp,Nat.zero_le _,rm1.lay (u:=.lst []) hp ⟨[],ae,.nil⟩,(qz ds0).mono (tm1.trans (.new hp)),.new hp,hP⟩,?_⟩
 rintro i m σc H' ⟨σ3c,ys,M',rfl,hil,rm',ds',tm',q⟩;by_cases hlt:i < ds.length
 ·rw[List.drop_eq_getElem_cons hlt]at q;obtain⟨s',hl,q⟩:=q;refine .inr ⟨ok.go i H' M' tm' rm' s' hlt,fun x H2 y=>?_⟩
  obtain⟨tm2,rm2,d,hd,dv⟩:=ok.yld i H' M' x H2 tm' rm' s' hlt y;rw[List.getElem?_eq_getElem hlt]at hd;cases hd;refine⟨_,σ3c,M',_,dv,rm2,ds'.mono tm2,q,fun σ5 H5 σ35 M5 rm5 ds5 tm5 q5=>?_⟩
  refine⟨σ35,M5,_,_,rm5,ds5,LkE.no,q5,fun b H6 M6 rm6 tm6 q6=>?_⟩
  have tmA:TM X.K H1 H6:=((tm'.trans tm2).trans tm5).trans tm6;cases b with
  |true=>
   rw[if_pos rfl]at q6;dsimp only;rw[if_pos rfl];refine⟨σ35,M6,_,_,rm6,ds5.mono tm6,LkE.no,q6,fun v H7 y M7 dy rm7 tm7 ⟨e7,q7⟩=>?_⟩
   obtain⟨vs,f7,dl⟩:=rm7 p _ e7;have tw:TM X.K H7 (upd H7 p (.lst (vs++[v]))):=.put f7 (fun _=>fun z=>nomatch z) fun _ _=>fun z=>nomatch z
   exact⟨vs,f7,by rw[<-dl.length];exact hl,ds.length - (i+1),by omega,σ35,ys++[y],_,rfl,hlt,rm7.write (u:=.lst (ys++[y])) f7 (fun _=>fun z=>nomatch z) (fun _ _=>fun z=>nomatch z) ⟨_,ae,(dl.append (.one dy)).mono tw⟩,((ds5.mono tm6).mono tm7).mono tw,(tmA.trans tm7).trans tw,q7⟩
  |false=>
   rw[if_neg Bool.false_ne_true]at q6;dsimp only;rw[if_neg Bool.false_ne_true];exact⟨ds.length - (i+1),by omega,σ35,ys,M6,rfl,hlt,rm6,ds5.mono tm6,tmA,q6⟩
 ·have e:i=ds.length:=by omega
  subst e;rw[List.drop_length]at q;exact .inl ⟨ok.stop H' M' tm' rm' q.1,back _ _ _ _ eR rm' (tm1.trans tm') q.2⟩
variable (hok:cV N js scope X.env.scope X.N=true) (hcalm:X.calm=true) (hi:PI X tg iter (nK X.K cls E2 wi))
  (hg:∀C s2 H2 fp pn,PG (compCx X scope C N s2 H2 fp pn) tg (lq X.K g)) (ht:∀C s2 H2 fp pn,PIf (compCx X scope C N s2 H2 fp pn) ifs (bw X.K cls no2 tt)) (he:∀C s2 H2 fp pn,PE (compCx X scope C N s2 H2 fp pn) elt (low X.K cls no2 te))
  (hs:∀x,foldedSetIterable iter X.env x=pure x)
include hok hcalm hi hg ht he hs
theorem mW:PE X (.ListComp elt [⟨tg,iter,ifs,0⟩] scope pos) (low X.K cls E2 fun σ M Q E=>wi σ M (fun ds S M1=>∀p,M1 p=none->cx g (fun σ M Q=>tt σ M Q (fun _ _=>False)) (fun σ M Q=>te σ M Q (fun _ _=>False)) S p Q ds [] (aK js σ) (put M1 p (.lst []))) E):=
 (tM hok hcalm hi hg ht he hs).imp fun σ H Q2 hl_=>ex9 hl_ fun σ3 M Q E3 rm ds lk h back=>iy rm ds lk h back
theorem uX(fz:Bool):PE X (.ListComp elt [⟨tg,iter,ifs,0⟩] scope pos) (low X.K cls E2 fun σ M Q E=>wi σ M (fun ds S M1=>∀p,M1 p=none->cx g (fun σ M Q=>tt σ M Q (fun _ _=>False)) (fun σ M Q=>te σ M Q (fun _ _=>False)) S p (if fz=true then dP Q else Q) ds [] (aK js σ) (put M1 p (.lst []))) E):=by
 cases fz with
 |false=>exact mW hok hcalm hi hg ht he hs
 |true=>exact ur (mW hok hcalm hi hg ht he hs)
theorem lV{spos:Pos}(hN:X.N.Nodup)(hy:X.N[i]?=some y)(hl:X.env.scope.names.lookup y=some .local)(hsw:swapsWith (.ListComp elt [⟨tg,iter,ifs,0⟩] scope pos) (some (.Name y py)) spos.line X.env=pure true)(fz:Bool) :
  PS X (.Assign [.Name y py] (.ListComp elt [⟨tg,iter,ifs,0⟩] scope pos) spos) (aP X.K cls E2 fun D E σ M=>wi σ M (fun ds S M1=>∀p,M1 p=none->cx g (fun σ M Q=>tt σ M Q (fun _ _=>False)) (fun σ M Q=>te σ M Q (fun _ _=>False)) S p (if fz=true then dP (fun x M1=>D.nx (σ.set i (some x)) M1) else (fun x M1=>D.nx (σ.set i (some x)) M1)) ds [] (aK js σ) (put M1 p (.lst []))) (E σ)):=by
 cases fz with
 |false=>exact (ik hN hy hl hok hcalm hi hg ht he hs hsw).imp fun D2 σ H hl_=>ex9 hl_ fun σ3 M D3 E3 rm ds lk h er=>iy rm ds (lk.at ds) h fun v H1 x M1 dx rm1 t1 q1=>er.nx _ _ _ _ rm1 ((ds.mono t1).set dx) t1 q1
 |true=>
  refine fun pins s σ H D2 I hl_=>ex9 hl_ fun σ3 M D3 E3 rm ds lk h er=>?_
  refine thn (ik hN hy hl hok hcalm hi hg ht he hs hsw pins s σ H {D2 with nx:=fun σ' H'=>∃x v M1,σ'=σ.set i (some v)/\Den X.K H' x v/\RelM X.K M1 H'/\TM X.K H H'/\dP (fun x M1=>D3.nx (σ3.set i (some x)) M1) x M1} I
   (iy rm ds (lk.at ds) h fun v H1 x M1 dx rm1 t1 q1=>⟨x,v,M1,rfl,dx,rm1,t1,q1⟩)) fun fl s1 q=>?_
  cases fl with
  |next=>
   obtain⟨σ',H',I1,x,v,M1,rfl,dx,rm1,t1,q1⟩:=q;unfold dP at q1;split at q1
   ·rename_i a;cases (show v=.ref a from dx);split at q1
    ·rename_i es e;obtain⟨vs,e1,dl⟩:=rm1 a _ e;obtain⟨o,I2⟩:=I1.freeze e1;exact⟨_,_,I2,er.nx _ _ _ _ (rm1.freeze e1) ((ds.mono (t1.trans (.freeze e1))).set (dO dl e1)) (t1.trans (.freeze e1)) q1⟩
    ·exact q1.elim
   ·exact q1.elim
  |brk=>exact q
  |cont=>exact q
  |ret u=>exact q
end
noncomputable def lX(K:PySem.W.Frag)(cls:Nat->Addr)(t:XE->Ends3->St3->MH->Prop):Ends->St->XK:=fun D2 σ c dx H=>∃i σ3 M D3,(c=.ref (cls i.c)/\XD K H i dx)/\RelM K M H/\DenS K H σ3 σ/\t i D3 σ3 M/\ER K H D3 D2
theorem ER.goes{K:PySem.W.Frag}{D2:Ends}(er:ER K H D3 D2)(i:Nat):ER K H (fB D3 i) (D2.goes i):=
 ⟨fun σ' H' σ3' M' rm ds t q=>er.nx _ _ _ _ rm ds.drop t q,er.rt,fun σ' H' σ3' M' rm ds t q=>er.bk _ _ _ _ rm ds.drop t q,fun σ' H' σ3' M' rm ds t q=>er.ct _ _ _ _ rm ds.drop t q⟩
section
variable {X:Cx}{cls:Nat->Addr}{E2:St->XK}{c n:Str}{k j ne:Nat}{sub:Nat->Nat->Bool}{b0:Stmt}{suite:List Stmt}{np hpos pos:Pos}{rest:List ExceptHandler}{tb:Ends3->(St3->XN)->St3->MH->Prop}{tr:XE->Ends3->St3->MH->Prop}
theorem vj:PH X [] (lX X.K cls fun _ _ _ _=>False):=fun _ _ _ _ _ _ _ _ _ ⟨_,_,_,_,_,_,_,h,_⟩=>h.elim
theorem yf(hg:Gl X c)(hm:X.mg c=some (.ref (cls k)))(hsub:∀i,i < ne->PySem.W.exmOne X.K (.ref (cls i)) (.ref (cls k))=some (sub i k))(hN:X.N.Nodup)(hj:X.N[j]?=some n)(hl:X.env.scope.names.lookup n=some .local)
  (hs:∀v,PSs (X.marked v) (b0::suite) (aP X.K cls no2 tb)) (hr:PH X rest (lX X.K cls tr)) (hdb:(c == ("__debug__" : Str))=false) :
  PH X (.ExceptHandler (some (.Name c np)) (some n) (b0::suite) hpos::rest) (lX X.K cls fun i D σ M=>i.c < ne/\if sub i.c k=true then (∀a,M a=none->tb (fB D j) (fun _ _ _=>False) (σ.set j (some (.ref a))) (put M a (.exc i (.ref (cls i.c))))) else tr i D σ M):=by
 intro pins s σ H D a cv dx xi ⟨i,σ3,M,D3,⟨e,xd⟩,rm,ds,⟨hi,h⟩,er⟩;subst e;refine AF (i:=j) hg hm hN hj hl hs hr hdb pins s σ H D a _ dx xi ?_;have z:=hsub i.c hi;cases q:sub i.c k with
 |true=>
  rw[q]at z;rw[if_pos q]at h;refine .inl ⟨z,fun a' ha=>?_⟩
  have tn:TM X.K H (upd H a' (pI a' (.ref (cls i.c)) dx)):=.new ha;exact⟨_,_,_,_,rm.lay (u:=.exc i (.ref (cls i.c))) ha ⟨dx,ae,xd.mono tn⟩,(ds.mono tn).set eR,(fun _ _ _ _ _ _ _ _ w=>w.elim),h a' (rm.fresh ha),(er.goes j).mono tn⟩
 |false=>
  rw[q]at z;rw[if_neg (by rw[q];exact Bool.false_ne_true)]at h
  exact .inr ⟨z,i,σ3,M,D3,⟨rfl,xd⟩,rm,ds,h,er⟩
theorem Ao(hg:Gl X c)(hm:X.mg c=some (.ref (cls k)))(hsub:∀i,i < ne->PySem.W.exmOne X.K (.ref (cls i)) (.ref (cls k))=some (sub i k))
  (hs:∀v,PSs (X.marked v) (b0::suite) (aP X.K cls no2 tb)) (hr:PH X rest (lX X.K cls tr)) (hdb:(c == ("__debug__" : Str))=false) :
  PH X (.ExceptHandler (some (.Name c np)) none (b0::suite) hpos::rest) (lX X.K cls fun i D σ M=>i.c < ne/\if sub i.c k=true then tb D (fun _ _ _=>False) σ M else tr i D σ M):=by
 intro pins s σ H D a cv dx xi ⟨i,σ3,M,D3,⟨e,xd⟩,rm,ds,⟨hi,h⟩,er⟩;subst e;refine yq hg hm hs hr hdb pins s σ H D a _ dx xi ?_;have z:=hsub i.c hi;cases q:sub i.c k with
 |true=>
  rw[q]at z;rw[if_pos q]at h;exact .inl ⟨z,σ3,M,D3,_,rm,ds,(fun _ _ _ _ _ _ _ _ w=>w.elim),h,er⟩
 |false=>
  rw[q]at z;rw[if_neg (by rw[q];exact Bool.false_ne_true)]at h
  exact .inr ⟨z,i,σ3,M,D3,⟨rfl,xd⟩,rm,ds,h,er⟩
theorem sC(hst:X.stack=X.env::X.outer)(hfr:X.env.frame=some X.env.locals)(hex:X.ex=[])(hh:PH X (h0::hs) th) :
  PS X (.Try body (h0::hs) [] [] pos) (fun D σ H=>∀pn W,aJ (CX1 X.prog X.w) (X.tryX pn W) (fun σ cls d H=>th D σ cls d H)->∃t,PSs (X.tryX pn W) body t/\t D σ H):=by
 intro pins s σ H D I h;have key:∀(W:Value->Shared->Prop),aJ (CX1 X.prog X.w) (X.tryX pins W) (fun σ cls d H=>th D σ cls d H)->wpAny (model X.prog X.w) X.A (execs body X.env) (SP (X.tryX pins W) [] D) W s:=fun W hP=>by
  obtain⟨t,ht,q⟩:=h pins W hP;exact ht [] s σ H D (I.tryX _) q
 refine wpAny_Try_except (wpAny_mono (key _ ?hx) (fun f s1 q=>?_) (fun e s1 q=>q))
 case hx=>
  intro pins' σ1 H1 s1 e s' I' hc;have I1:=I'.untry I.ok;obtain⟨a,cls,B,H2,dx,rfl,os,bare,un,hok,⟨fl0,dd0⟩,ha,inc,he⟩:=hc;have hnew:=sk fl0 inc;obtain⟨a0,fl⟩:=fl0;have hfl:Heap.FlyingW B (X.env::X.outer) a cls a0 s'.heap:=hst▸fl;have hA:X.A.frames=some (X.env::X.outer):=hst▸I.ok.frames;refine qC hA hfr hfl dd0 fun h4 held up4 dd4=>mL held dd4 fun h5 fl5 up5 dd5=>?_
  refine hh pins _ σ1 H2 D a cls dx ⟨B,a0,I1.behind (s':=s') (h4:=h5) hex os bare un hok inc fl5.1 (up4.trans up5),⟨hst▸fl5,dd5⟩,ha,?_,fun p hp z=>?_,fun h6 st6 up6=>I1.behind (s':=s') (h4:=h6) hex os bare un hok inc st6 ((up4.trans up5).trans up6)⟩ he
  ·cases q:X.s₀.heap.get? a with
   |none=>rfl
   |some o=>
    obtain⟨o1,e1⟩:=I1.base.there a o q (by rw[hex];exact fun z=>nomatch z)
    rw[hnew]at e1;cases e1
  ·have e1:=(I1.pin p hp).1;rw[z,hnew]at e1;cases e1
 ·match f,q with
  |.next,⟨σ',H',J,q⟩=>exact wpAny_execs_nil ⟨σ',H',J.untry I.ok,q⟩
  |.brk,⟨σ',H',J,q⟩=>exact⟨σ',H',J.untry I.ok,q⟩
  |.cont,⟨σ',H',J,q⟩=>exact⟨σ',H',J.untry I.ok,q⟩
  |.ret u,⟨v,σ',H',J,r,q⟩=>exact⟨v,σ',H',J.untry I.ok,r,q⟩
theorem zt(hst:X.stack=X.env::X.outer)(hfr:X.env.frame=some X.env.locals)(hex:X.ex=[])(hh:PH X (h0::hs) (lX X.K cls th))
  (hb:∀pn W E2',aJ (CX1 X.prog X.w) (X.tryX pn W) E2'->PSs (X.tryX pn W) body (aP X.K cls E2' tb)) :
  PS X (.Try body (h0::hs) [] [] pos) (aP X.K cls E2 fun D _ σ M=>tb D (fun σ' i M'=>th i D σ' M') σ M):=
 (sC hst hfr hex hh).imp fun D2 σ H ⟨σ3,M,D3,E3,rm,ds,lk,h,er⟩ pn W hP=>⟨_,hb pn W _ hP,σ3,M,D3,_,rm,ds,fun σ3' σ' i M' H' t ds' rm' q dx xd=>⟨i,σ3',M',D3,⟨rfl,xd⟩,rm',ds',q,er.mono t⟩,h,er⟩
end
end L2
namespace L2
open PySem PySem.Spec PyProof.Rows
section
variable {X:Cx}{s:Shared}{kvs:List (Key×V)}{o:Obj}
theorem Inv.rehang(I:Inv X pins σ H s)(e:H a=some u)(n1:∀xs,u≠.tup xs)(n2:∀ps,u≠.tbl ps)(n3:∀b,u≠.own b)(n4:∀ob v,u≠.frz ob v)(ok:ObjOk X.prog X.w H s.heap a u'):Inv X pins σ (upd H a u') s:=by
 have ne:∀b,H b=none->b≠a:=fun b z q=>by rw[q,e]at z;cases z
 have own:∀c b,H c=some (.own b)->c≠a:=fun c b z q=>by rw[q,e]at z;cases z;exact n3 _ rfl
 have tup:∀c xs,H c=some (.tup xs)->c≠a:=fun c b z q=>by rw[q,e]at z;cases z;exact n1 _ rfl
 refine⟨I.ok,I.os,I.bare,⟨I.base.keep,I.base.slot,fun b ob q n hx=>?_,I.base.there,fun b ys q=>?_,fun b ob v q=>?_,fun b ps q=>?_⟩,I.loc,I.cell,?_,fun x c z=>?_,fun p hp=>?_,fun b v q=>?_,I.len⟩
 ·have z:=I.base.free b ob q n hx;rw[aa (ne b z)];exact z
 ·have z:=I.base.tups b ys q;rw[aa (tup _ _ z)];exact z
 ·have z:=I.base.frzs b ob v q;rw[aa (fun w=>by rw[w,e]at z;cases z;exact n4 _ _ rfl)];exact z
 ·obtain⟨more,z⟩:=I.base.tbls b ps q;exact⟨more,by rw[aa (fun w=>by rw[w,e]at z;cases z;exact n2 _ rfl)];exact z⟩
 ·rw[aa (ne _ I.free)];exact I.free
 ·rw[aa (ne _ (I.freeC x c z))];exact I.freeC x c z
 ·obtain⟨e1,e2,e3⟩:=I.pin p hp;exact⟨e1,by rw[aa (ne _ e2)];exact e2,e3⟩
 ·by_cases w:b=a
  ·subst w;rw[ae]at q;cases q;exact ok.stay (fun _ _ _ z=>z) (fun c z=>by rw[aa (own _ _ z)];exact z) fun c xs z=>by rw[aa (tup _ _ z)];exact z
  ·rw[aa w]at q;exact (I.hok b v q).stay (fun _ _ _ z=>z) (fun c z=>by rw[aa (own _ _ z)];exact z) fun c xs z=>by rw[aa (tup _ _ z)];exact z
end
noncomputable def Itg(G:Hp->Prop)(ps:List (V×V)):It:=
 ⟨fun i H=>G H/\i < ps.length,fun i H v H'=>∃p,v=.ref p/\H p=none/\∃kv,ps[i]?=some kv/\H'=upd H p (.tup [kv.1,kv.2]),fun i H=>G H/\ps.length<=i⟩
theorem kA{K:PySem.W.Frag}(d it:Addr){o:Obj}{ps:List (V×V)}{es:Array DictEntry}(hd:o.data=.dict es ep)(hz:es.size=ps.length)
  (hr:∀(i:Nat) p e,ps[i]?=some p->es[i]?=some e->RelV p.1 e.key/\RelV p.2 e.val) (hne:d≠it) (hG:∀(X:Cx) (pins:List (Addr×Obj)) (σ:St)(H:Hp)(s:Shared),Inv X pins σ H s->G H->s.heap.get? d=some o):Turn P w K (.Tuple elts x1 pos) (Itg G ps) [it] it (fun i h=>∃a1 a2,IsItemIter h it d i es.size ep a1 a2) where
 mem:=by simp
 obj:=fun i h st b hb=>by
  obtain⟨a1,a2,h1⟩:=st;have e':b=it:=by simpa using hb
  subst e';exact⟨_,h1,fun v z=>by
   have z':Data.fields _=Data.cell v:=z;cases z'⟩
 keep:=fun i h h' st k=>let ⟨a1,a2,h1⟩:=st;⟨a1,a2,k it (by simp) _ h1⟩
 item:=by
  intro X hP hw hK hc i pins s σ H E I hf st hg;subst hP hw hK;obtain⟨hu,hi⟩:=hg;obtain⟨a1,a2,hit⟩:=st;have fi:=hf it (by simp)
  have hil:it < s.heap.objs.size:=Heap.lt_size hit;have he:es[i]?=some es[i]:=by simp[show i < es.size by omega]
  have hp':ps[i]?=some ps[i]:=by simp[hi]
  obtain⟨rk,rv⟩:=hr i _ _ hp' he;refine mr hit (hG _ _ _ _ _ I hu) hd he fun h' hio ht k=>?_
  have hp:H s.heap.objs.size=none:=I.hok.fresh (Nat.le_refl _);have I1:Inv X pins σ (upd H s.heap.objs.size (.tup [ps[i].1,ps[i].2])) {s with heap:=s.heap.push {cls:=.type "tuple",data:=.seq #[es[i].key,es[i].val]},toks:=s.toks}:=
   I.laid (fun b o e1=>Heap.get?_push_of_some _ e1) (Nat.le_refl _) ⟨by show 2<=sizeLine;decide,[es[i].key,es[i].val],.cons rk (.cons rv .nil),⟨_,Heap.get?_push_size _ rfl,rfl,_,rfl⟩⟩
  have fi':jP X pins (upd H s.heap.objs.size (.tup [ps[i].1,ps[i].2])) it:=⟨by rw[aa (Nat.ne_of_lt hil)];exact fi.1,fi.2⟩
  obtain⟨f0,f1,f2,f3,f4,f5⟩:=fi';have I2:Inv X pins σ (upd H s.heap.objs.size (.tup [ps[i].1,ps[i].2])) {s with heap:=h',toks:=s.toks}:=I1.turned (t':=s.toks) (fun b o hb e1=>by
   by_cases hb':b=s.heap.objs.size
   ·subst hb';have e2:(s.heap.push {cls:=.type "tuple",data:=.seq #[es[i].key,es[i].val]}).get? s.heap.objs.size=some {cls:=.type "tuple",data:=.seq #[es[i].key,es[i].val]}:=Heap.get?_push_size _ rfl;rw[e2]at e1;cases e1;exact ht
   ·exact k b o hb ((Heap.get?_push_ne _ _ _ hb').symm.trans e1)) f0 f1 f3 f4 f5
  refine⟨.ref s.heap.objs.size,rfl,wpAny_letOwnedTupleGo_items (s:={s with heap:=h'}) hio fun h2 he2 hs2=>?_⟩
  have I3:Inv X pins σ (upd H s.heap.objs.size (.tup [ps[i].1,ps[i].2])) {s with heap:=h2,toks:=s.toks}:=I2.turned (t':=s.toks) (fun b o hb e1=>(hs2.2 b hb).trans e1) f0 f1 f3 f4 f5
  refine⟨.ref s.heap.objs.size,_,I3,rfl,⟨_,rfl,hp,_,hp',rfl⟩,⟨_,_,he2⟩,fun b hb=>?_⟩
  have e':b=it:=by simpa using hb
  subst e';exact f0
 done:=by
  intro X hP hw hK hc i pins s σ H E I hf st hg;subst hP hw hK;obtain⟨hu,hi⟩:=hg;obtain⟨a1,a2,hit⟩:=st;obtain⟨f0,f1,f2,f3,f4,f5⟩:=hf it (by simp)
  exact lU (I.ok.hd hc) hit (hG _ _ _ _ _ I hu) hd (by omega) fun h' eb=>⟨rfl,I.turned (t':=s.toks) (fun b o hb e=>eb b o hb e) f0 f1 f3 f4 f5⟩
 self:=fun _ _ _ _ _ st h=>let ⟨_,_,hit⟩:=st;PySem.W.kcp_self hit h
section
variable {X:Cx}{apos cpos:Pos}
end
end L2
namespace L2
open PySem PySem.Spec PyProof.Rows
section
variable {X:Cx}{s:Shared}
noncomputable def ca(o:Obj)(xs:List (List Int×Addr×Value)):Prop:=∃es ep,o.ExactDict/\o.data=.dict es ep/\es.toList=xs.map fun x=>(⟨tH x.1,.ref x.2.1,x.2.2⟩:DictEntry)
noncomputable abbrev phO(a:Addr)(o:Obj):Heap->Prop:=fun h=>h.get? a=some o
theorem Inv.stillT(I:Inv X pins σ H s)(e:H a=some (.ext (av a xs))):∃o,ca o xs/\Inv X pins σ (upd H a (.ext (phO a o))) s/\s.heap.get? a=some o:=by
 obtain⟨⟨o,es,ep,g,r1,r2,r3⟩,_⟩:=I.hok a _ e;exact⟨o,⟨es,ep,r1,r2,r3⟩,I.rehang e (fun _ z=>nomatch z) (fun _ z=>nomatch z) (fun _ z=>nomatch z) (fun _ _ z=>nomatch z) ⟨g,⟨o,g⟩,fun h1 h2 k1 k=>k _ k1⟩,g⟩
theorem Inv.movesT(I:Inv X pins σ H s)(t:ca o xs)(e:H a=some (.ext (phO a o))):Inv X pins σ (upd H a (.ext (av a xs))) s:=by
 obtain⟨g,_⟩:=I.hok a _ e;obtain⟨es,ep,r1,r2,r3⟩:=t;exact I.rehang e (fun _ z=>nomatch z) (fun _ z=>nomatch z) (fun _ z=>nomatch z) (fun _ _ z=>nomatch z) ⟨⟨o,es,ep,g,r1,r2,r3⟩,⟨o,g⟩,fun h1 h2 ⟨o',es',ep',q,r⟩ k=>⟨o',es',ep',k _ q,r⟩⟩
end
noncomputable def kD(xs:List (List Int×Addr×Value))(vs:List V):List (V×V):=(xs.zip vs).map fun p=>(.ref p.1.2.1,p.2)
noncomputable def rZ(X:Cx)(t2:TE):TI:=fun σ H R=>t2 σ H fun v H1=>∃d xs vs,v=.ref d/\H1 d=some (.ext (av d xs))/\(d == sysModules)=false/\Vals vs (xs.map (·.2.2))/\∀ob p,ca ob xs->H1 p=none->R (Itg (fun H=>H d=some (.ext (phO d ob))) (kD xs vs)) (upd (upd H1 d (.ext (phO d ob))) p (.ext fun h=>h.IsItemsView p d))
section
variable {X:Cx}{apos cpos:Pos}
theorem nQ(ho:PE X o t2)(hbase:attributeBase o "items" X.env (eval o X.env)=eval o X.env)(hline:(apos.endLine == cpos.line)=true):PI X (.Tuple elts x1 pt) (.Call (.Attribute o "items" apos) [] [] cpos) (rZ X t2):=by
 intro pins s σ H R I h;refine wpAny_Call_method0_late hbase hline (thn (ho pins s σ H _ I h) fun v s0 ⟨x,H1,I1,r1,d,xs,vs,e1,e3,nm,hv,q⟩=>?_)
 subst e1;cases r1;obtain⟨ob,tb,I2,go⟩:=I1.stillT e3;obtain⟨es,ep,xd,hd,he⟩:=id tb;have l1:es.size=xs.length:=by have:=congrArg List.length he;simpa using this
 have l2:vs.length=xs.length:=by have:=hv.length;simpa using this
 have hz:es.size=(kD xs vs).length:=by simp[kD];omega
 have hr:∀(i:Nat) p e,(kD xs vs)[i]?=some p->es[i]?=some e->RelV p.1 e.key/\RelV p.2 e.val:=fun i p e h1 h2=>by
  unfold kD at h1;rw[List.getElem?_map]at h1;cases hz:(xs.zip vs)[i]? with
  |none=>rw[hz]at h1;cases h1
  |some q=>
   rw[hz]at h1;have h1:(V.ref q.1.2.1,q.2)=p:=by simpa using h1
   obtain⟨a1,a2⟩:=List.getElem?_zip_eq_some.mp hz;have h3:es.toList[i]?=some e:=by simpa using h2
   rw[he,List.getElem?_map,a1]at h3;cases h3;obtain⟨u,b1,b2⟩:=hv.get a2;rw[List.getElem?_map,a1]at b1;cases b1;rw[<-h1];exact⟨rfl,b2⟩
 refine⟨"dict","dict.items",PySem.F.plainAttrs_dict,PySem.F.slot_dict_items,PySem.F.type_dict_items,⟨_,go,xd.1⟩,fun a ha=>?_,Calls.callWith_builtin rfl (PySem.evalArgs_none ?_)⟩
 ·cases ha;exact⟨_,go,xd.2.1⟩
 have hp:H1 s0.heap.objs.size=none:=I1.hok.fresh (Nat.le_refl _);have hdl:d < s0.heap.objs.size:=Heap.lt_size go;refine call_meetsIn PySem.F.slot_dict_items ⟨_,go,xd.1⟩ PySem.F.entry_dict_items (PySem.F.args_dict_items_1 _) (mm nm) ⟨⟨_,go,xd.1⟩,?_⟩;have q:=q ob s0.heap.objs.size tb hp;have I3:Inv X pins σ (upd (upd H1 d (.ext (phO d ob))) s0.heap.objs.size (.ext fun h=>h.IsItemsView s0.heap.objs.size d)) {s0 with heap:=s0.heap.push {cls:=.type "dict_items",data:=.fields #[.ref d]},toks:=s0.toks}:=
  I2.laid (o:=.ext fun h=>h.IsItemsView s0.heap.objs.size d) (fun b o e1=>Heap.get?_push_of_some _ e1) (Nat.le_refl _) ⟨⟨_,Heap.get?_push_size _ rfl,rfl,rfl⟩,⟨_,Heap.get?_push_size _ rfl⟩,fun h1 h2 ⟨ov,g1,g2,g3⟩ k=>⟨ov,k _ g1,g2,g3⟩⟩
 have go2:(s0.heap.push {cls:=.type "dict_items",data:=.fields #[.ref d]}).get? d=some ob:=Heap.get?_push_of_some _ go;refine l6 (s:={s0 with heap:=s0.heap.push {cls:=.type "dict_items",data:=.fields #[.ref d]}}) ⟨_,Heap.get?_push_size _ rfl,rfl,rfl⟩ go2 hd ?_
 have sz:(s0.heap.push {cls:=.type "dict_items",data:=.fields #[.ref d]}).objs.size=s0.heap.objs.size+1:=Heap.size_push ..;have hf:=I3.hok.fresh (Nat.le_refl (s0.heap.push {cls:=.type "dict_items",data:=.fields #[.ref d]}).objs.size);refine⟨_,[(s0.heap.push {cls:=.type "dict_items",data:=.fields #[.ref d]}).objs.size],_,_,_,rfl,I3.kept (t':=s0.toks) (fun b o e=>Heap.get?_push_of_some _ e),kA d (s0.heap.push {cls:=.type "dict_items",data:=.fields #[.ref d]}).objs.size hd hz hr (Nat.ne_of_lt (by rw[sz];exact Nat.lt_succ_of_lt hdl)) (G:=fun H=>H d=some (.ext (phO d ob))) (fun X' pins' σ' H' s' I' hG=>(show ObjOk X'.prog X'.w H' s'.heap d (.ext (phO d ob)) from I'.hok d _ hG).1),⟨_,_,Heap.get?_push_size _ rfl⟩,fun b hb=>?_,q⟩
 have e':b=(s0.heap.push {cls:=.type "dict_items",data:=.fields #[.ref d]}).objs.size:=by simpa using hb
 subst e';exact I3.fpOk (Nat.le_refl _) hf
theorem xN(hp:PassesOwn (model X.prog X.w) X.A X.env X.xe)(hcalm:X.calm=true)(ho:PE X o (low X.K cls E2 to))(hbase:attributeBase o "items" X.env (eval o X.env)=eval o X.env)(hline:(apos.endLine == cpos.line)=true)(hg:PG X (.Tuple elts x1 pt) (lq X.K g))(hb:PSs X body (aP X.K cls E2 t))
  (hs:∀x,foldedSetIterable (.Call (.Attribute o "items" apos) [] [] cpos) X.env x=pure x) :
  PS X (.For (.Tuple elts x1 pt) (.Call (.Attribute o "items" apos) [] [] cpos) body [] pos) (aP X.K cls E2 fun D E σ M=>to σ M (fun x M1=>fV x M1 fun d ks es=>∀φ,bK g (fun D σ M=>t D (fun _ _ _=>False) σ M) (fun M=>M d=some (.stl φ)) (fq d φ ks es D) (aG ks es) σ (put M1 d (.stl φ))) (E σ)):=by
 refine fun pins s σ H D2 I hl_=>ex9 hl_ fun σ3 M D3 E3 rm ds0 lk h er=>?_
 refine thn (lT hp hcalm (nQ ho hbase hline) hg hb hs pins s σ H ⟨fun σ' H'=>∃d ob xs,ca ob xs/\H' d=some (.ext (phO d ob))/\D2.nx σ' (upd H' d (.ext (av d xs))),fun v H'=>∃d ob xs,ca ob xs/\H' d=some (.ext (phO d ob))/\D2.rt v (upd H' d (.ext (av d xs))),fun σ' H'=>∃d ob xs,ca ob xs/\H' d=some (.ext (phO d ob))/\D2.bk σ' (upd H' d (.ext (av d xs))),fun σ' H'=>∃d ob xs,ca ob xs/\H' d=some (.ext (phO d ob))/\D2.ct σ' (upd H' d (.ext (av d xs)))⟩ I ?_) fun f s1 hf=>?_
 rotate_left
 ·cases f with
  |next=>
   obtain⟨σ',H',I',d,ob,xs,tb,e,q⟩:=hf;exact⟨σ',_,I'.movesT tb e,q⟩
  |brk=>
   obtain⟨σ',H',I',d,ob,xs,tb,e,q⟩:=hf;exact⟨σ',_,I'.movesT tb e,q⟩
  |cont=>
   obtain⟨σ',H',I',d,ob,xs,tb,e,q⟩:=hf;exact⟨σ',_,I'.movesT tb e,q⟩
  |ret u=>
   obtain⟨v,σ',H',I',r,d,ob,xs,tb,e,q⟩:=hf;exact⟨v,σ',_,I'.movesT tb e,r,q⟩
 refine aI rm ds0 (lk.at ds0) h fun v H1 x M1 dx rm1 t1 q1=>?_
 unfold fV at q1;split at q1
 ·rename_i d;cases (show v=.ref d from dx);split at q1
  ·rename_i ks es em;obtain⟨vs,xs,ed,tk,dl⟩:=rm1 d _ em;refine⟨d,xs,vs,rfl,ed,tk.no,tk.vx,fun ob p0 tb hp0=>?_⟩
   have np:p0≠d:=fun z=>by rw[z,ed]at hp0;cases hp0
   have tA:TM X.K H1 (upd H1 d (.ext (phO d ob))):=.put ed (fun _ z=>nomatch z) fun _ _ z=>nomatch z
   have tB:TM X.K H1 (upd (upd H1 d (.ext (phO d ob))) p0 (.ext fun h=>h.IsItemsView p0 d)):=tA.trans (.new (by rw[aa np];exact hp0))
   have rmA:RelM X.K (put M1 d (.stl (phO d ob))) (upd H1 d (.ext (phO d ob))):=rm1.write (u:=.stl (phO d ob)) ed (fun _ z=>nomatch z) (fun _ _ z=>nomatch z) ae
   have rmB:=rmA.grow (p:=p0) (o:=.ext fun h=>h.IsItemsView p0 d) (by rw[aa np];exact hp0)
   have q1:=q1 (phO d ob);have l1:=dl.length;have lx:xs.length=ks.length:=by rw[<-tk.kx];simp
   have lv:vs.length=xs.length:=by have:=tk.vx.length;simpa using this
   have li:(aG ks es).length=ks.length:=by simp[aG];omega
   have lp:(kD xs vs).length=ks.length:=by simp[kD];omega
   have bk:∀{M':MH}{H':Hp},RelM X.K M' H'->TM X.K H1 H'->M' d=some (.stl (phO d ob))->H' d=some (.ext (phO d ob))/\RelM X.K (put M' d (.dt ks es)) (upd H' d (.ext (av d xs)))/\TM X.K H' (upd H' d (.ext (av d xs))):=fun {M' H'} rm' tm' hM=>by
    have e:H' d=some (.ext (phO d ob)):=rm' d _ hM;have tm2:TM X.K H' (upd H' d (.ext (av d xs))):=.put e (fun _ z=>nomatch z) fun _ _ z=>nomatch z
    refine⟨e,rm'.write e (fun _ z=>nomatch z) (fun _ _ z=>nomatch z) ⟨vs,xs,ae,⟨tk.kx,tk.nd,tk.sz,tk.no,tk.vx,fun x hx=>tm2.t _ _ (tm'.t _ _ (tk.at_ x hx))⟩,dl.mono (tm'.trans tm2)⟩,tm2⟩
   have er2:ER X.K (upd (upd H1 d (.ext (phO d ob))) p0 (.ext fun h=>h.IsItemsView p0 d)) (fq d (phO d ob) ks es D3) ⟨fun σ' H'=>∃d ob xs,ca ob xs/\H' d=some (.ext (phO d ob))/\D2.nx σ' (upd H' d (.ext (av d xs))),fun v H'=>∃d ob xs,ca ob xs/\H' d=some (.ext (phO d ob))/\D2.rt v (upd H' d (.ext (av d xs))),fun σ' H'=>∃d ob xs,ca ob xs/\H' d=some (.ext (phO d ob))/\D2.bk σ' (upd H' d (.ext (av d xs))),fun σ' H'=>∃d ob xs,ca ob xs/\H' d=some (.ext (phO d ob))/\D2.ct σ' (upd H' d (.ext (av d xs)))⟩:=by
    refine⟨fun σ' H' σ3' M' r d' tm q=>?_,fun v H' d' M' dv r tm q=>?_,fun σ' H' σ3' M' r d' tm q=>?_,fun σ' H' σ3' M' r d' tm q=>?_⟩
    ·obtain⟨z1,z2,z3⟩:=bk r (tB.trans tm) q.1;exact⟨d,ob,xs,tb,z1,er.nx _ _ _ _ z2 (d'.mono z3) (t1.trans ((tB.trans tm).trans z3)) q.2⟩
    ·obtain⟨z1,z2,z3⟩:=bk r (tB.trans tm) q.1;exact⟨d,ob,xs,tb,z1,er.rt _ _ _ _ (dv.mono z3) z2 (t1.trans ((tB.trans tm).trans z3)) q.2⟩
    ·obtain⟨z1,z2,z3⟩:=bk r (tB.trans tm) q.1;exact⟨d,ob,xs,tb,z1,er.bk _ _ _ _ z2 (d'.mono z3) (t1.trans ((tB.trans tm).trans z3)) q.2⟩
    ·obtain⟨z1,z2,z3⟩:=bk r (tB.trans tm) q.1;exact⟨d,ob,xs,tb,z1,er.ct _ _ _ _ z2 (d'.mono z3) (t1.trans ((tB.trans tm).trans z3)) q.2⟩
   generalize hH2:upd (upd H1 d (.ext (phO d ob))) p0 (.ext fun h=>h.IsItemsView p0 d)=H2 at *
   refine⟨fun i m σc H'=>∃σ3c M',m=(aG ks es).length - i/\i<=(aG ks es).length/\RelM X.K M' H'/\DenS X.K H' σ3c σc/\TM X.K H2 H'/\bK g (fun D σ M=>t D (fun _ _ _=>False) σ M) (fun M=>M d=some (.stl (phO d ob))) (fq d (phO d ob) ks es D3) ((aG ks es).drop i) σ3c M',
    ⟨_,_,_,rfl,Nat.zero_le _,rmB,ds0.mono (t1.trans tB),.refl _,q1⟩,?_⟩
   rintro i m σc H' ⟨σ3c,M',rfl,hil,rm',ds',tm',q⟩;by_cases hlt:i < (aG ks es).length
   ·rw[List.drop_eq_getElem_cons hlt]at q;obtain⟨s',q⟩:=q;refine .inr ⟨⟨rm' d _ s',by omega⟩,fun σ4 H4=>∃σ34 M4,RelM X.K M4 H4/\DenS X.K H4 σ34 σ4/\TM X.K H2 H4/\bK g (fun D σ M=>t D (fun _ _ _=>False) σ M) (fun M=>M d=some (.stl (phO d ob))) (fq d (phO d ob) ks es D3) ((aG ks es).drop (i+1)) σ34 M4,?_,?_⟩
    ·rintro σ4 H4 ⟨σ34,M4,e1,e2,e3,e4⟩;exact⟨(aG ks es).length - (i+1),by omega,σ34,M4,rfl,hlt,e1,e2,e3,e4⟩
    ·intro x H3 y;obtain⟨pp,rfl,hpp,kv,hkv,rfl⟩:=y;have tm2:TM X.K H' (upd H' pp (.tup [kv.1,kv.2])):=.new hpp;unfold kD at hkv;rw[List.getElem?_map]at hkv;cases hz:(xs.zip vs)[i]? with
     |none=>rw[hz]at hkv;cases hkv
     |some kw=>
      rw[hz]at hkv;have hkv:(V.ref kw.1.2.1,kw.2)=kv:=by simpa using hkv
      obtain⟨a1,a2⟩:=List.getElem?_zip_eq_some.mp hz;have tmA:=tB.trans tm';obtain⟨dd,b1,b2⟩:=(dl.mono tmA).get' a2;have hk:ks[i]?=some kw.1.1:=by rw[<-tk.kx,List.getElem?_map,a1];rfl
      have ei:(aG ks es)[i]=.tup [.tup (kw.1.1.map D.int),dd]:=by
       have:(aG ks es)[i]?=some (.tup [.tup (kw.1.1.map D.int),dd]):=by
        have ez:(ks.zip es)[i]?=some (kw.1.1,dd):=List.getElem?_zip_eq_some.mpr ⟨hk,b1⟩;unfold aG;rw[List.getElem?_map,ez];rfl
       rw[List.getElem?_eq_getElem hlt]at this;exact Option.some.inj this
      have dv:Den X.K (upd H' pp (.tup [kv.1,kv.2])) ((aG ks es)[i]) (.ref pp):=by
       rw[ei,<-hkv];exact⟨pp,[.ref kw.1.2.1,kw.2],rfl,.inl (.inl ae),⟨_,_,rfl,⟨kw.1.2.1,kw.1.1.map V.int,rfl,TM.t (.new hpp) _ _ (tmA.t _ _ (tk.at_ kw.1 (List.mem_of_getElem? a1))),DenL.of_int⟩,_,_,rfl,b2.mono (.new hpp),rfl⟩⟩
      refine⟨_,σ3c,M',_,dv,rm'.grow hpp,ds'.mono tm2,q,fun σ5 H5 σ35 M5 rm5 ds5 tm5 q5=>?_⟩
      have tmC:TM X.K H2 H5:=(tm'.trans tm2).trans tm5;exact⟨σ35,M5,_,_,rm5,ds5,(fun _ _ _ _ _ _ _ _ h=>h.elim),q5,⟨fun σ6 H6 σ36 M6 rm6 ds6 tm6 q6=>⟨σ36,M6,rm6,ds6,tmC.trans tm6,q6⟩,fun v H6 d6 M6 dv6 rm6 tm6 q6=>er2.rt v H6 d6 M6 dv6 rm6 (tmC.trans tm6) q6,
       fun σ6 H6 σ36 M6 rm6 ds6 tm6 q6=>er2.nx σ6 H6 σ36 M6 rm6 ds6 (tmC.trans tm6) q6,fun σ6 H6 σ36 M6 rm6 ds6 tm6 q6=>⟨σ36,M6,rm6,ds6,tmC.trans tm6,q6⟩⟩⟩
   ·have e:i=(aG ks es).length:=by omega
    subst e;rw[List.drop_length]at q;exact .inl ⟨⟨rm' d _ q.1,by omega⟩,er2.nx _ _ _ _ rm' ds' tm' q.2⟩
  ·exact q1.elim
 ·exact q1.elim
end
end L2
namespace L2
open PySem PySem.Spec PyProof.Rows PySem.W
noncomputable def Aa(G:Hp->Prop)(vs:List V):It:=⟨fun i H=>G H/\i < vs.length,fun i H v H'=>H'=H/\vs[i]?=some v,fun i H=>G H/\vs.length<=i⟩
theorem l9{K:PySem.W.Frag}(d it:Addr){o:Obj}{vs:List V}{es:Array DictEntry}(hd:o.data=.dict es ep)(hz:es.size=vs.length)
  (hr:∀(i:Nat) v e,vs[i]?=some v->es[i]?=some e->RelV v e.key) (hne:d≠it) (hG:∀(X:Cx) (pins:List (Addr×Obj)) (σ:St)(H:Hp)(s:Shared),Inv X pins σ H s->G H->s.heap.get? d=some o):Turn P w K tg (Aa G vs) [it] it (fun i h=>h.IsKeyIter it d i es.size ep) where
 mem:=by simp
 obj:=fun i h st b hb=>by
  obtain⟨o1,h1,h2,h3⟩:=st;have e':b=it:=by simpa using hb
  subst e';exact⟨_,h1,fun v z=>by rw[h3]at z;cases z⟩
 keep:=fun i h h' st k=>st.at fun o e=>k it (by simp) o e
 item:=by
  intro X hP hw hK hc i pins s σ H E I hf st hg;subst hP hw hK;obtain⟨hu,hi⟩:=hg;have he:es[i]?=some es[i]:=by simp[show i < es.size by omega]
  have hp':vs[i]?=some vs[i]:=by simp[hi]
  have rk:=hr i _ _ hp' he;obtain⟨f0,f1,f2,f3,f4,f5⟩:=hf it (by simp)
  refine kO st (hG _ _ _ _ _ I hu) hd he fun h' hit' hs'=>?_
  have I2:Inv X pins σ H {s with heap:=h',toks:=s.toks}:=I.turned (t':=s.toks) (fun b o hb e1=>hs'.extBut b o hb e1) f0 f1 f3 f4 f5
  refine⟨_,rfl,letGo_keyiter (s':={s with heap:=h'}) hit' ?_⟩
  refine⟨vs[i],H,I2,rk,⟨rfl,hp'⟩,hit',fun b hb=>?_⟩
  have e':b=it:=by simpa using hb
  subst e';exact f0
 done:=by
  intro X hP hw hK hc i pins s σ H E I hf st hg;subst hP hw hK;obtain⟨hu,hi⟩:=hg;obtain⟨f0,f1,f2,f3,f4,f5⟩:=hf it (by simp)
  exact kY (I.ok.hd hc) st (hG _ _ _ _ _ I hu) hd (by omega) fun h' eb=>⟨rfl,I.turned (t':=s.toks) (fun b o hb e=>eb b o hb e) f0 f1 f3 f4 f5⟩
 self:=fun _ _ _ _ _ st h=>wpAny_pyIter_keyiter st h
noncomputable def kvT(xs:List (List Int×Addr×Value)):List V:=xs.map fun x=>.ref x.2.1
noncomputable def wg(X:Cx)(t2:TE):TI:=fun σ H R=>t2 σ H fun v H1=>∃d xs,v=.ref d/\H1 d=some (.ext (av d xs))/\(d == sysModules)=false/\∀ob,ca ob xs->R (Aa (fun H=>H d=some (.ext (phO d ob))) (kvT xs)) (upd H1 d (.ext (phO d ob)))
section
variable {X:Cx}
theorem qW(ho:PE X o t2):PI X tg o (wg X t2):=by
 intro pins s σ H R I h;refine thn (ho pins s σ H _ I h) fun v s0 ⟨x,H1,I1,r1,d,xs,e1,e3,nm,q⟩=>?_
 subst e1;cases r1;obtain⟨ob,tb,I2,go⟩:=I1.stillT e3;obtain⟨es,ep,xd,hd,he⟩:=id tb;have l1:es.size=xs.length:=by have:=congrArg List.length he;simpa using this
 have hz:es.size=(kvT xs).length:=by simp[kvT];omega
 have hr:∀(i:Nat) v e,(kvT xs)[i]?=some v->es[i]?=some e->RelV v e.key:=fun i v e h1 h2=>by
  unfold kvT at h1;rw[List.getElem?_map]at h1;cases a1:xs[i]? with
  |none=>rw[a1]at h1;cases h1
  |some q=>
   rw[a1]at h1;cases h1;have h3:es.toList[i]?=some e:=by simpa using h2
   rw[he,List.getElem?_map,a1]at h3;cases h3;rfl
 have hdl:d < s0.heap.objs.size:=Heap.lt_size go;refine uh nm go xd hd ?_;have hf:=I2.hok.fresh (Nat.le_refl s0.heap.objs.size);refine⟨_,[s0.heap.objs.size],_,_,_,rfl,I2.kept (t':=s0.toks) (fun b o e=>Heap.get?_push_of_some _ e),l9 d s0.heap.objs.size hd hz hr (Nat.ne_of_lt hdl) (G:=fun H=>H d=some (.ext (phO d ob))) (fun X' pins' σ' H' s' I' hG=>(show ObjOk X'.prog X'.w H' s'.heap d (.ext (phO d ob)) from I'.hok d _ hG).1),⟨_,Heap.get?_push_size _ rfl,rfl,rfl⟩,fun b hb=>?_,q ob tb⟩
 have e':b=s0.heap.objs.size:=by simpa using hb
 subst e';exact I2.fpOk (Nat.le_refl _) hf
theorem uT(hp:PassesOwn (model X.prog X.w) X.A X.env X.xe)(hcalm:X.calm=true)(ho:PE X o (low X.K cls E2 to))(hg:PG X tg (lq X.K g))(hb:PSs X body (aP X.K cls E2 t))
  (hs:∀x,foldedSetIterable o X.env x=pure x) :
  PS X (.For tg o body [] pos) (aP X.K cls E2 fun D E σ M=>to σ M (fun x M1=>fV x M1 fun d ks es=>∀φ,bK g (fun D σ M=>t D (fun _ _ _=>False) σ M) (fun M=>M d=some (.stl φ)) (fq d φ ks es D) (ks.map cJ) σ (put M1 d (.stl φ))) (E σ)):=by
 refine fun pins s σ H D2 I hl_=>ex9 hl_ fun σ3 M D3 E3 rm ds0 lk h er=>?_
 refine thn (lT hp hcalm (qW ho) hg hb hs pins s σ H ⟨fun σ' H'=>∃d ob xs,ca ob xs/\H' d=some (.ext (phO d ob))/\D2.nx σ' (upd H' d (.ext (av d xs))),fun v H'=>∃d ob xs,ca ob xs/\H' d=some (.ext (phO d ob))/\D2.rt v (upd H' d (.ext (av d xs))),fun σ' H'=>∃d ob xs,ca ob xs/\H' d=some (.ext (phO d ob))/\D2.bk σ' (upd H' d (.ext (av d xs))),fun σ' H'=>∃d ob xs,ca ob xs/\H' d=some (.ext (phO d ob))/\D2.ct σ' (upd H' d (.ext (av d xs)))⟩ I ?_) fun f s1 hf=>?_
 rotate_left
 ·cases f with
  |next=>
   obtain⟨σ',H',I',d,ob,xs,tb,e,q⟩:=hf;exact⟨σ',_,I'.movesT tb e,q⟩
  |brk=>
   obtain⟨σ',H',I',d,ob,xs,tb,e,q⟩:=hf;exact⟨σ',_,I'.movesT tb e,q⟩
  |cont=>
   obtain⟨σ',H',I',d,ob,xs,tb,e,q⟩:=hf;exact⟨σ',_,I'.movesT tb e,q⟩
  |ret u=>
   obtain⟨v,σ',H',I',r,d,ob,xs,tb,e,q⟩:=hf;exact⟨v,σ',_,I'.movesT tb e,r,q⟩
 refine aI rm ds0 (lk.at ds0) h fun v H1 x M1 dx rm1 t1 q1=>?_
 unfold fV at q1;split at q1
 ·rename_i d;cases (show v=.ref d from dx);split at q1
  ·rename_i ks es em;obtain⟨vs,xs,ed,tk,dl⟩:=rm1 d _ em;refine⟨d,xs,rfl,ed,tk.no,fun ob tb=>?_⟩
   have tA:TM X.K H1 (upd H1 d (.ext (phO d ob))):=.put ed (fun _ z=>nomatch z) fun _ _ z=>nomatch z
   have rmA:RelM X.K (put M1 d (.stl (phO d ob))) (upd H1 d (.ext (phO d ob))):=rm1.write (u:=.stl (phO d ob)) ed (fun _ z=>nomatch z) (fun _ _ z=>nomatch z) ae
   have q1:=q1 (phO d ob);have l1:=dl.length;have lx:xs.length=ks.length:=by rw[<-tk.kx];simp
   have lv:vs.length=xs.length:=by have:=tk.vx.length;simpa using this
   have li:(ks.map cJ).length=ks.length:=by simp
   have lp:(kvT xs).length=ks.length:=by simp[kvT];omega
   have bk:∀{M':MH}{H':Hp},RelM X.K M' H'->TM X.K H1 H'->M' d=some (.stl (phO d ob))->H' d=some (.ext (phO d ob))/\RelM X.K (put M' d (.dt ks es)) (upd H' d (.ext (av d xs)))/\TM X.K H' (upd H' d (.ext (av d xs))):=fun {M' H'} rm' tm' hM=>by
    have e:H' d=some (.ext (phO d ob)):=rm' d _ hM;have tm2:TM X.K H' (upd H' d (.ext (av d xs))):=.put e (fun _ z=>nomatch z) fun _ _ z=>nomatch z
    refine⟨e,rm'.write e (fun _ z=>nomatch z) (fun _ _ z=>nomatch z) ⟨vs,xs,ae,⟨tk.kx,tk.nd,tk.sz,tk.no,tk.vx,fun x hx=>tm2.t _ _ (tm'.t _ _ (tk.at_ x hx))⟩,dl.mono (tm'.trans tm2)⟩,tm2⟩
   have er2:ER X.K (upd H1 d (.ext (phO d ob))) (fq d (phO d ob) ks es D3) ⟨fun σ' H'=>∃d ob xs,ca ob xs/\H' d=some (.ext (phO d ob))/\D2.nx σ' (upd H' d (.ext (av d xs))),fun v H'=>∃d ob xs,ca ob xs/\H' d=some (.ext (phO d ob))/\D2.rt v (upd H' d (.ext (av d xs))),fun σ' H'=>∃d ob xs,ca ob xs/\H' d=some (.ext (phO d ob))/\D2.bk σ' (upd H' d (.ext (av d xs))),fun σ' H'=>∃d ob xs,ca ob xs/\H' d=some (.ext (phO d ob))/\D2.ct σ' (upd H' d (.ext (av d xs)))⟩:=by
    refine⟨fun σ' H' σ3' M' r d' tm q=>?_,fun v H' d' M' dv r tm q=>?_,fun σ' H' σ3' M' r d' tm q=>?_,fun σ' H' σ3' M' r d' tm q=>?_⟩
    ·obtain⟨z1,z2,z3⟩:=bk r (tA.trans tm) q.1;exact⟨d,ob,xs,tb,z1,er.nx _ _ _ _ z2 (d'.mono z3) (t1.trans ((tA.trans tm).trans z3)) q.2⟩
    ·obtain⟨z1,z2,z3⟩:=bk r (tA.trans tm) q.1;exact⟨d,ob,xs,tb,z1,er.rt _ _ _ _ (dv.mono z3) z2 (t1.trans ((tA.trans tm).trans z3)) q.2⟩
    ·obtain⟨z1,z2,z3⟩:=bk r (tA.trans tm) q.1;exact⟨d,ob,xs,tb,z1,er.bk _ _ _ _ z2 (d'.mono z3) (t1.trans ((tA.trans tm).trans z3)) q.2⟩
    ·obtain⟨z1,z2,z3⟩:=bk r (tA.trans tm) q.1;exact⟨d,ob,xs,tb,z1,er.ct _ _ _ _ z2 (d'.mono z3) (t1.trans ((tA.trans tm).trans z3)) q.2⟩
   generalize hH2:upd H1 d (.ext (phO d ob))=H2 at *
   refine⟨fun i m σc H'=>∃σ3c M',m=(ks.map cJ).length - i/\i<=(ks.map cJ).length/\RelM X.K M' H'/\DenS X.K H' σ3c σc/\TM X.K H2 H'/\bK g (fun D σ M=>t D (fun _ _ _=>False) σ M) (fun M=>M d=some (.stl (phO d ob))) (fq d (phO d ob) ks es D3) ((ks.map cJ).drop i) σ3c M',
    ⟨_,_,_,rfl,Nat.zero_le _,rmA,ds0.mono (t1.trans tA),.refl _,q1⟩,?_⟩
   rintro i m σc H' ⟨σ3c,M',rfl,hil,rm',ds',tm',q⟩;by_cases hlt:i < (ks.map cJ).length
   ·rw[List.drop_eq_getElem_cons hlt]at q;obtain⟨s',q⟩:=q;refine .inr ⟨⟨rm' d _ s',by omega⟩,fun σ4 H4=>∃σ34 M4,RelM X.K M4 H4/\DenS X.K H4 σ34 σ4/\TM X.K H2 H4/\bK g (fun D σ M=>t D (fun _ _ _=>False) σ M) (fun M=>M d=some (.stl (phO d ob))) (fq d (phO d ob) ks es D3) ((ks.map cJ).drop (i+1)) σ34 M4,?_,?_⟩
    ·rintro σ4 H4 ⟨σ34,M4,e1,e2,e3,e4⟩;exact⟨(ks.map cJ).length - (i+1),by omega,σ34,M4,rfl,hlt,e1,e2,e3,e4⟩
    ·intro x H3 y;obtain⟨rfl,hkv⟩:=y;unfold kvT at hkv;rw[List.getElem?_map]at hkv;cases a1:xs[i]? with
     |none=>rw[a1]at hkv;cases hkv
     |some kw=>
      rw[a1]at hkv;cases hkv;have tmA:=tA.trans tm';have hk:ks[i]?=some kw.1:=by rw[<-tk.kx,List.getElem?_map,a1];rfl
      have ei:(ks.map cJ)[i]=.tup (kw.1.map D.int):=by
       have:(ks.map cJ)[i]?=some (.tup (kw.1.map D.int)):=by
        rw[List.getElem?_map,hk];rfl
       rw[List.getElem?_eq_getElem hlt]at this;exact Option.some.inj this
      have dv:Den X.K H3 ((ks.map cJ)[i]) (.ref kw.2.1):=by
       rw[ei];exact⟨kw.2.1,kw.1.map V.int,rfl,tmA.t _ _ (tk.at_ kw (List.mem_of_getElem? a1)),DenL.of_int⟩
      refine⟨_,σ3c,M',_,dv,rm',ds',q,fun σ5 H5 σ35 M5 rm5 ds5 tm5 q5=>?_⟩
      have tmC:TM X.K H2 H5:=tm'.trans tm5;exact⟨σ35,M5,_,_,rm5,ds5,(fun _ _ _ _ _ _ _ _ h=>h.elim),q5,⟨fun σ6 H6 σ36 M6 rm6 ds6 tm6 q6=>⟨σ36,M6,rm6,ds6,tmC.trans tm6,q6⟩,fun v H6 d6 M6 dv6 rm6 tm6 q6=>er2.rt v H6 d6 M6 dv6 rm6 (tmC.trans tm6) q6,
       fun σ6 H6 σ36 M6 rm6 ds6 tm6 q6=>er2.nx σ6 H6 σ36 M6 rm6 ds6 (tmC.trans tm6) q6,fun σ6 H6 σ36 M6 rm6 ds6 tm6 q6=>⟨σ36,M6,rm6,ds6,tmC.trans tm6,q6⟩⟩⟩
   ·have e:i=(ks.map cJ).length:=by omega
    subst e;rw[List.drop_length]at q;exact .inl ⟨⟨rm' d _ q.1,by omega⟩,er2.nx _ _ _ _ rm' ds' tm' q.2⟩
  ·exact q1.elim
 ·exact q1.elim
end
end L2
namespace L2
open PySem PySem.Spec PyProof.Rows
section
variable {X:Cx}{apos cpos:Pos}
end
end L2
namespace L2
open PySem PySem.Spec PyProof.Rows
structure Cfg where
 N:List Str
 sc:Scope
 fns:List (Option Str×Nat)
 exc:List Str
 kln:List Str
 gln:List Str
 xin:List (Nat×Nat)
 calm:Bool
 own:Bool
 tr:Bool
 fn:Bool
 cel:List (Str×NameKind):=[]
noncomputable def glB(c:Cfg)(x:Str):Bool:=c.sc.names.lookup x == some .globalImplicit
noncomputable def u8(sc:Scope)(x:Str):Bool:=match sc.names.lookup x with
 |some .local=>true
 |some .cell=>true
 |some .free=>true
 |_=>false
noncomputable def sJ(c:Cfg)(x:Str):Bool:=c.sc.names.lookup x == some .local||(c.fn&&c.sc.names.lookup x == some .cell)||(c.cel.lookup x == some .cell&&c.sc.names.lookup x == some .cell)
noncomputable def dE:Expr->Bool
 |.Starred ..=>false
 |_=>true
noncomputable def jE:Expr->Bool
 |.Set ..=>false
 |_=>true
noncomputable def j4:Expr->Bool
 |.ListComp ..=>false
 |.SetComp ..=>false
 |.DictComp ..=>false
 |_=>true
noncomputable def Ap:Expr->Bool
 |.Tuple ..=>false
 |_=>true
noncomputable def jv:Expr->Bool
 |.Slice ..=>false
 |_=>true
noncomputable def tR:Expr->Bool
 |.Call ..=>false
 |_=>true
noncomputable def iP:Expr->Bool
 |.Call (.Name _ _) [] [] _=>false
 |_=>true
noncomputable def nr:Expr->Bool
 |.UnaryOp ..=>false
 |.BoolOp ..=>false
 |.IfExp ..=>false
 |.Compare ..=>false
 |_=>true
noncomputable def iw:BI->String
 |.len=>"len"|.max=>"max"|.min=>"min"|.list _=>"list"|.all=>"all"|.any=>"any"
noncomputable def gU:BM->String
 |.index=>"index"|.get=>"get"
noncomputable def biNames:List Str:=["len","abs","max","min","str","list","tuple","isinstance","range","int","bool","dict","ValueError","enumerate","all","any","sum","zip","reversed","sorted"]
noncomputable def vK(sc osc:Scope):Scope:={sc with names:=sc.names.map fun (n,k)=>if (k == .free&&osc.kind == .function&&osc.names.lookup n == some .cell) then (n,.cell) else (n,k)}
noncomputable def Cfg.comp(c:Cfg)(N:List Str)(sc:Scope):Cfg:={c with N:=N,sc:=vK sc c.sc,own:=false,tr:=false,fn:=false,cel:=sc.names}
noncomputable def Cfg.trying(c:Cfg):Cfg:={c with own:=false}
noncomputable def Cfg.caught(c:Cfg):Cfg:={c with calm:=false,own:=false,tr:=false}
noncomputable def okG(c:Cfg):ITg->Expr->Bool
 |.name i,e=>match e with
  |.Name x _=>(c.N[i]? == some x)&&sJ c x
  |_=>false
 |.tup is,e=>match e with
  |.Tuple es _ _=>c.calm&&bP c.N c.sc c.fn is es
  |_=>false
noncomputable def wT:II->Expr->Bool
 |_,_=>true
mutual
noncomputable def okE:IE->Cfg->Expr->Bool
 |.var i,c,e=>match e with
  |.Name x _=>(c.N[i]? == some x)&&u8 c.sc x&&!(x == ("__debug__" : Str))&&!(x == ("__classdict__" : Str))
  |_=>false
 |.con d,_,e=>match e with
  |.Constant k _ _=>match k,d with
   |.int i,.int j=>decide (i=j)
   |.bool i,.bl j=>decide (i=j)
   |.none,.non=>true
   |.str i,.str j=>decide (i=j)
   |_,_=>false
  |_=>false
 |.bin op a b,c,e=>match e with
  |.BinOp x op' y _=>decide (op=op')&&okE a c x&&okE b c y
  |_=>false
 |.neg a,c,e=>match e with
  |.UnaryOp op x _=>decide (op=.USub)&&okE a c x
  |_=>false
 |.cat _ a b,c,e=>match e with
  |.BinOp x op' y _=>decide (op'=.Add)&&okE a c x&&okE b c y
  |_=>false
 |.cmp op a b,c,e=>match e with
  |.Compare x [op'] [y] _=>decide (op=op')&&jE y&&okE a c x&&okE b c y
  |_=>false
 |.and a b,c,e=>match e with
  |.BoolOp op (x::y::r) p=>decide (op=.And)&&okE a c x&&(match r with|[]=>okE b c y|_::_=>okE b c (.BoolOp .And (y::r) p))
  |_=>false
 |.or a b,c,e=>match e with
  |.BoolOp op (x::y::r) p=>decide (op=.Or)&&okE a c x&&(match r with|[]=>okE b c y|_::_=>okE b c (.BoolOp .Or (y::r) p))
  |_=>false
 |.not a,c,e=>match e with
  |.UnaryOp op x _=>decide (op=.Not)&&okE a c x
  |_=>false
 |.ifx t a b,c,e=>match e with
  |.IfExp x y z _=>okT t c x&&okE a c y&&okE b c z
  |_=>false
 |.tup es,c,e=>match e with
  |.Tuple xs _ _=>okA es c xs
  |_=>false
 |.lst _ es,c,e=>match e with
  |.List xs _=>okA es c xs
  |_=>false
 |.frz a,c,e=>okE a c e
 |.ix a b,c,e=>match e with
  |.Subscript x y _=>jv y&&okE a c x&&okE b c y
  |_=>false
 |.sl _ a lo hi,c,e=>match e with
  |.Subscript x (.Slice l h none _) _=>okE a c x&&okO lo c l&&okO hi c h
  |_=>false
 |.call f es,c,e=>match e with
  |.Call (.Name x _) args [] _=>c.calm&&(match c.fns[f]? with|some p=>decide (some x=p.1)&&decide (args.length=p.2)|none=>false)&&glB c x&&!(x == ("__debug__" : Str))&&okA es c args
  |_=>false
 |.bi b es,c,e=>match e with
  |.Call (.Name x _) args [] _=>c.calm&&decide (x=(iw b:Str))&&glB c x&&!args.isEmpty&&okA es c args
  |_=>false
 |.isB a t,c,e=>match e with
  |.Call (.Name x _) [y,.Name z _] [] _=>decide (x=("isinstance" : Str))&&decide (z=(bv t:Str))&&glB c x&&glB c z&&dE y&&okE a c y
  |_=>false
 |.rev _ a,c,e=>match e with
  |.Subscript x (.Slice none none (some (.UnaryOp op (.Constant k _ _) _)) _) _=>decide (op=.USub)&&(match k with|.int i=>decide (i=1)|_=>false)&&okE a c x
  |_=>false
 |.dctT a b,c,e=>match e with
  |.Dict [some x] [y] _=>okE a c x&&okE b c y
  |_=>false
 |.comp _ N js tg it cond elt,c,e=>match e with
  |.ListComp el [⟨tgE,iter,ifs,as⟩] scope _=>c.calm&&decide (as=0)&&wT it tgE&&jE iter&&cV N js scope c.sc c.N&&okI it c iter&&okG (c.comp N scope) tg tgE&&rG cond (c.comp N scope) ifs&&okE elt (c.comp N scope) el
  |_=>false
 |.lrng _ a,c,e=>match e with
  |.Call (.Name x _) [.Call (.Name y _) [z] [] _] [] _=>c.calm&&decide (x=("list" : Str))&&decide (y=("range" : Str))&&glB c x&&glB c y&&dE z&&okE a c z
  |_=>false
 |.sm a,c,e=>match e with
  |.Call (.Name x _) [y] [] _=>c.calm&&decide (x=("sum" : Str))&&glB c x&&dE y&&okE a c y
  |_=>false
 |.mmz mx a,c,e=>match e with
  |.Call (.Name x _) [y] [⟨some d,.Constant k _ _,_⟩] _=>c.calm&&decide (x=(dN mx:Str))&&glB c x&&dE y&&okE a c y&&decide (d=("default" : Str))&&(match k with|.int i=>decide (i=0)|_=>false)
  |_=>false
 |.fld a f,c,e=>match e with
  |.Attribute x m _=>decide (m=fnm f)&&iP x&&okE a c x
  |_=>false
 |.xfld a f,c,e=>match e with
  |.Attribute x m _=>decide (m=fnm f)&&iP x&&okE a c x
  |_=>false
 |.make _ i es,c,e=>match e with
  |.Call (.Name x _) args [] _=>c.calm&&(c.kln[i]? == some x)&&glB c x&&!(x == ("__debug__" : Str))&&okA es c args
  |_=>false
 |.meth a m es,c,e=>match e with
  |.Call (.Attribute x n ap) args [] cp=>c.calm&&decide (n=fnm m)&&iP x&&(ap.endLine == cp.line)&&decide (args.length < 30)&&okE a c x&&okA es c args
  |_=>false
 |.bm b o es,c,e=>match e with
  |.Call (.Attribute x n ap) args [] cp=>c.calm&&decide (n=(gU b:Str))&&iP x&&(ap.endLine == cp.line)&&decide (args.length < 30)&&okE o c x&&okA es c args
  |_=>false
 |.dnew _,_,e=>match e with
  |.Dict [] [] _=>true
  |_=>false
 |.lrev _ a,c,e=>match e with
  |.Call (.Name x _) [.Call (.Name x' _) [y] [] _] [] _=>c.calm&&decide (x=("list" : Str))&&glB c x&&decide (x'=("reversed" : Str))&&glB c x'&&dE y&&okE a c y
  |_=>false
noncomputable def okT:IT->Cfg->Expr->Bool
 |.val a,c,e=>nr e&&okE a c e
 |.cmp op a b,c,e=>match e with
  |.Compare x [op'] [y] _=>decide (op=op')&&jE y&&okE a c x&&okE b c y
  |_=>false
 |.chain op1 op2 a b d,c,e=>match e with
  |.Compare x [op1',op2'] [y,z] _=>decide (op1=op1')&&decide (op2=op2')&&jE z&&okE a c x&&okE b c y&&okE d c z
  |_=>false
 |.chain3 op1 op2 op3 a b d f,c,e=>match e with
  |.Compare x [op1',op2',op3'] [y,z,u] _=>decide (op1=op1')&&decide (op2=op2')&&decide (op3=op3')&&jE u&&okE a c x&&okE b c y&&okE d c z&&okE f c u
  |_=>false
 |.and a b,c,e=>match e with
  |.BoolOp op (x::y::r) p=>decide (op=.And)&&okT a c x&&(match r with|[]=>okT b c y|_::_=>okT b c (.BoolOp .And (y::r) p))
  |_=>false
 |.or a b,c,e=>match e with
  |.BoolOp op (x::y::r) p=>decide (op=.Or)&&okT a c x&&(match r with|[]=>okT b c y|_::_=>okT b c (.BoolOp .Or (y::r) p))
  |_=>false
 |.not a,c,e=>match e with
  |.UnaryOp op x _=>decide (op=.Not)&&okT a c x
  |_=>false
noncomputable def okA:IA->Cfg->List Expr->Bool
 |.nil,_,es=>es.isEmpty
 |.cons a r,c,es=>match es with
  |x::xs=>dE x&&okE a c x&&okA r c xs
  |[]=>false
noncomputable def okO:IO->Cfg->Option Expr->Bool
 |.no,_,o=>o.isNone
 |.yes a,c,o=>match o with
  |some x=>okE a c x
  |none=>false
noncomputable def rG:ITO->Cfg->List Expr->Bool
 |.no,_,es=>es.isEmpty
 |.yes t,c,es=>match es with
  |[x]=>okT t c x
  |_=>false
noncomputable def okI:II->Cfg->Expr->Bool
 |.seq a,c,e=>okE a c e
 |.rng1 a,c,e=>match e with
  |.Call (.Name x _) [y] [] _=>decide (x=("range" : Str))&&glB c x&&dE y&&okE a c y
  |_=>false
end
noncomputable def swB(c:Cfg)(scope:Scope)(x:Str)(l1 l2:Nat):Bool:=c.sc.kind == .function&&c.sc.names.lookup x == some .local&&l1 == l2&&!(scope.names.any fun (n,k)=>n == x&&(k == .local||k == .cell))
mutual
noncomputable def okS:IS->Cfg->Stmt->Bool
 |.set i a,c,s=>match s with
  |.Assign [.Name x px] e _=>(c.N[i]? == some x)&&sJ c x&&okE a c e&&(j4 e||match e,a with
   |.ListComp _ _ scope pos,.comp ..=>swB c scope x px.line pos.line||c.sc.names.lookup x == some .cell
   |_,_=>false)
  |_=>false
 |.expr a,c,s=>match s with
  |.Expr e _=>j4 e&&okE a c e
  |_=>false
 |.ret a,c,s=>match s with
  |.Return (some e) _=>okE a c e
  |_=>false
 |.retN,_,s=>match s with
  |.Return none _=>true
  |_=>false
 |.ifs t a b,c,s=>match s with
  |.If x y z _=>okT t c x&&eo a c y&&eo b c z
  |_=>false
 |.for_ tg it body,c,s=>match s with
  |.For tgE iter b [] _=>c.own&&wT it tgE&&c.calm&&jE iter&&okG c tg tgE&&okI it c iter&&eo body c b
  |_=>false
 |.forK tg o body,c,s=>match s with
  |.For tgE x b [] _=>c.own&&c.calm&&jE x&&okG c tg tgE&&okE o c x&&eo body c b
  |_=>false
 |.forD tg o body,c,s=>match s with
  |.For (.Tuple elts x1 pt) (.Call (.Attribute x n ap) [] [] cp) b [] _=>c.own&&c.calm&&decide (n=("items" : Str))&&iP x&&(ap.endLine == cp.line)&&okG c tg (.Tuple elts x1 pt)&&okE o c x&&eo body c b
  |_=>false
 |.whl t body,c,s=>match s with
  |.While x b [] _=>c.own&&okT t c x&&eo body c b
  |_=>false
 |.raiseI k es,c,s=>match s with
  |.Raise (some (.Call (.Name x _) args [] _)) none _=>(c.xin.lookup k).isSome&&c.own&&c.calm&&(c.exc[k]? == some x)&&glB c x&&!(x == ("__debug__" : Str))&&!args.isEmpty&&okA es c args
  |_=>false
 |.try_ body hs,c,s=>match s with
  |.Try b handlers [] [] _=>c.tr&&!handlers.isEmpty&&eo body c.trying b&&pE hs c handlers
  |_=>false
 |.app o a,c,s=>match s with
  |.Expr (.Call (.Attribute x m ap) [y] [] cp) _=>decide (m=("append" : Str))&&tR x&&(ap.endLine == cp.line)&&dE y&&okE o c x&&okE a c y
  |_=>false
 |.del _,_,_=>false
 |.dead,_,_=>true
 |.fset o f a,c,s=>match s with
  |.Assign [.Attribute x m _] v _=>decide (m=fnm f)&&j4 v&&okE o c x&&okE a c v
  |_=>false
 |.ixset o i a,c,s=>match s with
  |.Assign [.Subscript x y _] v _=>jv y&&j4 v&&okE o c x&&okE i c y&&okE a c v
  |_=>false
noncomputable def eo:ISs->Cfg->List Stmt->Bool
 |.nil,_,sts=>sts.isEmpty
 |.cons s r,c,sts=>match s with
  |.del _=>eo r c sts
  |s=>match sts with
   |st::rest=>okS s c st&&eo r c rest
   |[]=>false
noncomputable def pE:IHs->Cfg->List ExceptHandler->Bool
 |.nil,_,hs=>hs.isEmpty
 |.cons k nm body r,c,hs=>match hs with
  |.ExceptHandler (some (.Name x _)) nmE bodyE _::rest=>(c.exc[k]? == some x)&&glB c x&&!(x == ("__debug__" : Str))&&(match nm,nmE with
   |none,none=>true
   |some j,some n=>(c.N[j]? == some n)&&c.sc.names.lookup n == some .local
   |_,_=>false)&&!bodyE.isEmpty&&eo body c.caught bodyE&&pE r c rest
  |_=>false
end
end L2
namespace L2
open PySem PySem.Spec PyProof.Rows
structure Good (c:Cfg)(W:WC)(X:Cx)(E2:St->XK):Prop where
 N:X.N=c.N
 nd:c.N.Nodup
 sc:X.env.scope=c.sc
 un:X.A.units+64 < cLine
 calm:c.calm=true->X.calm=true
 fnx:c.fn=true->∀x,X.fn x=true
 cel:∀x,c.cel.lookup x=some .cell->X.fn x=true
 own:c.own=true->PassesOwn (model X.prog X.w) X.A X.env X.xe/\∃E,(E2=fun _=>E)/\oU X E/\gu X E/\Room 2 X.A
 tr:c.tr=true->X.stack=X.env::X.outer/\X.env.frame=some X.env.locals/\X.ex=[]
 fns:c.calm=true->∃k,Room (k+1) X.A/\∀f,f < c.fns.length->oW X W.cls k (W.fad f) (W.call f)
 fnn:∀f x n,c.fns[f]?=some (some x,n)->X.mg x=some (.ref (W.fad f))
 kok:∀i,i < W.nk->KOk X.K W.toWB W.fad i
 kin:∀i,i < W.nk->∃f,W.ini i=some f
 kfi:∀i f,i < W.nk->W.ini i=some f->f < c.fns.length
 kfm:∀i m f,i < W.nk->W.mth i m=some f->f < c.fns.length
 knm:∀i x,c.kln[i]?=some x->X.mg x=some (.ref (W.kls i))/\i < W.nk
 glo:∀k x,c.gln[k]?=some x->∃u v,X.mg x=some u/\RelV v u/\∀H,Den X.K H (W.glo k) v
 exc:∀i x,c.exc[i]?=some x->X.mg x=some (.ref (W.cls i))/\(c.xin.lookup i=none->zQ X.K (W.cls i))/\∀j,j < W.ne->PySem.W.exmOne X.K (.ref (W.cls j)) (.ref (W.cls i))=some (W.sub j i)
 exi:∀i,i < W.ne->ExcI X.K (W.cls i)/\PySem.W.kitOne X.K (.ref (W.cls i)) (.type "ValueError")=some true/\∀j x,c.exc[j]?=some x->PySem.W.kitOne X.K (.ref (W.cls i)) (.ref (W.cls j))=some (W.sub i j)
 xi:∀i f,c.xin.lookup i=some f->W.xin i=some f/\∃fI fd ps,XIni X.K (W.cls i) fI (fnm f)/\Binds X.K fd ps []/\FnOk X.prog X.w X.K X.mg X.base (CX1 X.prog X.w) 1 fI fd ps (fM (cpF f) X.K (W.cls i) (fnm f))
 xn:∀i f,i < W.ne->W.xin i=some f->NoAttr X.K (W.cls i) (fnm f)
 bi:∀x∈biNames,X.mg x=none
 dig:vR X.K
 pass:aJ (CX1 X.prog X.w) X E2
section
variable {c:Cfg}{X:Cx}
theorem Good.gl(G:Good c W X E2)(h:glB c x=true):Gl X x:=by
 show X.env.scope.names.lookup x=_;rw[G.sc];exact beq_iff_eq.mp h
theorem Good.loc(G:Good c W X E2)(h:sJ c x=true):Loc X.env.scope x/\(X.fn x=true\/X.env.scope.names.lookup x=some .local):=by
 unfold sJ at h;rw[G.sc];simp only[Bool.or_eq_true,Bool.and_eq_true,beq_iff_eq]at h;rcases h with (h|⟨h1,h2⟩)|⟨h1,h2⟩
 ·exact⟨.inl h,.inr h⟩
 ·exact⟨.inr h2,.inl (G.fnx h1 x)⟩
 ·exact⟨.inr h2,.inl (G.cel x h1)⟩
theorem Good.vis(G:Good c W X E2)(h:u8 c.sc x=true):Vis X.env.scope x:=by
 rw[G.sc];unfold u8 at h;split at h
 ·exact .inl (by assumption)
 ·exact .inr (.inl (by assumption))
 ·exact .inr (.inr (by assumption))
 ·cases h
theorem Good.at{i:Nat}{x:Str}(G:Good c W X E2)(h:(c.N[i]? == some x)=true):X.N[i]?=some x:=by rw[G.N];exact beq_iff_eq.mp h
theorem Good.ndX(G:Good c W X E2):X.N.Nodup:=by rw[G.N];exact G.nd
theorem Good.names(G:Good c W X E2)(h:bP c.N c.sc c.fn is es=true):bP X.N X.env.scope c.fn is es=true:=by rw[G.N,G.sc];exact h
theorem Good.trying(G:Good c W X E2)(h:aJ (CX1 X.prog X.w) (X.tryX pn V') E2'):Good c.trying W (X.tryX pn V') E2':=
 ⟨G.N,G.nd,G.sc,G.un,G.calm,G.fnx,G.cel,(fun z=>nomatch z),G.tr,G.fns,G.fnn,G.kok,G.kin,G.kfi,G.kfm,G.knm,G.glo,G.exc,G.exi,G.xi,G.xn,G.bi,G.dig,h⟩
theorem qu:aJ (CX1 P w) X no2:=fun _ _ _ _ _ _ _ h=>by
 obtain⟨_,_,_,_,_,_,_,_,_,_,_,_,_,he⟩:=h;exact he.elim
theorem Good.caught(G:Good c W X E2)(v:Value):Good c.caught W (X.marked v) no2:=
 ⟨G.N,G.nd,G.sc,G.un,(fun z=>nomatch z),G.fnx,G.cel,(fun z=>nomatch z),(fun z=>nomatch z),(fun z=>nomatch z),G.fnn,G.kok,G.kin,G.kfi,G.kfm,G.knm,G.glo,G.exc,G.exi,G.xi,G.xn,G.bi,G.dig,qu⟩
theorem Good.comp(G:Good c W X E2){N:List Str}{js:List (Option Nat)}{scope:Scope}(h:cV N js scope c.sc c.N=true)(C:Addr)(s2:Shared)(H2:Hp)(fp:List Addr)(pn:List (Addr×Obj)):Good (c.comp N scope) W (compCx X scope C N s2 H2 fp pn) no2:=by
 have hc:=iO h;refine⟨rfl,hc.nd,?_,G.un,G.calm,(fun z=>nomatch z),(fun x z=>beq_iff_eq.mpr z),(fun z=>nomatch z),(fun z=>nomatch z),G.fns,G.fnn,G.kok,G.kin,G.kfi,G.kfm,G.knm,G.glo,G.exc,G.exi,G.xi,G.xn,G.bi,G.dig,qu⟩
 show relabel scope X.env=vK scope c.sc;unfold relabel vK;rw[<-G.sc];rfl
end
theorem bL(h:dE e=true):starEach (e::es) env=(false,eval e env)::starEach es env:=by
 cases e<;>first|rfl|cases h
theorem mM(h:jE e=true):∀x,foldedSetIterable e env x=pure x:=by
 intro x;cases e<;>first|rfl|cases h
theorem gw(h:jE e=true):behindInMarks op e=false:=by
 cases e<;>first|rfl|cases h
theorem jF(h:j4 e=true):swapsWith e t n env=pure false:=by
 cases e<;>first|rfl|cases h
theorem nV{e:Expr}(h:nr e=true):∀whole,isTrue e env whole=(do let v<-whole;standAt e.pos;holding [v] (truthy v)):=by
 intro whole;cases e<;>first|rfl|cases h
theorem rD(h:jv e=true):jY e:=by
 intro o i;cases e<;>first|rfl|cases h
theorem xg{e:Expr}{m:Str}{env:Env}{whole:Sem Value}(h:tR e=true):attributeBase e m env whole=whole:=by
 cases e<;>first|rfl|cases h
theorem cB{e:Expr}{m:Str}{env:Env}{whole:Sem Value}(h:iP e=true):attributeBase e m env whole=whole:=by
 cases e with
 |Call f as ks p=>
  cases f with
  |Name x px=>
   cases as with
   |nil=>
    cases ks with
    |nil=>cases h
    |cons _ _=>rfl
   |cons _ _=>rfl
  |_=>rfl
 |_=>rfl
theorem uz(h:jv i=true):∀v,assign (.Subscript o i p) env v=(do
   let ov<-holding [v] (eval o env)
   let iv<-holding [v,ov] (eval i env)
   standAt p
   holding [v,ov,iv] (setItem ov iv v)
   release [v,ov,iv] []):=by
 intro v;cases i<;>first|rfl|cases h
theorem cH(pos:Pos):∀{r:IA}{c:Cfg}{es:List Expr}{env:Env},okA r c es=true->(backTo pos (starEach es env)).any (·.1)=false
 |.nil,c,es,env,h=>by
  simp only[okA]at h;cases es with
  |nil=>rfl
  |cons _ _=>cases h
 |.cons a r,c,es,env,h=>by
  cases es with
  |nil=>simp[okA]at h
  |cons x xs=>
   simp only[okA,Bool.and_eq_true]at h;rw[bL h.1.1];show (false||(backTo pos (starEach xs env)).any (·.1))=false
   rw[cH pos h.2];rfl
end L2
namespace L2
open PySem PySem.Spec PyProof.Rows
theorem ub(h:PE X a t):PE X (.BoolOp op [a] pos) t:=uv h
theorem uQ(b:BI):((iw b:String):Str)∈biNames:=by
 cases b with
 |list fz=>cases fz<;>decide +kernel
 |_=>decide +kernel
theorem vz(t:BT):((bv t:String):Str)∈biNames:=by cases t<;>decide +kernel
theorem tP{X:Cx}(hu:X.A.units+64 < cLine)(hc:X.calm=true)(hd:vR X.K)(hg:Gl X (iw b:String))(hm:X.mg (iw b:String)=none)(ha:PA X (e::es) (cT X.K cls E2 tr))
  (he:starEach (e::es) X.env=(false,eval e X.env)::starEach es X.env) (hpl:(backTo pos (starEach es X.env)).any (·.1)=false):PE X (.Call (.Name (iw b:String) p) (e::es) [] pos) (low X.K cls E2 fun σ M Q E=>tr σ M (fun xs M1=>rBi b xs M1 Q) E):=by
 cases b with
 |len=>exact eu uB hg hm (by decide +kernel) ha (by decide +kernel) (by decide +kernel) he hpl
 |max=>exact eu (wt hc) hg hm (by decide +kernel) ha (by decide +kernel) (by decide +kernel) he hpl
 |min=>exact eu (xo hc) hg hm (by decide +kernel) ha (by decide +kernel) (by decide +kernel) he hpl
 |list fz=>exact rT (rq fz hc) hg hm (by cases fz<;>decide +kernel) ha (by cases fz<;>decide +kernel) (by cases fz<;>decide +kernel) he hpl
 |all=>exact eu (tW true hc) hg hm (by decide +kernel) ha (by decide +kernel) (by decide +kernel) he hpl
 |any=>exact eu (tW false hc) hg hm (by decide +kernel) ha (by decide +kernel) (by decide +kernel) he hpl
theorem tJ{X:Cx}{apos pos:Pos}(hu:X.A.units+64 < cLine)(ho:PE X o (low X.K cls E2 to))(ha:PA X (e::es) (cT X.K cls E2 tr))
  (hb:attributeBase o (gU b:String) X.env (eval o X.env)=eval o X.env) (hn:(e::es).length < 30) (hl:(apos.endLine == pos.line)=true) (he:starEach (e::es) X.env=(false,eval e X.env)::starEach es X.env) (hpl:(backTo pos (starEach es X.env)).any (·.1)=false) :
  PE X (.Call (.Attribute o (gU b:String) apos) (e::es) [] pos) (low X.K cls E2 fun σ M Q E=>to σ M (fun x M1=>tyB b x M1=true/\tr σ M1 (fun xs M2=>rBm b x xs M2 Q) E) E):=by
 cases b with
 |index=>exact zp PySem.F.plainAttrs_list PySem.F.slot_list_index PySem.F.type_list_index (ln hu) (nz fun _ _ h=>h) ho ha hb hn hl he hpl
 |get=>exact zp PySem.F.plainAttrs_dict PySem.F.slot_dict_get PySem.F.type_dict_get (qI hu) nh ho ha hb hn hl he hpl
theorem oV{X:Cx}{apos pos:Pos}(hu:X.A.units+64 < cLine)(ho:PE X o (low X.K cls E2 to))
  (hb:attributeBase o (gU b:String) X.env (eval o X.env)=eval o X.env) (hl:(apos.endLine == pos.line)=true) :
  PE X (.Call (.Attribute o (gU b:String) apos) [] [] pos) (low X.K cls E2 fun σ M Q E=>to σ M (fun x M1=>tyB b x M1=true/\rBm b x [] M1 Q) E):=by
 cases b with
 |index=>exact uj PySem.F.plainAttrs_list PySem.F.slot_list_index PySem.F.type_list_index (ln hu) (nz fun _ _ h=>h) ho hb hl
 |get=>exact uj PySem.F.plainAttrs_dict PySem.F.slot_dict_get PySem.F.type_dict_get (qI hu) nh ho hb hl
theorem cF(h:okA (.cons a r) c es=true):∃x xs,es=x::xs/\dE x=true/\okE a c x=true/\okA r c xs=true:=by
 cases es with
 |nil=>simp[okA]at h
 |cons x xs=>
  simp only[okA,Bool.and_eq_true]at h;exact⟨x,xs,rfl,h.1.1,h.1.2,h.2⟩
noncomputable def Ck:IT->Bool
 |.and _ _=>true
 |.or _ _=>true
 |_=>false
section
variable {W:WC}
theorem sG:∀(tg:ITg) {c:Cfg}{e:Expr}{X:Cx}{E2:St->XK},okG c tg e=true->Good c W X E2->PG X e (lq X.K (wpG tg))
 |.name i,c,e,X,E2,h,G=>by
  simp only[okG]at h;split at h
  ·simp only[Bool.and_eq_true]at h;obtain⟨l1,l2⟩:=G.loc h.2;exact wL G.ndX (G.at h.1) l1 l2
  ·cases h
 |.tup is,c,e,X,E2,h,G=>by
  simp only[okG]at h;split at h
  ·simp only[Bool.and_eq_true]at h;exact Ar (G.calm h.1) G.ndX G.fnx (G.names h.2)
  ·cases h
mutual
theorem sE:∀(ie:IE) {c:Cfg}{e:Expr}{X:Cx}{E2:St->XK},okE ie c e=true->Good c W X E2->PE X e (low X.K W.cls E2 (wpE W ie))
 |.var i,c,e,X,E2,h,G=>by
  unfold okE at h;split at h
  ·simp only[Bool.and_eq_true,Bool.not_eq_true']at h;exact ye (G.at h.1.1.1) (G.vis h.1.1.2) h.1.2 h.2
  ·cases h
 |.con d,c,e,X,E2,h,G=>by
  unfold okE at h;split at h
  ·split at h
   ·cases of_decide_eq_true h;exact kj lI fun _=>rfl
   ·cases of_decide_eq_true h;exact kj yP fun _=>rfl
   ·exact kj wp fun _=>rfl
   ·cases of_decide_eq_true h;exact kj pi fun _=>rfl
   ·cases h
  ·cases h
 |.bin op a b,c,e,X,E2,h,G=>by
  unfold okE at h;split at h
  ·simp only[Bool.and_eq_true,decide_eq_true_eq]at h;obtain⟨⟨rfl,h1⟩,h2⟩:=h;exact zR (xr op) (sE a h1 G) (sE b h2 G)
  ·cases h
 |.neg a,c,e,X,E2,h,G=>by
  unfold okE at h;split at h
  ·simp only[Bool.and_eq_true,decide_eq_true_eq]at h;obtain⟨rfl,h1⟩:=h;exact yd (ta:=wpE W a) (r:=rNeg) pz (sE a h1 G)
  ·cases h
 |.cat fz a b,c,e,X,E2,h,G=>by
  unfold okE at h;split at h
  ·simp only[Bool.and_eq_true,decide_eq_true_eq]at h;obtain⟨⟨rfl,h1⟩,h2⟩:=h;exact z9 (sE a h1 G) (sE b h2 G)
  ·cases h
 |.cmp op a b,c,e,X,E2,h,G=>by
  unfold okE at h;split at h
  ·simp only[Bool.and_eq_true,decide_eq_true_eq]at h;obtain⟨⟨⟨rfl,h0⟩,h1⟩,h2⟩:=h;exact yL (dZ G.un op) (sE a h1 G) (sE b h2 G) (gw h0)
  ·cases h
 |.and a b,c,e,X,E2,h,G=>by
  unfold okE at h;split at h
  ·rename_i op x y r p;simp only[Bool.and_eq_true,decide_eq_true_eq]at h;obtain⟨⟨rfl,h1⟩,h2⟩:=h;cases r with
   |nil=>exact t6 (sE a h1 G) (ub (sE b h2 G))
   |cons z r=>exact t6 (sE a h1 G) (sE b h2 G)
  ·cases h
 |.or a b,c,e,X,E2,h,G=>by
  unfold okE at h;split at h
  ·rename_i op x y r p;simp only[Bool.and_eq_true,decide_eq_true_eq]at h;obtain⟨⟨rfl,h1⟩,h2⟩:=h;cases r with
   |nil=>exact yK (sE a h1 G) (ub (sE b h2 G))
   |cons z r=>exact yK (sE a h1 G) (sE b h2 G)
  ·cases h
 |.not a,c,e,X,E2,h,G=>by
  unfold okE at h;split at h
  ·simp only[Bool.and_eq_true,decide_eq_true_eq]at h;obtain⟨rfl,h1⟩:=h;exact zS (sE a h1 G)
  ·cases h
 |.ifx t a b,c,e,X,E2,h,G=>by
  unfold okE at h;split at h
  ·simp only[Bool.and_eq_true]at h;exact CY (sT t h.1.1 G).1 (sE a h.1.2 G) (sE b h.2 G)
  ·cases h
 |.tup es,c,e,X,E2,h,G=>by
  unfold okE at h;split at h
  ·exact zU (sA es h G)
  ·cases h
 |.lst fz es,c,e,X,E2,h,G=>by
  unfold okE at h;split at h
  ·exact yY (sA es h G)
  ·cases h
 |.frz a,c,e,X,E2,h,G=>by
  unfold okE at h;exact yQ (sE a h G)
 |.ix a b,c,e,X,E2,h,G=>by
  unfold okE at h;split at h
  ·simp only[Bool.and_eq_true]at h;exact DG G.un (sE a h.1.2 G) (sE b h.2 G) (rD h.1.1)
  ·cases h
 |.sl fz a lo hi,c,e,X,E2,h,G=>by
  unfold okE at h;split at h
  ·simp only[Bool.and_eq_true]at h;exact Cs (sE a h.1.1 G) (sO lo h.1.2 G) (sO hi h.2 G)
  ·cases h
 |.call f es,c,e,X,E2,h,G=>by
  unfold okE at h;split at h
  ·rename_i x px args pos;simp only[Bool.and_eq_true,Bool.not_eq_true']at h;obtain⟨⟨⟨⟨h0,h1⟩,h2⟩,h3⟩,h4⟩:=h;split at h1
   ·rename_i p hp;simp only[Bool.and_eq_true,decide_eq_true_eq]at h1;obtain⟨h1,_⟩:=h1;obtain⟨p1,p2⟩:=p;cases h1;obtain⟨k,hr,hF⟩:=G.fns h0;obtain⟨fd,ps,sp0,m2,m3,m5⟩:=hF f (List.getElem?_eq_some_iff.mp hp).1;have m1:=G.fnn f x p2 hp;have m4:=hr.mono (Nat.le_succ k);have hA:=sA es h4 G;cases args with
    |nil=>
     cases es with
     |nil=>exact rf m5 m4 (G.gl h2) m1 m2 m3 G.pass h3
     |cons _ _=>simp[okA]at h4
    |cons z zs=>
     cases es with
     |nil=>simp[okA]at h4
     |cons ea er=>
      obtain⟨_,_,e1,n1,_,n3⟩:=cF h4;cases e1;exact xt m5 m4 (G.gl h2) m1 m2 m3 G.pass hA h3 (bL n1) (cH _ n3)
   ·cases h1
  ·cases h
 |.bi b es,c,e,X,E2,h,G=>by
  unfold okE at h;split at h
  ·rename_i x px args pos;simp only[Bool.and_eq_true,decide_eq_true_eq]at h;obtain⟨⟨⟨⟨h0,rfl⟩,h2⟩,h3⟩,h4⟩:=h;have hA:=sA es h4 G;cases args with
   |nil=>cases h3
   |cons z zs=>
    cases es with
    |nil=>simp[okA]at h4
    |cons ea er=>
     obtain⟨_,_,e1,n1,_,n3⟩:=cF h4;cases e1;exact tP G.un (G.calm h0) G.dig (G.gl h2) (G.bi _ (uQ b)) hA (bL n1) (cH _ n3)
  ·cases h
 |.isB a t,c,e,X,E2,h,G=>by
  unfold okE at h;split at h
  ·simp only[Bool.and_eq_true,decide_eq_true_eq]at h;obtain⟨⟨⟨⟨⟨rfl,rfl⟩,h2⟩,h3⟩,h4⟩,h5⟩:=h;exact yZ (sE a h5 G) (G.gl h2) (G.bi _ (by decide +kernel)) (G.gl h3) (G.bi _ (vz t)) (bL h4)
  ·cases h
 |.rev fz a,c,e,X,E2,h,G=>by
  unfold okE at h;split at h
  ·simp only[Bool.and_eq_true,decide_eq_true_eq]at h;obtain⟨⟨rfl,h1⟩,h2⟩:=h;split at h1
   ·cases of_decide_eq_true h1;exact yb (sE a h2 G) (yd (ta:=fun σ M Q E=>Q (.int 1) M) (r:=rNeg) pz (kj lI fun _=>rfl))
   ·cases h1
  ·cases h
 |.dctT a b,c,e,X,E2,h,G=>by
  unfold okE at h;split at h
  ·simp only[Bool.and_eq_true]at h;exact uE G.un (sE a h.1 G) (sE b h.2 G)
  ·cases h
 |.comp fz N js tg it cond elt,c,e,X,E2,h,G=>by
  unfold okE at h;split at h
  ·simp only[Bool.and_eq_true,decide_eq_true_eq]at h;obtain⟨⟨⟨⟨⟨⟨⟨⟨h0,rfl⟩,ht⟩,h1⟩,h2⟩,h3⟩,h4⟩,h5⟩,h6⟩:=h;have hok:=h2;rw[<-G.sc,<-G.N]at hok;exact uX hok (G.calm h0) (sI it h3 G ht) (fun C s2 H2 fp pn=>sG tg h4 (G.comp h2 C s2 H2 fp pn)) (fun C s2 H2 fp pn=>sTO cond h5 (G.comp h2 C s2 H2 fp pn)) (fun C s2 H2 fp pn=>sE elt h6 (G.comp h2 C s2 H2 fp pn)) (mM h1) fz
  ·cases h
 |.lrng fz a,c,e,X,E2,h,G=>by
  unfold okE at h;split at h
  ·simp only[Bool.and_eq_true,decide_eq_true_eq]at h;obtain⟨⟨⟨⟨⟨⟨h0,rfl⟩,rfl⟩,h1⟩,h2⟩,h3⟩,h4⟩:=h;exact vY fz (G.calm h0) (G.gl h1) (G.bi _ (by decide +kernel)) (G.gl h2) (G.bi _ (by decide +kernel)) (sE a h4 G) (bL h3)
  ·cases h
 |.sm a,c,e,X,E2,h,G=>by
  unfold okE at h;split at h
  ·simp only[Bool.and_eq_true,decide_eq_true_eq]at h;obtain⟨⟨⟨⟨h0,rfl⟩,h1⟩,h2⟩,h3⟩:=h;exact CK (G.calm h0) (sE a h3 G) (G.gl h1) (G.bi _ (by decide +kernel)) (bL h2)
  ·cases h
 |.mmz mx a,c,e,X,E2,h,G=>by
  unfold okE at h;split at h
  ·simp only[Bool.and_eq_true,decide_eq_true_eq]at h;obtain⟨⟨⟨⟨⟨⟨h0,rfl⟩,h2⟩,h3⟩,h4⟩,rfl⟩,h6⟩:=h;have hb:X.mg (dN mx:String)=none:=G.bi _ (by cases mx<;>decide +kernel)
   split at h6
   ·simp only[decide_eq_true_eq]at h6;subst h6;exact Ax mx (G.calm h0) (sE a h4 G) (G.gl h2) hb (bL h3)
   ·cases h6
  ·cases h
 |.fld a f,c,e,X,E2,h,G=>by
  unfold okE at h;split at h
  ·simp only[Bool.and_eq_true,decide_eq_true_eq]at h;obtain⟨⟨rfl,h1⟩,h2⟩:=h;exact z7 G.kok (sE a h2 G) (cB h1)
  ·cases h
 |.xfld a f,c,e,X,E2,h,G=>by
  unfold okE at h;split at h
  ·simp only[Bool.and_eq_true,decide_eq_true_eq]at h;obtain⟨⟨rfl,h1⟩,h2⟩:=h;exact wu (fun i hi=>(G.exi i hi).1) G.xn (sE a h2 G) (cB h1)
  ·cases h
 |.make fz i es,c,e,X,E2,h,G=>by
  unfold okE at h;split at h
  ·rename_i x px args pos;simp only[Bool.and_eq_true,Bool.not_eq_true']at h;obtain⟨⟨⟨⟨h0,h1⟩,h2⟩,h3⟩,h4⟩:=h;obtain⟨m1,hi⟩:=G.knm i x (beq_iff_eq.mp h1);obtain⟨k,hr,hF⟩:=G.fns h0;have hA:=sA es h4 G;cases q:W.ini i with
   |none=>exact absurd q (by obtain⟨f,hf⟩:=G.kin i hi;rw[hf];exact fun z=>nomatch z)
   |some f=>
    have F:=hF f (G.kfi i f hi q);cases args with
    |nil=>
     cases es with
     |nil=>exact (sH (B:=W.toWB) (fz:=fz) (G.gl h2) m1 h3 ((G.kok i hi).mkr f q) F hr G.pass).imp fun σ H Q2 hl_=>ex9 hl_ fun σ3 M Q E3 rm ds lk hh back=>⟨σ3,M,Q,E3,rm,ds,lk,by simp only[wpE,wpA,q,dq]at hh;exact hh.2,back⟩
     |cons _ _=>simp[okA]at h4
    |cons z zs=>
     cases es with
     |nil=>simp[okA]at h4
     |cons ea er=>
      obtain⟨_,_,e1,n1,_,n3⟩:=cF h4;cases e1;have hA2:PA X (z::zs) (cT X.K W.cls E2 fun σ M Q E=>wpA W (.cons ea er) σ M (fun xs M1=>i < W.nk/\Q xs M1) E):=hA.imp fun σ H Q2 hl_=>ex9 hl_ fun σ3 M Q E3 rm ds lk hh back=>⟨σ3,M,_,E3,rm,ds,lk,hh,fun vs H' xs M' a b c d=>back vs H' xs M' a b c d.2⟩
      exact (vi (B:=W.toWB) (fz:=fz) (G.gl h2) m1 h3 ((G.kok i hi).mkr f q) F hr G.pass hA2 (bL n1) (cH _ n3)).imp fun σ H Q2 hl_=>ex9 hl_ fun σ3 M Q E3 rm ds lk hh back=>⟨σ3,M,Q,E3,rm,ds,lk,by simp only[wpE,q,dq]at hh;exact hh,back⟩
  ·cases h
 |.meth a m es,c,e,X,E2,h,G=>by
  unfold okE at h;split at h
  ·rename_i x n ap args cp;simp only[Bool.and_eq_true,decide_eq_true_eq]at h;obtain⟨⟨⟨⟨⟨⟨h0,rfl⟩,h1⟩,h2⟩,h3⟩,h4⟩,h5⟩:=h;obtain⟨k,hr,hF⟩:=G.fns h0;have hA:=sA es h5 G;cases args with
   |nil=>
    cases es with
    |nil=>exact rH (B:=W.toWB) G.kok (fun i m f hi q=>hF f (G.kfm i m f hi q)) (hr.mono (Nat.le_succ k)) G.pass (sE a h4 G) (cB h1) h2
    |cons _ _=>simp[okA]at h5
   |cons z zs=>
    cases es with
    |nil=>simp[okA]at h5
    |cons ea er=>
     obtain⟨_,_,e1,n1,_,n3⟩:=cF h5;cases e1;exact wD (B:=W.toWB) G.kok (fun i m f hi q=>hF f (G.kfm i m f hi q)) (hr.mono (Nat.le_succ k)) G.pass (sE a h4 G) hA (cB h1) h2 h3 (bL n1) (cH _ n3)
  ·cases h
 |.bm b o es,c,e,X,E2,h,G=>by
  unfold okE at h;split at h
  ·rename_i x n ap args cp;simp only[Bool.and_eq_true,decide_eq_true_eq]at h;obtain⟨⟨⟨⟨⟨⟨h0,rfl⟩,h1⟩,h2⟩,h3⟩,h4⟩,h5⟩:=h;have hA:=sA es h5 G;cases args with
   |nil=>
    cases es with
    |nil=>exact oV G.un (sE o h4 G) (cB h1) h2
    |cons _ _=>simp[okA]at h5
   |cons z zs=>
    cases es with
    |nil=>simp[okA]at h5
    |cons ea er=>
     obtain⟨_,_,e1,n1,_,n3⟩:=cF h5;cases e1;exact tJ G.un (sE o h4 G) hA (cB h1) h3 h2 (bL n1) (cH _ n3)
  ·cases h
 |.dnew tk,c,e,X,E2,h,G=>by
  unfold okE at h;split at h
  ·exact wA tk
  ·cases h
 |.lrev fz a,c,e,X,E2,h,G=>by
  unfold okE at h;split at h
  ·simp only[Bool.and_eq_true,decide_eq_true_eq]at h;obtain⟨⟨⟨⟨⟨⟨h0,rfl⟩,h1⟩,rfl⟩,h2⟩,h3⟩,h4⟩:=h;exact vh (G.calm h0) (G.gl h1) (G.bi _ (by decide +kernel)) (G.gl h2) (G.bi _ (by decide +kernel)) (sE a h4 G) (bL h3)
  ·cases h
theorem sT:∀(it:IT) {c:Cfg}{e:Expr}{X:Cx}{E2:St->XK},okT it c e=true->Good c W X E2->PT X e (bw X.K W.cls E2 (wpT W it))/\(Ck it=true->PW X e (bw X.K W.cls E2 (wpT W it)))
 |.val a,c,e,X,E2,h,G=>by
  unfold okT at h;simp only[Bool.and_eq_true]at h;exact⟨yE (sE a h.2 G) (nV h.1),fun z=>nomatch z⟩
 |.cmp op a b,c,e,X,E2,h,G=>by
  unfold okT at h;split at h
  ·simp only[Bool.and_eq_true,decide_eq_true_eq]at h;obtain⟨⟨⟨rfl,h0⟩,h1⟩,h2⟩:=h;exact⟨yp (dZ G.un op) (sE a h1 G) (sE b h2 G) (gw h0),fun z=>nomatch z⟩
  ·cases h
 |.chain op1 op2 a b d,c,e,X,E2,h,G=>by
  unfold okT at h;split at h
  ·simp only[Bool.and_eq_true,decide_eq_true_eq]at h;obtain⟨⟨⟨⟨⟨rfl,rfl⟩,h0⟩,h1⟩,h2⟩,h3⟩:=h;exact⟨sy (dZ G.un op1) (dZ G.un op2) (sE a h1 G) (sE b h2 G) (sE d h3 G) (gw h0),fun z=>nomatch z⟩
  ·cases h
 |.chain3 op1 op2 op3 a b d f,c,e,X,E2,h,G=>by
  unfold okT at h;split at h
  ·simp only[Bool.and_eq_true,decide_eq_true_eq]at h;obtain⟨⟨⟨⟨⟨⟨⟨rfl,rfl⟩,rfl⟩,h0⟩,h1⟩,h2⟩,h3⟩,h4⟩:=h;exact⟨qh (dZ G.un op1) (dZ G.un op2) (dZ G.un op3) (sE a h1 G) (sE b h2 G) (sE d h3 G) (sE f h4 G) (gw h0),fun z=>nomatch z⟩
  ·cases h
 |.and a b,c,e,X,E2,h,G=>by
  unfold okT at h;split at h
  ·rename_i op x y r p;simp only[Bool.and_eq_true,decide_eq_true_eq]at h;obtain⟨⟨rfl,h1⟩,h2⟩:=h;have hA:=(sT a h1 G).1;cases r with
   |nil=>exact⟨(nt hA (mR (sT b h2 G).1)).pt,fun _=>nt hA (mR (sT b h2 G).1)⟩
   |cons z r=>
    have hB:=(sT b h2 G).2;cases b with
    |and b1 b2=>exact⟨(nt hA (hB rfl)).pt,fun _=>nt hA (hB rfl)⟩
    |val b1=>simp[okT,nr]at h2
    |cmp=>simp[okT]at h2
    |chain=>simp[okT]at h2
    |chain3=>simp[okT]at h2
    |or=>simp[okT]at h2
    |not=>simp[okT]at h2
  ·cases h
 |.or a b,c,e,X,E2,h,G=>by
  unfold okT at h;split at h
  ·rename_i op x y r p;simp only[Bool.and_eq_true,decide_eq_true_eq]at h;obtain⟨⟨rfl,h1⟩,h2⟩:=h;have hA:=(sT a h1 G).1;cases r with
   |nil=>exact⟨(rY hA (oJ (sT b h2 G).1)).pt,fun _=>rY hA (oJ (sT b h2 G).1)⟩
   |cons z r=>
    have hB:=(sT b h2 G).2;cases b with
    |or b1 b2=>exact⟨(rY hA (hB rfl)).pt,fun _=>rY hA (hB rfl)⟩
    |val b1=>simp[okT,nr]at h2
    |cmp=>simp[okT]at h2
    |chain=>simp[okT]at h2
    |chain3=>simp[okT]at h2
    |and=>simp[okT]at h2
    |not=>simp[okT]at h2
  ·cases h
 |.not a,c,e,X,E2,h,G=>by
  unfold okT at h;split at h
  ·simp only[Bool.and_eq_true,decide_eq_true_eq]at h;obtain⟨rfl,h1⟩:=h;exact⟨yn (sT a h1 G).1,fun z=>nomatch z⟩
  ·cases h
theorem sA:∀(ia:IA) {c:Cfg}{es:List Expr}{X:Cx}{E2:St->XK},okA ia c es=true->Good c W X E2->PA X es (cT X.K W.cls E2 (wpA W ia))
 |.nil,c,es,X,E2,h,G=>by
  simp only[okA]at h;cases es with
  |nil=>exact zC
  |cons _ _=>cases h
 |.cons a r,c,es,X,E2,h,G=>by
  obtain⟨x,xs,rfl,h1,h2,h3⟩:=cF h;exact xM (sE a h2 G) (sA r h3 G) (bL h1)
theorem sO:∀(io:IO) {c:Cfg}{o:Option Expr}{X:Cx}{E2:St->XK},okO io c o=true->Good c W X E2->PO X o (n8 X.K W.cls E2 (wpO W io))
 |.no,c,o,X,E2,h,G=>by
  simp only[okO]at h;cases o with
  |none=>exact C3
  |some _=>cases h
 |.yes a,c,o,X,E2,h,G=>by
  cases o with
  |none=>simp[okO]at h
  |some x=>
   simp only[okO]at h;exact zA (sE a h G)
theorem sTO:∀(io:ITO) {c:Cfg}{es:List Expr}{X:Cx}{E2:St->XK},rG io c es=true->Good c W X E2->PIf X es (bw X.K W.cls E2 (gW W io))
 |.no,c,es,X,E2,h,G=>by
  simp only[rG]at h;cases es with
  |nil=>exact fun pins s σ H Q2 I ⟨σ3,M,Q,E3,rm,ds,lk,h,back⟩=>rQ pins s σ H Q2 I (back _ _ _ rm (.refl _) h)
  |cons _ _=>cases h
 |.yes t,c,es,X,E2,h,G=>by
  unfold rG at h;split at h
  ·exact rN (sT t h G).1
  ·cases h
theorem sI:∀(ii:II) {c:Cfg}{e:Expr}{X:Cx}{E2:St->XK}{tg:Expr},okI ii c e=true->Good c W X E2->wT ii tg=true->PI X tg e (nK X.K W.cls E2 (wpI W ii))
 |.seq a,c,e,X,E2,tg,h,G,_=>by
  unfold okI at h;exact yM (sE a h G)
 |.rng1 a,c,e,X,E2,tg,h,G,_=>by
  unfold okI at h;split at h
  ·simp only[Bool.and_eq_true,decide_eq_true_eq]at h;obtain⟨⟨⟨rfl,h1⟩,h2⟩,h3⟩:=h;exact DK (G.gl h1) (G.bi _ (by decide +kernel)) (sE a h3 G) (bL h2)
  ·cases h
end
end
end L2
namespace L2
open PySem PySem.Spec PyProof.Rows
theorem pv{X:Cx}(G:Good c W X E2){pos px spos:Pos}(h:swB c scope x px.line pos.line=true) :
  swapsWith (.ListComp el gs scope pos) (some (.Name x px)) spos.line X.env=pure true:=by
 unfold swB at h;simp only[Bool.and_eq_true]at h;have h1:X.env.scope.kind=.function:=by rw[G.sc];exact beq_iff_eq.mp h.1.1.1
 have h2:X.env.kindOf x=some .local:=by show X.env.scope.names.lookup x=_;rw[G.sc];exact beq_iff_eq.mp h.1.1.2
 have hb:(X.env.blockKind == .function)=true:=by
  unfold Env.blockKind;rw[h1];rfl
 show (pure (X.env.blockKind == .function&&X.env.kindOf x == some .local&&px.line == pos.line&&!(scope.names.any fun (n,k)=>n == x&&(k == .local||k == .cell))):Sem Bool)=pure true
 rw[hb,h2,h.1.2,h.2];rfl
theorem uI{c:Cfg}{X:Cx}(G:Good c W X E2){spos:Pos}(h:(c.sc.names.lookup x == some .cell)=true) :
  swapsWith (.ListComp el gs scope pos) (some (.Name x px)) spos.line X.env=pure false:=by
 have h2:X.env.kindOf x=some .cell:=by show X.env.scope.names.lookup x=_;rw[G.sc];exact beq_iff_eq.mp h
 show (pure (X.env.blockKind == .function&&X.env.kindOf x == some .local&&px.line == pos.line&&!(scope.names.any fun (n,k)=>n == x&&(k == .local||k == .cell))):Sem Bool)=pure false
 rw[h2,show ((some NameKind.cell:Option NameKind) == some .local)=false from rfl,Bool.and_false];rfl
theorem rB{c:Cfg}(h:swB c scope x a b=true):c.sc.names.lookup x=some .local:=by
 unfold swB at h;simp only[Bool.and_eq_true,beq_iff_eq]at h;exact h.1.1.2
section
variable {W:WC}
theorem qS{fz:Bool}{N:List Str}{js:List (Option Nat)}{tg:ITg}{it:II}{cond:ITO}{elt:IE}{c:Cfg}{X:Cx}{E2:St->XK}{i:Nat}{x:Str}{px spos pos:Pos}{el:Expr}{gs:List Comprehension}{scope:Scope}
  (h:okE (.comp fz N js tg it cond elt) c (.ListComp el gs scope pos)=true) (hi:(c.N[i]? == some x)=true) (hsw:swB c scope x px.line pos.line=true) (G:Good c W X E2) :
  PS X (.Assign [.Name x px] (.ListComp el gs scope pos) spos) (aP X.K W.cls E2 (wpS W (.set i (.comp fz N js tg it cond elt)))):=by
 have sp:=pv (spos:=spos) (el:=el) (gs:=gs) G hsw;unfold okE at h;split at h
 ·rename_i el' tgE iter ifs as scope' pos' heq;cases heq;simp only[Bool.and_eq_true,decide_eq_true_eq]at h;obtain⟨⟨⟨⟨⟨⟨⟨⟨h0,rfl⟩,ht⟩,h1⟩,h2⟩,h3⟩,h4⟩,h5⟩,h6⟩:=h;have hok:=h2;rw[<-G.sc,<-G.N]at hok;exact lV hok (G.calm h0) (sI it h3 G ht) (fun C s2 H2 fp pn=>sG tg h4 (G.comp h2 C s2 H2 fp pn)) (fun C s2 H2 fp pn=>sTO cond h5 (G.comp h2 C s2 H2 fp pn)) (fun C s2 H2 fp pn=>sE elt h6 (G.comp h2 C s2 H2 fp pn)) (mM h1) G.ndX (G.at hi) (by rw[G.sc];exact rB hsw) sp fz
 ·cases h
mutual
theorem sS:∀(is:IS) {c:Cfg}{s:Stmt}{X:Cx}{E2:St->XK},okS is c s=true->Good c W X E2->PS X s (aP X.K W.cls E2 (wpS W is))
 |.set i a,c,s,X,E2,h,G=>by
  unfold okS at h;split at h
  ·simp only[Bool.and_eq_true,Bool.or_eq_true]at h;obtain⟨⟨⟨h1,h2⟩,h3⟩,h4⟩:=h;obtain⟨l1,l2⟩:=G.loc h2;rcases h4 with h4|h4
   ·exact ua G.ndX (G.at h1) l1 (sE a h3 G) (jF h4) l2
   ·split at h4
    ·rcases Bool.or_eq_true_iff.mp h4 with h4|h4
     ·exact qS h3 h1 h4 G
     ·exact ua G.ndX (G.at h1) l1 (sE _ h3 G) (uI G h4) l2
    ·cases h4
  ·cases h
 |.expr a,c,s,X,E2,h,G=>by
  unfold okS at h;split at h
  ·simp only[Bool.and_eq_true]at h;exact ww (sE a h.2 G) (jF h.1)
  ·cases h
 |.ret a,c,s,X,E2,h,G=>by
  unfold okS at h;split at h
  ·exact zf (sE a h G)
  ·cases h
 |.retN,c,s,X,E2,h,G=>by
  unfold okS at h;split at h
  ·exact vP
  ·cases h
 |.dead,c,s,X,E2,h,G=>vy
 |.ifs t a b,c,s,X,E2,h,G=>by
  unfold okS at h;split at h
  ·simp only[Bool.and_eq_true]at h;exact B2 (sT t h.1.1 G).1 (sSs a h.1.2 G) (sSs b h.2 G)
  ·cases h
 |.for_ tg it body,c,s,X,E2,h,G=>by
  unfold okS at h;split at h
  ·simp only[Bool.and_eq_true]at h;obtain⟨⟨⟨⟨⟨⟨h1,ht⟩,h2⟩,h3⟩,h4⟩,h5⟩,h6⟩:=h;exact zG (G.own h1).1 (G.calm h2) (sI it h5 G ht) (sG tg h4 G) (sSs body h6 G) (mM h3)
  ·cases h
 |.forK tg o body,c,s,X,E2,h,G=>by
  unfold okS at h;split at h
  ·simp only[Bool.and_eq_true]at h;obtain⟨⟨⟨⟨⟨h1,h2⟩,h3⟩,h4⟩,h5⟩,h6⟩:=h;exact uT (G.own h1).1 (G.calm h2) (sE o h5 G) (sG tg h4 G) (sSs body h6 G) (mM h3)
  ·cases h
 |.forD tg o body,c,s,X,E2,h,G=>by
  unfold okS at h;split at h
  ·simp only[Bool.and_eq_true,decide_eq_true_eq]at h;obtain⟨⟨⟨⟨⟨⟨⟨h1,h2⟩,rfl⟩,h3⟩,h4⟩,h5⟩,h6⟩,h7⟩:=h;exact xN (G.own h1).1 (G.calm h2) (sE o h6 G) (cB h3) h4 (sG tg h5 G) (sSs body h7 G) (fun _=>rfl)
  ·cases h
 |.whl t body,c,s,X,E2,h,G=>by
  unfold okS at h;split at h
  ·simp only[Bool.and_eq_true]at h;exact sP (G.own h.1.1).1 (sT t h.1.2 G).1 (sSs body h.2 G)
  ·cases h
 |.raiseI k es,c,s,X,E2,h,G=>by
  unfold okS at h;split at h
  ·rename_i x px args cp pos;simp only[Bool.and_eq_true,Bool.not_eq_true']at h;obtain⟨⟨⟨⟨⟨⟨⟨h0,h1⟩,h2⟩,h3⟩,h4⟩,h5⟩,h6⟩,h7⟩:=h;obtain⟨_,E,hE,hR,hRD,hr2⟩:=G.own h1;obtain⟨m1,_,_⟩:=G.exc k x (beq_iff_eq.mp h3);obtain⟨f,hf⟩:=Option.isSome_iff_exists.mp h0;obtain⟨hxf,fI,fd,ps,xi,bd,F⟩:=G.xi k f hf;have hA:=sA (W:=W) es h7 G;cases args with
   |nil=>cases h6
   |cons z zs=>
    cases es with
    |nil=>simp[okA]at h7
    |cons ea er=>
     obtain⟨_,_,e1,n1,_,n3⟩:=cF h7;cases e1;exact qN hRD hE (G.calm h2) (G.gl h4) m1 xi F hr2 bd hxf hA h5 (bL n1) (cH _ n3)
  ·cases h
 |.try_ body hs,c,s,X,E2,h,G=>by
  unfold okS at h;split at h
  ·rename_i b handlers pos;simp only[Bool.and_eq_true]at h;obtain⟨⟨⟨h1,h2⟩,h3⟩,h4⟩:=h;obtain⟨t1,t2,t3⟩:=G.tr h1;have hH:=sHs hs h4 G;cases handlers with
   |nil=>cases h2
   |cons h0 hr=>exact zt t1 t2 t3 hH fun pn V' E2' hP=>sSs body h3 (G.trying hP)
  ·cases h
 |.app o a,c,s,X,E2,h,G=>by
  unfold okS at h;split at h
  ·simp only[Bool.and_eq_true,decide_eq_true_eq]at h;obtain⟨⟨⟨⟨⟨rfl,h1⟩,h2⟩,h3⟩,h4⟩,h5⟩:=h;exact Av (sE o h4 G) (sE a h5 G) (xg h1) h2 (bL h3)
  ·cases h
 |.del i,c,s,X,E2,h,G=>by
  unfold okS at h;cases h
 |.fset o f a,c,s,X,E2,h,G=>by
  unfold okS at h;split at h
  ·simp only[Bool.and_eq_true,decide_eq_true_eq]at h;obtain⟨⟨⟨rfl,h1⟩,h2⟩,h3⟩:=h;exact wJ (B:=W.toWB) G.kok (sE o h2 G) (sE a h3 G) (jF h1)
  ·cases h
 |.ixset o i a,c,s,X,E2,h,G=>by
  unfold okS at h;split at h
  ·simp only[Bool.and_eq_true]at h;obtain⟨⟨⟨⟨h0,h1⟩,h2⟩,h3⟩,h4⟩:=h;exact sF G.un (sE o h2 G) (sE i h3 G) (sE a h4 G) (uz h0) (by unfold swapsWithSole;exact jF h1) (by rfl) (by rfl)
  ·cases h
theorem sSs:∀(is:ISs) {c:Cfg}{sts:List Stmt}{X:Cx}{E2:St->XK},eo is c sts=true->Good c W X E2->PSs X sts (aP X.K W.cls E2 (aq W is))
 |.nil,c,sts,X,E2,h,G=>by
  simp only[eo]at h;cases sts with
  |nil=>exact Ae
  |cons _ _=>cases h
 |.cons s r,c,sts,X,E2,h,G=>by
  unfold eo at h;split at h
  ·exact zq (sSs r h G)
  ·split at h
   ·simp only[Bool.and_eq_true]at h;exact xq (t:=wpS W s) (u:=aq W r) (sS s h.1 G) (sSs r h.2 G)
   ·cases h
theorem sHs:∀(ih:IHs) {c:Cfg}{hs:List ExceptHandler}{X:Cx}{E2:St->XK},pE ih c hs=true->Good c W X E2->PH X hs (lX X.K W.cls (wpH W ih))
 |.nil,c,hs,X,E2,h,G=>by
  simp only[pE]at h;cases hs with
  |nil=>exact vj
  |cons _ _=>cases h
 |.cons k nm body r,c,hs,X,E2,h,G=>by
  unfold pE at h;split at h
  ·rename_i x px nmE bodyE hp rest;simp only[Bool.and_eq_true,Bool.not_eq_true']at h;obtain⟨⟨⟨⟨⟨⟨h1,h2⟩,h3⟩,h4⟩,h5⟩,h6⟩,h7⟩:=h;obtain⟨m1,m2,m3⟩:=G.exc k x (beq_iff_eq.mp h1);have hB:=fun v=>sSs body h6 (G.caught v)
   have hR:=sHs r h7 G;cases bodyE with
   |nil=>cases h5
   |cons b0 suite=>
    cases nm with
    |none=>
     cases nmE with
     |none=>exact Ao (G.gl h2) m1 m3 hB hR h3
     |some n=>cases h4
    |some j=>
     cases nmE with
     |none=>cases h4
     |some n=>
      simp only[Bool.and_eq_true,beq_iff_eq]at h4;exact yf (G.gl h2) m1 m3 G.ndX (by rw[G.N];exact h4.1) (by rw[G.sc];exact h4.2) hB hR h3
  ·cases h
end
end
end L2
namespace L2
open PySem PySem.Spec PyProof.Rows
theorem bH:∀{l:List (Nat×Nat)}{m f:Nat},l.lookup m=some f->(m,f)∈l
 |[],_,_,h=>by cases h
 |(a,b)::r,m,f,h=>by
  rw[List.lookup_cons]at h;by_cases e:m=a
  ·subst e;simp at h;subst h;exact List.mem_cons_self
  ·have:(m == a)=false:=by simpa using e
   rw[this]at h;exact List.mem_cons_of_mem _ (bH h)
theorem ixc{α:Type}{P:Nat->α->Prop}{a:α}{r:List α}(h0:P 0 a)(hr:∀i x,r[i]?=some x->P (i+1) x):∀i x,(a::r)[i]?=some x->P i x
 |0,x,h=>by cases h;exact h0
 |i+1,x,h=>hr i x h
theorem ixn{α:Type}{P:Nat->α->Prop}:∀i x,([]:List α)[i]?=some x->P i x:=fun i x h=>by simp at h
theorem us0{P:List Value->Prop}(h:P []):∀us:List Value,us.length=0->P us:=fun us e=>(List.eq_nil_of_length_eq_zero e)▸h
theorem usS{n:Nat}{P:List Value->Prop}(h:∀a,∀us:List Value,us.length=n->P (a::us)):∀us:List Value,us.length=n+1->P us:=fun us e=>by
 cases us with
 |nil=>cases e
 |cons a r=>exact h a r (Nat.succ.inj e)
structure FB where
 np:Nat
 nl:Nat
 cl:Bool
 body:ISs
 df:List Int:=[]
noncomputable def FB.full(fb:FB)(ds:List D):List D:=ds++(fb.df.drop (ds.length+fb.df.length - fb.np)).map D.int
noncomputable def lG(nl:Nat)(ds:List D):St3:=ds.map some++List.replicate (nl - ds.length) none
noncomputable def ad(T:List FB)(B:WB):Nat->Nat->List D->MH->VK3->XN->Prop
 |0,_,_,_,_,_=>False
 |n+1,f,ds,M,Q,E=>match T[f]? with
  |none=>False
  |some fb=>(fb.full ds).length=fb.np/\aq {toWB:=B,call:=ad T B n} fb.body {nx:=fun _ M'=>Q .non (kp fb.cl M M'),rt:=fun v M'=>Q v (kp fb.cl M M')} (fun _ i M'=>E i (ah M M')) (lG fb.nl (fb.full ds)) M
structure FL where
 name:Str
 qual:Str
 glob:Bool
 cl:Bool
 st:Stmt
 N:List Str
 ps:List Str
 body:ISs
 gn:Str:=name
 df:List Int:=[]
noncomputable def jI(N ps:List Str)(sc:Scope):Bool:=(sc.kind == .function)&&!sc.isCoroutine&&!sc.isGenerator&&decide N.Nodup&&(N.take ps.length == ps)&&
 ps.all (fun x=>sc.names.lookup x == some .local||sc.names.lookup x == some .cell)&&sc.names.all (fun y=>y.2 != .free)
theorem i5(h:jI N ps sc=true):FnScope N ps sc:=by
 unfold jI at h;simp only[Bool.and_eq_true,Bool.not_eq_true',beq_iff_eq,decide_eq_true_eq,List.all_eq_true,Bool.or_eq_true,bne_iff_ne]at h;obtain⟨⟨⟨⟨⟨⟨h1,h2⟩,h3⟩,h4⟩,h5⟩,h6⟩,h7⟩:=h;exact⟨h1,h2,h3,h4,h5,h6,h7⟩
structure NM where
 exc:List Str
 kln:List Str
 gln:List Str
 xin:List (Nat×Nat)
noncomputable def FL.cfg(l:FL)(fns:List (Option Str×Nat))(n:NM):Cfg:={N:=l.N,sc:=ar l.st,fns:=fns,exc:=n.exc,kln:=n.kln,gln:=n.gln,xin:=n.xin,calm:=true,own:=true,tr:=true,fn:=true}
noncomputable def FL.fb(l:FL):FB:=⟨l.ps.length,l.N.length,l.cl,l.body,l.df⟩
noncomputable def FL.ok(l:FL)(fns:List (Option Str×Nat))(n:NM):Bool:=jI l.N l.ps (ar l.st)&&eo l.body (l.cfg fns n) (aL l.st)
noncomputable def dH(L:List FL):List (Option Str×Nat):=L.map fun l=>(if l.glob=true then some l.gn else none,l.ps.length)
structure FunD (K:PySem.W.Frag)(x qual:Str)(st:Stmt)(f:Addr)(fd:FuncData):Prop where
 ex:∃(oc:Value) (od:Option Addr) (dV kV doc pm:Value) (an:Option Addr) (cdv ct:Value) (osl:Array (Option Value)),
  fd=PySem.W.fnOf x qual (ba st) (aL st) (ar st) dV kV doc pm an cdv ct/\K.lookup f=some ⟨oc,od,.func fd,osl⟩/\PySem.W.codeIn K cdv qual=true
 kp:PySem.W.keepIn K (.ref f)=true
structure Top (K:PySem.W.Frag)(mg:Str->Option Value)(L:List FL)(n:NM)(B:WB):Prop where
 ok:∀l∈L,l.ok (dH L) n=true
 fn:∀f l,L[f]?=some l->∃fd,FunD K l.name l.qual l.st (B.fad f) fd/\(l.glob=true->mg l.gn=some (.ref (B.fad f)))/\(l.df=[]->∀us:List Value,us.length=l.ps.length->bindArgs fd ⟨us,[]⟩=pure (l.ps.zip us))/\∃dv,Vals (l.df.map V.int) dv/\∀j,Binds K fd l.ps (dv.drop j)
 exi:∀i,i < B.ne->ExcI K (B.cls i)/\PySem.W.kitOne K (.ref (B.cls i)) (.type "ValueError")=some true/\∀j x,n.exc[j]?=some x->PySem.W.kitOne K (.ref (B.cls i)) (.ref (B.cls j))=some (B.sub i j)
 exc:∀i x,n.exc[i]?=some x->mg x=some (.ref (B.cls i))/\(n.xin.lookup i=none->zQ K (B.cls i))/\∀j,j < B.ne->PySem.W.exmOne K (.ref (B.cls j)) (.ref (B.cls i))=some (B.sub j i)
 kok:∀i,i < B.nk->KOk K B B.fad i
 kin:∀i,i < B.nk->∃f,B.ini i=some f
 kfi:∀i f,i < B.nk->B.ini i=some f->f < L.length
 kfm:∀i m f,i < B.nk->B.mth i m=some f->f < L.length
 knm:∀i x,n.kln[i]?=some x->mg x=some (.ref (B.kls i))/\i < B.nk
 glo:∀k x,n.gln[k]?=some x->∃u v,mg x=some u/\RelV v u/\∀H,Den K H (B.glo k) v
 bi:∀x∈biNames,mg x=none
 dig:vR K
 xi:∀i f,n.xin.lookup i=some f->B.xin i=some f/\∃fI fd ps,XIni K (B.cls i) fI (fnm f)/\Binds K fd ps []/\∀(P:Program)(w:World)(base:Heap),FnOk P w K mg base (CX1 P w) 1 fI fd ps (fM (cpF f) K (B.cls i) (fnm f))
 xn:∀i f,i < B.ne->B.xin i=some f->NoAttr K (B.cls i) (fnm f)
section
variable {w:World}{K:PySem.W.Frag}{L:List FL}{B:WB}
noncomputable def spF(K:PySem.W.Frag)(cls:Nat->Addr)(l:FL)(t3:List D->MH->VK3->XN->Prop):Sp:=fun vs H Q E=>vs.length=l.ps.length/\spX K cls t3 vs H Q E
theorem FB.full_at{fb:FB}{ds:List D}(h:ds.length=fb.np):fb.full ds=ds:=by
 unfold FB.full;rw[List.drop_of_length_le (by omega),List.map_nil,List.append_nil]
theorem jf:∀{vs:List V}{us:List Value} (j:Nat),Vals vs us->Vals (vs.drop j) (us.drop j)
 |_,_,0,h=>h
 |_,_,_+1,.nil=>.nil
 |_,_,j+1,.cons _ h=>jf j h
theorem Aq{l:FL}(hl:L[f]?=some l){dv:List Value}(hv:Vals (l.df.map V.int) dv)(hb:∀j,Binds K fd l.ps (dv.drop j)):BdT K B.cls fd l.ps (ad (L.map FL.fb) B n f) (spF K B.cls l (ad (L.map FL.fb) B n f)):=by
 rintro vs H Q E ⟨ds,M,Q3,E3,dl,rm,h,back,lk⟩;cases n with
 |zero=>exact h.elim
 |succ n=>
  have hT:(L.map FL.fb)[f]?=some l.fb:=by rw[List.getElem?_map,hl];rfl
  have h0:=h;simp only[ad,hT]at h0;have e:=h0.1;have hlen:=dl.length;refine⟨(l.df.map V.int).drop (ds.length+l.df.length - l.ps.length),dv.drop (ds.length+l.df.length - l.ps.length),jf _ hv,hb _,?_,?_⟩
  ·have e2:(l.fb.full ds).length=l.ps.length:=e;unfold FB.full at e2;rw[List.length_append,List.length_map]at e2;rw[List.length_append,List.length_drop,List.length_map,<-hlen];rw[List.length_drop]at e2;exact e2
  ·refine⟨l.fb.full ds,M,Q3,E3,?_,rm,?_,back,lk⟩
   ·unfold FB.full;rw[<-List.map_drop];exact dl.append DenL.of_int
   ·simp only[ad,hT];rw[FB.full_at e];exact h0
theorem qj(T:Top K mg L nm B):∀(n f:Nat)(l:FL),L[f]?=some l->∀(fd:FuncData),FunD K l.name l.qual l.st (B.fad f) fd->FnOk P w K mg base (CX1 P w) (2 * n+2) (B.fad f) fd l.ps (spF K B.cls l (ad (L.map FL.fb) B n f)):=by
 intro n
 induction n with
 |zero=>
  intro f l hl fd F;exact⟨fun vs H Q E h=>h.1,fun A outer s H args us vs Q E hr e0 hb r ⟨_,_,_,_,_,_,_,h,_⟩=>h.elim⟩
 |succ n ih=>
  intro f l hl fd F;have hT:(L.map FL.fb)[f]?=some l.fb:=by rw[List.getElem?_map,hl];rfl
  have hm:l∈L:=List.mem_of_getElem? hl;have okl:=T.ok l hm;unfold FL.ok at okl;rw[Bool.and_eq_true]at okl;have S:=i5 okl.1;obtain⟨oc,od,dV,kV,doc,pm,an,cdv,ct,osl,rfl,lk,hcd⟩:=F.ex;have un:∀ds M Q E,ad (L.map FL.fb) B (n+1) f ds M Q E->ds.length=l.ps.length->aq {toWB:=B,call:=ad (L.map FL.fb) B n} l.body {nx:=fun _ M'=>Q .non (kp l.cl M M'),rt:=fun v M'=>Q v (kp l.cl M M')} (fun _ i M'=>E i (ah M M')) (lG l.N.length ds) M:=fun ds M Q E h e=>by
   simp only[ad,hT]at h;rw[FB.full_at (fb:=l.fb) e]at h;exact h.2
  show FnOk P w K mg base (CX1 P w) (2 * n+3+1) _ _ _ _;refine qB lk hcd S (fun vs H Q E h=>?_) fun A outer s H vs Q E hr hsp=>?_
  ·exact h.1
  ·obtain⟨hle,ds,M,Q3,E3,dl,rm,h,back,lkE⟩:=hsp;have h:=un _ _ _ _ h (by rw[dl.length];exact hle)
   have len:(dH L).length=L.length:=by unfold dH;rw[List.length_map]
   have G:Good (l.cfg (dH L) nm) {toWB:=B,call:=ad (L.map FL.fb) B n} (bC (CX1 P w) P w K mg base l.N l.qual (ar l.st) (B.fad f) cdv A outer s H E) (fun _=>E):=by
    refine⟨rfl,S.nd,rfl,hr.units,fun _=>rfl,fun _ _=>rfl,(fun _ z=>nomatch z),fun _=>⟨CD,E,rfl,rP,oQ,hr.mono (by omega)⟩,fun _=>⟨rfl,rfl,rfl⟩,fun _=>⟨2 * n+2,hr,fun g hg=>?_⟩,fun g x k hg=>?_,T.kok,T.kin,fun i g hi q=>?_,fun i m g hi q=>?_,T.knm,T.glo,T.exc,T.exi,(fun i f hi=>?_),T.xn,T.bi,T.dig,fun pins σ H' s' e s'' I hc=>yz pins σ H' s' e s'' I hc⟩
    ·have hg:g < (dH L).length:=hg;rw[len]at hg;obtain⟨fd2,F2,_,_,dv2,v2,b2⟩:=T.fn g L[g] (by simp[hg])
     exact⟨fd2,_,_,F2.kp,Aq (by simp[hg]) v2 b2,ih g L[g] (by simp[hg]) fd2 F2⟩
    ·have hg:(dH L)[g]?=some (some x,k):=hg;unfold dH at hg;rw[List.getElem?_map]at hg;cases q:L[g]? with
     |none=>rw[q]at hg;cases hg
     |some l2=>
      rw[q]at hg;obtain⟨fd2,F2,m2,_⟩:=T.fn g l2 q;have e:((if l2.glob=true then some l2.gn else none),l2.ps.length)=(some x,k):=Option.some.inj hg
      by_cases z:l2.glob=true
      ·rw[if_pos z]at e;cases e;exact m2 z
      ·rw[if_neg z]at e;cases e
    ·show g < (dH L).length;rw[len];exact T.kfi i g hi q
    ·show g < (dH L).length;rw[len];exact T.kfm i m g hi q
    ·obtain⟨a,fI,fd3,ps3,x3,b3,F3⟩:=T.xi i f hi;exact⟨a,fI,fd3,ps3,x3,b3,F3 P w base⟩
   exact⟨_,sSs l.body okl.2 G,lG l.N.length ds,M,_,_,rm,ml dl,fun σ3 σ i M' H' t _ rm' q dx xd=>lkE i _ H' t (rm'.sub fun _ _ z=>jj z) q dx xd,h,
    ⟨fun σ' H' σ3' M' rm' ds' tm q=>back _ _ _ _ pH (rm'.sub fun _ _ z=>pq z) tm q,fun v H' d M' dv rm' tm q=>back _ _ _ _ dv (rm'.sub fun _ _ z=>pq z) tm q,fun _ _ _ _ _ _ _ z=>z.elim,fun _ _ _ _ _ _ _ z=>z.elim⟩⟩
end
noncomputable abbrev scr(ns:List Int):D:=.rol (ns.map D.int)
theorem walkD{l:PySem.W.OpenLaw}{k f:Nat}{q:Program}{loose:List Str}{XP:(Str->Option Value)->Heap->Prop}{YP:World->Heap->Prop}{d:DefRec}{K:Params->PySem.W.Frag}{fl:FL}{x:Str}{L:List FL}{nm:NM}{BB:(Nat->Addr)->(Nat->Addr)->(Nat->Addr)->WB}
  (hn:l.most=some 63) (hdf:d.params.defaults=[]) (hr:Room (2 * k+2) callerA) (hY:∀(w:World)(h:Heap),YP w h->(K w.params).In h) (hf:L[f]?=some fl) (hps:fl.ps=[x]) (hname:fl.gn=d.name) (hgl:fl.glob=true)
  (T:∀(w:World)(mg:Str->Option Value)(h:Heap),(K w.params).In h->h.Ns mainGlobals mg->∃cls kls fad,Top (K w.params) mg L nm (BB cls kls fad))
  (main:∀(cls kls fad:Nat->Addr)(ns:List Int),ns.length<=63->ad (L.map FL.fb) (BB cls kls fad) k f [scr ns] (fun _=>none) (fun d _=>d=.bl true) (fun _ _=>False)) (hd0:fl.df=[]:=by rfl) :
  PySem.W.WalkO q loose XP YP l.row.toRowW d [] (fun f vs=>PySem.call f vs):=by
 refine Att.attach_call hn hdf fun w s₀ s₁ mg mb fa o pm cd doc a vs ns G Y ho hd hcd hmg hobj hints hlen hg=>?_
 have KX:=hY w _ Y;obtain⟨cls,kls,fad,T⟩:=T w mg _ KX G.T.g;obtain⟨fd,F,m1,b1,_⟩:=T.fn f fl hf;have m1:=m1 hgl;rw[hname,hmg]at m1;have m1:=Value.ref.inj (Option.some.inj m1);subst m1;refine qH (K:=K w.params) (CX:=CX1 l.prog w) (fd:=fd) (x:=x) (sp:=spF (K w.params) (BB cls kls fad).cls fl (ad (L.map FL.fb) (BB cls kls fad) k f)) KX G.T.g G.T.b G.T.builtins G.T.nolimit hg hobj hints (Nat.le_trans hlen (by decide)) hr (fun base kb gb=>by rw[<-hps];exact qj T k f fl hf fd F) (fun s u=>?_) (fun H hO hS=>?_) fun H e s' h=>?_
 ·have hb:=b1 hd0 [u] (by rw[hps];rfl)
  rw[hps]at hb;exact .of_eq hb
 ·have sq:SqF (K w.params) H a (ns.map V.int):=by
   cases hk:(K w.params).lookup a with
   |some ob=>
    have e:=KX a ob hk;rw[hobj]at e;cases e;exact .inr ⟨vs,_,hk,by rw[hints.length];exact Nat.le_trans hlen (by decide),fh hints⟩
   |none=>
    rcases hS with (h|⟨ob,h⟩)|⟨ob,_,_,h,_⟩
    ·rcases hO a with z|⟨o2,xs,z⟩
     ·rw[h]at z;cases z
     ·rw[h]at z;cases z
    ·exact .inl ⟨ob,h⟩
    ·rw[hk]at h;cases h
  refine⟨by rw[hps];rfl,[scr ns],fun _=>none,fun d _=>d=.bl true,fun _ _=>False,.one ⟨a,_,rfl,sq,.of_int⟩,fun a o e=>(by cases e),main cls kls fad ns hlen,fun v H' d M' dv _ _ q=>?_,fun _ _ _ _ _ h=>h.elim⟩
  subst q;exact dv
 ·obtain⟨_,_,_,_,_,_,_,_,_,_,_,_,_,he⟩:=h;exact he
theorem Fun.bindsE{K:PySem.W.Frag}{st:Stmt}{ps:List Str}(F:Fun K x qual st f fd)
  (h:∀(kV doc pm:Value)(an:Option Addr)(cdv ct:Value)(us:List Value),us.length=ps.length->bindArgs (PySem.W.fnOf x qual (ba st) (aL st) (ar st) .none kV doc pm an cdv ct) ⟨us,[]⟩=pure (ps.zip us)):∀us:List Value,us.length=ps.length->bindArgs fd ⟨us,[]⟩=pure (ps.zip us):=by
 obtain⟨oc,od,kV,doc,pm,an,cdv,ct,osl,rfl,lk,hcd⟩:=F.ex;exact h kV doc pm an cdv ct
noncomputable def pD(sl pr b:Str)(sc:Scope)(ap cp:Pos):Bool:=(ap.endLine == cp.line)&&(sc.names.lookup b == some .globalImplicit)&&jI [sl,pr] [sl,pr] sc&&
 !(b == ("__debug__" : Str))&&!(sl == ("__debug__" : Str))&&!(pr == ("__debug__" : Str))&&!(sl == ("__classdict__" : Str))&&!(pr == ("__classdict__" : Str))
theorem sB{P:Program}{w:World}{K:PySem.W.Frag}{mg:Str->Option Value}{base:Heap}{fI C D:Addr}{name qual:Str}{params:Arguments}{scope:Scope}{body:List Stmt}{kV doc pm cdv ct oc:Value}{an od:Option Addr}{osl:Array (Option Value)}{b sl pr f tx:Str}{j:Nat}{px ap p1 p2 cp p3 p4 p5 p6 p7 p8 p9:Pos}
  (hbd:body=[.Expr (.Call (.Attribute (.Name b px) "__init__" ap) [.Name sl p1,.Constant (.str tx) j p2] [] cp) p3,.Assign [.Attribute (.Name sl p4) f p5] (.Call (.Name "list" p8) [.Name pr p6] [] p9) p7])
  (h:pD sl pr b scope ap cp=true) (lk:K.lookup fI=some ⟨oc,od,.func (PySem.W.fnOf name qual params body scope .none kV doc pm an cdv ct),osl⟩) (hcd:PySem.W.codeIn K cdv qual=true) (hgl:scope.names.lookup ("list" : Str)=some .globalImplicit) (hml:mg "list"=none) (hm:mg b=some (.ref D)) (hb:BIni K D) (q:XIni K C fI f) :
  FnOk P w K mg base (CX1 P w) 1 fI (PySem.W.fnOf name qual params body scope .none kV doc pm an cdv ct) [sl,pr] (fM true K C f):=by
 subst hbd;unfold pD at h;simp only[Bool.and_eq_true,Bool.not_eq_true']at h;obtain⟨⟨⟨⟨⟨⟨⟨h7,h8⟩,h9⟩,h10⟩,h11⟩,h12⟩,h13⟩,h14⟩:=h;exact sV lk hcd (i5 h9) (beq_iff_eq.mp h8) hgl hml hm h7 hb q h10 h11 h12 h13 h14
end L2
namespace L2
open PySem
noncomputable def eO(K:PySem.W.Frag)(a:Addr):Option FuncData:=match K.lookup a with
 |some ⟨_,_,.func fd,_⟩=>some fd
 |_=>none
noncomputable def fdN(l:FL)(fd:FuncData):FuncData:=PySem.W.fnOf l.name l.qual (ba l.st) (aL l.st) (ar l.st) (if l.df.isEmpty=true then .none else fd.defaults) fd.kwdefaults fd.doc fd.pyModule fd.annotations fd.code fd.closureTuple
noncomputable def fnB(K:PySem.W.Frag)(B:WB)(l:FL)(i:Nat):Bool:=(match eO K (B.fad i) with
 |some fd=>PySem.W.codeIn K fd.code l.qual
 |none=>false)&&PySem.W.keepIn K (.ref (B.fad i))&&(!l.glob||PySem.W.nsIn K mainGlobals l.gn == some (some (.ref (B.fad i))))
theorem rA{K:PySem.W.Frag}(h:eO K a=some fd):∃oc od sl,K.lookup a=some ⟨oc,od,.func fd,sl⟩:=by
 unfold eO at h;split at h
 ·rename_i oc od fd' sl e;cases h;exact⟨oc,od,sl,e⟩
 ·cases h
noncomputable def zN(K:PySem.W.Frag)(C:Addr):Bool:=PySem.W.hasDictIn K C&&PySem.W.findIn K (.ref C) "__getattribute__" == some (some (.builtin "BaseException.__getattribute__"))&&PySem.W.findIn K (.ref C) "__getattr__" == some none&&PySem.W.findIn K (.ref C) "__class__" == some (some (.builtin "object.__class__"))&&PySem.W.mroIn K C (.type "object") == some true&&PySem.W.mroIn K C (.type "BaseException") == some true&&PySem.W.kitOne K (.ref C) (.type "ValueError") == some true
noncomputable def zE(K:PySem.W.Frag):Bool:=PySem.W.specialIn K (.builtin "object.__class__") "__get__" == some (some (.builtin "getset_descriptor.__get__"))&&PySem.W.takesIn K (.builtin "object.__class__") == some true&&PySem.W.nsIn K cStatics "sys.int_max_str_digits" == some none&&biNames.all fun x=>PySem.W.nsIn K mainGlobals x == some none
noncomputable def AB(K:PySem.W.Frag)(B:WB)(n:NM):Bool:=(List.range B.ne).all (fun i=>zN K (B.cls i)&&(List.range n.exc.length).all fun j=>PySem.W.kitOne K (.ref (B.cls i)) (.ref (B.cls j)) == some (B.sub i j)&&PySem.W.exmOne K (.ref (B.cls i)) (.ref (B.cls j)) == some (B.sub i j))&&
 n.exc.zipIdx.all fun p=>PySem.W.nsIn K mainGlobals p.1 == some (some (.ref (B.cls p.2)))&&((n.xin.lookup p.2).isSome||PySem.W.excIn K (B.cls p.2) bmV "ValueError.__new__")
noncomputable def kB(K:PySem.W.Frag)(B:WB)(fT:List (List Nat))(mT:List (List (Nat×Nat)))(iT:List Nat)(i:Nat):Bool:=
 PySem.W.plainGet K (B.kls i) Str.empty&&PySem.W.hasDictIn K (B.kls i)&&PySem.W.plainOver K (B.kls i)&&PySem.W.findIn K (.ref (B.kls i)) "__setattr__" == some (some (.builtin "object.__setattr__"))&&
 (fT.getD i []).all (fun f=>PySem.W.findIn K (.ref (B.kls i)) (fnm f) == some none)&&
 (mT.getD i []).all (fun p=>PySem.W.findIn K (.ref (B.kls i)) (fnm p.1) == some (some (.ref (B.fad p.2)))&&PySem.W.isFn K (.ref (B.fad p.2))&&PySem.W.keepIn K (.ref (B.fad p.2)))&&
 (match iT[i]? with
  |some f=>PySem.W.makesIn K (B.kls i)&&PySem.W.findIn K (.ref (B.kls i)) "__init__" == some (some (.ref (B.fad f)))&&PySem.W.isFn K (.ref (B.fad f))&&PySem.W.keepIn K (.ref (B.kls i))&&PySem.W.specialIn K (.ref (B.kls i)) "__getattribute__" == some (some (.builtin "type.__getattribute__"))&&PySem.W.readsIn K (B.kls i) (.type "type")&&
   (match PySem.W.findCls K (.ref (B.kls i)) (.type "type") "__init__" with
    |some (.val (.ref g))=>g == B.fad f
    |_=>false)
  |none=>false)&&
 PySem.W.findIn K (.ref (B.kls i)) "__class__" == some (some (.builtin "object.__class__"))&&PySem.W.mroIn K (B.kls i) (.type "object") == some true&&
 (List.range B.nk).all fun j=>PySem.W.kitOne K (.ref (B.kls i)) (.ref (B.kls j)) == some (B.ksub i j)
noncomputable def yJ(L m:Nat)(mT:List (List (Nat×Nat)))(iT:List Nat):Bool:=iT.length == m&&iT.all (fun f=>decide (f < L))&&mT.all fun l=>l.all fun p=>decide (p.2 < L)
theorem ff(h:(List.range n).all p=true)(hi:i < n):p i=true:=List.all_eq_true.mp h i (List.mem_range.mpr hi)
theorem jA{l:List α}(h:l.zipIdx.all p=true)(hx:l[i]?=some x):p (x,i)=true:=by
 refine List.all_eq_true.mp h (x,i) ?_;rw[List.mem_zipIdx_iff_getElem?];exact hx
theorem xL{K:PySem.W.Frag}{L:List FL}{B:WB}(f0:Nat){l0:FL}(h0:L[f0]?=some l0)(h:L.zipIdx.all (fun p=>p.1.df.isEmpty||p.2 == f0)=true)
  (hb:∀fd,eO K (B.fad f0)=some fd->∃dv,Vals (l0.df.map V.int) dv/\∀j,Binds K fd l0.ps (dv.drop j)):∀(f:Nat)(l:FL),L[f]?=some l->l.df≠[]->∀fd,eO K (B.fad f)=some fd->∃dv,Vals (l.df.map V.int) dv/\∀j,Binds K fd l.ps (dv.drop j):=fun f l hl z=>by
 have g:=jA h hl;simp only[Bool.or_eq_true,List.isEmpty_iff,beq_iff_eq]at g;rcases g with g|g
 ·exact absurd g z
 ·subst g;rw[hl]at h0;cases h0;exact hb
theorem df1{K:PySem.W.Frag}{ps:List Str}(h:(eO K a).isSome=true)(h0:∀us:List Value,us.length+1=ps.length->∀S,PySem.W.peek K S (bindArgs ((eO K a).get h) ⟨us,[]⟩)=some (ps.zip (us++[.int i t])))
  (h1:∀us:List Value,us.length=ps.length->∀S,PySem.W.peek K S (bindArgs ((eO K a).get h) ⟨us,[]⟩)=some (ps.zip us)):∀fd,eO K a=some fd->∃dv,Vals ([i].map V.int) dv/\∀j,Binds K fd ps (dv.drop j):=fun fd hfd=>by
 have e:(eO K a).get h=fd:=Option.get_of_eq_some _ hfd;rw[e]at h0 h1;refine⟨[.int i t],.cons ⟨t,rfl⟩ .nil,fun j s us X hl=>?_⟩
 cases j with
 |zero=>exact PySem.W.kp_binds X (h0 us (by simpa using hl))
 |succ j=>
  simp only[List.drop_succ_cons,List.drop_nil,List.append_nil]at hl ⊢;exact PySem.W.kp_binds X (h1 us hl)
theorem Top.of{K:PySem.W.Frag}{h:Heap}{L:List FL}{n:NM}{B:WB}{fT:List (List Nat)}{mT:List (List (Nat×Nat))}(X:K.In h)(Gn:h.Ns mainGlobals mg)
  (h1:L.all (fun l=>l.ok (dH L) n)=true)
  (h2:L.zipIdx.map (fun p=>eO K (B.fad p.2))=L.zipIdx.map fun p=>(eO K (B.fad p.2)).map (fdN p.1))
  (h3:L.zipIdx.all (fun p=>fnB K B p.1 p.2)=true)
  (h4:∀(f:Nat)(l:FL),L[f]?=some l->∀us:List Value,us.length=l.ps.length->∀(kV doc pm:Value)(an:Option Addr)(cdv ct:Value),bindArgs (PySem.W.fnOf l.name l.qual (ba l.st) (aL l.st) (ar l.st) .none kV doc pm an cdv ct) ⟨us,[]⟩=pure (l.ps.zip us))
  (h5:zE K=true) (h6:AB K B n=true)
  (h7:(List.range B.nk).all (kB K B fT mT iT)=true) (h8:yJ L.length B.nk mT iT=true)
  (hf:∀i f,B.fok i f=(fT.getD i []).contains f) (hm:∀i m,B.mth i m=(mT.getD i []).lookup m) (hi:∀i,B.ini i=iT[i]?)
  (h9:n.kln.zipIdx.all (fun p=>PySem.W.nsIn K mainGlobals p.1 == some (some (.ref (B.kls p.2)))&&decide (p.2 < B.nk))=true)
  (glo:∀(k:Nat)(x:Str),n.gln[k]?=some x->∃u v,mg x=some u/\RelV v u/\∀H,Den K H (B.glo k) v)
  (xi:∀i f,n.xin.lookup i=some f->B.xin i=some f/\∃fI fd ps,XIni K (B.cls i) fI (fnm f)/\Binds K fd ps []/\∀(P:Program)(w:World)(base:Heap),FnOk P w K mg base (CX1 P w) 1 fI fd ps (fM (cpF f) K (B.cls i) (fnm f)))
  (xn:∀i f,i < B.ne->B.xin i=some f->NoAttr K (B.cls i) (fnm f))
  (hd:∀(f:Nat)(l:FL),L[f]?=some l->l.df≠[]->∀fd,eO K (B.fad f)=some fd->∃dv,Vals (l.df.map V.int) dv/\∀j,Binds K fd l.ps (dv.drop j)):Top K mg L n B:=by
 unfold zE at h5;simp only[Bool.and_eq_true,beq_iff_eq]at h5;obtain⟨⟨⟨o1,o2⟩,o3⟩,o4⟩:=h5;unfold AB at h6;rw[Bool.and_eq_true]at h6;obtain⟨e1,e2⟩:=h6;unfold yJ at h8;simp only[Bool.and_eq_true,beq_iff_eq]at h8;obtain⟨⟨t1,t2⟩,t3⟩:=h8;have ki:∀i,i < B.nk->kB K B fT mT iT i=true:=fun i hi=>ff h7 hi
 refine⟨fun l hl=>List.all_eq_true.mp h1 l hl,fun f l hl=>?_,fun i hi=>?_,fun i x hx=>?_,fun i hi'=>?_,fun i hi'=>?_,fun i f hi' hf'=>?_,fun i m f hi' hf'=>?_,fun i x hx=>?_,glo,fun x hx=>?_,o3,xi,xn⟩
 ·have g:=jA h3 hl;unfold fnB at g;simp only[Bool.and_eq_true]at g;obtain⟨⟨g1,g2⟩,g3⟩:=g;have hz:L.zipIdx[f]?=some (l,f):=by
   rw[List.getElem?_zipIdx,hl];simp
  have e:=congrArg (fun z:List (Option FuncData)=>z[f]?) h2
  simp only[List.getElem?_map,hz,Option.map_some,Option.some.injEq]at e;cases hfd:eO K (B.fad f) with
  |none=>rw[hfd]at g1;cases g1
  |some fd=>
   rw[hfd]at e g1;simp only[Option.map_some,Option.some.injEq]at e;obtain⟨oc,od,sl,lk⟩:=rA hfd;have hb:l.df=[]->∀us:List Value,us.length=l.ps.length->bindArgs fd ⟨us,[]⟩=pure (l.ps.zip us):=fun z us hu=>by
    rw[e];unfold fdN;rw[z];exact h4 f l hl us hu _ _ _ _ _ _
   refine⟨fd,⟨⟨oc,od,_,fd.kwdefaults,fd.doc,fd.pyModule,fd.annotations,fd.code,fd.closureTuple,sl,e,lk,g1⟩,g2⟩,fun z=>?_,hb,?_⟩
   ·rw[z]at g3;exact PySem.W.mg_of X Gn (beq_iff_eq.mp (by simpa using g3))
   ·by_cases z:l.df=[]
    ·exact⟨[],by rw[z];exact .nil,fun j=>by rw[List.drop_nil];exact .all (hb z)⟩
    ·exact hd f l hl z fd hfd
 ·have g:=ff e1 hi;rw[Bool.and_eq_true]at g;obtain⟨g1,g2⟩:=g;unfold zN at g1;simp only[Bool.and_eq_true,beq_iff_eq]at g1;obtain⟨⟨⟨⟨⟨⟨a1,a2⟩,a3⟩,a4⟩,a5⟩,a6⟩,a7⟩:=g1;refine⟨⟨a1,a2,a3,a4,o1,o2,a5,a6⟩,a7,fun j x hx=>?_⟩
  have hj:j < n.exc.length:=(List.getElem?_eq_some_iff.mp hx).1;have g:=ff g2 hj;rw[Bool.and_eq_true,beq_iff_eq]at g;exact g.1
 ·have g:=jA e2 hx;rw[Bool.and_eq_true,beq_iff_eq]at g;refine⟨PySem.W.mg_of X Gn g.1,fun z=>?_,fun j hj=>?_⟩
  ·have g2:=g.2;rw[show n.xin.lookup (x,i).2=none from z]at g2;have g3:PySem.W.excIn K (B.cls i) bmV "ValueError.__new__"=true:=by simpa using g2
   exact g3
  ·have q:=ff e1 hj;rw[Bool.and_eq_true]at q;have hi:i < n.exc.length:=(List.getElem?_eq_some_iff.mp hx).1;have g:=ff q.2 hi;rw[Bool.and_eq_true,beq_iff_eq,beq_iff_eq]at g;exact g.2
 ·have g:=ki i hi';unfold kB at g;simp only[Bool.and_eq_true,beq_iff_eq]at g;obtain⟨⟨⟨⟨⟨⟨⟨⟨⟨a1,a2⟩,a3⟩,a4⟩,a5⟩,a6⟩,a7⟩,a8⟩,a9⟩,a10⟩:=g;have iI:∀f,B.ini i=some f->PySem.W.makesIn K (B.kls i)=true/\PySem.W.findIn K (.ref (B.kls i)) "__init__"=some (some (.ref (B.fad f)))/\PySem.W.isFn K (.ref (B.fad f))=true/\PySem.W.keepIn K (.ref (B.kls i))=true/\PySem.W.specialIn K (.ref (B.kls i)) "__getattribute__"=some (some (.builtin "type.__getattribute__"))/\PySem.W.readsIn K (B.kls i) (.type "type")=true/\PySem.W.findCls K (.ref (B.kls i)) (.type "type") "__init__"=some (.val (.ref (B.fad f))):=fun f hf=>by
   rw[hi i]at hf;rw[hf]at a7;simp only[Bool.and_eq_true,beq_iff_eq]at a7;obtain⟨⟨⟨⟨⟨⟨b1,b2⟩,b3⟩,b4⟩,b5⟩,b6⟩,b7⟩:=a7;refine⟨b1,b2,b3,b4,b5,b6,?_⟩;split at b7
   ·rename_i g hg;rw[hg,beq_iff_eq.mp b7]
   ·cases b7
  refine⟨⟨a1,a2,a3,a4⟩,fun f hf'=>?_,fun m f hm'=>?_,fun f hf'=>?_,fun f hf'=>?_,⟨a8,o1,o2,a9⟩,fun j hj=>?_⟩
  ·rw[hf i f]at hf';exact beq_iff_eq.mp (List.all_eq_true.mp a5 f (List.contains_iff_mem.mp hf'))
  ·rw[hm i m]at hm';have q:=List.all_eq_true.mp a6 (m,f) (bH hm');simp only[Bool.and_eq_true,beq_iff_eq]at q;exact⟨q.1.1,q.1.2,q.2⟩
  ·obtain⟨b1,b2,b3,b4,_⟩:=iI f hf';exact⟨b1,b2,b3,b4⟩
  ·obtain⟨_,_,_,_,b5,b6,b7⟩:=iI f hf';exact⟨b5,b6,b7⟩
  ·exact beq_iff_eq.mp (ff a10 hj)
 ·rw[hi i];have:i < iT.length:=by rw[t1];exact hi'
  exact⟨iT[i],List.getElem?_eq_getElem this⟩
 ·rw[hi i]at hf';exact of_decide_eq_true (List.all_eq_true.mp t2 f (List.mem_of_getElem? hf'))
 ·rw[hm i m]at hf';have q:=bH hf';by_cases z:i < mT.length
  ·rw[List.getD_eq_getElem?_getD,List.getElem?_eq_getElem z]at q;exact of_decide_eq_true (List.all_eq_true.mp (List.all_eq_true.mp t3 _ (List.getElem_mem z)) _ q)
  ·rw[List.getD_eq_getElem?_getD,List.getElem?_eq_none (by omega)]at q
   cases q
 ·have g:=jA h9 hx;rw[Bool.and_eq_true,beq_iff_eq]at g;exact⟨PySem.W.mg_of X Gn g.1,of_decide_eq_true g.2⟩
 ·exact PySem.W.mg_none_of X Gn (beq_iff_eq.mp (List.all_eq_true.mp o4 x hx))
theorem n1{P:List Value->Prop}(h:∀a,P [a]):∀us:List Value,us.length=1->P us:=usS fun a=>us0 (h a)
theorem n2{P:List Value->Prop}(h:∀a b,P [a,b]):∀us:List Value,us.length=2->P us:=usS fun a=>usS fun b=>us0 (h a b)
theorem n3{P:List Value->Prop}(h:∀a b c,P [a,b,c]):∀us:List Value,us.length=3->P us:=usS fun a=>usS fun b=>usS fun c=>us0 (h a b c)
theorem n4{P:List Value->Prop}(h:∀a b c d,P [a,b,c,d]):∀us:List Value,us.length=4->P us:=usS fun a=>usS fun b=>usS fun c=>usS fun d=>us0 (h a b c d)
theorem n5{P:List Value->Prop}(h:∀a b c d e,P [a,b,c,d,e]):∀us:List Value,us.length=5->P us:=usS fun a=>usS fun b=>usS fun c=>usS fun d=>usS fun e=>us0 (h a b c d e)
end L2
namespace L2
noncomputable def oi:Option Int->D
 |none=>.non
 |some i=>.int i
theorem mK{i j:Int}(h1:0 < j)(h2:j < 10 ^ 250):i8 i j=True:=by
 refine eq_true ⟨h1,lF ?_⟩;omega
theorem pR{i j:Int}(h1 : -(10 ^ 240) < i)(h2:i < 10 ^ 240)(h3 : -(10 ^ 240) < j)(h4:j < 10 ^ 240):fS i j=True:=by
 refine eq_true ⟨lF ?_,lF ?_⟩<;>omega
theorem Df{i j:Int}(h1:0<=j)(h2:j<=1000000)(h3:i.natAbs < 2 ^ 64):pK i j=True:=eq_true ⟨h1,h2,h3⟩
theorem zh{α:Type}(a:α)(l:List α):atI (a::l) 0=some a:=by simp[atI,ixN]
theorem xX{α:Type}(a b:α)(l:List α):atI (a::b::l) 1=some b:=dc (j:=1) rfl
theorem xZ{α:Type}(a b c:α)(l:List α):atI (a::b::c::l) 2=some c:=dc (j:=2) rfl
theorem yl{α:Type}(a b c d:α)(l:List α):atI (a::b::c::d::l) 3=some d:=dc (j:=3) rfl
end L2
namespace L2
open PySem
section
variable {W:WC}{σ:St3}
@[simp ↓] theorem Ff:wpE W (.var 0) (some v::σ) M Q E=Q v M:=rfl
@[simp ↓] theorem Fh:wpE W (.var 1) (y0::some v::σ) M Q E=Q v M:=rfl
@[simp ↓] theorem Fo:wpE W (.var 2) (y0::y1::some v::σ) M Q E=Q v M:=rfl
@[simp ↓] theorem Fr:wpE W (.var 3) (y0::y1::y2::some v::σ) M Q E=Q v M:=rfl
@[simp ↓] theorem Fd:wpE W (.var 4) (y0::y1::y2::y3::some v::σ) M Q E=Q v M:=rfl
@[simp ↓] theorem DL:wpE W (.var 5) (y0::y1::y2::y3::y4::some v::σ) M Q E=Q v M:=rfl
@[simp ↓] theorem Fg:wpE W (.var 6) (y0::y1::y2::y3::y4::y5::some v::σ) M Q E=Q v M:=rfl
@[simp ↓] theorem Fb:wpE W (.var 7) (y0::y1::y2::y3::y4::y5::y6::some v::σ) M Q E=Q v M:=rfl
@[simp ↓] theorem CJ:wpE W (.var 8) (y0::y1::y2::y3::y4::y5::y6::y7::some v::σ) M Q E=Q v M:=rfl
@[simp ↓] theorem Fj:wpE W (.var 9) (y0::y1::y2::y3::y4::y5::y6::y7::y8::some v::σ) M Q E=Q v M:=rfl
@[simp ↓] theorem E1:wpE W (.var 10) (y0::y1::y2::y3::y4::y5::y6::y7::y8::y9::some v::σ) M Q E=Q v M:=rfl
@[simp ↓] theorem EJ:wpE W (.var 11) (y0::y1::y2::y3::y4::y5::y6::y7::y8::y9::y10::some v::σ) M Q E=Q v M:=rfl
@[simp ↓] theorem En:wpE W (.var 12) (y0::y1::y2::y3::y4::y5::y6::y7::y8::y9::y10::y11::some v::σ) M Q E=Q v M:=rfl
@[simp ↓] theorem Ey:wpE W (.var 13) (y0::y1::y2::y3::y4::y5::y6::y7::y8::y9::y10::y11::y12::some v::σ) M Q E=Q v M:=rfl
@[simp ↓] theorem Em:wpE W (.var 14) (y0::y1::y2::y3::y4::y5::y6::y7::y8::y9::y10::y11::y12::y13::some v::σ) M Q E=Q v M:=rfl
@[simp ↓] theorem Er:wpE W (.var 15) (y0::y1::y2::y3::y4::y5::y6::y7::y8::y9::y10::y11::y12::y13::y14::some v::σ) M Q E=Q v M:=rfl
@[simp ↓] theorem Eb:wpE W (.var 16) (y0::y1::y2::y3::y4::y5::y6::y7::y8::y9::y10::y11::y12::y13::y14::y15::some v::σ) M Q E=Q v M:=rfl
@[simp ↓] theorem EY:wpE W (.var 17) (y0::y1::y2::y3::y4::y5::y6::y7::y8::y9::y10::y11::y12::y13::y14::y15::y16::some v::σ) M Q E=Q v M:=rfl
@[simp ↓] theorem D0:wpE W (.con v) σ M Q E=Q v M:=rfl
@[simp ↓] theorem EO{op a b}:wpE W (.bin op a b) σ M Q E=wpE W a σ M (fun x M1=>wpE W b σ M1 (fun y M2=>d8 op x y M2 Q) E) E:=rfl
@[simp ↓] theorem El{a}:wpE W (.neg a) σ M Q E=wpE W a σ M (fun x M1=>rNeg x M1 Q) E:=rfl
@[simp ↓] theorem EL{fz a b}:wpE W (.cat fz a b) σ M Q E=wpE W a σ M (fun x M1=>wpE W b σ M1 (fun y M2=>cr fz x y M2 Q) E) E:=rfl
@[simp ↓] theorem EF{op a b}:wpE W (.cmp op a b) σ M Q E=wpE W a σ M (fun x M1=>wpE W b σ M1 (fun y M2=>ao op x y M2 Q) E) E:=rfl
@[simp ↓] theorem EE{a b}:wpE W (.and a b) σ M Q E=wpE W a σ M (fun x M1=>match x with
  |.bl c=>if c=true then wpE W b σ M1 Q E else Q (.bl false) M1
  |_=>False) E:=rfl
@[simp ↓] theorem Fa{a b}:wpE W (.or a b) σ M Q E=wpE W a σ M (fun x M1=>match x with
  |.bl c=>if c=true then Q (.bl true) M1 else wpE W b σ M1 Q E
  |_=>False) E:=rfl
@[simp ↓] theorem EC{a}:wpE W (.not a) σ M Q E=wpE W a σ M (fun x M1=>match x with
  |.bl c=>Q (.bl (!c)) M1
  |_=>False) E:=rfl
@[simp ↓] theorem Ej{c a b}:wpE W (.ifx c a b) σ M Q E=wpT W c σ M (fun k M1=>if k=true then wpE W a σ M1 Q E else wpE W b σ M1 Q E) E:=rfl
@[simp ↓] theorem D1{es}:wpE W (.tup es) σ M Q E=wpA W es σ M (fun xs M1=>xs.length<=sizeLine/\Q (.tup xs) M1) E:=rfl
@[simp ↓] theorem DV{fz es}:wpE W (.lst fz es) σ M Q E=wpA W es σ M (fun xs M1=>aW fz xs M1 Q) E:=rfl
@[simp ↓] theorem Ag{e}:wpE W (.frz e) σ M Q E=wpE W e σ M (bp Q) E:=rfl
@[simp ↓] theorem E7{a b}:wpE W (.ix a b) σ M Q E=wpE W a σ M (fun x M1=>wpE W b σ M1 (fun y M2=>am x y M2 Q) E) E:=rfl
@[simp ↓] theorem Fc{fz a lo hi}:wpE W (.sl fz a lo hi) σ M Q E=wpE W a σ M (fun x M1=>wpO W lo σ M1 (fun l M2=>wpO W hi σ M2 (fun h M3=>iC fz x l h M3 Q) E) E) E:=rfl
@[simp ↓] theorem Dr{f es}:wpE W (.call f es) σ M Q E=wpA W es σ M (fun xs M1=>W.call f xs M1 Q E) E:=rfl
@[simp ↓] theorem Fe{b es}:wpE W (.bi b es) σ M Q E=wpA W es σ M (fun xs M1=>rBi b xs M1 Q) E:=rfl
@[simp ↓] theorem EN{e t}:wpE W (.isB e t) σ M Q E=wpE W e σ M (fun x M1=>dn t x M1 Q) E:=rfl
@[simp ↓] theorem EM{fz e}:wpE W (.rev fz e) σ M Q E=wpE W e σ M (fun x M1=>ow fz x M1 Q) E:=rfl
@[simp ↓] theorem CZ{k v}:wpE W (.dctT k v) σ M Q E=∀p,M p=none->wpE W k σ (put M p (.dt [] [])) (fun x M1=>wpE W v σ M1 (fun y M2=>fH p x y M2 Q) E) E:=rfl
@[simp ↓] theorem Ch{fz e}:wpE W (.lrng fz e) σ M Q E=wpE W e σ M (fun x M1=>rLg fz x M1 Q) E:=rfl
@[simp ↓] theorem Fn{e}:wpE W (.sm e) σ M Q E=wpE W e σ M (fun x M1=>rSm x M1 Q) E:=rfl
@[simp ↓] theorem D5{mx e}:wpE W (.mmz mx e) σ M Q E=wpE W e σ M (fun x M1=>lc mx x M1 Q) E:=rfl
@[simp ↓] theorem Cu{e f}:wpE W (.xfld e f) σ M Q E=wpE W e σ M (fun x M1=>rXf W.toWB f x M1 Q) E:=rfl
@[simp ↓] theorem CM{B:WB}:rXf B f (.ref a) (put M a (.exc ⟨c,some (g,y)⟩ v)) Q=((v=.ref (B.cls c)/\c < B.ne/\B.xin c=some f)/\g=f/\Q y (put M a (.exc ⟨c,some (g,y)⟩ v))):=by
 simp[rXf,ac]
@[simp ↓] theorem DX{e f}:wpE W (.fld e f) σ M Q E=wpE W e σ M (fun x M1=>fX W.toWB f x M1 Q) E:=rfl
@[simp ↓] theorem By{i es}:wpE W (.make true i es) σ M Q E=wpA W es σ M (fun xs M1=>i < W.nk/\dq (W.ini i) fun f=>∀p,M1 p=none->W.call f (.ref p::xs) (put M1 p (.ins i (W.kls i) [] [])) (fun v M2=>v=.non/\bp Q (.ref p) M2) (fun i M'=>E i (L2.del M' p))) E:=rfl
@[simp ↓] theorem Ba{i es}:wpE W (.make false i es) σ M Q E=wpA W es σ M (fun xs M1=>i < W.nk/\dq (W.ini i) fun f=>∀p,M1 p=none->W.call f (.ref p::xs) (put M1 p (.ins i (W.kls i) [] [])) (fun v M2=>v=.non/\Q (.ref p) M2) (fun i M'=>E i (L2.del M' p))) E:=rfl
@[simp ↓] theorem Cr{e m es}:wpE W (.meth e m es) σ M Q E=wpE W e σ M (fun x M1=>eU W.toWB m x M1 fun f=>wpA W es σ M1 (fun xs M2=>W.call f (x::xs) M2 Q E) E) E:=rfl
@[simp ↓] theorem Fi{b o es}:wpE W (.bm b o es) σ M Q E=wpE W o σ M (fun x M1=>tyB b x M1=true/\wpA W es σ M1 (fun xs M2=>rBm b x xs M2 Q) E) E:=rfl
@[simp ↓] theorem Cf{fz a}:wpE W (.lrev fz a) σ M Q E=wpE W a σ M (fun x M1=>rLr fz x M1 Q) E:=rfl
@[simp] theorem dh:ah M M=M:=by
 funext a;unfold ah;split<;>simp_all
@[simp] theorem cj(h:M p=none):ah M (put M' p o)=ah M M':=by
 funext a;unfold ah put;split
 ·rename_i x e;split
  ·rename_i z;subst z;rw[h]at e;cases e
  ·rfl
 ·rfl
@[simp] theorem kT(h:M p=none):ah M (L2.del M' p)=ah M M':=by
 funext a;unfold ah L2.del;split
 ·rename_i x e;split
  ·rename_i z;subst z;rw[h]at e;cases e
  ·rfl
 ·rfl
@[simp] theorem kC(h:M p=some u):ah M (put M' p o)=put (ah M M') p o:=by
 funext a;unfold ah put;by_cases z:a=p
 ·subst z;simp[h]
 ·simp[z]
@[simp] theorem A5:ah (put M p o) (put M' p u)=put (ah M M') p u:=by
 funext a;unfold ah put;by_cases z:a=p
 ·subst z;simp
 ·simp[z]
@[simp] theorem A2:kp true M M'=ah M M':=rfl
@[simp] theorem zz:kp false M M'=M':=rfl
@[simp ↓] theorem xW:dq (some f) R=R f:=rfl
@[simp ↓] theorem A4{B:WB}{f i C ns ds}:fX B f (.obj i C ns ds) M Q=((C=B.kls i/\i < B.nk/\B.fok i f=true)/\jn f ns ds M Q):=rfl
@[simp ↓] theorem AR{B:WB}{f i C ns ds}:fX B f (.ref a) (put M a (.ins i C ns ds)) Q=((C=B.kls i/\i < B.nk/\B.fok i f=true)/\jn f ns ds (put M a (.ins i C ns ds)) Q):=by
 simp[fX,ac]
@[simp ↓] theorem yV{f n ns d ds}:jn f (n::ns) (d::ds) M Q=if n=f then Q d M else jn f ns ds M Q:=by
 unfold jn;rw[bc];by_cases h:n=f
 ·rw[if_pos h,if_pos h]
 ·rw[if_neg h,if_neg h]
@[simp ↓] theorem AG{B:WB}{m i C ns ds}:eU B m (.obj i C ns ds) M R=((C=B.kls i/\i < B.nk/\bc m ns ds=none)/\dq (B.mth i m) R):=rfl
@[simp ↓] theorem BS{B:WB}{m i C ns ds}:eU B m (.ref a) (put M a (.ins i C ns ds)) R=((C=B.kls i/\i < B.nk/\bc m ns ds=none)/\dq (B.mth i m) R):=by
 simp[eU,ac]
@[simp] theorem xT:bc f [] ds=none:=by unfold bc;rfl
@[simp] theorem vZ:bc f (n::ns) (d::ds)=if n=f then some d else bc f ns ds:=by rw[bc]
@[simp ↓] theorem AZ{B:WB}{j i C ns ds}:CC B j (.obj i C ns ds) M Q=((C=B.kls i/\i < B.nk/\j < B.nk)/\Q (.bl (B.ksub i j)) M):=rfl
@[simp] theorem xQ:bx f []=[f]:=rfl
@[simp] theorem wd:bx f (n::ns)=if n=f then n::ns else n::bx f ns:=rfl
@[simp] theorem xS:bz f y [] ds=[y]:=by unfold bz;rfl
@[simp] theorem vn:bz f y (n::ns) (d::ds)=if n=f then y::ds else d::bz f y ns ds:=by rw[bz]
@[simp ↓] theorem A3{ds}(h:M a=none):bp Q (.ref a) (put M a (.lst ds))=Q (.rol ds) M:=by
 simp only[bp,ac,gg h]
@[simp ↓] theorem Bs{i C ns ds}(h:M a=none):bp Q (.ref a) (put M a (.ins i C ns ds))=br ds M (fun r M'=>Q (.obj i C ns r) M'):=by
 simp only[bp,ac,gg h]
@[simp ↓] theorem zV:br [] M R=R [] M:=rfl
@[simp ↓] theorem yi{i ds}:br (.int i::ds) M R=br ds M (fun r M'=>R (.int i::r) M'):=rfl
@[simp ↓] theorem AK{i ds}:br (.bl i::ds) M R=br ds M (fun r M'=>R (.bl i::r) M'):=rfl
@[simp ↓] theorem yS{ds}:br (.non::ds) M R=br ds M (fun r M'=>R (.non::r) M'):=rfl
@[simp ↓] theorem yD{i ds}:br (.str i::ds) M R=br ds M (fun r M'=>R (.str i::r) M'):=rfl
@[simp ↓] theorem ya{i ds}:br (.tup i::ds) M R=br ds M (fun r M'=>R (.tup i::r) M'):=rfl
@[simp ↓] theorem Am{i ds}:br (.rol i::ds) M R=br ds M (fun r M'=>R (.rol i::r) M'):=rfl
@[simp ↓] theorem Bi{fz ds lo hi}:iC fz (.tup ds) lo hi M Q=(whole ds.length lo hi=false/\Q (.tup (fW ds lo hi)) M):=rfl
@[simp ↓] theorem BL{fz z lo hi}:iC fz (.str z) lo hi M Q=(z.length<=sizeLine/\Q (.str (Txt.slice z lo hi)) M):=rfl
@[simp ↓] theorem AV{ds lo hi}:iC true (.rol ds) lo hi M Q=((fW ds lo hi).length<=sizeLine/\Q (.rol (fW ds lo hi)) M):=rfl
@[simp ↓] theorem cat_tup{fz a b}:cr fz (.tup a) (.tup b) M Q=(a.length+b.length<=sizeLine/\Q (.tup (a++b)) M):=rfl
@[simp ↓] theorem BD{a b}:d8 .Add (.tup a) (.tup b) M Q=(a.length+b.length<=sizeLine/\Q (.tup (a++b)) M):=rfl
@[simp ↓] theorem BW{a b}:nu (.tup a) (.tup b) M Q=(a.length+b.length<=sizeLine/\Q (.tup (a++b)) M):=rfl
@[simp ↓] theorem Di{tk}:wpE W (.dnew tk) σ M Q E=∀p,M p=none->Q (.ref p) (put M p (if tk=true then .dt [] [] else .dk [] [])):=rfl
@[simp ↓] theorem Bx:yW p (.int i) y (put M p (.dk [] [])) Q=Q (.ref p) (put M p (.dk [.inl i] [y])):=by
 simp[yW,ac,aR]
@[simp ↓] theorem CF{t}{ks ds}:dn t (.ref p) (put M p (.dk ks ds)) Q=Q (.bl (match t with|.dict=>true|_=>false)) (put M p (.dk ks ds)):=by
 cases t<;>simp[dn,ac]
@[simp ↓] theorem wR{ne:Nat}{cls:Nat->Addr}{r:Nat->Bool}{a:Addr}{c:Nat}{pl:Option (Nat×D)}:zu ne cls r (.ref a) (put M a (.exc ⟨c,pl⟩ (.ref (cls c)))) Q=(c < ne/\Q (.bl (r c)) (put M a (.exc ⟨c,pl⟩ (.ref (cls c))))):=by
 simp[zu,ac]
@[simp ↓] theorem EX{i De}:wpH W .nil i De σ M=False:=rfl
@[simp ↓] theorem BG{c body r i De}:wpH W (.cons c none body r) i De σ M=(i.c < W.ne/\if W.sub i.c c=true then aq W body De (fun _ _ _=>False) σ M else wpH W r i De σ M):=rfl
@[simp ↓] theorem Bn{c j body r i De}:wpH W (.cons c (some j) body r) i De σ M=(i.c < W.ne/\if W.sub i.c c=true then (∀a,M a=none->aq W body (fB De j) (fun _ _ _=>False) (σ.set j (some (.ref a))) (put M a (.exc i (.ref (W.cls i.c))))) else wpH W r i De σ M):=rfl
@[simp ↓] theorem BN{ds}:ow true (.rol ds) M Q=(ds.reverse.length<=sizeLine/\Q (.rol ds.reverse) M):=rfl
noncomputable def g8(W:WC)(tg:ITg)(cond:ITO)(elt:IE)(S:MH->Prop)(p:Addr)(Q:VK3):List D->List D->St3->MH->Prop:=cx (wpG tg) (fun σ M Q=>gW W cond σ M Q (fun _ _=>False)) (fun σ M Q=>wpE W elt σ M Q (fun _ _=>False)) S p Q
noncomputable def iZ(W:WC)(tg:ITg)(cond:ITO)(elt:IE)(S:MH->Prop)(Q:VK3)(ds:List D)(σ:St3)(M:MH):Prop:=∀p,M p=none->g8 W tg cond elt S p (dP Q) ds [] σ (put M p (.lst []))
@[simp ↓] theorem A7{N js tg it cond elt}:wpE W (.comp true N js tg it cond elt) σ M Q E=wpI W it σ M (fun ds S M1=>iZ W tg cond elt S Q ds (aK js σ) M1) E:=rfl
@[simp ↓] theorem AX{N js tg it cond elt}:wpE W (.comp false N js tg it cond elt) σ M Q E=wpI W it σ M (fun ds S M1=>∀p,M1 p=none->g8 W tg cond elt S p Q ds [] (aK js σ) (put M1 p (.lst []))) E:=rfl
@[simp ↓] theorem CG{e}:wpT W (.val e) σ M QB E=wpE W e σ M (fun x M1=>match x with
  |.bl k=>QB k M1
  |_=>False) E:=rfl
@[simp ↓] theorem Dj{op a b}:wpT W (.cmp op a b) σ M QB E=wpE W a σ M (fun x M1=>wpE W b σ M1 (fun y M2=>ao op x y M2 fun r M3=>match r with
  |.bl k=>QB k M3
  |_=>False) E) E:=rfl
@[simp ↓] theorem xR{op op' op'' a b c d}:wpT W (.chain3 op op' op'' a b c d) σ M QB E=wpE W a σ M (fun x M1=>wpE W b σ M1 (fun y M2=>ao op x y M2 fun r M3=>match r with
  |.bl k=>if k=true then wpE W c σ M3 (fun z M4=>ao op' y z M4 fun r M5=>match r with
   |.bl k=>if k=true then wpE W d σ M5 (fun u M6=>ao op'' z u M6 fun r M7=>match r with
    |.bl k=>QB k M7
    |_=>False) E else QB false M5
   |_=>False) E else QB false M3
  |_=>False) E) E:=rfl
@[simp ↓] theorem Al{op op' a b c}:wpT W (.chain op op' a b c) σ M QB E=wpE W a σ M (fun x M1=>wpE W b σ M1 (fun y M2=>ao op x y M2 fun r M3=>match r with
  |.bl k=>if k=true then wpE W c σ M3 (fun z M4=>ao op' y z M4 fun r M5=>match r with
   |.bl k=>QB k M5
   |_=>False) E else QB false M3
  |_=>False) E) E:=rfl
@[simp ↓] theorem Cl{a b}:wpT W (.and a b) σ M QB E=wpT W a σ M (fun c M1=>if c=true then wpT W b σ M1 QB E else QB false M1) E:=rfl
@[simp ↓] theorem E4{a b}:wpT W (.or a b) σ M QB E=wpT W a σ M (fun c M1=>if c=true then QB true M1 else wpT W b σ M1 QB E) E:=rfl
@[simp ↓] theorem Ce{a}:wpT W (.not a) σ M QB E=wpT W a σ M (fun c M1=>QB (!c) M1) E:=rfl
@[simp ↓] theorem DJ:wpA W .nil σ M QL E=QL [] M:=rfl
@[simp ↓] theorem AQ{e r}:wpA W (.cons e r) σ M QL E=wpE W e σ M (fun x M1=>wpA W r σ M1 (fun xs M2=>QL (x::xs) M2) E) E:=rfl
@[simp ↓] theorem Ei:wpO W .no σ M QO E=QO none M:=rfl
@[simp ↓] theorem CU{e}:wpO W (.yes e) σ M QO E=wpE W e σ M (fun x M1=>match x with
  |.int i=>QO (some i) M1
  |_=>False) E:=rfl
@[simp ↓] theorem DY:gW W .no σ M QB E=QB true M:=rfl
@[simp ↓] theorem Cb{e}:gW W (.yes e) σ M QB E=wpT W e σ M QB E:=rfl
noncomputable def gR(R:List D->(MH->Prop)->MH->Prop):VK3:=fun x M1=>match x with
  |.tup ds=>R ds (fun _=>True) M1
  |.rol ds=>R ds (fun _=>True) M1
  |.ref a=>match M1 a with
   |some (.lst ds)=>R ds (fun M=>M a=some (.lst ds)) M1
   |_=>False
  |.str z=>R (eJ z) (fun _=>True) M1
  |_=>False
@[simp ↓] theorem ze{z}:gR R (.str z) M=R (eJ z) (fun _=>True) M:=rfl
@[simp ↓] theorem Ay{ds}:gR R (.tup ds) M=R ds (fun _=>True) M:=rfl
@[simp ↓] theorem zl{ds}:gR R (.rol ds) M=R ds (fun _=>True) M:=rfl
theorem pM{a ds}(h:M a=some (.lst ds)):gR R (.ref a) M=R ds (fun M=>M a=some (.lst ds)) M:=by
 unfold gR;simp only[h]
@[simp ↓] theorem DH{e}:wpI W (.seq e) σ M R E=wpE W e σ M (gR R) E:=rfl
@[simp ↓] theorem BA{a}:wpI W (.rng1 a) σ M R E=wpE W a σ M (fun x M1=>match x with
  |.int j=>-(2 ^ 62)<=j/\j < 2 ^ 62/\R (rng 0 j.toNat) (fun _=>True) M1
  |_=>False) E:=rfl
end
section
variable {W:WC}{σ:St3}{De:Ends3}{x:Option D}
@[simp ↓] theorem Cn:aq W .nil De ES σ M=De.nx σ M:=rfl
@[simp ↓] theorem sL{s r}:aq W (.cons s r) De ES (x::σ) M=wpS W s {De with nx:=fun σ' M'=>aq W r De ES σ' M'} ES (x::σ) M:=rfl
@[simp ↓] theorem AI{s r}:aq W (.cons s r) De ES [] M=wpS W s {De with nx:=fun σ' M'=>aq W r De ES σ' M'} ES [] M:=rfl
@[simp ↓] theorem B8{e}:wpS W (.set 0 e) De ES (x::σ) M=wpE W e (x::σ) M (fun v M1=>De.nx (some v::σ) M1) (ES (x::σ)):=rfl
@[simp ↓] theorem Dw{e}:wpS W (.set 1 e) De ES (y0::x::σ) M=wpE W e (y0::x::σ) M (fun v M1=>De.nx (y0::some v::σ) M1) (ES (y0::x::σ)):=rfl
@[simp ↓] theorem DI{e}:wpS W (.set 2 e) De ES (y0::y1::x::σ) M=wpE W e (y0::y1::x::σ) M (fun v M1=>De.nx (y0::y1::some v::σ) M1) (ES (y0::y1::x::σ)):=rfl
@[simp ↓] theorem CH{e}:wpS W (.set 3 e) De ES (y0::y1::y2::x::σ) M=wpE W e (y0::y1::y2::x::σ) M (fun v M1=>De.nx (y0::y1::y2::some v::σ) M1) (ES (y0::y1::y2::x::σ)):=rfl
@[simp ↓] theorem CT{e}:wpS W (.set 4 e) De ES (y0::y1::y2::y3::x::σ) M=wpE W e (y0::y1::y2::y3::x::σ) M (fun v M1=>De.nx (y0::y1::y2::y3::some v::σ) M1) (ES (y0::y1::y2::y3::x::σ)):=rfl
@[simp ↓] theorem Dd{e}:wpS W (.set 5 e) De ES (y0::y1::y2::y3::y4::x::σ) M=wpE W e (y0::y1::y2::y3::y4::x::σ) M (fun v M1=>De.nx (y0::y1::y2::y3::y4::some v::σ) M1) (ES (y0::y1::y2::y3::y4::x::σ)):=rfl
@[simp ↓] theorem Cc{e}:wpS W (.set 6 e) De ES (y0::y1::y2::y3::y4::y5::x::σ) M=wpE W e (y0::y1::y2::y3::y4::y5::x::σ) M (fun v M1=>De.nx (y0::y1::y2::y3::y4::y5::some v::σ) M1) (ES (y0::y1::y2::y3::y4::y5::x::σ)):=rfl
@[simp ↓] theorem DM{e}:wpS W (.set 7 e) De ES (y0::y1::y2::y3::y4::y5::y6::x::σ) M=wpE W e (y0::y1::y2::y3::y4::y5::y6::x::σ) M (fun v M1=>De.nx (y0::y1::y2::y3::y4::y5::y6::some v::σ) M1) (ES (y0::y1::y2::y3::y4::y5::y6::x::σ)):=rfl
@[simp ↓] theorem Dt{e}:wpS W (.set 8 e) De ES (y0::y1::y2::y3::y4::y5::y6::y7::x::σ) M=wpE W e (y0::y1::y2::y3::y4::y5::y6::y7::x::σ) M (fun v M1=>De.nx (y0::y1::y2::y3::y4::y5::y6::y7::some v::σ) M1) (ES (y0::y1::y2::y3::y4::y5::y6::y7::x::σ)):=rfl
@[simp ↓] theorem Dv{e}:wpS W (.set 9 e) De ES (y0::y1::y2::y3::y4::y5::y6::y7::y8::x::σ) M=wpE W e (y0::y1::y2::y3::y4::y5::y6::y7::y8::x::σ) M (fun v M1=>De.nx (y0::y1::y2::y3::y4::y5::y6::y7::y8::some v::σ) M1) (ES (y0::y1::y2::y3::y4::y5::y6::y7::y8::x::σ)):=rfl
@[simp ↓] theorem Bv{e}:wpS W (.set 10 e) De ES (y0::y1::y2::y3::y4::y5::y6::y7::y8::y9::x::σ) M=wpE W e (y0::y1::y2::y3::y4::y5::y6::y7::y8::y9::x::σ) M (fun v M1=>De.nx (y0::y1::y2::y3::y4::y5::y6::y7::y8::y9::some v::σ) M1) (ES (y0::y1::y2::y3::y4::y5::y6::y7::y8::y9::x::σ)):=rfl
@[simp ↓] theorem BY{e}:wpS W (.set 11 e) De ES (y0::y1::y2::y3::y4::y5::y6::y7::y8::y9::y10::x::σ) M=wpE W e (y0::y1::y2::y3::y4::y5::y6::y7::y8::y9::y10::x::σ) M (fun v M1=>De.nx (y0::y1::y2::y3::y4::y5::y6::y7::y8::y9::y10::some v::σ) M1) (ES (y0::y1::y2::y3::y4::y5::y6::y7::y8::y9::y10::x::σ)):=rfl
@[simp ↓] theorem AT{e}:wpS W (.set 12 e) De ES (y0::y1::y2::y3::y4::y5::y6::y7::y8::y9::y10::y11::x::σ) M=wpE W e (y0::y1::y2::y3::y4::y5::y6::y7::y8::y9::y10::y11::x::σ) M (fun v M1=>De.nx (y0::y1::y2::y3::y4::y5::y6::y7::y8::y9::y10::y11::some v::σ) M1) (ES (y0::y1::y2::y3::y4::y5::y6::y7::y8::y9::y10::y11::x::σ)):=rfl
@[simp ↓] theorem BE{e}:wpS W (.set 13 e) De ES (y0::y1::y2::y3::y4::y5::y6::y7::y8::y9::y10::y11::y12::x::σ) M=wpE W e (y0::y1::y2::y3::y4::y5::y6::y7::y8::y9::y10::y11::y12::x::σ) M (fun v M1=>De.nx (y0::y1::y2::y3::y4::y5::y6::y7::y8::y9::y10::y11::y12::some v::σ) M1) (ES (y0::y1::y2::y3::y4::y5::y6::y7::y8::y9::y10::y11::y12::x::σ)):=rfl
@[simp ↓] theorem AL{e}:wpS W (.set 14 e) De ES (y0::y1::y2::y3::y4::y5::y6::y7::y8::y9::y10::y11::y12::y13::x::σ) M=wpE W e (y0::y1::y2::y3::y4::y5::y6::y7::y8::y9::y10::y11::y12::y13::x::σ) M (fun v M1=>De.nx (y0::y1::y2::y3::y4::y5::y6::y7::y8::y9::y10::y11::y12::y13::some v::σ) M1) (ES (y0::y1::y2::y3::y4::y5::y6::y7::y8::y9::y10::y11::y12::y13::x::σ)):=rfl
@[simp ↓] theorem BJ{e}:wpS W (.set 15 e) De ES (y0::y1::y2::y3::y4::y5::y6::y7::y8::y9::y10::y11::y12::y13::y14::x::σ) M=wpE W e (y0::y1::y2::y3::y4::y5::y6::y7::y8::y9::y10::y11::y12::y13::y14::x::σ) M (fun v M1=>De.nx (y0::y1::y2::y3::y4::y5::y6::y7::y8::y9::y10::y11::y12::y13::y14::some v::σ) M1) (ES (y0::y1::y2::y3::y4::y5::y6::y7::y8::y9::y10::y11::y12::y13::y14::x::σ)):=rfl
@[simp ↓] theorem BQ{e}:wpS W (.set 16 e) De ES (y0::y1::y2::y3::y4::y5::y6::y7::y8::y9::y10::y11::y12::y13::y14::y15::x::σ) M=wpE W e (y0::y1::y2::y3::y4::y5::y6::y7::y8::y9::y10::y11::y12::y13::y14::y15::x::σ) M (fun v M1=>De.nx (y0::y1::y2::y3::y4::y5::y6::y7::y8::y9::y10::y11::y12::y13::y14::y15::some v::σ) M1) (ES (y0::y1::y2::y3::y4::y5::y6::y7::y8::y9::y10::y11::y12::y13::y14::y15::x::σ)):=rfl
@[simp ↓] theorem B1{e}:wpS W (.set 17 e) De ES (y0::y1::y2::y3::y4::y5::y6::y7::y8::y9::y10::y11::y12::y13::y14::y15::y16::x::σ) M=wpE W e (y0::y1::y2::y3::y4::y5::y6::y7::y8::y9::y10::y11::y12::y13::y14::y15::y16::x::σ) M (fun v M1=>De.nx (y0::y1::y2::y3::y4::y5::y6::y7::y8::y9::y10::y11::y12::y13::y14::y15::y16::some v::σ) M1) (ES (y0::y1::y2::y3::y4::y5::y6::y7::y8::y9::y10::y11::y12::y13::y14::y15::y16::x::σ)):=rfl
@[simp ↓] theorem C4:wpS W (.del 0) De ES (some (.ref a)::σ) M=De.nx (some (.ref a)::σ) (L2.del M a):=rfl
@[simp ↓] theorem B9:wpS W (.del 1) De ES (y0::some (.ref a)::σ) M=De.nx (y0::some (.ref a)::σ) (L2.del M a):=rfl
@[simp ↓] theorem Cm:wpS W (.del 2) De ES (y0::y1::some (.ref a)::σ) M=De.nx (y0::y1::some (.ref a)::σ) (L2.del M a):=rfl
@[simp ↓] theorem DB:wpS W (.del 3) De ES (y0::y1::y2::some (.ref a)::σ) M=De.nx (y0::y1::y2::some (.ref a)::σ) (L2.del M a):=rfl
@[simp ↓] theorem Co:wpS W (.del 4) De ES (y0::y1::y2::y3::some (.ref a)::σ) M=De.nx (y0::y1::y2::y3::some (.ref a)::σ) (L2.del M a):=rfl
@[simp ↓] theorem CO:wpS W (.del 5) De ES (y0::y1::y2::y3::y4::some (.ref a)::σ) M=De.nx (y0::y1::y2::y3::y4::some (.ref a)::σ) (L2.del M a):=rfl
@[simp ↓] theorem Dh:wpS W (.del 6) De ES (y0::y1::y2::y3::y4::y5::some (.ref a)::σ) M=De.nx (y0::y1::y2::y3::y4::y5::some (.ref a)::σ) (L2.del M a):=rfl
@[simp ↓] theorem Dp:wpS W (.del 7) De ES (y0::y1::y2::y3::y4::y5::y6::some (.ref a)::σ) M=De.nx (y0::y1::y2::y3::y4::y5::y6::some (.ref a)::σ) (L2.del M a):=rfl
@[simp ↓] theorem Dz:wpS W (.del 8) De ES (y0::y1::y2::y3::y4::y5::y6::y7::some (.ref a)::σ) M=De.nx (y0::y1::y2::y3::y4::y5::y6::y7::some (.ref a)::σ) (L2.del M a):=rfl
@[simp ↓] theorem Db:wpS W (.del 9) De ES (y0::y1::y2::y3::y4::y5::y6::y7::y8::some (.ref a)::σ) M=De.nx (y0::y1::y2::y3::y4::y5::y6::y7::y8::some (.ref a)::σ) (L2.del M a):=rfl
@[simp ↓] theorem Bl:wpS W (.del 10) De ES (y0::y1::y2::y3::y4::y5::y6::y7::y8::y9::some (.ref a)::σ) M=De.nx (y0::y1::y2::y3::y4::y5::y6::y7::y8::y9::some (.ref a)::σ) (L2.del M a):=rfl
@[simp ↓] theorem A8:wpS W (.del 11) De ES (y0::y1::y2::y3::y4::y5::y6::y7::y8::y9::y10::some (.ref a)::σ) M=De.nx (y0::y1::y2::y3::y4::y5::y6::y7::y8::y9::y10::some (.ref a)::σ) (L2.del M a):=rfl
@[simp ↓] theorem A9:wpS W (.del 12) De ES (y0::y1::y2::y3::y4::y5::y6::y7::y8::y9::y10::y11::some (.ref a)::σ) M=De.nx (y0::y1::y2::y3::y4::y5::y6::y7::y8::y9::y10::y11::some (.ref a)::σ) (L2.del M a):=rfl
@[simp ↓] theorem Br:wpS W (.del 13) De ES (y0::y1::y2::y3::y4::y5::y6::y7::y8::y9::y10::y11::y12::some (.ref a)::σ) M=De.nx (y0::y1::y2::y3::y4::y5::y6::y7::y8::y9::y10::y11::y12::some (.ref a)::σ) (L2.del M a):=rfl
@[simp ↓] theorem AN:wpS W (.del 14) De ES (y0::y1::y2::y3::y4::y5::y6::y7::y8::y9::y10::y11::y12::y13::some (.ref a)::σ) M=De.nx (y0::y1::y2::y3::y4::y5::y6::y7::y8::y9::y10::y11::y12::y13::some (.ref a)::σ) (L2.del M a):=rfl
@[simp ↓] theorem AW:wpS W (.del 15) De ES (y0::y1::y2::y3::y4::y5::y6::y7::y8::y9::y10::y11::y12::y13::y14::some (.ref a)::σ) M=De.nx (y0::y1::y2::y3::y4::y5::y6::y7::y8::y9::y10::y11::y12::y13::y14::some (.ref a)::σ) (L2.del M a):=rfl
@[simp ↓] theorem AO:wpS W (.del 16) De ES (y0::y1::y2::y3::y4::y5::y6::y7::y8::y9::y10::y11::y12::y13::y14::y15::some (.ref a)::σ) M=De.nx (y0::y1::y2::y3::y4::y5::y6::y7::y8::y9::y10::y11::y12::y13::y14::y15::some (.ref a)::σ) (L2.del M a):=rfl
@[simp ↓] theorem Bd:wpS W (.del 17) De ES (y0::y1::y2::y3::y4::y5::y6::y7::y8::y9::y10::y11::y12::y13::y14::y15::y16::some (.ref a)::σ) M=De.nx (y0::y1::y2::y3::y4::y5::y6::y7::y8::y9::y10::y11::y12::y13::y14::y15::y16::some (.ref a)::σ) (L2.del M a):=rfl
@[simp ↓] theorem Bj{j}:(fB De j).nx σ M=De.nx (σ.set j none) M:=rfl
@[simp ↓] theorem Bm{j v}:(fB De j).rt v M=De.rt v M:=rfl
@[simp ↓] theorem yw{j}:(fB De j).nx=fun σ M=>De.nx (σ.set j none) M:=rfl
@[simp ↓] theorem yN{j}:(fB De j).rt=De.rt:=rfl
noncomputable def lr(B:WB)(f:Nat)(y:D)(R:MH->Prop):VK3:=fun x M2=>match x with
  |.ref a=>match M2 a with
   |some (.ins i C ns ds)=>(C=B.kls i/\i < B.nk/\B.fok i f=true/\ns.length < 1000)/\R (put M2 a (.ins i C (bx f ns) (bz f y ns ds)))
   |_=>False
  |_=>False
@[simp ↓] theorem As{B:WB}{i C ns ds}:lr B f y R (.ref a) (put M a (.ins i C ns ds))=((C=B.kls i/\i < B.nk/\B.fok i f=true/\ns.length < 1000)/\R (put M a (.ins i C (bx f ns) (bz f y ns ds)))):=by
 simp[lr,ac,aR]
noncomputable def wK(is:List Nat)(σ:St3)(k:St3->MH->Prop):VK3:=fun x M1=>match x with
  |.tup ds=>ds.length=is.length/\k ((is.zip ds).foldl (fun σ p=>σ.set p.1 (some p.2)) σ) M1
  |_=>False
@[simp ↓] theorem AY{i j a b k}:wK [i,j] σ k (.tup [a,b]) M=k ((σ.set i (some a)).set j (some b)) M:=by
 simp[wK]
@[simp ↓] theorem B0{e}:wpS W (.expr e) De ES σ M=wpE W e σ M (fun _ M1=>De.nx σ M1) (ES σ):=rfl
@[simp ↓] theorem w6{e}:wpS W (.ret e) De ES σ M=wpE W e σ M De.rt (ES σ):=rfl
@[simp ↓] theorem Bc:wpS W .retN De ES σ M=De.rt .non M:=rfl
@[simp ↓] theorem BV:wpS W .dead De ES σ M=False:=rfl
@[simp ↓] theorem Bh{o f e}:wpS W (.fset o f e) De ES σ M=wpE W e σ M (fun y M1=>wpE W o σ M1 (lr W.toWB f y (De.nx σ)) (ES σ)) (ES σ):=rfl
@[simp ↓] theorem zJ{o i e}:wpS W (.ixset o i e) De ES σ M=wpE W e σ M (fun y M1=>wpE W o σ M1 (fun x M2=>wpE W i σ M2 (fun k M3=>bh x k y M3 fun M4=>De.nx σ M4) (ES σ)) (ES σ)) (ES σ):=rfl
@[simp ↓] theorem CI{c a b}:wpS W (.ifs c a b) De ES σ M=wpT W c σ M (fun k M1=>if k=true then aq W a De ES σ M1 else aq W b De ES σ M1) (ES σ):=rfl
noncomputable def bB(W:WC)(tg:ITg)(body:ISs)(ES:St3->XN)(S:MH->Prop)(De:Ends3):List D->St3->MH->Prop:=bK (wpG tg) (fun D σ M=>aq W body D ES σ M) S De
@[simp ↓] theorem Ci{tg it body}:wpS W (.for_ tg it body) De ES σ M=wpI W it σ M (fun ds S M1=>bB W tg body ES S De ds σ M1) (ES σ):=rfl
theorem bb{tg body S}:bB W tg body ES S De [] σ M=(S M/\De.nx σ M):=rfl
theorem aH{tg body S d r}:bB W tg body ES S De (d::r) σ M=(S M/\wpG tg d σ M fun σ2 M2=>aq W body {De with nx:=bB W tg body ES S De r,ct:=bB W tg body ES S De r,bk:=De.nx} ES σ2 M2):=rfl
@[simp ↓] theorem xP{c e}:wpS W (.raiseI c (.cons e .nil)) De ES σ M=wpE W e σ M (fun y M1=>dq (W.xin c) fun f=>rXp f y M1 fun y'=>ES σ ⟨c,some (f,y')⟩ M1) (ES σ):=rfl
@[simp ↓] theorem Cq{body hs}:wpS W (.try_ body hs) De ES σ M=aq W body De (fun σ' i M'=>wpH W hs i De σ' M') σ M:=rfl
noncomputable def ou(W:WC)(e:IE)(De:Ends3)(E:XN)(σ:St3):VK3:=fun x M1=>match x with
  |.ref a=>match M1 a with
   |some (.lst _)=>wpE W e σ M1 (fun y M2=>match M2 a with
    |some (.lst ds)=>ds.length < sizeLine/\De.nx σ (put M2 a (.lst (ds++[y])))
    |_=>False) E
   |_=>False
  |_=>False
@[simp ↓] theorem C6{o e}:wpS W (.app o e) De ES σ M=wpE W o σ M (ou W e De (ES σ) σ) (ES σ):=rfl
noncomputable def jk(p:Addr)(De:Ends3)(σ:St3):VK3:=fun y M2=>match M2 p with
    |some (.lst ds)=>ds.length < sizeLine/\De.nx σ (put M2 p (.lst (ds++[y])))
    |_=>False
@[simp ↓] theorem BF{e E p ds}:ou W e De E σ (.ref p) (put M p (.lst ds))=wpE W e σ (put M p (.lst ds)) (jk p De σ) E:=by
 unfold ou;simp only[ac];rfl
@[simp ↓] theorem Af{p ds y}:jk p De σ y (put M p (.lst ds))=(ds.length < sizeLine/\De.nx σ (put M p (.lst (ds++[y])))):=by
 unfold jk;simp only[ac,aR]
@[simp ↓] theorem xY{R p ds}:gR R (.ref p) (put M p (.lst ds))=R ds (fun M=>M p=some (.lst ds)) (put M p (.lst ds)):=pM ac
@[simp ↓] theorem BH{i d k}:wpG (.name i) d σ M k=k (σ.set i (some d)) M:=rfl
@[simp ↓] theorem C5{is d k}:wpG (.tup is) d σ M k=wK is σ k d M:=rfl
end
section
variable {i j:Int}{x:D}
@[simp ↓] theorem Ef:d8 .Add (.int i) (.int j) M Q=Q (.int (i+j)) M:=rfl
@[simp ↓] theorem Et:d8 .Sub (.int i) (.int j) M Q=Q (.int (i - j)) M:=rfl
@[simp ↓] theorem D9:d8 .Mult (.int i) (.int j) M Q=(fS i j/\Q (.int (i * j)) M):=rfl
@[simp ↓] theorem Ee:d8 .FloorDiv (.int i) (.int j) M Q=(i8 i j/\Q (.int (i / j)) M):=rfl
@[simp ↓] theorem EV:d8 .Mod (.int i) (.int j) M Q=(0 < j/\Q (.int (i % j)) M):=rfl
@[simp ↓] theorem DU:d8 .Pow (.int i) (.int j) M Q=(pK i j/\Q (.int (i ^ j.toNat)) M):=rfl
@[simp ↓] theorem EA:d8 .RShift (.int i) (.int j) M Q=(0<=j/\Q (.int (i / 2 ^ j.toNat)) M):=rfl
@[simp ↓] theorem Ev:d8 .BitAnd (.int i) (.int j) M Q=Q (.int (Builtin.bitAnd i j)) M:=rfl
@[simp ↓] theorem Ct{s t:Str}:d8 .Add (.str s) (.str t) M Q=(s.length+t.length<=sizeLine/\Q (.str (s++t)) M):=rfl
@[simp ↓] theorem CL{z:Str}:d8 .Mult (.str z) (.int j) M Q=((0<=j/\j<=100000/\z.length<=10)/\Q (.str (im z j)) M):=rfl
@[simp ↓] theorem EH:ao .In (.str s) (.str t) M Q=Q (.bl (qK s t)) M:=by simp[ao,jX,ay,ai,dI,d5,cP]
@[simp ↓] theorem Ds:ao .NotIn (.str s) (.str t) M Q=Q (.bl (!qK s t)) M:=by simp[ao,jX,ay,ai,dI,d5,cP]
@[simp ↓] theorem Fp{s:Str}:am (.str s) (.int j) M Q=((0<=j/\j < s.length/\j < 2 ^ 63)/\Q (.str (qQ s j.toNat)) M):=by simp[am,ay,ai,dI,d5,cP]
@[simp ↓] theorem BZ{ks:List (List Int)}:rBi .len [.dit ks ds] M Q=Q (.int ks.length) M:=rfl
@[simp ↓] theorem At{fz}{ks:List (List Int)}:rBi (.list fz) [.dit ks ds] M Q=aW fz (ks.map cJ) M Q:=rfl
@[simp ↓] theorem Bg{s:Str}:rBi .len [.str s] M Q=(s.length<=sizeLine/\Q (.int s.length) M):=rfl
@[simp ↓] theorem E0:rNeg (.int i) M Q=Q (.int (-i)) M:=rfl
@[simp ↓] theorem E6:ao .Lt (.int i) (.int j) M Q=Q (.bl (decide (i < j))) M:=rfl
@[simp ↓] theorem E8:ao .LtE (.int i) (.int j) M Q=Q (.bl (decide (i<=j))) M:=rfl
@[simp ↓] theorem E9:ao .Gt (.int i) (.int j) M Q=Q (.bl (decide (j < i))) M:=rfl
@[simp ↓] theorem Fq:ao .GtE (.int i) (.int j) M Q=Q (.bl (decide (j<=i))) M:=rfl
@[simp ↓] theorem D7:ao .Eq (.int i) (.int j) M Q=Q (.bl (decide (i=j))) M:=by simp[ao,eS,rs,ai,plN,eqD]
@[simp ↓] theorem D6:ao .NotEq (.int i) (.int j) M Q=Q (.bl (!decide (i=j))) M:=by simp[ao,eS,rs,ai,plN,eqD]
@[simp ↓] theorem DR:ao .Eq (.bl a) (.bl b) M Q=Q (.bl (a == b)) M:=by simp[ao,eS,rs,ai,plN,eqD]
@[simp ↓] theorem ED:ao .NotEq (.bl a) (.bl b) M Q=Q (.bl (!(a == b))) M:=by simp[ao,eS,rs,ai,plN,eqD]
@[simp ↓] theorem Ec:ao .NotEq (.str s) (.str t) M Q=Q (.bl (!decide (s=t))) M:=by simp[ao,eS,rs,ai,plN,eqD]
@[simp ↓] theorem EK:ao .Eq (.str s) (.str t) M Q=Q (.bl (decide (s=t))) M:=by simp[ao,eS,rs,ai,plN,eqD]
@[simp ↓] theorem EB:ao .Is x .non M Q=Q (.bl x.isN) M:=by simp[ao,kK]
@[simp ↓] theorem Dl:ao .IsNot x .non M Q=Q (.bl (!x.isN)) M:=by simp[ao,kK]
@[simp ↓] theorem ET:ao .Is (.bl a) (.bl b) M Q=Q (.bl (a == b)) M:=by simp[ao,kK]
@[simp ↓] theorem C9:ao .IsNot (.bl a) (.bl b) M Q=Q (.bl (!(a == b))) M:=by simp[ao,kK]
@[simp] theorem A1:(D.int i).isN=false:=rfl
@[simp] theorem BU:D.non.isN=true:=rfl
@[simp] theorem Bp{ds}:(D.tup ds).isN=false:=rfl
@[simp] theorem Bz{ds}:(D.rol ds).isN=false:=rfl
@[simp] theorem Cp:(D.bl a).isN=false:=rfl
@[simp ↓] theorem Eh{d l}:am (.tup (d::l)) (.int 0) M Q=Q d M:=by simp[am,ay,zh]
@[simp ↓] theorem EI{d e l}:am (.tup (d::e::l)) (.int 1) M Q=Q e M:=by simp[am,ay,xX]
@[simp ↓] theorem Ek{d e f l}:am (.tup (d::e::f::l)) (.int 2) M Q=Q f M:=by simp[am,ay,xZ]
@[simp ↓] theorem DS{d e f g l}:am (.tup (d::e::f::g::l)) (.int 3) M Q=Q g M:=by simp[am,ay,yl]
@[simp ↓] theorem EW{d e f g h l}:am (.tup (d::e::f::g::h::l)) (.int 4) M Q=Q h M:=by
 have:atI (d::e::f::g::h::l) 4=some h:=dc (j:=4) rfl;simp[am,ay,this]
theorem va{ds y}(h:M a=some (.lst ds)):am (.ref a) y M Q=am (.rol ds) y M Q:=by
 cases y<;>simp[am,ay,ai,h]
@[simp ↓] theorem vS{ds y}:am (.ref a) y (put M a (.lst ds)) Q=am (.rol ds) y (put M a (.lst ds)) Q:=va ac
@[simp ↓] theorem A0{fz ds es}:cr fz (.ref a) (.rol es) (put M a (.lst ds)) Q=aW fz (ds++es) (put M a (.lst ds)) Q:=by simp[cr,ai,ac]
@[simp] theorem Bq{ds}:res (put M a (.lst ds)) (.ref a)=.rol ds:=by simp[res,ai,ac]
@[simp ↓] theorem Ad{ds}:rBi (.list true) [.tup ds] M Q=(ds.length<=sizeLine/\Q (.rol ds) M):=rfl
@[simp ↓] theorem yI{ds}:rBi (.list true) [.rol ds] M Q=(ds.length<=sizeLine/\Q (.rol ds) M):=rfl
@[simp ↓] theorem Cy{ds es}:ao .Eq (.ref a) (.rol es) (put M a (.lst ds)) Q=ao .Eq (.rol ds) (.rol es) (put M a (.lst ds)) Q:=by
 simp[ao,eS,rs,ai,ac]
@[simp ↓] theorem Cw{ds es}:ao .NotEq (.ref a) (.rol es) (put M a (.lst ds)) Q=ao .NotEq (.rol ds) (.rol es) (put M a (.lst ds)) Q:=by
 simp[ao,eS,rs,ai,ac]
@[simp ↓] theorem Ea{d l}:am (.rol (d::l)) (.int 0) M Q=Q d M:=by simp[am,ay,ai,zh]
@[simp ↓] theorem EQ{d e l}:am (.rol (d::e::l)) (.int 1) M Q=Q e M:=by simp[am,ay,ai,xX]
@[simp ↓] theorem Ew{d e f l}:am (.rol (d::e::f::l)) (.int 2) M Q=Q f M:=by simp[am,ay,ai,xZ]
@[simp ↓] theorem Eu{d e f g l}:am (.rol (d::e::f::g::l)) (.int 3) M Q=Q g M:=by simp[am,ay,ai,yl]
@[simp ↓] theorem AM{ds}:rBi .len [.tup ds] M Q=Q (.int ds.length) M:=rfl
@[simp ↓] theorem BX{ds}:rBi .len [.rol ds] M Q=Q (.int ds.length) M:=rfl
@[simp ↓] theorem DP:rBi .max [.int i,.int j] M Q=Q (.int (if j > i then j else i)) M:=rfl
@[simp ↓] theorem C1:rBi .min [.int i,.int j] M Q=Q (.int (if j < i then j else i)) M:=rfl
@[simp ↓] theorem DZ{ds}:aW true ds M Q=(ds.length<=sizeLine/\Q (.rol ds) M):=by simp[aW]
@[simp ↓] theorem Dg{ds es}:cr true (.rol ds) (.rol es) M Q=((ds++es).length<=sizeLine/\Q (.rol (ds++es)) M):=by simp[cr,ai,aW]
@[simp ↓] theorem Ep{ds}:aW false ds M Q=(ds.length<=sizeLine/\∀p,M p=none->Q (.ref p) (put M p (.lst ds))):=by simp[aW]
@[simp ↓] theorem AH{ds es}:cr false (.rol ds) (.rol es) M Q=((ds++es).length<=sizeLine/\∀p,M p=none->Q (.ref p) (put M p (.lst (ds++es)))):=by simp[cr,ai,aW]
@[simp ↓] theorem DQ{mx dflt ds}:rMM mx dflt (.rol ds) M Q=(match bO ds with
  |some []=>dflt=true/\Q .non M
  |some (n::ns)=>Q (.int (ns.foldl (mmI mx) n)) M
  |none=>False):=rfl
@[simp ↓] theorem Bb{mx ds}:lc mx (.rol ds) M Q=(match bO ds with
  |some []=>Q (.int 0) M
  |some (n::ns)=>Q (.int (ns.foldl (mmI mx) n)) M
  |none=>False):=rfl
@[simp ↓] theorem Dx{ds}:rSm (.rol ds) M Q=(match bO ds with
  |some ns=>Q (.int ns.sum) M
  |none=>False):=rfl
@[simp ↓] theorem CW{j:Int}:rLg true (.int j) M Q=((-(2 ^ 62)<=j/\j<=2 ^ 20)/\aW true (rng 0 j.toNat) M Q):=rfl
@[simp ↓] theorem Fl{ds l h}:iC true (.rol ds) l h M Q=((fW ds l h).length<=sizeLine/\Q (.rol (fW ds l h)) M):=by simp[iC,ai,aW]
@[simp ↓] theorem yy{ds}:rBi (.list true) [.rol ds] M Q=(ds.length<=sizeLine/\Q (.rol ds) M):=by simp[rBi,ay,ai,aW]
@[simp ↓] theorem BO{t}:dn t (.int i) M Q=Q (.bl (match t with|.int=>true|_=>false)) M:=rfl
@[simp ↓] theorem B3{t}:dn t (.bl a) M Q=Q (.bl (match t with|.int=>true|.bool=>true|_=>false)) M:=rfl
@[simp ↓] theorem BR{t}:dn t .non M Q=Q (.bl false) M:=rfl
@[simp ↓] theorem Be{t ds}:dn t (.tup ds) M Q=Q (.bl (match t with|.tuple=>true|_=>false)) M:=rfl
@[simp ↓] theorem Bo{t ds}:dn t (.rol ds) M Q=Q (.bl (match t with|.list=>true|_=>false)) M:=rfl
@[simp ↓] theorem Bf{t}:dn t (.str s) M Q=Q (.bl (match t with|.str=>true|_=>false)) M:=rfl
end
section
variable {W:WC}{tg:ITg}{cond:ITO}{elt:IE}{p:Addr}{Q:VK3}{σ:St3}{M:MH}{ys:List D}
@[simp ↓] theorem AU{ds}:dP Q (.ref p) (put M p (.lst ds))=Q (.rol ds) (L2.del (put M p (.lst ds)) p):=by
 simp only[dP,ac]
noncomputable def Fm(M:MH):Prop:=∃n,∀p,n<=p->M p=none
theorem Fm.nil:Fm (fun _=>none):=⟨0,fun _ _=>rfl⟩
theorem oq{M:MH}(h:Fm M){p:Prop}:(∀a:Addr,M a=none->p)=p:=propext ⟨fun f=>let ⟨n,k⟩:=h;f n (k n (Nat.le_refl _)),fun f _ _=>f⟩
theorem Fm.put{M:MH}(h:Fm M)(p:Addr)(o:DO):Fm (put M p o):=by
 obtain⟨n,h⟩:=h;refine⟨max n (p+1),fun q hq=>?_⟩
 rw[af (Nat.ne_of_gt (Nat.lt_of_succ_le (Nat.le_trans (Nat.le_max_right n (p+1)) hq)))];exact h q (Nat.le_trans (Nat.le_max_left _ _) hq)
theorem gZ{M:MH}(hM:Fm M){P:Addr->Prop}{q:Prop}(h:∀p,M p=none->P p=q):(∀p,M p=none->P p)=q:=by
 rw[<-oq hM (p:=q)];exact forall_congr fun p=>implies_congr_ctx rfl fun hp=>h p hp
theorem zL{cs:List Int}(h1 : -(cs.length:Int)<=i)(h2:i < cs.length):∃x,atI (cs.map D.int) i=some (.int x):=by
 unfold atI ixN;rw[List.length_map];by_cases h:0<=i
 ·have hk:i.toNat < cs.length:=by omega
  rw[if_pos h,if_pos h2];exact⟨cs[i.toNat],by simp[List.getElem?_eq_getElem hk]⟩
 ·have hk:(i+cs.length).toNat < cs.length:=by omega
  rw[if_neg h,if_pos h1];exact⟨cs[(i+cs.length).toNat],by simp[List.getElem?_eq_getElem hk]⟩
theorem bS(h:atI ds i=some x):am (.rol ds) (.int i) M Q=Q x M:=by simp[am,ay,ai,h]
noncomputable def Ext(M M':MH):Prop:=Fm M'/\∀a o,M a=some o->M' a=some o
theorem Ext.put{M:MH}(hM:Fm M){p:Addr}(h:M p=none)(o:DO):Ext M (put M p o):=⟨hM.put _ _,fun a u e=>by rw[af (fun z=>by rw[z,h]at e;cases e)];exact e⟩
section
variable {W:WC}{σ:St3}{M:MH}{Q:VK3}{tg:ITg}{cond:ITO}{elt:IE}{p:Addr}{S:MH->Prop}
theorem oj{ys:List D}(hp:M p=none)(hS:S (put M p (.lst ys))):g8 W tg cond elt S p (dP Q) [] ys σ (put M p (.lst ys))=Q (.rol ys) M:=by
 show (S (put M p (.lst ys))/\dP Q (.ref p) (put M p (.lst ys)))=_;simp[dP,ac,hS,gg hp]
theorem l8{d:D}{r ys:List D}:g8 W tg cond elt S p Q (d::r) ys σ M=(S M/\ys.length < sizeLine/\wpG tg d σ M fun σ2 M2=>gW W cond σ2 M2 (fun b M3=>if b=true then wpE W elt σ2 M3 (fun y M4=>M4 p=some (.lst ys)/\g8 W tg cond elt S p Q r (ys++[y]) σ2 (put M4 p (.lst (ys++[y])))) (fun _ _=>False) else g8 W tg cond elt S p Q r ys σ2 M3) (fun _ _=>False)):=rfl
theorem gV(P:St3->Prop)(st:D->St3)(c:D->Bool)(f:D->D):∀(ds ys:List D)(σ:St3) {M:MH},P σ->Fm M->M p=none->ys.length+ds.length < sizeLine->(∀M',Ext M M'->S M')->
  (∀d∈ds,P (st d)/\∀σ,P σ->∀(M:MH)(k:St3->MH->Prop),wpG tg d σ M k=k (st d) M)->
  (∀d∈ds,∀M',Ext M M'->∀Q:Bool->MH->Prop,gW W cond (st d) M' Q (fun _ _=>False)=Q (c d) M')->
  (∀d∈ds,c d=true->∀M',Ext M M'->∀Q,wpE W elt (st d) M' Q (fun _ _=>False)=Q (f d) M')->
  g8 W tg cond elt S p (dP Q) ds ys σ (put M p (.lst ys))=Q (.rol (ys++(ds.filter c).map f)) M
 |[],ys,σ,M,h0,hM,hp,hl,hS,hg,hc,he=>by rw[oj hp (hS _ (.put hM hp _))];simp
 |d::ds,ys,σ,M,h0,hM,hp,hl,hS,hg,hc,he=>by
  have hl':ys.length+(ds.length+1) < sizeLine:=hl;obtain⟨g1,g2⟩:=hg d List.mem_cons_self;rw[l8,g2 σ h0,hc d List.mem_cons_self _ (.put hM hp _),eq_true (hS _ (.put hM hp _)),true_and];cases q:c d with
  |true=>
   rw[if_pos rfl,he d List.mem_cons_self q _ (.put hM hp _),ac,aR];rw[gV P st c f ds (ys++[f d]) (st d) g1 hM hp (by rw[List.length_append,List.length_singleton];omega) hS (fun e h=>hg e (List.mem_cons_of_mem _ h)) (fun e h=>hc e (List.mem_cons_of_mem _ h)) (fun e h=>he e (List.mem_cons_of_mem _ h))]
   simp only[List.filter_cons,q,if_true,List.map_cons,List.append_assoc,List.singleton_append,true_and];rw[eq_true (show ys.length < sizeLine by omega),true_and]
  |false=>
   rw[if_neg Bool.false_ne_true];rw[gV P st c f ds ys (st d) g1 hM hp (by omega) hS (fun e h=>hg e (List.mem_cons_of_mem _ h)) (fun e h=>hc e (List.mem_cons_of_mem _ h)) (fun e h=>he e (List.mem_cons_of_mem _ h))]
   simp only[List.filter_cons,q,Bool.false_eq_true,if_false];rw[eq_true (show ys.length < sizeLine by omega),true_and]
theorem fc{ds:List D}(P:St3->Prop)(st:D->St3)(c:D->Bool)(f:D->D)(h0:P σ)(hM:Fm M)(hl:ds.length < 10000)
  (hg:∀d∈ds,P (st d)/\∀σ,P σ->∀(M:MH)(k:St3->MH->Prop),wpG tg d σ M k=k (st d) M)
  (hc:∀d∈ds,∀M',Ext M M'->∀Q:Bool->MH->Prop,gW W cond (st d) M' Q (fun _ _=>False)=Q (c d) M')
  (he:∀d∈ds,c d=true->∀M',Ext M M'->∀Q,wpE W elt (st d) M' Q (fun _ _=>False)=Q (f d) M') (hS:∀M',Ext M M'->S M':=by exact fun _ _=>trivial) :
  iZ W tg cond elt S Q ds σ M=Q (.rol ((ds.filter c).map f)) M:=by
 have hl':([]:List D).length+ds.length < sizeLine:=by rw[List.length_nil,Nat.zero_add];exact Nat.lt_trans hl (by decide)
 exact gZ hM fun p hp=>by
  rw[gV P st c f ds [] σ h0 hM hp hl' hS hg hc he];simp
theorem cC{rest:St3}{x:Option D}{ds:List D}(c:D->Bool)(f:D->D)(hM:Fm M)(hl:ds.length < 10000)
  (hc:∀d∈ds,∀M',Ext M M'->∀Q:Bool->MH->Prop,gW W cond (some d::rest) M' Q (fun _ _=>False)=Q (c d) M')
  (he:∀d∈ds,c d=true->∀M',Ext M M'->∀Q,wpE W elt (some d::rest) M' Q (fun _ _=>False)=Q (f d) M') (hS:∀M',Ext M M'->S M':=by exact fun _ _=>trivial) :
  iZ W (.name 0) cond elt S Q ds (x::rest) M=Q (.rol ((ds.filter c).map f)) M:=
 fc (fun σ=>∃y,σ=y::rest) (fun d=>some d::rest) c f ⟨x,rfl⟩ hM hl (fun d _=>⟨⟨_,rfl⟩,fun σ ⟨y,e⟩ M k=>by subst e;rfl⟩) hc he hS
theorem iR{rest:St3}{x:Option D}{ds:List D}(f:D->D)(hM:Fm M)(hl:ds.length < 10000)
  (he:∀d∈ds,∀M',Ext M M'->∀Q,wpE W elt (some d::rest) M' Q (fun _ _=>False)=Q (f d) M') (hS:∀M',Ext M M'->S M':=by exact fun _ _=>trivial) :
  iZ W (.name 0) .no elt S Q ds (x::rest) M=Q (.rol (ds.map f)) M:=by
 rw[cC (fun _=>true) f hM hl (fun _ _ _ _ _=>rfl) (fun d hd _=>he d hd) hS]
 rw[List.filter_eq_self.mpr (fun _ _=>rfl)]
end
theorem tf(P:St3->Prop)(h0:P σ)(step:∀d∈ds,∀σ,P σ->∀k:St3->MH->Prop,(∀σ',P σ'->k σ' M)->wpG tg d σ M fun σ2 M2=>aq W body {De with nx:=k,ct:=k,bk:=De.nx} ES σ2 M2)(done:∀σ,P σ->De.nx σ M) :
  bB W tg body ES (fun _=>True) De ds σ M:=by
 induction ds generalizing σ with
 |nil=>rw[bb];exact⟨trivial,done σ h0⟩
 |cons d ds ih=>
  rw[aH];exact⟨trivial,step d List.mem_cons_self σ h0 _ fun σ' p=>ih p fun e he=>step e (List.mem_cons_of_mem _ he)⟩
theorem qc(P:St3->Prop)(hS:S M)(h0:P σ)(step:∀d∈ds,∀σ,P σ->∀k:St3->MH->Prop,(∀σ',P σ'->k σ' M)->wpG tg d σ M fun σ2 M2=>aq W body {De with nx:=k,ct:=k,bk:=De.nx} ES σ2 M2)(done:∀σ,P σ->De.nx σ M) :
  bB W tg body ES S De ds σ M:=by
 induction ds generalizing σ with
 |nil=>rw[bb];exact⟨hS,done σ h0⟩
 |cons d ds ih=>
  rw[aH];exact⟨hS,step d List.mem_cons_self σ h0 _ fun σ' p=>ih p fun e he=>step e (List.mem_cons_of_mem _ he)⟩
theorem oz(g:α->D)(f:α->Bool)(xs:List α)(h:∀x∈xs,g x=.bl (f x)):c6 (xs.map g)=some (xs.map f):=by
 induction xs with
 |nil=>rfl
 |cons a r ih=>
  rw[List.map_cons,h a List.mem_cons_self];simp only[c6];rw[ih fun x hx=>h x (List.mem_cons_of_mem _ hx)]
  rfl
theorem sD(f:α->Bool){xs:List α}(h:∀x∈xs,g x=.bl (f x)):rBi .any [.rol (xs.map g)] M Q=Q (.bl (xs.any f)) M:=by
 simp only[rBi,ai,oz g f xs h];simp[List.any_map,Function.comp_def]
end
end L2
namespace L2
open PySem PySem.NumText PyProof.Rows StrLaws
end L2
namespace HD
open PySem PySem.W PyProof.Rows L2
noncomputable def pw:Program:=PySem.Challenge.pw_driftmeet_k29_long_nets
noncomputable def top(i:Nat):Stmt:=PySem.Challenge.pw_driftmeet_k29_long_nets.main.body.getD i (.Pass ⟨0,0,0,0⟩)
noncomputable abbrev R(a:Nat):Value:=.ref a
noncomputable abbrev I(i:Nat):Value:=.int i 0
noncomputable abbrev e(P:Params)(s:String)(t:Nat)(v:Value):DictEntry:=⟨PyData.keyHash P s,.str s t,v⟩
noncomputable abbrev co(n:String)(a:Nat)(m:String)(b c d e g h i j:Nat)(k:Bool)(l o q r s:Nat):Data:=.fields #[.str n a,.str m b,.str "/claim/cut.py" c,I d,I e,I g,I h,I i,R j,.bool k,I l,R o,.none,.none,.none,.none,I q,I r,.str "/claim/cut.py" s]
noncomputable abbrev cp(n:String)(a:Nat)(m:String)(b c d e g h i j:Nat)(k:Bool)(l o x y z q r s:Nat):Data:=.fields #[.str n a,.str m b,.str "/claim/cut.py" c,I d,I e,I g,I h,I i,R j,.bool k,I l,R o,.none,R x,R y,R z,I q,I r,.str "/claim/cut.py" s]
noncomputable abbrev F:=Params->Obj
noncomputable abbrev fo(n q:String)(s:Stmt)(m:String)(t c:Nat):F:=fun _=>⟨.type "function",none,.func (fnOf n q (ba s) (aL s) (ar s) .none .none .none (.str m t) none (.ref c) .none),#[]⟩
noncomputable abbrev fp(n q:String)(s:Stmt):F:=fun _=>⟨.none,none,.func {fnOf n q (ba s) (aL s) (ar s) .none .none .none .none none .none .none with globals:=0,builtins:=0},#[]⟩
noncomputable abbrev vf(l:Array Value):F:=fun _=>⟨.none,none,.fields l,#[]⟩
noncomputable abbrev tu(l:Array Value):F:=fun _=>⟨.type "tuple",none,.seq l 0,#[]⟩
noncomputable abbrev cd(d:Data):F:=fun _=>⟨.type "code",none,d,#[]⟩
noncomputable abbrev bf(a:String)(b:Nat):F:=fun _=>⟨.type "builtin_function_or_method",none,.fields #[.builtin a,.ref b],#[]⟩
noncomputable abbrev n(o:F)(x y:Params->W.BT):Params->W.BT:=fun P=>.node (o P) (x P) (y P)
noncomputable abbrev z:Params->W.BT:=fun _=>.nil
noncomputable abbrev l(o:F):Params->W.BT:=fun P=>.node (o P) .nil .nil
noncomputable def o0:F:=tu #[]
noncomputable def o1:F:=vf #[]
noncomputable def o2:F:=cd (co "<module>" 182 "<module>" 183 184 1 0 0 0 0 11 false 181 12 185 1 186)
noncomputable def o3:F:=fun _=>⟨(.type "frame"),none,.plain,#[some (R 13),some (R 3),some (R 3),none,some (.str "__main__" 164),none,some (R 0)]⟩
noncomputable def o4:F:=fun P=>⟨(.type "dict"),none,(.dict #[e P "__name__" 165 (.str "law_driftmeet_k29_long_nets" 459),e P "__doc__" 166 .none,e P "__package__" 167 .none,e P "__loader__" 168 (.builtin "__main__.__loader__#opaque"),e P "__spec__" 169 .none,e P "__annotations__" 170 (R 6),e P "__builtins__" 171 (R 4),e P "__file__" 173 (.str "/claim/cut.py" 172),e P "__cached__" 174 .none,e P "DriftError" 206 (R 24),e P "NoName" 222 (R 37),e P "Ring" 247 (R 56),e P "refuse_unknown" 257 (R 65),e P "go_on" 271 (R 72),e P "settle" 284 (R 79),e P "way_by" 293 (R 86),e P "spans" 302 (R 93),e P "road" 313 (R 100),e P "road_roads" 314 (R 100),e P "needed_lifts" 322 (R 105),e P "Net" 458 (R 200),e P "_law_cell_at" 468 (R 211),e P "_law_whole" 475 (R 218),e P "_law_steps" 487 (R 225),e P "_law_order" 493 (R 230),e P "_law_sum" 507 (R 237),e P "_law_keep" 513 (R 242),e P "_law_ring" 524 (R 249),e P "law" 530 (R 254)] 29),#[]⟩
noncomputable def o5:F:=vf #[(I 2),(I 0),(R 20),(I 4),(I 0),(R 33),(I 6),(I 0),(R 45),(I 12),(I 0),(R 64),(I 15),(I 0),(R 71),(I 24),(I 0),(R 78),(I 32),(I 0),(R 85),(I 37),(I 0),(R 92),(I 42),(I 0),(R 99),(I 51),(I 0),(R 104),(I 57),(I 0),(R 111),(I 128),(I 0),(R 210),(I 132),(I 0),(R 217),(I 134),(I 0),(R 224),(I 141),(I 0),(R 229),(I 150),(I 0),(R 236),(I 165),(I 0),(R 241),(I 175),(I 0),(R 248),(I 181),(I 0),(R 253)]
noncomputable def o6:F:=tu #[(.type "ValueError")]
noncomputable def o7:F:=fun _=>⟨(.type "builtin_function_or_method"),none,(.fields #[(.builtin "type.__prepare__"),(.type "type")]),#[]⟩
noncomputable def o8:F:=fun P=>⟨(.type "dict"),none,(.dict #[e P "__module__" 196 (.str "driftmeet.errors" 187),e P "__qualname__" 198 (.str "DriftError" 197),e P "__firstlineno__" 200 (.int 2 199),e P "__static_attributes__" 201 (R 22)] 4),#[]⟩
noncomputable def o9:F:=cd (co "DriftError" 191 "DriftError" 192 193 2 0 0 0 0 18 false 181 19 194 2 195)
noncomputable def o10:F:=fun _=>⟨(.type "frame"),none,.plain,#[some (R 20),some (R 3),some (R 17),none,some (.str "driftmeet.errors" 187),none,some (R 0)]⟩
noncomputable def o11:F:=fun P=>⟨(.type "dict"),none,(.dict #[e P "__module__" 196 (.str "driftmeet.errors" 187),e P "__firstlineno__" 200 (.int 2 199),e P "__static_attributes__" 201 (R 22),e P "__weakref__" 203 (R 25),e P "__doc__" 204 .none] 3),#[]⟩
noncomputable def o12:F:=fun _=>⟨(.type "type"),none,(.cls ⟨"DriftError",[(.type "ValueError")],[(R 24),(.type "ValueError"),(.type "Exception"),(.type "BaseException"),(.type "object")],23,"DriftError",true,[],[(R 37),(R 56)],false,none,false⟩),#[some (R 15),none,some (.str "DriftError" 189),some (.str "DriftError" 197),some (.builtin "ValueError.__new__"),some (.bool true)]⟩
noncomputable def o13:F:=fun _=>⟨(.type "getset_descriptor"),none,(.fields #[(.str "__weakref__" 202),(R 24),(.builtin "ExceptionGroup.__weakref__"),.none]),#[]⟩
noncomputable def o14:F:=fun _=>⟨(.type "super"),none,(.fields #[(R 24),(R 24),(R 24)]),#[]⟩
noncomputable def o15:F:=bf "object.__init_subclass__" 24
noncomputable def o16:F:=tu #[(R 24)]
noncomputable def o17:F:=fun P=>⟨(.type "dict"),none,(.dict #[e P "__module__" 214 (.str "driftmeet.errors" 187),e P "__qualname__" 216 (.str "NoName" 215),e P "__firstlineno__" 218 (.int 4 217),e P "__static_attributes__" 219 (R 35)] 4),#[]⟩
noncomputable def o18:F:=cd (co "NoName" 209 "NoName" 210 211 4 0 0 0 0 31 false 181 32 212 4 213)
noncomputable def o19:F:=fun _=>⟨(.type "frame"),none,.plain,#[some (R 33),some (R 3),some (R 30),none,some (.str "driftmeet.errors" 187),none,some (R 0)]⟩
noncomputable def o20:F:=fun P=>⟨(.type "dict"),none,(.dict #[e P "__module__" 214 (.str "driftmeet.errors" 187),e P "__firstlineno__" 218 (.int 4 217),e P "__static_attributes__" 219 (R 35),e P "__doc__" 220 .none] 2),#[]⟩
noncomputable def o21:F:=fun _=>⟨(.type "type"),none,(.cls ⟨"NoName",[(R 24)],[(R 37),(R 24),(.type "ValueError"),(.type "Exception"),(.type "BaseException"),(.type "object")],36,"NoName",true,[],[],false,none,false⟩),#[some (R 28),none,some (.str "NoName" 207),some (.str "NoName" 215),some (.builtin "ValueError.__new__"),some (.bool true)]⟩
noncomputable def o22:F:=fun _=>⟨(.type "super"),none,(.fields #[(R 37),(R 37),(R 37)]),#[]⟩
noncomputable def o23:F:=bf "object.__init_subclass__" 37
noncomputable def o24:F:=fun P=>⟨(.type "dict"),none,(.dict #[e P "__module__" 230 (.str "driftmeet.errors" 187),e P "__qualname__" 232 (.str "Ring" 231),e P "__firstlineno__" 234 (.int 6 233),e P "__init__" 242 (R 53),e P "__static_attributes__" 244 (R 54)] 5),#[]⟩
noncomputable def o25:F:=vf #[(I 8),(I 4),(R 52)]
noncomputable def o26:F:=cd (co "Ring" 225 "Ring" 226 227 6 0 0 0 0 43 false 181 44 228 6 229)
noncomputable def o27:F:=fun _=>⟨(.type "frame"),none,.plain,#[some (R 45),some (R 3),some (R 42),none,some (.str "driftmeet.errors" 187),none,some (R 0)]⟩
noncomputable def o28:F:=tu #[(.str "self" 238),(.str "ring" 239)]
noncomputable def o29:F:=fp "__init__" "Ring.__init__" (aj (top 3) 0)
noncomputable def o30:F:=cd (cp "__init__" 235 "Ring.__init__" 236 237 8 2 0 0 3 47 true 181 48 49 50 51 240 8 241)
noncomputable def o31:F:=fo "__init__" "Ring.__init__" (aj (top 3) 0) "driftmeet.errors" 187 52
noncomputable def o32:F:=tu #[(.str "ring" 243)]
noncomputable def o33:F:=fun P=>⟨(.type "dict"),none,(.dict #[e P "__module__" 230 (.str "driftmeet.errors" 187),e P "__firstlineno__" 234 (.int 6 233),e P "__init__" 242 (R 53),e P "__static_attributes__" 244 (R 54),e P "__doc__" 245 .none] 2),#[]⟩
noncomputable def o34:F:=fun _=>⟨(.type "type"),none,(.cls ⟨"Ring",[(R 24)],[(R 56),(R 24),(.type "ValueError"),(.type "Exception"),(.type "BaseException"),(.type "object")],55,"Ring",true,[],[],false,none,false⟩),#[some (R 40),none,some (.str "Ring" 223),some (.str "Ring" 231),some (.builtin "ValueError.__new__"),some (.bool true)]⟩
noncomputable def o35:F:=fun _=>⟨(.type "super"),none,(.fields #[(R 56),(R 56),(R 56)]),#[]⟩
noncomputable def o36:F:=bf "object.__init_subclass__" 56
noncomputable def o37:F:=tu #[(.str "edges" 253),(.str "x" 254)]
noncomputable def o38:F:=fp "refuse_unknown" "refuse_unknown" (top 5)
noncomputable def o39:F:=cd (cp "refuse_unknown" 250 "refuse_unknown" 251 252 12 2 0 0 3 59 true 181 60 61 62 63 255 12 256)
noncomputable def o40:F:=fo "refuse_unknown" "refuse_unknown" (top 5) "driftmeet.roads" 248 64
noncomputable def o41:F:=tu #[(.str "row" 261),(.str "x" 262),(.str "sums" 263),(.str "back" 264),(.str "fallen" 265),(.str "y" 266),(.str "most" 267),(.str "total" 268)]
noncomputable def o42:F:=fp "go_on" "go_on" (top 6)
noncomputable def o43:F:=cd (cp "go_on" 258 "go_on" 259 260 15 4 0 0 3 66 true 181 67 68 69 70 269 15 270)
noncomputable def o44:F:=fo "go_on" "go_on" (top 6) "driftmeet.roads" 248 71
noncomputable def o45:F:=tu #[(.str "edges" 275),(.str "sums" 276),(.str "back" 277),(.str "fallen" 278),(.str "again" 279),(.str "x" 280),(.str "y" 281)]
noncomputable def o46:F:=fp "settle" "settle" (top 7)
noncomputable def o47:F:=cd (cp "settle" 272 "settle" 273 274 24 3 0 0 3 73 true 181 74 75 76 77 282 24 283)
noncomputable def o48:F:=fo "settle" "settle" (top 7) "driftmeet.roads" 248 78
noncomputable def o49:F:=tu #[(.str "back" 288),(.str "y" 289),(.str "way" 290)]
noncomputable def o50:F:=fp "way_by" "way_by" (top 8)
noncomputable def o51:F:=cd (cp "way_by" 285 "way_by" 286 287 32 2 0 0 3 80 true 181 81 82 83 84 291 32 292)
noncomputable def o52:F:=fo "way_by" "way_by" (top 8) "driftmeet.roads" 248 85
noncomputable def o53:F:=tu #[(.str "edges" 297),(.str "x" 298),(.str "sums" 299)]
noncomputable def o54:F:=fp "spans" "spans" (top 9)
noncomputable def o55:F:=cd (cp "spans" 294 "spans" 295 296 37 2 0 0 3 87 true 181 88 89 90 91 300 37 301)
noncomputable def o56:F:=fo "spans" "spans" (top 9) "driftmeet.roads" 248 92
noncomputable def o57:F:=tu #[(.str "edges" 306),(.str "x" 307),(.str "y" 308),(.str "sums" 309),(.str "back" 310)]
noncomputable def o58:F:=fp "road" "road" (top 10)
noncomputable def o59:F:=cd (cp "road" 303 "road" 304 305 42 3 0 0 3 94 true 181 95 96 97 98 311 42 312)
noncomputable def o60:F:=fo "road" "road" (top 10) "driftmeet.roads" 248 99
noncomputable def o61:F:=fp "needed_lifts" "needed_lifts" (top 13)
noncomputable def o62:F:=cd (.fields #[(.str "needed_lifts" 317),(.str "needed_lifts" 318),(.str "/claim/cut.py" 319),(I 51),(I 3),(I 0),(I 0),(I 3),(R 101),(.bool true),(I 181),(R 102),.none,.none,.none,(R 103),(I 320),(I 51),(.str "/claim/cut.py" 321)])
noncomputable def o63:F:=fo "needed_lifts" "needed_lifts" (top 13) "driftmeet.nets" 315 104
noncomputable def o64:F:=fun P=>⟨(.type "dict"),none,(.dict #[e P "__module__" 330 (.str "driftmeet.nets" 315),e P "__qualname__" 332 (.str "Net" 331),e P "__firstlineno__" 334 (.int 57 333),e P "__init__" 341 (R 119),e P "refuse_ring" 352 (R 126),e P "name" 360 (R 133),e P "put" 370 (R 140),e P "put_round" 379 (R 147),e P "names" 386 (R 154),e P "bound" 395 (R 161),e P "edges" 405 (R 168),e P "times" 414 (R 175),e P "most" 423 (R 182),e P "road" 432 (R 189),e P "latest" 449 (R 197),e P "__static_attributes__" 451 (R 198)] 16),#[]⟩
noncomputable def o65:F:=vf #[(I 59),(I 4),(R 118),(I 62),(I 4),(R 125),(I 69),(I 4),(R 132),(I 73),(I 4),(R 139),(I 82),(I 4),(R 146),(I 87),(I 4),(R 153),(I 90),(I 4),(R 160),(I 95),(I 4),(R 167),(I 101),(I 4),(R 174),(I 108),(I 4),(R 181),(I 112),(I 4),(R 188),(I 115),(I 4),(R 196)]
noncomputable def o66:F:=cd (co "Net" 325 "Net" 326 327 57 0 0 0 0 109 false 181 110 328 57 329)
noncomputable def o67:F:=fun _=>⟨(.type "frame"),none,.plain,#[some (R 111),some (R 3),some (R 108),none,some (.str "driftmeet.nets" 315),none,some (R 0)]⟩
noncomputable def o68:F:=tu #[(.str "self" 338)]
noncomputable def o69:F:=fp "__init__" "Net.__init__" (aj (top 14) 0)
noncomputable def o70:F:=cd (cp "__init__" 335 "Net.__init__" 336 337 59 1 0 0 3 113 true 181 114 115 116 117 339 59 340)
noncomputable def o71:F:=fo "__init__" "Net.__init__" (aj (top 14) 0) "driftmeet.nets" 315 118
noncomputable def o72:F:=tu #[(.str "self" 345),(.str "x" 346),(.str "y" 347),(.str "most" 348),(.str "back" 349)]
noncomputable def o73:F:=fp "refuse_ring" "Net.refuse_ring" (aj (top 14) 1)
noncomputable def o74:F:=cd (cp "refuse_ring" 342 "Net.refuse_ring" 343 344 62 4 0 0 3 120 true 181 121 122 123 124 350 62 351)
noncomputable def o75:F:=fo "refuse_ring" "Net.refuse_ring" (aj (top 14) 1) "driftmeet.nets" 315 125
noncomputable def o76:F:=tu #[(.str "self" 356),(.str "x" 357)]
noncomputable def o77:F:=fp "name" "Net.name" (aj (top 14) 2)
noncomputable def o78:F:=cd (cp "name" 353 "Net.name" 354 355 69 2 0 0 3 127 true 181 128 129 130 131 358 69 359)
noncomputable def o79:F:=fo "name" "Net.name" (aj (top 14) 2) "driftmeet.nets" 315 132
noncomputable def o80:F:=tu #[(.str "self" 364),(.str "x" 365),(.str "y" 366),(.str "most" 367)]
noncomputable def o81:F:=fp "put" "Net.put" (aj (top 14) 3)
noncomputable def o82:F:=cd (cp "put" 361 "Net.put" 362 363 73 4 0 0 3 134 true 181 135 136 137 138 368 73 369)
noncomputable def o83:F:=fo "put" "Net.put" (aj (top 14) 3) "driftmeet.nets" 315 139
noncomputable def o84:F:=tu #[(.str "self" 374),(.str "x" 375),(.str "most" 376)]
noncomputable def o85:F:=fp "put_round" "Net.put_round" (aj (top 14) 4)
noncomputable def o86:F:=cd (cp "put_round" 371 "Net.put_round" 372 373 82 3 0 0 3 141 true 181 142 143 144 145 377 82 378)
noncomputable def o87:F:=fo "put_round" "Net.put_round" (aj (top 14) 4) "driftmeet.nets" 315 146
noncomputable def o88:F:=tu #[(.str "self" 383)]
noncomputable def o89:F:=fp "names" "Net.names" (aj (top 14) 5)
noncomputable def o90:F:=cd (cp "names" 380 "Net.names" 381 382 87 1 0 0 3 148 true 181 149 150 151 152 384 87 385)
noncomputable def o91:F:=fo "names" "Net.names" (aj (top 14) 5) "driftmeet.nets" 315 153
noncomputable def o92:F:=tu #[(.str "self" 390),(.str "x" 391),(.str "y" 392)]
noncomputable def o93:F:=fp "bound" "Net.bound" (aj (top 14) 6)
noncomputable def o94:F:=cd (cp "bound" 387 "Net.bound" 388 389 90 3 0 0 3 155 true 181 156 157 158 159 393 90 394)
noncomputable def o95:F:=fo "bound" "Net.bound" (aj (top 14) 6) "driftmeet.nets" 315 160
noncomputable def o96:F:=tu #[(.str "self" 399),(.str "told" 400),(.str "x" 401),(.str "row" 402)]
noncomputable def o97:F:=fp "edges" "Net.edges" (aj (top 14) 7)
noncomputable def o98:F:=cd (cp "edges" 396 "Net.edges" 397 398 95 1 0 0 3 162 true 181 163 164 165 166 403 95 404)
noncomputable def o99:F:=fo "edges" "Net.edges" (aj (top 14) 7) "driftmeet.nets" 315 167
noncomputable def vc:F:=tu #[(.str "self" 409),(.str "sums" 410),(.str "x" 411)]
noncomputable def yH:F:=fp "times" "Net.times" (aj (top 14) 8)
noncomputable def wk:F:=cd (cp "times" 406 "Net.times" 407 408 101 1 0 0 3 169 true 181 170 171 172 173 412 101 413)
noncomputable def xp:F:=fo "times" "Net.times" (aj (top 14) 8) "driftmeet.nets" 315 174
noncomputable def uY:F:=tu #[(.str "self" 418),(.str "x" 419),(.str "y" 420)]
noncomputable def xV:F:=fp "most" "Net.most" (aj (top 14) 9)
noncomputable def xz:F:=cd (cp "most" 415 "Net.most" 416 417 108 3 0 0 3 176 true 181 177 178 179 180 421 108 422)
noncomputable def uu:F:=fo "most" "Net.most" (aj (top 14) 9) "driftmeet.nets" 315 181
noncomputable def uF:F:=tu #[(.str "self" 427),(.str "x" 428),(.str "y" 429)]
noncomputable def zo:F:=fp "road" "Net.road" (aj (top 14) 10)
noncomputable def vL:F:=cd (cp "road" 424 "Net.road" 425 426 112 3 0 0 3 183 true 181 184 185 186 187 430 112 431)
noncomputable def uM:F:=fo "road" "Net.road" (aj (top 14) 10) "driftmeet.nets" 315 188
noncomputable def xm:F:=tu #[(.int 0 433)]
noncomputable def vg:F:=tu #[(.str "self" 437),(.str "x" 438),(.str "y" 439),(.str "far" 440),(.str "reached" 441),(.str "free" 442),(.str "lifts" 443),(.str "lift" 444),(.str "told" 445),(.str "name" 446)]
noncomputable def yt:F:=fp "latest" "Net.latest" (aj (top 14) 11)
noncomputable def wI:F:=cd (cp "latest" 434 "Net.latest" 435 436 115 4 0 0 3 191 true 181 192 193 194 195 447 115 448)
noncomputable def xE:F:=fun _=>⟨(.type "function"),none,(.func (fnOf "latest" "Net.latest" (ba (aj (top 14) 11)) (aL (aj (top 14) 11)) (ar (aj (top 14) 11)) (R 190) .none .none (.str "driftmeet.nets" 315) none (R 196) .none)),#[]⟩
noncomputable def wM:F:=tu #[(.str "kept" 450)]
noncomputable def vT:F:=fun P=>⟨(.type "dict"),none,(.dict #[e P "__module__" 330 (.str "driftmeet.nets" 315),e P "__firstlineno__" 334 (.int 57 333),e P "__init__" 341 (R 119),e P "refuse_ring" 352 (R 126),e P "name" 360 (R 133),e P "put" 370 (R 140),e P "put_round" 379 (R 147),e P "names" 386 (R 154),e P "bound" 395 (R 161),e P "edges" 405 (R 168),e P "times" 414 (R 175),e P "most" 423 (R 182),e P "road" 432 (R 189),e P "latest" 449 (R 197),e P "__static_attributes__" 451 (R 198),e P "__dict__" 453 (R 201),e P "__weakref__" 455 (R 202),e P "__doc__" 456 .none] 4),#[]⟩
noncomputable def xc:F:=fun _=>⟨(.type "type"),none,(.cls ⟨"Net",[(.type "object")],[(R 200),(.type "object")],199,"Net",true,[],[],false,none,false⟩),#[none,none,some (.str "Net" 323),some (.str "Net" 331),some (.builtin "object.__new__"),some (.bool true)]⟩
noncomputable def vN:F:=fun _=>⟨(.type "getset_descriptor"),none,(.fields #[(.str "__dict__" 452),(R 200),(.builtin "function.__dict__"),(.builtin "function.__dict__#set")]),#[]⟩
noncomputable def wQ:F:=fun _=>⟨(.type "getset_descriptor"),none,(.fields #[(.str "__weakref__" 454),(R 200),(.builtin "ExceptionGroup.__weakref__"),.none]),#[]⟩
noncomputable def yG:F:=fun _=>⟨(.type "super"),none,(.fields #[(R 200),(R 200),(R 200)]),#[]⟩
noncomputable def zn:F:=bf "object.__init_subclass__" 200
noncomputable def wS:F:=tu #[(.str "_law_script" 464),(.str "_law_k" 465)]
noncomputable def zm:F:=fp "_law_cell_at" "_law_cell_at" (top 16)
noncomputable def uA:F:=cd (cp "_law_cell_at" 461 "_law_cell_at" 462 463 128 2 0 0 3 205 true 181 206 207 208 209 466 128 467)
noncomputable def w5:F:=fo "_law_cell_at" "_law_cell_at" (top 16) "law_driftmeet_k29_long_nets" 459 210
noncomputable def wP:F:=tu #[(.str "_law_found" 472)]
noncomputable def Ah:F:=fp "_law_whole" "_law_whole" (top 17)
noncomputable def wo:F:=cd (cp "_law_whole" 469 "_law_whole" 470 471 132 1 0 0 3 212 true 181 213 214 215 216 473 132 474)
noncomputable def ve:F:=fo "_law_whole" "_law_whole" (top 17) "law_driftmeet_k29_long_nets" 459 217
noncomputable def vJ:F:=tu #[(.str "_law_script" 479),(.str "_law_many" 480),(.str "_law_steps_here" 481),(.str "_law_k" 482),(.str "_law_cell" 483),(.str "_law_back" 484)]
noncomputable def yC:F:=fp "_law_steps" "_law_steps" (top 18)
noncomputable def uN:F:=cd (cp "_law_steps" 476 "_law_steps" 477 478 134 2 0 0 3 219 true 181 220 221 222 223 485 134 486)
noncomputable def vB:F:=fo "_law_steps" "_law_steps" (top 18) "law_driftmeet_k29_long_nets" 459 224
noncomputable def zj:F:=fp "_law_order" "_law_order" (top 19)
noncomputable def vH:F:=cd (.fields #[(.str "_law_order" 488),(.str "_law_order" 489),(.str "/claim/cut.py" 490),(I 141),(I 2),(I 0),(I 0),(I 3),(R 226),(.bool true),(I 181),(R 227),.none,.none,.none,(R 228),(I 491),(I 141),(.str "/claim/cut.py" 492)])
noncomputable def vI:F:=fo "_law_order" "_law_order" (top 19) "law_driftmeet_k29_long_nets" 459 229
noncomputable def xa:F:=tu #[(.str "_law_called" 497),(.str "_law_steps_here" 498),(.str "_law_way" 499),(.str "_law_x" 500),(.str "_law_y" 501),(.str "_law_found" 502),(.str "_law_at" 503),(.str "_law_name" 504)]
noncomputable def zg:F:=fp "_law_sum" "_law_sum" (top 20)
noncomputable def ux:F:=cd (cp "_law_sum" 494 "_law_sum" 495 496 150 5 0 0 3 231 true 181 232 233 234 235 505 150 506)
noncomputable def wj:F:=fo "_law_sum" "_law_sum" (top 20) "law_driftmeet_k29_long_nets" 459 236
noncomputable def yh:F:=fp "_law_keep" "_law_keep" (top 21)
noncomputable def wa:F:=cd (.fields #[(.str "_law_keep" 508),(.str "_law_keep" 509),(.str "/claim/cut.py" 510),(I 165),(I 3),(I 0),(I 0),(I 3),(R 238),(.bool true),(I 181),(R 239),.none,.none,.none,(R 240),(I 511),(I 165),(.str "/claim/cut.py" 512)])
noncomputable def wH:F:=fo "_law_keep" "_law_keep" (top 21) "law_driftmeet_k29_long_nets" 459 241
noncomputable def xO:F:=tu #[(.str "_law_net" 517),(.str "_law_x" 518),(.str "_law_y" 519),(.str "_law_most" 520),(.str "e" 521)]
noncomputable def x8:F:=fp "_law_ring" "_law_ring" (top 22)
noncomputable def wX:F:=cd (cp "_law_ring" 514 "_law_ring" 515 516 175 4 0 0 3 243 true 181 244 245 246 247 522 175 523)
noncomputable def xD:F:=fo "_law_ring" "_law_ring" (top 22) "law_driftmeet_k29_long_nets" 459 248
noncomputable def Ai:F:=fp "law" "law" (top 23)
noncomputable def xF:F:=cd (.fields #[(.str "law" 525),(.str "law" 526),(.str "/claim/cut.py" 527),(I 181),(I 1),(I 0),(I 0),(I 3),(R 250),(.bool true),(I 181),(R 251),.none,.none,.none,(R 252),(I 528),(I 181),(.str "/claim/cut.py" 529)])
noncomputable def xj:F:=fo "law" "law" (top 23) "law_driftmeet_k29_long_nets" 459 253
noncomputable def env:Env:={scope:=pw.main.scope,locals:=mainNs,globals:=mainNs,cells:=[],code:=(R 13),frame:=some 14}
noncomputable def bE:List Stmt:=behindTheImports pw
noncomputable def b(i:Nat):Stmt:=bE.getD i (.Pass ⟨0,0,0,0⟩)
noncomputable def cE:Code:=.body bE env
noncomputable def qF:List Frame:=[topFrame ⟨0,0,0,0⟩]
noncomputable def an:Option Value:=(some (R 6))
noncomputable def hA(P:Params):Heap:=⟨⟨[boot_o_0 P,boot_o_1 P,boot_o_2 P,boot_o_3 P,boot_o_4 P,boot_o_5 P,boot_o_6 P,boot_o_7 P,boot_o_8 P,boot_o_9 P,boot_o_10 P,o0 P,o1 P,o2 P,o3 P]⟩,{}⟩
noncomputable def sA(w:World)(os:OsState):Shared:=⟨hA w.params,⟨[]⟩,{},187,os⟩
noncomputable def t0:Params->W.BT:=(n boot_o_0 (n boot_o_1 (n boot_o_3 (l boot_o_7) (l o0)) (n boot_o_5 (l boot_o_9) (l o2))) (n boot_o_2 (n boot_o_4 (l boot_o_8) (l o1)) (n boot_o_6 (l boot_o_10) (l o3))))
noncomputable def s0(w:World)(os:OsState):SharedT:=⟨t0 w.params,15,{},⟨[]⟩,{},187,os⟩
noncomputable def t1:Params->W.BT:=(n boot_o_0 (n boot_o_1 (n o4 (n boot_o_7 (n o6 (n o0 (n o38 (l o0) (l o0)) (n o1 (l o93) (l yC))) (n o0 (n o48 (l o84) (l wS)) (n o66 (l xp) (l o1)))) (n o11 (n o23 (n o43 (l o1) (l vT)) (n o61 (l o98) (l o0))) (n o33 (n o0 (l o0) (l o0)) (n o71 (l o0) (l x8))))) (n o0 (n o1 (n o0 (n o1 (l o77) (l yt)) (n o59 (l o1) (l o1))) (n o29 (n o0 (l o87) (l w5)) (n o68 (l o0) (l o0)))) (n o15 (n o0 (n o45 (l o82) (l yG)) (n o7 (l vc) (l zg))) (n o0 (n o54 (l o0) (l o0)) (n o0 (l zo) (l o1)))))) (n boot_o_5 (n boot_o_9 (n o8 (n o18 (n o40 (l o76) (l vg)) (n o0 (l o95) (l vB))) (n o28 (n o1 (l o85) (l zm)) (n o0 (l o1) (l wa)))) (n o13 (n o7 (n o0 (l o0) (l vN)) (n o63 (l o0) (l xa))) (n o35 (n o53 (l o90) (l wo)) (n o1 (l uF) (l xD))))) (n o2 (n o10 (n o21 (n o0 (l o79) (l xE)) (n o0 (l o0) (l vH))) (n o31 (n o51 (l o1) (l o1)) (n o69 (l xz) (l xO)))) (n o7 (n o26 (n o46 (l o0) (l o0)) (n o0 (l yH) (l wj))) (n o37 (n o56 (l o92) (l vJ)) (n o74 (l uM) (l xF))))))) (n boot_o_2 (n boot_o_4 (n boot_o_8 (n o7 (n o1 (n o39 (l o1) (l o1)) (n o57 (l o94) (l uN))) (n o1 (n o0 (l o0) (l o0)) (n o67 (l o0) (l yh)))) (n o12 (n o16 (n o44 (l o80) (l xc)) (n o62 (l o99) (l o1))) (n o34 (n o1 (l o89) (l Ah)) (n o0 (l o1) (l wX))))) (n o5 (n o9 (n o20 (n o41 (l o78) (l wI)) (n o60 (l o96) (l zj))) (n o30 (n o50 (l o0) (l o0)) (n o0 (l xV) (l o1)))) (n o16 (n o25 (n o0 (l o83) (l zn)) (n o64 (l o0) (l ux))) (n o1 (n o55 (l o1) (l o1)) (n o73 (l vL) (l Ai)))))) (n boot_o_6 (n boot_o_10 (n o0 (n o19 (n o0 (l o0) (l o0)) (n o58 (l o0) (l o0))) (n o0 (n o49 (l o86) (l uA)) (n o1 (l uY) (l wH)))) (n o14 (n o24 (n o1 (l o81) (l wQ)) (n o0 (l o1) (l o0))) (n o36 (n o0 (l o91) (l ve)) (n o72 (l o0) (l o0))))) (n o3 (n o0 (n o22 (n o42 (l o0) (l wM)) (n o1 (l o97) (l vI))) (n o32 (n o52 (l o88) (l wP)) (n o70 (l uu) (l o0)))) (n o17 (n o27 (n o47 (l o1) (l o1)) (n o65 (l wk) (l o0))) (n o0 (n o0 (l o0) (l o0)) (n o75 (l xm) (l xj))))))))
noncomputable def s1(w:World)(os:OsState):SharedT:=⟨t1 w.params,255,{},⟨[]⟩,{},531,os⟩
noncomputable def t2:Params->W.BT:=(n boot_o_0 (n boot_o_1 (n o4 (n boot_o_7 (n o6 (n o0 (n o38 (l o0) (l o0)) (n o1 (l o93) (l yC))) (n o0 (n o48 (l o84) (l wS)) (n o66 (l xp) (l o1)))) (n o11 (n o23 (n o43 (l o1) (l vT)) (n o61 (l o98) (l o0))) (n o33 (n o0 (l o0) (l o0)) (n o71 (l o0) (l x8))))) (n o0 (n o1 (n o0 (n o1 (l o77) (l yt)) (n o59 (l o1) (l o1))) (n o29 (n o0 (l o87) (l w5)) (n o68 (l o0) (l o0)))) (n o15 (n o0 (n o45 (l o82) (l yG)) (n o7 (l vc) (l zg))) (n o0 (n o54 (l o0) (l o0)) (n o0 (l zo) (l o1)))))) (n boot_o_5 (n boot_o_9 (n o8 (n o18 (n o40 (l o76) (l vg)) (n o0 (l o95) (l vB))) (n o28 (n o1 (l o85) (l zm)) (n o0 (l o1) (l wa)))) (n o13 (n o7 (n o0 (l o0) (l vN)) (n o63 (l o0) (l xa))) (n o35 (n o53 (l o90) (l wo)) (n o1 (l uF) (l xD))))) (n o2 (n o10 (n o21 (n o0 (l o79) (l xE)) (n o0 (l o0) (l vH))) (n o31 (n o51 (l o1) (l o1)) (n o69 (l xz) (l xO)))) (n o7 (n o26 (n o46 (l o0) (l o0)) (n o0 (l yH) (l wj))) (n o37 (n o56 (l o92) (l vJ)) (n o74 (l uM) (l xF))))))) (n boot_o_2 (n boot_o_4 (n boot_o_8 (n o7 (n o1 (n o39 (l o1) (l o1)) (n o57 (l o94) (l uN))) (n o1 (n o0 (l o0) (l o0)) (n o67 (l o0) (l yh)))) (n o12 (n o16 (n o44 (l o80) (l xc)) (n o62 (l o99) (l o1))) (n o34 (n o1 (l o89) (l Ah)) (n o0 (l o1) (l wX))))) (n o5 (n o9 (n o20 (n o41 (l o78) (l wI)) (n o60 (l o96) (l zj))) (n o30 (n o50 (l o0) (l o0)) (n o0 (l xV) (l o1)))) (n o16 (n o25 (n o0 (l o83) (l zn)) (n o64 (l o0) (l ux))) (n o1 (n o55 (l o1) (l o1)) (n o73 (l vL) (l Ai)))))) (n boot_o_6 (n boot_o_10 (n o0 (n o19 (n o0 (l o0) (l o0)) (n o58 (l o0) (l o0))) (n o0 (n o49 (l o86) (l uA)) (n o1 (l uY) (l wH)))) (n o14 (n o24 (n o1 (l o81) (l wQ)) (n o0 (l o1) (l o0))) (n o36 (n o0 (l o91) (l ve)) (n o72 (l o0) (l o0))))) (n o3 (n o0 (n o22 (n o42 (l o0) (l wM)) (n o1 (l o97) (l vI))) (n o32 (n o52 (l o88) (l wP)) (n o70 (l uu) (l o0)))) (n o17 (n o27 (n o47 (l o1) (l o1)) (n o65 (l wk) (l o0))) (n o0 (n o0 (l o0) (l o0)) (n o75 (l xm) (l xj))))))))
noncomputable def s2(w:World)(os:OsState):SharedT:=⟨t2 w.params,255,{},⟨[]⟩,{},531,os⟩
theorem pre:∀w:World,(fun os=>topGo treeTable pw w 11 an 12 ⟨boot_heap w.params,⟨[]⟩,boot_drawn,boot_toks,os⟩ (topStub pw))=fun os=>some (sA w os,⟨denote treeTable cE,cE,⟨0,0,0,0⟩,qF⟩):=fun w=>by kernel_rfl
theorem blk:∀w:World,(fun os=>segRun treeTable pw w 11 an 1 1 (sA w os) (blockOf bE env cE ⟨0,0,0,0⟩ qF))=fun os=>some (.next,(s0 w os).abs,cE,⟨0,0,0,0⟩):=fun w=>by kernel_rfl
noncomputable def g0:List Stmt:=[b 0,b 1,b 2,b 3,b 4,b 5,b 6,b 7,b 8,b 9,b 10,b 11,b 12,b 13,b 14,b 15,b 16,b 17,b 18,b 19,b 20,b 21,b 22,b 23]
theorem p0:∀w:World,(fun os=>segRunT treeTable pw w 11 an 1 1747 (s0 w os) (piecesOf g0 env cE ⟨0,0,0,0⟩ qF))=fun os=>some (.next,s1 w os,cE,⟨181,0,203,77⟩):=fun w=>by kernel_rfl
theorem fin:∀w:World,(fun os=>topRun treeTable pw w 11 an 2 (s1 w os).abs (restOf [] env cE ⟨181,0,203,77⟩ qF))=fun os=>some (s2 w os).abs:=fun w=>by kernel_rfl
theorem zK:bE=g0++([]):=by kernel_rfl
theorem CV(w:World)(os:OsState):topRun treeTable pw w 11 an (1747+(2)) (s0 w os).abs (restOf (g0++([])) env cE ⟨0,0,0,0⟩ qF)=some (s2 w os).abs:=piece_app (segRun_of (congrFun (p0 w) os)) (congrFun (fin w) os)
theorem run(w:World)(os:OsState):topRun treeTable pw w 11 an (12+(1+(1747+(2)))) ⟨boot_heap w.params,⟨[]⟩,boot_drawn,boot_toks,os⟩ (topStub pw)=some (s2 w os).abs:=go_top (congrFun (pre w) os) (piece_block (congrFun (blk w) os) (by rw[zK];exact CV w os))
noncomputable def view:Program:={pw with main:={pw.main with body:=[top 23]}}
noncomputable def loose:List Str:=(["DriftError","NoName","Ring","refuse_unknown","go_on","settle","way_by","spans","road","road_roads","needed_lifts","Net","_law_cell_at","_law_whole","_law_steps","_law_order","_law_sum","_law_keep","_law_ring"]:List String).map Str.ofString
noncomputable def K(P:Params):Frag:=(nat_lit 2,boot_o_2 P)::(nat_lit 3,o4 P)::(nat_lit 15,o6 P)::(nat_lit 22,o0 P)::(nat_lit 23,o11 P)::(nat_lit 24,o12 P)::(nat_lit 25,o13 P)::(nat_lit 28,o16 P)::(nat_lit 35,o0 P)::(nat_lit 36,o20 P)::(nat_lit 37,o21 P)::(nat_lit 40,o16 P)::(nat_lit 47,o0 P)::(nat_lit 49,o28 P)::(nat_lit 50,o0 P)::(nat_lit 52,o30 P)::(nat_lit 53,o31 P)::(nat_lit 54,o32 P)::(nat_lit 55,o33 P)::(nat_lit 56,o34 P)::(nat_lit 59,o0 P)::(nat_lit 61,o37 P)::(nat_lit 62,o0 P)::(nat_lit 64,o39 P)::(nat_lit 65,o40 P)::(nat_lit 66,o0 P)::(nat_lit 68,o41 P)::(nat_lit 69,o0 P)::(nat_lit 71,o43 P)::(nat_lit 72,o44 P)::(nat_lit 73,o0 P)::(nat_lit 75,o45 P)::(nat_lit 76,o0 P)::(nat_lit 78,o47 P)::(nat_lit 79,o48 P)::(nat_lit 80,o0 P)::(nat_lit 82,o49 P)::(nat_lit 83,o0 P)::(nat_lit 85,o51 P)::(nat_lit 86,o52 P)::(nat_lit 87,o0 P)::(nat_lit 89,o53 P)::(nat_lit 90,o0 P)::(nat_lit 92,o55 P)::(nat_lit 93,o56 P)::(nat_lit 94,o0 P)::(nat_lit 96,o57 P)::(nat_lit 97,o0 P)::(nat_lit 99,o59 P)::(nat_lit 100,o60 P)::(nat_lit 101,o0 P)::(nat_lit 104,o62 P)::(nat_lit 105,o63 P)::(nat_lit 113,o0 P)::(nat_lit 115,o68 P)::(nat_lit 116,o0 P)::(nat_lit 118,o70 P)::(nat_lit 119,o71 P)::(nat_lit 120,o0 P)::(nat_lit 122,o72 P)::(nat_lit 123,o0 P)::(nat_lit 125,o74 P)::(nat_lit 126,o75 P)::(nat_lit 127,o0 P)::(nat_lit 129,o76 P)::(nat_lit 130,o0 P)::(nat_lit 132,o78 P)::(nat_lit 133,o79 P)::(nat_lit 134,o0 P)::(nat_lit 136,o80 P)::(nat_lit 137,o0 P)::(nat_lit 139,o82 P)::(nat_lit 140,o83 P)::(nat_lit 141,o0 P)::(nat_lit 143,o84 P)::(nat_lit 144,o0 P)::(nat_lit 146,o86 P)::(nat_lit 147,o87 P)::(nat_lit 148,o0 P)::(nat_lit 150,o88 P)::(nat_lit 151,o0 P)::(nat_lit 153,o90 P)::(nat_lit 154,o91 P)::(nat_lit 155,o0 P)::(nat_lit 157,o92 P)::(nat_lit 158,o0 P)::(nat_lit 160,o94 P)::(nat_lit 161,o95 P)::(nat_lit 162,o0 P)::(nat_lit 164,o96 P)::(nat_lit 165,o0 P)::(nat_lit 167,o98 P)::(nat_lit 168,o99 P)::(nat_lit 169,o0 P)::(nat_lit 171,vc P)::(nat_lit 172,o0 P)::(nat_lit 174,wk P)::(nat_lit 175,xp P)::(nat_lit 176,o0 P)::(nat_lit 178,uY P)::(nat_lit 179,o0 P)::(nat_lit 181,xz P)::(nat_lit 182,uu P)::(nat_lit 183,o0 P)::(nat_lit 185,uF P)::(nat_lit 186,o0 P)::(nat_lit 188,vL P)::(nat_lit 189,uM P)::(nat_lit 190,xm P)::(nat_lit 191,o0 P)::(nat_lit 193,vg P)::(nat_lit 194,o0 P)::(nat_lit 196,wI P)::(nat_lit 197,xE P)::(nat_lit 198,wM P)::(nat_lit 199,vT P)::(nat_lit 200,xc P)::(nat_lit 201,vN P)::(nat_lit 202,wQ P)::(nat_lit 205,o0 P)::(nat_lit 207,wS P)::(nat_lit 208,o0 P)::(nat_lit 210,uA P)::(nat_lit 211,w5 P)::(nat_lit 212,o0 P)::(nat_lit 214,wP P)::(nat_lit 215,o0 P)::(nat_lit 217,wo P)::(nat_lit 218,ve P)::(nat_lit 219,o0 P)::(nat_lit 221,vJ P)::(nat_lit 222,o0 P)::(nat_lit 224,uN P)::(nat_lit 225,vB P)::(nat_lit 226,o0 P)::(nat_lit 229,vH P)::(nat_lit 230,vI P)::(nat_lit 231,o0 P)::(nat_lit 233,xa P)::(nat_lit 234,o0 P)::(nat_lit 236,ux P)::(nat_lit 237,wj P)::(nat_lit 238,o0 P)::(nat_lit 241,wa P)::(nat_lit 242,wH P)::(nat_lit 243,o0 P)::(nat_lit 245,xO P)::(nat_lit 246,o0 P)::(nat_lit 248,wX P)::(nat_lit 249,xD P)::(nat_lit 250,o0 P)::(nat_lit 253,xF P)::(nat_lit 254,xj P)::[]
noncomputable def as:List Addr:=[2,3,15,22,23,24,25,28,35,36,37,40,47,49,50,52,53,54,55,56,59,61,62,64,65,66,68,69,71,72,73,75,76,78,79,80,82,83,85,86,87,89,90,92,93,94,96,97,99,100,101,104,105,113,115,116,118,119,120,122,123,125,126,127,129,130,132,133,134,136,137,139,140,141,143,144,146,147,148,150,151,153,154,155,157,158,160,161,162,164,165,167,168,169,171,172,174,175,176,178,179,181,182,183,185,186,188,189,190,191,193,194,196,197,198,199,200,201,202,205,207,208,210,211,212,214,215,217,218,219,221,222,224,225,226,229,230,231,233,234,236,237,238,241,242,243,245,246,248,249,250,253,254]
theorem as_eq:∀P,as=(K P).map (·.1):=fun P=>by kernel_rfl
noncomputable def h1(P:Params):Heap:=absHeap (t2 P) 255 {}
noncomputable def f1(w:World)(os:OsState):Shared:=⟨h1 w.params,⟨[]⟩,{},531,os⟩
noncomputable def Xt(s:Shared):Bool:=xlAt view [] s&&recOk (RowW.records PySem.Challenge.rw_driftmeet_k29_long_nets.row.toRowW) s
theorem lk1:∀w:World,(fun os=>(staticsOk (importedModules pw.main.body) (boot_heap w.params) (h1 w.params)&&namesBound pw (h1 w.params)&&gensDone (f1 w os)&&laidKept (boot_heap w.params) (h1 w.params)))=fun _=>true:=fun w=>by kernel_rfl
theorem lk2:∀w:World,(fun os=>openSeen view loose (importedModules pw.main.body) Xt true (f1 w os))=fun _=>openGood view loose:=fun w=>by kernel_rfl
theorem lk3:∀w:World,(fun os=>(Hook.obs (kHook K as as_eq)) (f1 w os))=fun _=>(Hook.val (kHook K as as_eq)) w:=fun w=>by kernel_rfl
theorem left:LeftO pw view loose Xt (Hook.obs (kHook K as as_eq)) (Hook.val (kHook K as as_eq)) 3618:=LeftO.of_pieces (boot_open (by kernel_rfl) (by decide) (fun s=>by kernel_rfl)) (H₀:=boot_heap) (H₁:=h1) (gs₀:=⟨[]⟩) (m₀:=11) (ann:=an) (M:=12+(1+(1747+(2)))) (fun w=>by kernel_rfl) (fun w os=>run w os) (by decide) fun w=>funext fun os=>looks_pair (congrFun (lk1 w) os) (looks_pair (congrFun (lk2 w) os) (congrFun (lk3 w) os))
end HD
namespace G
open PySem L2
noncomputable def top(i:Nat):Stmt:=PySem.Challenge.pw_driftmeet_k29_long_nets.main.body.getD i (.Pass ⟨0,0,0,0⟩)
noncomputable def aO:ISs:=.cons (.ifs (.cmp .NotIn (.var 1) (.var 0)) (.cons (.dead) (.nil)) (.nil)) (.nil)
noncomputable def aU:ISs:=.cons (.set 7 (.bin .Add (.ix (.var 2) (.var 1)) (.var 6))) (.cons (.ifs (.or (.cmp .NotIn (.var 5) (.var 2)) (.cmp .Lt (.var 7) (.ix (.var 2) (.var 5)))) (.cons (.ixset (.var 2) (.var 5) (.var 7)) (.cons (.ixset (.var 3) (.var 5) (.var 1)) (.cons (.app (.var 4) (.var 5)) (.nil)))) (.nil)) (.nil))
noncomputable def gq:ISs:=.cons (.set 4 (.lst false (.nil))) (.cons (.forD (.tup [5,6]) (.var 0) aU) (.cons (.ret (.frz (.var 4))) (.nil)))
noncomputable def c9:ISs:=.cons (.ixset (.var 4) (.var 6) (.con (.bl true))) (.nil)
noncomputable def bN:ISs:=.cons (.for_ (.name 6) (.seq (.call 1 (.cons (.ix (.var 0) (.var 5)) (.cons (.var 5) (.cons (.var 1) (.cons (.var 2) (.nil))))))) c9) (.nil)
noncomputable def fO:ISs:=.cons (.set 4 (.dnew true)) (.cons (.for_ (.name 5) (.seq (.var 3)) bN) (.cons (.set 3 (.bi (.list true) (.cons (.var 4) (.nil)))) (.nil)))
noncomputable def eE:ISs:=.cons (.set 3 (.bi (.list true) (.cons (.var 1) (.nil)))) (.cons (.whl (.cmp .Gt (.bi .len (.cons (.var 3) (.nil))) (.con (.int 0))) fO) (.nil))
noncomputable def fK:ISs:=.cons (.app (.var 2) (.ix (.var 0) (.ix (.var 2) (.neg (.con (.int 1)))))) (.nil)
noncomputable def d9:ISs:=.cons (.set 2 (.lst false (.cons (.var 1) (.nil)))) (.cons (.whl (.cmp .In (.ix (.var 2) (.neg (.con (.int 1)))) (.var 0)) fK) (.cons (.ret (.lrev true (.var 2))) (.nil)))
noncomputable def gx:ISs:=.cons (.expr (.call 0 (.cons (.var 0) (.cons (.var 1) (.nil))))) (.cons (.set 2 (.dctT (.var 1) (.con (.int 0)))) (.cons (.expr (.call 2 (.cons (.var 0) (.cons (.var 2) (.cons (.dnew true) (.nil)))))) (.cons (.ret (.var 2)) (.nil))))
noncomputable def jp:ISs:=.cons (.expr (.call 0 (.cons (.var 0) (.cons (.var 1) (.nil))))) (.cons (.expr (.call 0 (.cons (.var 0) (.cons (.var 2) (.nil))))) (.cons (.set 3 (.dctT (.var 1) (.con (.int 0)))) (.cons (.set 4 (.dnew true)) (.cons (.expr (.call 2 (.cons (.var 0) (.cons (.var 3) (.cons (.var 4) (.nil)))))) (.cons (.ret (.ifx (.cmp .In (.var 2) (.var 3)) (.call 3 (.cons (.var 4) (.cons (.var 2) (.nil)))) (.con .non))) (.nil))))))
noncomputable def bY:ISs:=.cons (.ifs (.cmp .NotIn (.var 4) (.var 1)) (.cons (.dead) (.nil)) (.nil)) (.nil)
noncomputable def aZ:ISs:=.cons (.set 3 (.lst false (.nil))) (.cons (.forD (.tup [4,5]) (.var 0) bY) (.cons (.ret (.var 3)) (.nil)))
noncomputable def bA:ISs:=.cons (.fset (.var 0) 245117675 (.dnew true)) (.nil)
noncomputable def aw:ISs:=.cons (.ifs (.or (.cmp .NotIn (.var 1) (.fld (.var 0) 245117675)) (.cmp .NotIn (.var 2) (.fld (.var 0) 245117675))) (.cons (.retN) (.nil)) (.nil)) (.cons (.set 4 (.meth (.var 0) 245168109 (.cons (.var 2) (.cons (.var 1) (.nil))))) (.cons (.ifs (.and (.cmp .IsNot (.var 4) (.con .non)) (.cmp .Lt (.bin .Add (.var 4) (.var 3)) (.con (.int 0)))) (.cons (.raiseI 2 (.cons (.meth (.var 0) 211318770 (.cons (.var 2) (.cons (.var 1) (.nil)))) (.nil))) (.nil)) (.nil)) (.nil)))
noncomputable def bJ:ISs:=.cons (.ifs (.cmp .NotIn (.var 1) (.fld (.var 0) 245117675)) (.cons (.ixset (.fld (.var 0) 245117675) (.var 1) (.dnew true)) (.nil)) (.nil)) (.nil)
noncomputable def cu:ISs:=.cons (.ifs (.cmp .Eq (.var 1) (.var 2)) (.cons (.dead) (.cons (.retN) (.nil))) (.nil)) (.cons (.expr (.meth (.var 0) 122623138502931931312882 (.cons (.var 1) (.cons (.var 2) (.cons (.var 3) (.nil)))))) (.cons (.expr (.meth (.var 0) 213610734 (.cons (.var 1) (.nil)))) (.cons (.expr (.meth (.var 0) 213610734 (.cons (.var 2) (.nil)))) (.cons (.ixset (.ix (.fld (.var 0) 245117675) (.var 1)) (.var 2) (.bi .min (.cons (.var 3) (.cons (.bm .get (.ix (.fld (.var 0) 245117675) (.var 1)) (.cons (.var 2) (.cons (.var 3) (.nil)))) (.nil))))) (.nil)))))
noncomputable def cN:ISs:=.cons (.dead) (.cons (.dead) (.nil))
noncomputable def fR:ISs:=.cons (.dead) (.nil)
noncomputable def fF:ISs:=.cons (.dead) (.cons (.dead) (.cons (.dead) (.nil)))
noncomputable def fJ:ISs:=.cons (.dead) (.cons (.dead) (.cons (.dead) (.nil)))
noncomputable def bM:ISs:=.cons (.ixset (.var 1) (.var 2) (.con (.int 0))) (.nil)
noncomputable def bU:ISs:=.cons (.set 1 (.dnew true)) (.cons (.forK (.name 2) (.fld (.var 0) 245117675) bM) (.cons (.expr (.call 2 (.cons (.fld (.var 0) 245117675) (.cons (.var 1) (.cons (.dnew true) (.nil)))))) (.cons (.ret (.frz (.var 1))) (.nil))))
noncomputable def cG:ISs:=.cons (.expr (.call 0 (.cons (.fld (.var 0) 245117675) (.cons (.var 2) (.nil))))) (.cons (.ret (.bm .get (.call 4 (.cons (.fld (.var 0) 245117675) (.cons (.var 1) (.nil)))) (.cons (.var 2) (.nil)))) (.nil))
noncomputable def bI:ISs:=.cons (.ret (.call 5 (.cons (.fld (.var 0) 245117675) (.cons (.var 1) (.cons (.var 2) (.nil)))))) (.nil)
noncomputable def bu:ISs:=.cons (.ixset (.var 8) (.var 9) (.ifx (.cmp .In (.var 9) (.var 4)) (.ix (.var 4) (.var 9)) (.bin .Add (.ix (.var 5) (.var 9)) (.var 7)))) (.nil)
noncomputable def bF:ISs:=.cons (.expr (.call 0 (.cons (.fld (.var 0) 245117675) (.cons (.var 2) (.nil))))) (.cons (.set 4 (.call 4 (.cons (.fld (.var 0) 245117675) (.cons (.var 1) (.nil))))) (.cons (.set 5 (.meth (.var 0) 31083689204 (.nil))) (.cons (.set 6 (.call 6 (.cons (.fld (.var 0) 245117675) (.cons (.var 4) (.cons (.var 5) (.nil)))))) (.cons (.ifs (.cmp .NotIn (.var 2) (.var 4)) (.cons (.dead) (.nil)) (.nil)) (.cons (.set 7 (.mmz true (.var 6))) (.cons (.set 8 (.dnew true)) (.cons (.forK (.name 9) (.fld (.var 0) 245117675) bu) (.cons (.ret (.frz (.var 8))) (.nil)))))))))
noncomputable def aS:ISs:=.cons (.ifs (.cmp .Lt (.var 1) (.bi .len (.cons (.var 0) (.nil)))) (.cons (.ret (.ix (.var 0) (.var 1))) (.nil)) (.nil)) (.cons (.ret (.con (.int 0))) (.nil))
noncomputable def bT:ISs:=.cons (.ret (.and (.isB (.var 0) .int) (.not (.isB (.var 0) .bool)))) (.nil)
noncomputable def aC:ISs:=.cons (.set 4 (.bin .FloorDiv (.call 19 (.cons (.var 0) (.cons (.bin .Add (.con (.int 2)) (.bin .Mod (.var 3) (.bi .max (.cons (.con (.int 1)) (.cons (.bin .Sub (.bi .len (.cons (.var 0) (.nil))) (.con (.int 2))) (.nil)))))) (.nil)))) (.bin .Add (.con (.int 1)) (.var 3)))) (.cons (.set 5 (.ix (.lst true (.cons (.bin .Mod (.var 4) (.con (.int 10))) (.cons (.bin .Mod (.bin .FloorDiv (.var 4) (.con (.int 10))) (.bin .Pow (.con (.int 10)) (.con (.int 30)))) (.nil)))) (.bin .Mod (.bin .FloorDiv (.var 4) (.con (.int 7))) (.con (.int 2))))) (.cons (.app (.var 2) (.tup (.cons (.bin .Sub (.bin .Mod (.bin .FloorDiv (.var 4) (.con (.int 3))) (.bin .Pow (.con (.int 10)) (.con (.int 50)))) (.bin .Pow (.con (.int 10)) (.con (.int 20)))) (.cons (.var 5) (.nil))))) (.nil)))
noncomputable def bR:ISs:=.cons (.set 2 (.lst false (.nil))) (.cons (.for_ (.name 3) (.rng1 (.bin .Sub (.var 1) (.con (.int 1)))) aC) (.cons (.ret (.frz (.var 2))) (.nil)))
noncomputable def aV:ISs:=.cons (.set 2 (.lrng true (.bin .Sub (.var 1) (.con (.int 1))))) (.cons (.ifs (.cmp .Eq (.bin .Mod (.var 0) (.con (.int 4))) (.con (.int 1))) (.cons (.ret (.rev true (.var 2))) (.nil)) (.nil)) (.cons (.ifs (.cmp .Gt (.bin .Mod (.var 0) (.con (.int 4))) (.con (.int 1))) (.cons (.set 3 (.ix (.lst true (.cons (.con (.int 7)) (.cons (.con (.int 13)) (.nil)))) (.bin .Mod (.var 0) (.con (.int 2))))) (.cons (.set 2 (.comp true ["_law_k","_law_step"] [none,some 3] (.name 0) (.rng1 (.bin .Sub (.var 1) (.con (.int 1)))) (.yes (.cmp .Eq (.bin .Mod (.var 0) (.var 1)) (.con (.int 0)))) (.var 0))) (.cons (.set 2 (.cat true (.var 2) (.comp true ["_law_k","_law_step"] [none,some 3] (.name 0) (.rng1 (.bin .Sub (.var 1) (.con (.int 1)))) (.yes (.cmp .NotEq (.bin .Mod (.var 0) (.var 1)) (.con (.int 0)))) (.var 0)))) (.nil)))) (.nil)) (.cons (.ret (.var 2)) (.nil))))
noncomputable def aY:ISs:=.cons (.ifs (.and (.cmp .Lt (.bin .Add (.var 6) (.con (.int 1))) (.bi .len (.cons (.var 0) (.nil)))) (.cmp .Eq (.var 7) (.ix (.var 0) (.bin .Add (.var 6) (.con (.int 1)))))) (.cons (.set 5 (.bin .Add (.bin .Add (.var 5) (.ix (.ix (.var 1) (.var 6)) (.con (.int 0)))) (.ix (.ix (.var 1) (.var 6)) (.con (.int 1))))) (.cons (.set 6 (.bin .Add (.var 6) (.con (.int 1)))) (.nil))) (.cons (.ifs (.and (.cmp .Gt (.var 6) (.con (.int 0))) (.cmp .Eq (.var 7) (.ix (.var 0) (.bin .Sub (.var 6) (.con (.int 1)))))) (.cons (.set 6 (.bin .Sub (.var 6) (.con (.int 1)))) (.cons (.set 5 (.bin .Sub (.var 5) (.ix (.ix (.var 1) (.var 6)) (.con (.int 0))))) (.nil))) (.cons (.ret (.con .non)) (.nil))) (.nil))) (.nil)
noncomputable def de:ISs:=.cons (.ifs (.or (.not (.val (.isB (.var 2) .list))) (.or (.cmp .Eq (.bi .len (.cons (.var 2) (.nil))) (.con (.int 0))) (.or (.cmp .NotEq (.ix (.var 2) (.con (.int 0))) (.var 3)) (.cmp .NotEq (.ix (.var 2) (.neg (.con (.int 1)))) (.var 4))))) (.cons (.ret (.con .non)) (.nil)) (.nil)) (.cons (.set 5 (.con (.int 0))) (.cons (.set 6 (.bm .index (.var 0) (.cons (.var 3) (.nil)))) (.cons (.for_ (.name 7) (.seq (.sl true (.var 2) (.yes (.con (.int 1))) (.no))) aY) (.cons (.ret (.var 5)) (.nil)))))
noncomputable def dF:ISs:=.cons (.set 4 (.bin .Sub (.ix (.var 2) (.ix (.var 0) (.bin .Add (.var 3) (.con (.int 1))))) (.ix (.var 2) (.ix (.var 0) (.var 3))))) (.cons (.ifs (.or (.cmp .Lt (.var 4) (.ix (.ix (.var 1) (.var 3)) (.con (.int 0)))) (.cmp .Gt (.var 4) (.bin .Add (.ix (.ix (.var 1) (.var 3)) (.con (.int 0))) (.ix (.ix (.var 1) (.var 3)) (.con (.int 1)))))) (.cons (.ret (.con (.bl false))) (.nil)) (.nil)) (.nil))
noncomputable def cD:ISs:=.cons (.ifs (.or (.not (.val (.isB (.var 2) .dict))) (.cmp .NotEq (.bi .len (.cons (.var 2) (.nil))) (.bi .len (.cons (.var 0) (.nil))))) (.cons (.ret (.con (.bl false))) (.nil)) (.nil)) (.cons (.ifs (.val (.bi .any (.cons (.comp true ["_law_name","_law_times"] [none,some 2] (.name 0) (.seq (.var 0)) (.no) (.or (.cmp .NotIn (.var 0) (.var 1)) (.not (.call 20 (.cons (.ix (.var 1) (.var 0)) (.nil)))))) (.nil)))) (.cons (.ret (.con (.bl false))) (.nil)) (.nil)) (.cons (.for_ (.name 3) (.rng1 (.bi .len (.cons (.var 1) (.nil)))) dF) (.cons (.ret (.con (.bl true))) (.nil))))
noncomputable def bG:ISs:=.cons (.try_ (.cons (.expr (.meth (.var 0) 1915632 (.cons (.var 1) (.cons (.var 2) (.cons (.var 3) (.nil)))))) (.nil)) (.cons 2 (some 4) (.cons (.ret (.xfld (.var 4) 217822450)) (.nil)) (.nil))) (.cons (.ret (.con .non)) (.nil))
noncomputable def eK:ISs:=.cons (.expr (.meth (.var 4) 1915632 (.cons (.ix (.var 2) (.var 5)) (.cons (.ix (.var 2) (.bin .Add (.var 5) (.con (.int 1)))) (.cons (.bin .Add (.ix (.ix (.var 3) (.var 5)) (.con (.int 0))) (.ix (.ix (.var 3) (.var 5)) (.con (.int 1)))) (.nil)))))) (.cons (.expr (.meth (.var 4) 1915632 (.cons (.ix (.var 2) (.bin .Add (.var 5) (.con (.int 1)))) (.cons (.ix (.var 2) (.var 5)) (.cons (.bin .Sub (.con (.int 0)) (.ix (.ix (.var 3) (.var 5)) (.con (.int 0)))) (.nil)))))) (.nil))
noncomputable def iq:ISs:=.cons (.ifs (.or (.cmp .NotEq (.meth (.var 4) 245168109 (.cons (.var 10) (.cons (.var 11) (.nil)))) (.var 12)) (.cmp .NotEq (.call 23 (.cons (.var 2) (.cons (.var 3) (.cons (.meth (.var 4) 211318770 (.cons (.var 10) (.cons (.var 11) (.nil)))) (.cons (.var 10) (.cons (.var 11) (.nil))))))) (.var 12))) (.cons (.ret (.con (.bl false))) (.nil)) (.nil)) (.cons (.set 13 (.meth (.var 4) 4016813453548 (.cons (.var 10) (.cons (.var 11) (.nil))))) (.cons (.ifs (.or (.not (.val (.call 24 (.cons (.var 2) (.cons (.var 3) (.cons (.var 13) (.nil))))))) (.or (.cmp .NotEq (.ix (.var 13) (.var 10)) (.con (.int 0))) (.cmp .NotEq (.ix (.var 13) (.var 11)) (.var 12)))) (.cons (.ret (.con (.bl false))) (.nil)) (.nil)) (.cons (.ifs (.cmp .NotEq (.call 23 (.cons (.var 2) (.cons (.var 3) (.cons (.call 25 (.cons (.var 4) (.cons (.var 11) (.cons (.var 10) (.cons (.bin .Sub (.bin .Sub (.con (.int 0)) (.var 12)) (.con (.int 1))) (.nil)))))) (.cons (.var 10) (.cons (.var 11) (.nil))))))) (.var 12)) (.cons (.ret (.con (.bl false))) (.nil)) (.nil)) (.nil))))
noncomputable def mz:ISs:=.cons (.set 1 (.bin .Add (.con (.int 2)) (.bin .Mod (.call 19 (.cons (.var 0) (.cons (.con (.int 1)) (.nil)))) (.con (.int 63))))) (.cons (.set 2 (.comp true ["_law_k"] [none] (.name 0) (.rng1 (.var 1)) (.no) (.tup (.cons (.bin .FloorDiv (.var 0) (.con (.int 8))) (.cons (.bin .Sub (.bin .Mult (.bin .Mult (.bin .Mult (.var 0) (.var 0)) (.var 0)) (.con (.int 1000003))) (.var 0)) (.nil)))))) (.cons (.set 3 (.call 21 (.cons (.var 0) (.cons (.var 1) (.nil))))) (.cons (.set 4 (.make false 0 (.nil))) (.cons (.for_ (.name 5) (.seq (.call 22 (.cons (.call 19 (.cons (.var 0) (.cons (.con (.int 0)) (.nil)))) (.cons (.var 1) (.nil))))) eK) (.cons (.set 6 (.sm (.comp true ["_law_step","_law_back"] [none,none] (.tup [0,1]) (.seq (.var 3)) (.no) (.bin .Add (.var 0) (.var 1))))) (.cons (.set 7 (.bin .Sub (.con (.int 0)) (.sm (.comp true ["_law_step","_law_back"] [none,none] (.tup [0,1]) (.seq (.var 3)) (.no) (.var 0))))) (.cons (.set 8 (.ix (.var 2) (.con (.int 0)))) (.cons (.set 9 (.ix (.var 2) (.neg (.con (.int 1))))) (.cons (.for_ (.tup [10,11,12]) (.seq (.lst true (.cons (.tup (.cons (.var 8) (.cons (.var 9) (.cons (.var 6) (.nil))))) (.cons (.tup (.cons (.var 9) (.cons (.var 8) (.cons (.var 7) (.nil))))) (.nil))))) iq) (.cons (.ifs (.not (.val (.call 24 (.cons (.var 2) (.cons (.var 3) (.cons (.meth (.var 4) 31083689204 (.nil)) (.nil))))))) (.cons (.ret (.con (.bl false))) (.nil)) (.nil)) (.cons (.ret (.cmp .Is (.call 25 (.cons (.var 4) (.cons (.var 9) (.cons (.var 8) (.cons (.bin .Sub (.con (.int 0)) (.var 6)) (.nil)))))) (.con .non))) (.nil))))))))))))
noncomputable def fx:FL:={name:="refuse_unknown",qual:="refuse_unknown",glob:=true,cl:=true,st:=top 5,N:=["edges","x"],ps:=["edges","x"],body:=aO}
noncomputable def rR:FL:={name:="go_on",qual:="go_on",glob:=true,cl:=true,st:=top 6,N:=["row","x","sums","back","fallen","y","most","total"],ps:=["row","x","sums","back"],body:=gq}
noncomputable def qx:FL:={name:="settle",qual:="settle",glob:=true,cl:=true,st:=top 7,N:=["edges","sums","back","fallen","again","x","y"],ps:=["edges","sums","back"],body:=eE}
noncomputable def pj:FL:={name:="way_by",qual:="way_by",glob:=true,cl:=true,st:=top 8,N:=["back","y","way"],ps:=["back","y"],body:=d9}
noncomputable def tK:FL:={name:="spans",qual:="spans",glob:=true,cl:=false,st:=top 9,N:=["edges","x","sums"],ps:=["edges","x"],body:=gx}
noncomputable def wN:FL:={name:="road",qual:="road",glob:=true,cl:=true,st:=top 10,N:=["edges","x","y","sums","back"],ps:=["edges","x","y"],body:=jp,gn:="road_roads"}
noncomputable def g4:FL:={name:="needed_lifts",qual:="needed_lifts",glob:=true,cl:=false,st:=top 13,N:=["edges","reached","free","lifts","x","row"],ps:=["edges","reached","free"],body:=aZ}
noncomputable def jK:FL:={name:="__init__",qual:="Net.__init__",glob:=false,cl:=false,st:=aj (top 14) 0,N:=["self"],ps:=["self"],body:=bA}
noncomputable def eB:FL:={name:="refuse_ring",qual:="Net.refuse_ring",glob:=false,cl:=true,st:=aj (top 14) 1,N:=["self","x","y","most","back"],ps:=["self","x","y","most"],body:=aw}
noncomputable def me:FL:={name:="name",qual:="Net.name",glob:=false,cl:=false,st:=aj (top 14) 2,N:=["self","x"],ps:=["self","x"],body:=bJ}
noncomputable def ot:FL:={name:="put",qual:="Net.put",glob:=false,cl:=false,st:=aj (top 14) 3,N:=["self","x","y","most"],ps:=["self","x","y","most"],body:=cu}
noncomputable def f8:FL:={name:="put_round",qual:="Net.put_round",glob:=false,cl:=true,st:=aj (top 14) 4,N:=["self","x","most"],ps:=["self","x","most"],body:=cN}
noncomputable def j7:FL:={name:="names",qual:="Net.names",glob:=false,cl:=true,st:=aj (top 14) 5,N:=["self"],ps:=["self"],body:=fR}
noncomputable def j6:FL:={name:="bound",qual:="Net.bound",glob:=false,cl:=true,st:=aj (top 14) 6,N:=["self","x","y"],ps:=["self","x","y"],body:=fF}
noncomputable def ky:FL:={name:="edges",qual:="Net.edges",glob:=false,cl:=true,st:=aj (top 14) 7,N:=["self","told","x","row"],ps:=["self"],body:=fJ}
noncomputable def kc:FL:={name:="times",qual:="Net.times",glob:=false,cl:=true,st:=aj (top 14) 8,N:=["self","sums","x"],ps:=["self"],body:=bU}
noncomputable def lN:FL:={name:="most",qual:="Net.most",glob:=false,cl:=true,st:=aj (top 14) 9,N:=["self","x","y"],ps:=["self","x","y"],body:=cG}
noncomputable def l5:FL:={name:="road",qual:="Net.road",glob:=false,cl:=true,st:=aj (top 14) 10,N:=["self","x","y"],ps:=["self","x","y"],body:=bI}
noncomputable def jU:FL:={name:="latest",qual:="Net.latest",glob:=false,cl:=true,st:=aj (top 14) 11,N:=["self","x","y","far","reached","free","lifts","lift","told","name"],ps:=["self","x","y","far"],body:=bF,df:=[0]}
noncomputable def iB:FL:={name:="_law_cell_at",qual:="_law_cell_at",glob:=true,cl:=true,st:=top 16,N:=["_law_script","_law_k"],ps:=["_law_script","_law_k"],body:=aS}
noncomputable def kG:FL:={name:="_law_whole",qual:="_law_whole",glob:=true,cl:=true,st:=top 17,N:=["_law_found"],ps:=["_law_found"],body:=bT}
noncomputable def kZ:FL:={name:="_law_steps",qual:="_law_steps",glob:=true,cl:=true,st:=top 18,N:=["_law_script","_law_many","_law_steps_here","_law_k","_law_cell","_law_back"],ps:=["_law_script","_law_many"],body:=bR}
noncomputable def lm:FL:={name:="_law_order",qual:="_law_order",glob:=true,cl:=true,st:=top 19,N:=["_law_cell","_law_many","_law_found","_law_step"],ps:=["_law_cell","_law_many"],body:=aV}
noncomputable def nF:FL:={name:="_law_sum",qual:="_law_sum",glob:=true,cl:=true,st:=top 20,N:=["_law_called","_law_steps_here","_law_way","_law_x","_law_y","_law_found","_law_at","_law_name"],ps:=["_law_called","_law_steps_here","_law_way","_law_x","_law_y"],body:=de}
noncomputable def lC:FL:={name:="_law_keep",qual:="_law_keep",glob:=true,cl:=true,st:=top 21,N:=["_law_called","_law_steps_here","_law_times","_law_k","_law_apart"],ps:=["_law_called","_law_steps_here","_law_times"],body:=cD}
noncomputable def mf:FL:={name:="_law_ring",qual:="_law_ring",glob:=true,cl:=true,st:=top 22,N:=["_law_net","_law_x","_law_y","_law_most","e"],ps:=["_law_net","_law_x","_law_y","_law_most"],body:=bG}
noncomputable def l_law:FL:={name:="law",qual:="law",glob:=true,cl:=true,st:=top 23,N:=["_law_script","_law_many","_law_called","_law_steps_here","_law_net","_law_k","_law_there","_law_here","_law_first","_law_last","_law_x","_law_y","_law_due","_law_told"],ps:=["_law_script"],body:=mz}
noncomputable def L:List FL:=[fx,rR,qx,pj,tK,wN,g4,jK,eB,me,ot,f8,j7,j6,ky,kc,lN,l5,jU,iB,kG,kZ,lm,nF,lC,mf,l_law]
noncomputable def xinT:List (Nat×Nat):=[(2,217822450)]
noncomputable def nm:NM:=⟨["DriftError","NoName","Ring"],["Net"],[],xinT⟩
noncomputable def xin(i:Nat):Option Nat:=xinT.lookup i
noncomputable def subT:List (List Bool):=[[true,false,false],[true,true,false],[true,false,true]]
noncomputable def sub(i j:Nat):Bool:=(subT.getD i []).getD j false
noncomputable def ksubT:List (List Bool):=[[true]]
noncomputable def ksub(i j:Nat):Bool:=(ksubT.getD i []).getD j false
noncomputable def fokT:List (List Nat):=[[245117675]]
noncomputable def fok(i f:Nat):Bool:=(fokT.getD i []).contains f
noncomputable def mthT:List (List (Nat×Nat)):=[[(27076163554,13),(31083590245,14),(4016813453548,18),(245168109,16),(213610734,9),(31083688174,12),(1915632,10),(7268202314844682992,11),(122623138502931931312882,8),(211318770,17),(31083689204,15)]]
noncomputable def mth(i m:Nat):Option Nat:=(mthT.getD i []).lookup m
noncomputable def Aw:List Nat:=[7]
noncomputable def ini(i:Nat):Option Nat:=Aw[i]?
noncomputable def gloT:List D:=[]
noncomputable def glo(k:Nat):D:=gloT.getD k .non
noncomputable def B(cls kls fad:Nat->Addr):WB:={ne:=3,cls:=cls,sub:=sub,nk:=1,kls:=kls,ksub:=ksub,fok:=fok,mth:=mth,ini:=ini,xin:=xin,glo:=glo,fad:=fad}
section
variable {cls kls fad:Nat->Addr}
@[simp] theorem E5:(B cls kls fad).ne=3:=rfl
@[simp] theorem DT:(B cls kls fad).cls=cls:=rfl
@[simp] theorem EG:(B cls kls fad).sub=sub:=rfl
@[simp] theorem Fk:(B cls kls fad).nk=1:=rfl
@[simp] theorem EU:(B cls kls fad).kls=kls:=rfl
@[simp] theorem DC:(B cls kls fad).ksub=ksub:=rfl
@[simp] theorem D4:(B cls kls fad).fok=fok:=rfl
@[simp] theorem Ez:(B cls kls fad).mth=mth:=rfl
@[simp] theorem Es:(B cls kls fad).ini=ini:=rfl
@[simp] theorem EZ:(B cls kls fad).xin=xin:=rfl
@[simp] theorem DW:(B cls kls fad).glo=glo:=rfl
end
@[simp] theorem AS:sub 0 0=true:=rfl
@[simp] theorem A6:sub 0 1=false:=rfl
@[simp] theorem BP:sub 0 2=false:=rfl
@[simp] theorem BK:sub 1 0=true:=rfl
@[simp] theorem BC:sub 1 1=true:=rfl
@[simp] theorem Bt:sub 1 2=false:=rfl
@[simp] theorem AJ:sub 2 0=true:=rfl
@[simp] theorem Bu:sub 2 1=false:=rfl
@[simp] theorem Bw:sub 2 2=true:=rfl
@[simp] theorem Eo:xin 2=some 217822450:=rfl
@[simp] theorem yA:ksub 0 0=true:=rfl
@[simp] theorem wq:fok 0 245117675=true:=by decide
@[simp] theorem uf:mth 0 27076163554=some 13:=by decide
@[simp] theorem ui:mth 0 31083590245=some 14:=by decide
@[simp] theorem jD:mth 0 4016813453548=some 18:=by decide
@[simp] theorem ib:mth 0 245168109=some 16:=by decide
@[simp] theorem g7:mth 0 213610734=some 9:=by decide
@[simp] theorem uk:mth 0 31083688174=some 12:=by decide
@[simp] theorem dm:mth 0 1915632=some 10:=by decide
@[simp] theorem oI:mth 0 7268202314844682992=some 11:=by decide
@[simp] theorem bQ:mth 0 122623138502931931312882=some 8:=by decide
@[simp] theorem gH:mth 0 211318770=some 17:=by decide
@[simp] theorem fU:mth 0 31083689204=some 15:=by decide
@[simp] theorem D8:ini 0=some 7:=rfl
theorem xH:fnm 217822450=("ring" : Str):=by decide +kernel
noncomputable def T:List FB:=[⟨2,2,true,aO,[]⟩,⟨4,8,true,gq,[]⟩,⟨3,7,true,eE,[]⟩,⟨2,3,true,d9,[]⟩,⟨2,3,false,gx,[]⟩,⟨3,5,true,jp,[]⟩,⟨3,6,false,aZ,[]⟩,⟨1,1,false,bA,[]⟩,⟨4,5,true,aw,[]⟩,⟨2,2,false,bJ,[]⟩,⟨4,4,false,cu,[]⟩,⟨3,3,true,cN,[]⟩,⟨1,1,true,fR,[]⟩,⟨3,3,true,fF,[]⟩,⟨1,4,true,fJ,[]⟩,⟨1,3,true,bU,[]⟩,⟨3,3,true,cG,[]⟩,⟨3,3,true,bI,[]⟩,⟨4,10,true,bF,[0]⟩,⟨2,2,true,aS,[]⟩,⟨1,1,true,bT,[]⟩,⟨2,6,true,bR,[]⟩,⟨2,4,true,aV,[]⟩,⟨5,8,true,de,[]⟩,⟨3,5,true,cD,[]⟩,⟨4,5,true,bG,[]⟩,⟨1,14,true,mz,[]⟩]
theorem CB:L.map FL.fb=T:=rfl
section
variable {B:WB}{M:MH}{Q:VK3}{E:XN}{n:Nat}
theorem eZ{x0 x1:D}:ad T B (n+1) 0 [x0,x1] M Q E=aq {toWB:=B,call:=ad T B n} aO {nx:=fun _ M'=>Q .non (ah M M'),rt:=fun v M'=>Q v (ah M M')} (fun _ i M'=>E i (ah M M')) [some x0,some x1] M:=propext ⟨fun h=>h.2,fun h=>⟨rfl,h⟩⟩
theorem so{x0 x1 x2 x3:D}:ad T B (n+1) 1 [x0,x1,x2,x3] M Q E=aq {toWB:=B,call:=ad T B n} gq {nx:=fun _ M'=>Q .non (ah M M'),rt:=fun v M'=>Q v (ah M M')} (fun _ i M'=>E i (ah M M')) [some x0,some x1,some x2,some x3,none,none,none,none] M:=propext ⟨fun h=>h.2,fun h=>⟨rfl,h⟩⟩
theorem pf{x0 x1 x2:D}:ad T B (n+1) 2 [x0,x1,x2] M Q E=aq {toWB:=B,call:=ad T B n} eE {nx:=fun _ M'=>Q .non (ah M M'),rt:=fun v M'=>Q v (ah M M')} (fun _ i M'=>E i (ah M M')) [some x0,some x1,some x2,none,none,none,none] M:=propext ⟨fun h=>h.2,fun h=>⟨rfl,h⟩⟩
theorem qr{x0 x1:D}:ad T B (n+1) 3 [x0,x1] M Q E=aq {toWB:=B,call:=ad T B n} d9 {nx:=fun _ M'=>Q .non (ah M M'),rt:=fun v M'=>Q v (ah M M')} (fun _ i M'=>E i (ah M M')) [some x0,some x1,none] M:=propext ⟨fun h=>h.2,fun h=>⟨rfl,h⟩⟩
theorem sx{x0 x1:D}:ad T B (n+1) 4 [x0,x1] M Q E=aq {toWB:=B,call:=ad T B n} gx {nx:=fun _ M'=>Q .non M',rt:=fun v M'=>Q v M'} (fun _ i M'=>E i (ah M M')) [some x0,some x1,none] M:=propext ⟨fun h=>h.2,fun h=>⟨rfl,h⟩⟩
theorem vE{x0 x1 x2:D}:ad T B (n+1) 5 [x0,x1,x2] M Q E=aq {toWB:=B,call:=ad T B n} jp {nx:=fun _ M'=>Q .non (ah M M'),rt:=fun v M'=>Q v (ah M M')} (fun _ i M'=>E i (ah M M')) [some x0,some x1,some x2,none,none] M:=propext ⟨fun h=>h.2,fun h=>⟨rfl,h⟩⟩
theorem iz{x0 x1 x2:D}:ad T B (n+1) 6 [x0,x1,x2] M Q E=aq {toWB:=B,call:=ad T B n} aZ {nx:=fun _ M'=>Q .non M',rt:=fun v M'=>Q v M'} (fun _ i M'=>E i (ah M M')) [some x0,some x1,some x2,none,none,none] M:=propext ⟨fun h=>h.2,fun h=>⟨rfl,h⟩⟩
theorem jy{x0:D}:ad T B (n+1) 7 [x0] M Q E=aq {toWB:=B,call:=ad T B n} bA {nx:=fun _ M'=>Q .non M',rt:=fun v M'=>Q v M'} (fun _ i M'=>E i (ah M M')) [some x0] M:=propext ⟨fun h=>h.2,fun h=>⟨rfl,h⟩⟩
theorem bV{x0 x1 x2 x3:D}:ad T B (n+1) 8 [x0,x1,x2,x3] M Q E=aq {toWB:=B,call:=ad T B n} aw {nx:=fun _ M'=>Q .non (ah M M'),rt:=fun v M'=>Q v (ah M M')} (fun _ i M'=>E i (ah M M')) [some x0,some x1,some x2,some x3,none] M:=propext ⟨fun h=>h.2,fun h=>⟨rfl,h⟩⟩
theorem g5{x0 x1:D}:ad T B (n+1) 9 [x0,x1] M Q E=aq {toWB:=B,call:=ad T B n} bJ {nx:=fun _ M'=>Q .non M',rt:=fun v M'=>Q v M'} (fun _ i M'=>E i (ah M M')) [some x0,some x1] M:=propext ⟨fun h=>h.2,fun h=>⟨rfl,h⟩⟩
theorem iM{x0 x1 x2 x3:D}:ad T B (n+1) 10 [x0,x1,x2,x3] M Q E=aq {toWB:=B,call:=ad T B n} cu {nx:=fun _ M'=>Q .non M',rt:=fun v M'=>Q v M'} (fun _ i M'=>E i (ah M M')) [some x0,some x1,some x2,some x3] M:=propext ⟨fun h=>h.2,fun h=>⟨rfl,h⟩⟩
theorem kX{x0:D}:ad T B (n+1) 15 [x0] M Q E=aq {toWB:=B,call:=ad T B n} bU {nx:=fun _ M'=>Q .non (ah M M'),rt:=fun v M'=>Q v (ah M M')} (fun _ i M'=>E i (ah M M')) [some x0,none,none] M:=propext ⟨fun h=>h.2,fun h=>⟨rfl,h⟩⟩
theorem lA{x0 x1 x2:D}:ad T B (n+1) 16 [x0,x1,x2] M Q E=aq {toWB:=B,call:=ad T B n} cG {nx:=fun _ M'=>Q .non (ah M M'),rt:=fun v M'=>Q v (ah M M')} (fun _ i M'=>E i (ah M M')) [some x0,some x1,some x2] M:=propext ⟨fun h=>h.2,fun h=>⟨rfl,h⟩⟩
theorem ij{x0 x1 x2:D}:ad T B (n+1) 17 [x0,x1,x2] M Q E=aq {toWB:=B,call:=ad T B n} bI {nx:=fun _ M'=>Q .non (ah M M'),rt:=fun v M'=>Q v (ah M M')} (fun _ i M'=>E i (ah M M')) [some x0,some x1,some x2] M:=propext ⟨fun h=>h.2,fun h=>⟨rfl,h⟩⟩
theorem jx{x0 x1 x2:D}:ad T B (n+1) 18 [x0,x1,x2] M Q E=aq {toWB:=B,call:=ad T B n} bF {nx:=fun _ M'=>Q .non (ah M M'),rt:=fun v M'=>Q v (ah M M')} (fun _ i M'=>E i (ah M M')) [some x0,some x1,some x2,some (.int 0),none,none,none,none,none,none] M:=propext ⟨fun h=>h.2,fun h=>⟨rfl,h⟩⟩
theorem dG{x0 x1:D}:ad T B (n+1) 19 [x0,x1] M Q E=aq {toWB:=B,call:=ad T B n} aS {nx:=fun _ M'=>Q .non (ah M M'),rt:=fun v M'=>Q v (ah M M')} (fun _ i M'=>E i (ah M M')) [some x0,some x1] M:=propext ⟨fun h=>h.2,fun h=>⟨rfl,h⟩⟩
theorem lg{x0:D}:ad T B (n+1) 20 [x0] M Q E=aq {toWB:=B,call:=ad T B n} bT {nx:=fun _ M'=>Q .non (ah M M'),rt:=fun v M'=>Q v (ah M M')} (fun _ i M'=>E i (ah M M')) [some x0] M:=propext ⟨fun h=>h.2,fun h=>⟨rfl,h⟩⟩
theorem ka{x0 x1:D}:ad T B (n+1) 21 [x0,x1] M Q E=aq {toWB:=B,call:=ad T B n} bR {nx:=fun _ M'=>Q .non (ah M M'),rt:=fun v M'=>Q v (ah M M')} (fun _ i M'=>E i (ah M M')) [some x0,some x1,none,none,none,none] M:=propext ⟨fun h=>h.2,fun h=>⟨rfl,h⟩⟩
theorem c8{x0 x1:D}:ad T B (n+1) 22 [x0,x1] M Q E=aq {toWB:=B,call:=ad T B n} aV {nx:=fun _ M'=>Q .non (ah M M'),rt:=fun v M'=>Q v (ah M M')} (fun _ i M'=>E i (ah M M')) [some x0,some x1,none,none] M:=propext ⟨fun h=>h.2,fun h=>⟨rfl,h⟩⟩
theorem nX{x0 x1 x2 x3 x4:D}:ad T B (n+1) 23 [x0,x1,x2,x3,x4] M Q E=aq {toWB:=B,call:=ad T B n} de {nx:=fun _ M'=>Q .non (ah M M'),rt:=fun v M'=>Q v (ah M M')} (fun _ i M'=>E i (ah M M')) [some x0,some x1,some x2,some x3,some x4,none,none,none] M:=propext ⟨fun h=>h.2,fun h=>⟨rfl,h⟩⟩
theorem l7{x0 x1 x2:D}:ad T B (n+1) 24 [x0,x1,x2] M Q E=aq {toWB:=B,call:=ad T B n} cD {nx:=fun _ M'=>Q .non (ah M M'),rt:=fun v M'=>Q v (ah M M')} (fun _ i M'=>E i (ah M M')) [some x0,some x1,some x2,none,none] M:=propext ⟨fun h=>h.2,fun h=>⟨rfl,h⟩⟩
theorem gO{x0 x1 x2 x3:D}:ad T B (n+1) 25 [x0,x1,x2,x3] M Q E=aq {toWB:=B,call:=ad T B n} bG {nx:=fun _ M'=>Q .non (ah M M'),rt:=fun v M'=>Q v (ah M M')} (fun _ i M'=>E i (ah M M')) [some x0,some x1,some x2,some x3,none] M:=propext ⟨fun h=>h.2,fun h=>⟨rfl,h⟩⟩
theorem zO{x0:D}:ad T B (n+1) 26 [x0] M Q E=aq {toWB:=B,call:=ad T B n} mz {nx:=fun _ M'=>Q .non (ah M M'),rt:=fun v M'=>Q v (ah M M')} (fun _ i M'=>E i (ah M M')) [some x0,none,none,none,none,none,none,none,none,none,none,none,none,none] M:=propext ⟨fun h=>h.2,fun h=>⟨rfl,h⟩⟩
end
theorem top_mk{P:Params}{h:Heap}{mg:Str->Option Value}(X:(HD.K P).In h)(Gn:h.Ns mainGlobals mg)
  {h2:Addr}{xod2 xan2:Option Addr}{xsl2:Array (Option Value)}{xoc2 xkV2 xdc2 xpm2 xcd2 xct2:Value}
  (x2:b9 (HD.K P) 56=true)
  (xi2:PySem.W.findIn (HD.K P) (.ref 56) "__init__"=some (some (.ref h2)))
  (xl2:(HD.K P).lookup h2=some ⟨xoc2,xod2,.func (PySem.W.fnOf "__init__" "Ring.__init__" (ba (aj (top 3) 0)) (aL (aj (top 3) 0)) (ar (aj (top 3) 0)) .none xkV2 xdc2 xpm2 xan2 xcd2 xct2),xsl2⟩)
  {xtx2:Str}{xj2:Nat}{xpx2 xap2 xp12 xp22 xcp2 xp32 xp42 xp52 xp62 xp72 xp82 xp92:Pos}
  (xw2:aL (aj (top 3) 0)=[.Expr (.Call (.Attribute (.Name "DriftError" xpx2) "__init__" xap2) [.Name "self" xp12,.Constant (.str xtx2) xj2 xp22] [] xcp2) xp32,.Assign [.Attribute (.Name "self" xp42) "ring" xp52] (.Call (.Name "list" xp82) [.Name "ring" xp62] [] xp92) xp72])
  (xz2:pD "self" "ring" "DriftError" (ar (aj (top 3) 0)) xap2 xcp2=true)
  (xd2:PySem.W.codeIn (HD.K P) xcd2 "Ring.__init__"=true)
  (xk2:PySem.W.keepIn (HD.K P) (.ref h2)=true)
  (xt2:PySem.W.typeIn (HD.K P) (.ref h2)=some (.type "function"))
  : ∃cls kls fad,Top (HD.K P) mg L nm (B cls kls fad):=by
 refine⟨fun i=>([24,37,56]:List Nat).getD i 0,fun i=>([200]:List Nat).getD i 0,fun i=>([65,72,79,86,93,100,105,119,126,133,140,147,154,161,168,175,182,189,197,211,218,225,230,237,242,249,254]:List Nat).getD i 0,Top.of (fT:=fokT) (mT:=mthT) (iT:=Aw) X Gn (by kernel_rfl) (by kernel_rfl) (by kernel_rfl) (ixc (n2 (by intros;rfl)) (ixc (n4 (by intros;rfl)) (ixc (n3 (by intros;rfl)) (ixc (n2 (by intros;rfl)) (ixc (n2 (by intros;rfl)) (ixc (n3 (by intros;rfl)) (ixc (n3 (by intros;rfl)) (ixc (n1 (by intros;rfl)) (ixc (n4 (by intros;rfl)) (ixc (n2 (by intros;rfl)) (ixc (n4 (by intros;rfl)) (ixc (n3 (by intros;rfl)) (ixc (n1 (by intros;rfl)) (ixc (n3 (by intros;rfl)) (ixc (n1 (by intros;rfl)) (ixc (n1 (by intros;rfl)) (ixc (n3 (by intros;rfl)) (ixc (n3 (by intros;rfl)) (ixc (n4 (by intros;rfl)) (ixc (n2 (by intros;rfl)) (ixc (n1 (by intros;rfl)) (ixc (n2 (by intros;rfl)) (ixc (n2 (by intros;rfl)) (ixc (n5 (by intros;rfl)) (ixc (n3 (by intros;rfl)) (ixc (n4 (by intros;rfl)) (ixc (n1 (by intros;rfl)) (ixn)))))))))))))))))))))))))))) (by kernel_rfl) (by kernel_rfl) (by kernel_rfl) (by kernel_rfl) (fun _ _=>rfl) (fun _ _=>rfl) (fun _=>rfl) (by kernel_rfl) ?_ ?_ ?_ (xL 18 rfl (by kernel_rfl) (df1 (i:=0) (t:=433) (by kernel_rfl) (fun us hu=>match us,hu with|[_,_,_],_=>fun S=>by kernel_rfl) (fun us hu=>match us,hu with|[_,_,_,_],_=>fun S=>by kernel_rfl)))⟩
 ·intro k x hi;simp[nm]at hi
 ·intro i f hx;have hx:=bH (show [(2,217822450)].lookup i=some f from hx);simp only[List.mem_cons,Prod.mk.injEq,List.not_mem_nil,or_false]at hx;rcases hx with ⟨rfl,rfl⟩
  ·refine⟨rfl,h2,_,["self","ring"],?_,.all ((xf (st:=aj (top 3) 0) xl2 xd2 xk2).bindsE fun _ _ _ _ _ _=>usS fun _=>usS fun _=>us0 rfl),fun P w base=>?_⟩<;>rw[xH]
   ·exact⟨x2,xi2,xt2,by kernel_rfl,by kernel_rfl,by kernel_rfl,by kernel_rfl,by kernel_rfl⟩
   ·exact sB xw2 xz2 xl2 xd2 (by kernel_rfl) (PySem.W.mg_none_of X Gn (by kernel_rfl)) (PySem.W.mg_of X Gn (v:=.ref 24) (by kernel_rfl)) ⟨by kernel_rfl,by kernel_rfl,by kernel_rfl⟩ ⟨x2,xi2,xt2,by kernel_rfl,by kernel_rfl,by kernel_rfl,by kernel_rfl,by kernel_rfl⟩
 ·intro i f hi hx;have hx:=bH (show [(2,217822450)].lookup i=some f from hx);simp only[List.mem_cons,Prod.mk.injEq,List.not_mem_nil,or_false]at hx;rcases hx with ⟨rfl,rfl⟩
  ·show PySem.W.findIn (HD.K P) (.ref 56) (fnm 217822450)=some none
   kernel_rfl
end G
namespace G
open L2
section
noncomputable abbrev Nm:=List Int
noncomputable def lk{α:Type}:List (Nm×α)->Nm->Option α
 |[],_=>none
 |(q,u)::r,k=>if q=k then some u else lk r k
noncomputable def ins{α:Type}:List (Nm×α)->Nm->α->List (Nm×α)
 |[],k,v=>[(k,v)]
 |(q,u)::r,k,v=>if q=k then (q,v)::r else (q,u)::ins r k v
noncomputable abbrev K1{α:Type}(l:List (Nm×α)):List Nm:=l.map Prod.fst
theorem aF:∀{l:List (Nm×α)},lk (ins l k v) q=if k=q then some v else lk l q
 |[]=>by simp[ins,lk]
 |(a,u)::r=>by
  simp only[ins];by_cases h:a=k
  ·subst h;simp only[if_true,lk];split<;>rfl
  ·simp only[if_neg h,lk];by_cases h2:a=q
   ·subst h2;rw[if_pos rfl,if_neg (Ne.symm h),if_pos rfl]
   ·rw[if_neg h2,if_neg h2];exact aF
theorem lO:∀{l:List (Nm×α)},lk l k=some v->(k,v)∈l
 |[],h=>by cases h
 |(a,u)::r,h=>by
  simp only[lk]at h;split at h
  ·rename_i e;subst e;cases h;exact List.mem_cons_self
  ·exact List.mem_cons_of_mem _ (lO h)
theorem lk_key{α:Type}{k:Nm}:∀{l:List (Nm×α)},k∈K1 l<->(lk l k).isSome=true
 |[]=>by simp[K1,lk]
 |(a,u)::r=>by
  have ih:=lk_key (k:=k) (l:=r);simp only[K1,List.map_cons,List.mem_cons,lk]at ih ⊢;by_cases h:a=k
  ·simp[h]
  ·rw[if_neg h,<-ih];simp[Ne.symm h]
theorem mi:∀{l:List (Nm×α)},K1 (ins l k v)=if k∈K1 l then K1 l else K1 l++[k]
 |[]=>by simp[ins,K1]
 |(a,u)::r=>by
  have ih:=mi (k:=k) (v:=v) (l:=r);simp only[ins];by_cases h:a=k
  ·subst h;simp[K1]
  ·rw[if_neg h];simp only[K1,List.map_cons,List.mem_cons,Ne.symm h,false_or]at ih ⊢;rw[ih];by_cases z:k∈List.map Prod.fst r
   ·rw[if_pos z,if_pos z]
   ·rw[if_neg z,if_neg z];rfl
theorem lP(h:(K1 l).Nodup):(K1 (ins l k v)).Nodup:=by
 rw[mi];split
 ·exact h
 ·rename_i z;rw[List.nodup_append];exact⟨h,by simp,fun a ha b hb=>by rw[List.mem_singleton.mp hb];exact fun e=>z (e▸ha)⟩
theorem cA(f:α->D):∀{l:List (Nm×α)},getD (K1 l) (l.map fun p=>f p.2) k=(lk l k).map f
 |[]=>by simp[K1,getD,lk]
 |(a,u)::r=>by
  have ih:=cA f (k:=k) (l:=r);simp only[K1,List.map_cons,getD,lk]at ih ⊢;split
  ·rfl
  ·exact ih
theorem ll:∀{l:List (Nm×α)},ak (K1 l) k=K1 (ins l k v)
 |[]=>by simp[K1,ak,ins]
 |(a,u)::r=>by
  have ih:=ll (k:=k) (v:=v) (l:=r);simp only[K1,List.map_cons,ak,ins]at ih ⊢;split
  ·simp
  ·simp[ih]
theorem kg(f:α->D):∀{l:List (Nm×α)},aN (K1 l) (l.map fun p=>f p.2) k (f v)=(ins l k v).map fun p=>f p.2
 |[]=>by simp[K1,aN,ins]
 |(a,u)::r=>by
  have ih:=kg f (k:=k) (v:=v) (l:=r);simp only[K1,List.map_cons,aN,ins]at ih ⊢;split
  ·simp
  ·simp[ih]
theorem cQ:∀{l k:List Nm},l.Nodup->(∀x∈l,x∈k)->l.length<=k.length
 |[],_,_,_=>Nat.zero_le _
 |a::l,k,hn,hs=>by
  rw[List.nodup_cons]at hn;have h1:a∈k:=hs a List.mem_cons_self;have h2:l.length<=(k.erase a).length:=cQ hn.2 fun x hx=>(List.mem_erase_of_ne (fun e:x=a=>hn.1 (by rw[<-e];exact hx))).mpr (hs x (List.mem_cons_of_mem _ hx))
  rw[List.length_erase_of_mem h1]at h2;have:0 < k.length:=List.length_pos_of_mem h1;simp only[List.length_cons];omega
structure Nt where
 ks:List Nm
 row:Nm->List (Nm×Int)
noncomputable def Ed(N:Nt)(x y:Nm)(w:Int):Prop:=x∈N.ks/\(y,w)∈N.row x
structure WN (N:Nt):Prop where
 nd:N.ks.Nodup
 row:∀x∈N.ks,(K1 (N.row x)).Nodup/\∀e∈N.row x,e.1∈N.ks/\e.1≠x
inductive Wk (N:Nt) (x:Nm):Nm->Int->Prop where
 |nil:Wk N x x 0
 |snoc {y z:Nm}{v w:Int} (h:Wk N x y v) (e:Ed N y z w):Wk N x z (v+w)
noncomputable def Pot(N:Nt)(p:Nm->Int):Prop:=∀x y w,Ed N x y w->p y - p x<=w
theorem Wk.pot{N:Nt}{p:Nm->Int}{x y:Nm}{v:Int}(hp:Pot N p)(h:Wk N x y v):p y - p x<=v:=by
 induction h with
 |nil=>omega
 |snoc _ e ih=>have:=hp _ _ _ e;omega
noncomputable def IsD(N:Nt)(x y:Nm):Option Int->Prop
 |some d=>Wk N x y d/\∀v,Wk N x y v->d<=v
 |none=>∀v,¬ Wk N x y v
theorem IsD.uniq{N:Nt}{x y:Nm}{a b:Option Int}(h:IsD N x y a)(g:IsD N x y b):a=b:=by
 cases a with
 |none=>
  cases b with
  |none=>rfl
  |some v=>exact absurd g.1 (h v)
 |some u=>
  cases b with
  |none=>exact absurd h.1 (g u)
  |some v=>have:=h.2 v g.1;have:=g.2 u h.1;congr 1;omega
structure SB where
 S:List (Nm×Int)
 B:List (Nm×Nm)
noncomputable def fY(S:List (Nm×Int))(y:Nm)(t:Int):Bool:=match lk S y with
 |none=>true
 |some v=>decide (t < v)
noncomputable def rl(x:Nm)(st:SB×List Nm)(e:Nm×Int):SB×List Nm:=match lk st.1.S x with
 |none=>st
 |some u=>if fY st.1.S e.1 (u+e.2)=true then (⟨ins st.1.S e.1 (u+e.2),ins st.1.B e.1 x⟩,st.2++[e.1]) else st
noncomputable def goF(x:Nm)(row:List (Nm×Int))(st:SB):SB×List Nm:=row.foldl (rl x) (st,[])
inductive Ends (B:List (Nm×Nm)):Nm->Nat->Prop where
 |nil {y:Nm} (h:lk B y=none):Ends B y 0
 |step {y x:Nm}{m:Nat} (h:lk B y=some x) (e:Ends B x m):Ends B y (m+1)
theorem Ends.fn{B:List (Nm×Nm)}{y:Nm}{m k:Nat}(h:Ends B y m)(g:Ends B y k):m=k:=by
 induction h generalizing k with
 |nil h=>
  cases g with
  |nil=>rfl
  |step h' _=>rw[h]at h';cases h'
 |step h _ ih=>
  cases g with
  |nil h'=>rw[h]at h';cases h'
  |step h' e=>rw[h]at h';cases h';rw[ih e]
theorem Ends.le{B:List (Nm×Nm)}:∀{y:Nm}{m:Nat},Ends B y m->m<=(K1 B).length:=fun {y m} h=>by
 have key:∀{y:Nm}{m:Nat},Ends B y m->∃l:List Nm,l.length=m/\l.Nodup/\(∀z∈l,z∈K1 B)/\∀z∈l,∃k,k<=m/\0 < k/\Ends B z k:=by
  intro y m h
  induction h with
  |nil=>exact⟨[],rfl,.nil,(fun _ h=>by cases h),(fun _ h=>by cases h)⟩
  |@step y x m h e ih=>
   obtain⟨l,l1,l2,l3,l4⟩:=ih;have hy:Ends B y (m+1):=.step h e;refine⟨y::l,by simp[l1],List.nodup_cons.mpr ⟨fun hm=>?_,l2⟩,fun z hz=>?_,fun z hz=>?_⟩
   ·obtain⟨k,k1,_,k2⟩:=l4 y hm;have:=hy.fn k2;omega
   ·rcases List.mem_cons.mp hz with rfl|hz
    ·exact lk_key.mpr (by rw[h];rfl)
    ·exact l3 z hz
   ·rcases List.mem_cons.mp hz with rfl|hz
    ·exact⟨m+1,Nat.le_refl _,Nat.succ_pos _,hy⟩
    ·obtain⟨k,k1,k0,k2⟩:=l4 z hz;exact⟨k,by omega,k0,k2⟩
 obtain⟨l,l1,l2,l3,_⟩:=key h;rw[<-l1];exact cQ l2 l3
noncomputable def Wx(N:Nt)(X:List Nm)(y:Nm)(v:Int):Prop:=∃x∈X,Wk N x y v
structure J (N:Nt)(X:List Nm)(pend:Nm->Prop)(s:SB):Prop where
 k:∀y v,lk s.S y=some v->y∈N.ks/\Wx N X y v
 nd:(K1 s.S).Nodup
 s0:∀x∈X,∃u,lk s.S x=some u/\u<=0
 pd:∀z,pend z->(lk s.S z).isSome=true
 rel:∀x u,lk s.S x=some u->¬ pend x->∀y w,(y,w)∈N.row x->∃v,lk s.S y=some v/\v<=u+w
 b:∀y x,lk s.B y=some x->∃v u w,lk s.S y=some v/\lk s.S x=some u/\(y,w)∈N.row x/\x∈N.ks/\u+w<=v
 en:∀y,∃m,Ends s.B y m
 bn:(K1 s.B).Nodup
 hb:∀y v,lk s.S y=some v->y∈X\/(lk s.B y).isSome=true
 b0:∀y∈X,(lk s.B y).isSome=true->∃v,lk s.S y=some v/\v < 0
theorem qp{B:List (Nm×Nm)}{y x:Nm}(he:∀z,∃m,Ends B z m)(hx:∃m,Ends (ins B y x) x m):∀z,∃m,Ends (ins B y x) z m:=fun z=>by
 obtain⟨m,hm⟩:=he z
 induction hm with
 |@nil z h=>
  by_cases e:y=z
  ·subst e;obtain⟨k,hk⟩:=hx;exact⟨k+1,.step (by rw[aF,if_pos rfl]) hk⟩
  ·exact⟨0,.nil (by rw[aF,if_neg e];exact h)⟩
 |@step z z' m h _ ih=>
  by_cases e:y=z
  ·subst e;obtain⟨k,hk⟩:=hx;exact⟨k+1,.step (by rw[aF,if_pos rfl]) hk⟩
  ·obtain⟨k,hk⟩:=ih;exact⟨k+1,.step (by rw[aF,if_neg e];exact h) hk⟩
variable {N:Nt}{X:List Nm}{p:Nm->Int}
theorem J.low{pend:Nm->Prop}{s:SB}{x y:Nm}{w u:Int}(W:WN N)(hp:Pot N p)(I:J N X pend s)(hx:lk s.S x=some u)(he:(y,w)∈N.row x)(hl:fY s.S y (u+w)=true) :
  J N X (fun z=>pend z\/z=y) ⟨ins s.S y (u+w),ins s.B y x⟩:=by
 obtain⟨xk,xw⟩:=I.k x u hx;obtain⟨yk,yx⟩:=(W.row x xk).2 _ he;have wy:Wx N X y (u+w):=by obtain⟨q,hq,xw⟩:=xw;exact⟨q,hq,xw.snoc ⟨xk,he⟩⟩
 have old:∀v,lk s.S y=some v->u+w < v:=fun v hv=>by
  unfold fY at hl;rw[hv]at hl;simpa using hl
 have mono:∀z v,lk s.S z=some v->∃v',lk (ins s.S y (u+w)) z=some v'/\v'<=v:=fun z v hv=>by
  rw[aF];by_cases e:y=z
  ·subst e;rw[if_pos rfl];exact⟨_,rfl,by have:=old v hv;omega⟩
  ·rw[if_neg e];exact⟨v,hv,by omega⟩
 refine⟨fun z v hz=>?_,lP I.nd,?_,fun z hz=>?_,fun z v hz hnp a c hac=>?_,fun z q hzq=>?_,qp I.en ?_,lP I.bn,fun z v hz=>?_,fun z hz hB=>?_⟩
 ·rw[aF]at hz;split at hz
  ·rename_i e;subst e;cases hz;exact⟨yk,wy⟩
  ·exact I.k z v hz
 ·intro q hq;obtain⟨v,v1,v2⟩:=I.s0 q hq;obtain⟨v',v3,v4⟩:=mono q v v1;exact⟨v',v3,by omega⟩
 ·rcases hz with hz|rfl
  ·obtain⟨v,hv⟩:=Option.isSome_iff_exists.mp (I.pd z hz);obtain⟨v',hv',_⟩:=mono z v hv;rw[hv'];rfl
  ·show (lk (ins s.S z (u+w)) z).isSome=true;rw[aF,if_pos rfl];rfl
 ·have ey:y≠z:=fun e=>hnp (.inr e.symm)
  have hz':lk (ins s.S y (u+w)) z=some v:=hz;rw[aF,if_neg ey]at hz';obtain⟨t,t1,t2⟩:=I.rel z v hz' (fun q=>hnp (.inl q)) a c hac
  obtain⟨t',t3,t4⟩:=mono a t t1;exact⟨t',t3,by omega⟩
 ·have hzq':lk (ins s.B y x) z=some q:=hzq;rw[aF]at hzq';split at hzq'
  ·rename_i e;subst e;cases hzq';refine⟨u+w,u,w,by show lk (ins s.S y (u+w)) y=_;rw[aF,if_pos rfl],?_,he,xk,by omega⟩
   show lk (ins s.S y (u+w)) x=_;rw[aF,if_neg yx];exact hx
  ·rename_i e;obtain⟨v,r,c,c1,c2,c3,c4,c5⟩:=I.b z q hzq';obtain⟨r',r1,r2⟩:=mono q r c2;refine⟨v,r',c,?_,r1,c3,c4,by omega⟩
   show lk (ins s.S y (u+w)) z=_;rw[aF,if_neg e];exact c1
 ·-- from x the chain does not come to y
  have key:∀z m,Ends s.B z m->∀v,lk s.S z=some v->(∀t,lk s.S y=some t->v - p z < t - p y)->∃m,Ends (ins s.B y x) z m:=by
   intro z m hm
   induction hm with
   |@nil z h=>
    intro v hv hlt;have e:y≠z:=fun e=>by subst e;have:=hlt v hv;omega
    exact⟨0,.nil (by rw[aF,if_neg e];exact h)⟩
   |@step z z' m h _ ih=>
    intro v hv hlt;have e:y≠z:=fun e=>by subst e;have:=hlt v hv;omega
    obtain⟨v1,r,c,c1,c2,c3,c4,c5⟩:=I.b z z' h;rw[hv]at c1;cases c1;have pp:=hp z' z c ⟨c4,c3⟩;obtain⟨k,hk⟩:=ih r c2 fun t ht=>by have:=hlt t ht;omega
    exact⟨k+1,.step (by rw[aF,if_neg e];exact h) hk⟩
  obtain⟨m,hm⟩:=I.en x;refine key x m hm u hx fun t ht=>?_
  have h1:=old t ht;have h2:=hp x y w ⟨xk,he⟩;omega
 ·have hz':lk (ins s.S y (u+w)) z=some v:=hz;show z∈X\/(lk (ins s.B y x) z).isSome=true;rw[aF]at hz' ⊢;by_cases e:y=z
  ·right;rw[if_pos e];rfl
  ·rw[if_neg e]at hz' ⊢;exact I.hb z v hz'
 ·obtain⟨v,v1,v2⟩:=I.s0 z hz;have hB':(lk (ins s.B y x) z).isSome=true:=hB;show ∃v,lk (ins s.S y (u+w)) z=some v/\v < 0;rw[aF]at hB' ⊢;by_cases e:y=z
  ·subst e;rw[if_pos rfl];exact⟨_,rfl,by have:=old v v1;omega⟩
  ·rw[if_neg e]at hB' ⊢;exact I.b0 z hz hB'
end
end G
namespace G
open L2
section
variable {N:Nt}{X:List Nm}{p:Nm->Int}
theorem J.mono{s:SB}(I:J N X P s)(h:∀z,P z->P' z)(h':∀z,P' z->(lk s.S z).isSome=true):J N X P' s:=
 ⟨I.k,I.nd,I.s0,h',fun x u hx hn=>I.rel x u hx fun z=>hn (h x z),I.b,I.en,I.bn,I.hb,I.b0⟩
noncomputable def mx(p:Nm->Int)(X:List Nm):Int:=X.foldr (fun x a=>max (p x) a) 0
theorem t9:∀{X:List Nm}{x:Nm},x∈X->p x<=mx p X
 |y::X,x,h=>by
  simp only[mx,List.foldr_cons];rcases List.mem_cons.mp h with rfl|h
  ·omega
  ·have:=t9 h;unfold mx at this;omega
theorem Wx.pot{y:Nm}{v:Int}(hp:Pot N p)(h:Wx N X y v):p y - mx p X<=v:=by
 obtain⟨x,hx,h⟩:=h;have:=h.pot hp;have:=t9 (p:=p) hx;omega
theorem Wx.snoc(h:Wx N X y v)(e:Ed N y z w):Wx N X z (v+w):=by
 obtain⟨x,hx,h⟩:=h;exact⟨x,hx,h.snoc e⟩
noncomputable def fQ(p:Nm->Int)(X:List Nm):List (Nm×Int)->Nat
 |[]=>0
 |(y,v)::r=>(v - (p y - mx p X)).toNat+fQ p X r
theorem iH:∀{S:List (Nm×Int)},lk S y=some v->fQ p X (ins S y t)+(v - (p y - mx p X)).toNat=fQ p X S+(t - (p y - mx p X)).toNat
 |[],h=>by cases h
 |(q,u)::r,h=>by
  simp only[lk]at h;simp only[ins];split at h
  ·rename_i e;subst e;cases h;rw[if_pos rfl];simp only[fQ];omega
  ·rename_i e;rw[if_neg e];have:=iH (y:=y) (t:=t) (v:=v) (S:=r) h;simp only[fQ];omega
theorem ins_len{l:List (Nm×α)}:(ins l k v).length=if k∈K1 l then l.length else l.length+1:=by
 have h:=congrArg List.length (mi (k:=k) (v:=v) (l:=l));simp only[List.length_map]at h;rw[h];split<;>simp
noncomputable def Lt(N:Nt)(p:Nm->Int)(X:List Nm)(a b:SB):Prop:=Prod.Lex (· < ·) (· < ·) (N.ks.length - a.S.length,fQ p X a.S) (N.ks.length - b.S.length,fQ p X b.S)
theorem Lt.trans{a b c:SB}(h:Lt N p X a b)(g:Lt N p X b c):Lt N p X a c:=by
 unfold Lt at *
 rw[Prod.lex_def]at *
 simp only at *
 omega
theorem uO{s:SB}(hp:Pot N p)(I:J N X pend s)(yk:y∈N.ks)(wy:Wx N X y t)(hl:fY s.S y t=true):Lt N p X ⟨ins s.S y t,ins s.B y x⟩ s:=by
 unfold Lt;rw[Prod.lex_def];simp only;rw[ins_len];cases h:lk s.S y with
 |none=>
  have hn:y∉K1 s.S:=fun z=>by rw[lk_key,h]at z;cases z
  rw[if_neg hn];left;have:(y::K1 s.S).length<=N.ks.length:=cQ (List.nodup_cons.mpr ⟨hn,I.nd⟩) fun z hz=>by
   rcases List.mem_cons.mp hz with rfl|hz
   ·exact yk
   ·obtain⟨v,hv⟩:=Option.isSome_iff_exists.mp (lk_key.mp hz);exact (I.k z v hv).1
  simp only[List.length_cons,List.length_map]at this;omega
 |some v=>
  have hm:y∈K1 s.S:=lk_key.mpr (by rw[h];rfl)
  rw[if_pos hm];right;refine⟨rfl,?_⟩;have e:=iH (p:=p) (X:=X) (t:=t) h;have h1:=wy.pot hp;unfold fY at hl;rw[h]at hl;have hl:t < v:=by simpa using hl
  omega
theorem lD{pend:Nm->Prop}(W:WN N)(hp:Pot N p){x:Nm}{u:Int}(xk:x∈N.ks):∀(post pre:List (Nm×Int)) (s:SB)(fl:List Nm),N.row x=pre++post->J N X (fun z=>pend z\/z∈fl) s->lk s.S x=some u->(∀e∈pre,∃v,lk s.S e.1=some v/\v<=u+e.2)->
  J N X (fun z=>pend z\/z∈(post.foldl (rl x) (s,fl)).2) (post.foldl (rl x) (s,fl)).1/\lk (post.foldl (rl x) (s,fl)).1.S x=some u/\(∀e∈pre++post,∃v,lk (post.foldl (rl x) (s,fl)).1.S e.1=some v/\v<=u+e.2)/\
  (∀z∈fl,z∈(post.foldl (rl x) (s,fl)).2)/\(post.foldl (rl x) (s,fl)=(s,fl)\/Lt N p X (post.foldl (rl x) (s,fl)).1 s)
 |[],pre,s,fl,_,I,hx,hpre=>⟨I,hx,by simpa using hpre,fun z hz=>hz,.inl rfl⟩
 |(y,w)::post,pre,s,fl,e,I,hx,hpre=>by
  have he:(y,w)∈N.row x:=by rw[e];simp
  rw[List.foldl_cons];by_cases hl:fY s.S y (u+w)=true
  ·have hr:rl x (s,fl) (y,w)=(⟨ins s.S y (u+w),ins s.B y x⟩,fl++[y]):=by
    unfold rl;simp only[hx,hl,if_true]
   rw[hr];have I':=I.low W hp hx he hl;have hyx:y≠x:=((W.row x xk).2 _ he).2;have old:∀v,lk s.S y=some v->u+w < v:=fun v hv=>by
    unfold fY at hl;rw[hv]at hl;simpa using hl
   obtain⟨a1,a2,a3,a4,a5⟩:=lD W hp xk post (pre++[(y,w)]) _ (fl++[y]) (by rw[e];simp) (I'.mono (P':=fun z=>pend z\/z∈fl++[y]) (fun z hz=>by
     rcases hz with (h|h)|h
     ·exact .inl h
     ·exact .inr (by simp[h])
     ·exact .inr (by simp[h])) fun z hz=>I'.pd z (by
     rcases hz with h|h
     ·exact .inl (.inl h)
     ·rcases List.mem_append.mp h with h|h
      ·exact .inl (.inr h)
      ·exact .inr (List.mem_singleton.mp h))) (by show lk (ins s.S y (u+w)) x=_;rw[aF,if_neg hyx];exact hx) (fun q hq=>by
     show ∃v,lk (ins s.S y (u+w)) q.1=some v/\_;rw[aF];by_cases ey:y=q.1
     ·rw[if_pos ey];refine⟨u+w,rfl,?_⟩;rcases List.mem_append.mp hq with h|h
      ·obtain⟨v,v1,v2⟩:=hpre q h;rw[<-ey]at v1;have:=old v v1;omega
      ·rw[List.mem_singleton.mp h];exact Int.le_refl _
     ·rw[if_neg ey];rcases List.mem_append.mp hq with h|h
      ·exact hpre q h
      ·rw[List.mem_singleton.mp h]at ey;exact absurd rfl ey)
   refine⟨a1,a2,by simpa using a3,fun z hz=>a4 z (by simp[hz]),.inr ?_⟩
   have l1:Lt N p X ⟨ins s.S y (u+w),ins s.B y x⟩ s:=uO hp I ((W.row x xk).2 _ he).1 (Wx.snoc (I.k x u hx).2 ⟨xk,he⟩) hl;rcases a5 with a5|a5
   ·rw[a5];exact l1
   ·exact a5.trans l1
  ·have hr:rl x (s,fl) (y,w)=(s,fl):=by
    unfold rl;simp only[hx];rw[if_neg hl]
   rw[hr];obtain⟨a1,a2,a3,a4,a5⟩:=lD W hp xk post (pre++[(y,w)]) s fl (by rw[e];simp) I hx (fun q hq=>by
     rcases List.mem_append.mp hq with h|h
     ·exact hpre q h
     ·rw[List.mem_singleton.mp h];unfold fY at hl;cases hv:lk s.S y with
      |none=>rw[hv]at hl;exact absurd rfl hl
      |some v=>
       rw[hv]at hl;have hl:¬ u+w < v:=by simpa using hl
       exact⟨v,rfl,by omega⟩)
   exact⟨a1,a2,by simpa using a3,a4,a5⟩
theorem put1_mem:∀{l:List Nm},z∈ak l k<->z=k\/z∈l
 |[]=>by simp[ak]
 |a::l=>by
  simp only[ak];by_cases h:a=k
  ·subst h;simp
  ·rw[if_neg h,List.mem_cons,put1_mem (l:=l),List.mem_cons];constructor
   ·rintro (h|h|h)
    ·exact .inr (.inl h)
    ·exact .inl h
    ·exact .inr (.inr h)
   ·rintro (h|h|h)
    ·exact .inr (.inl h)
    ·exact .inl h
    ·exact .inr (.inr h)
theorem puts_mem:∀{fl ag:List Nm},z∈fl.foldl ak ag<->z∈fl\/z∈ag
 |[],ag=>by simp
 |a::fl,ag=>by
  rw[List.foldl_cons,puts_mem (fl:=fl),put1_mem,List.mem_cons];constructor
  ·rintro (h|h|h)
   ·exact .inl (.inr h)
   ·exact .inl (.inl h)
   ·exact .inr h
  ·rintro ((h|h)|h)
   ·exact .inr (.inl h)
   ·exact .inl h
   ·exact .inr (.inr h)
noncomputable def dJ(N:Nt)(st:SB×List Nm)(x:Nm):SB×List Nm:=((goF x (N.row x) st.1).1,(goF x (N.row x) st.1).2.foldl ak st.2)
theorem kP(W:WN N)(hp:Pot N p)(I:J N X (fun z=>z∈x::fs\/z∈ag) s) :
  J N X (fun z=>z∈fs\/z∈(dJ N (s,ag) x).2) (dJ N (s,ag) x).1/\(dJ N (s,ag) x=(s,ag)\/Lt N p X (dJ N (s,ag) x).1 s):=by
 obtain⟨u,hu⟩:=Option.isSome_iff_exists.mp (I.pd x (.inl List.mem_cons_self));have xk:=(I.k x u hu).1;obtain⟨a1,a2,a3,_,a5⟩:=lD (pend:=fun z=>z∈x::fs\/z∈ag) W hp xk (N.row x) [] s [] rfl (I.mono (fun z hz=>.inl hz) fun z hz=>I.pd z (by simpa using hz)) hu (fun _ h=>by cases h)
 have hs:dJ N (s,ag) x=(((N.row x).foldl (rl x) (s,[])).1,((N.row x).foldl (rl x) (s,[])).2.foldl ak ag):=rfl;rw[hs];generalize (N.row x).foldl (rl x) (s,[])=r at a1 a2 a3 a5;refine⟨⟨a1.k,a1.nd,a1.s0,fun z hz=>a1.pd z ?_,fun z v hz hn y w hy=>?_,a1.b,a1.en,a1.bn,a1.hb,a1.b0⟩,?_⟩
 ·rcases hz with h|h
  ·exact .inl (.inl (List.mem_cons_of_mem _ h))
  ·rcases puts_mem.mp h with h|h
   ·exact .inr h
   ·exact .inl (.inr h)
 ·by_cases e:z=x
  ·subst e;rw[a2]at hz;cases hz;exact a3 (y,w) (by simpa using hy)
  ·refine a1.rel z v hz (fun q=>hn ?_) y w hy
   rcases q with (q|q)|q
   ·rcases List.mem_cons.mp q with q|q
    ·exact absurd q e
    ·exact .inl q
   ·exact .inr (puts_mem.mpr (.inr q))
   ·exact .inr (puts_mem.mpr (.inl q))
 ·rcases a5 with a5|a5
  ·rw[a5];exact .inl rfl
  ·exact .inr a5
theorem g6(W:WN N)(hp:Pot N p):∀(fs:List Nm)(s:SB)(ag:List Nm),J N X (fun z=>z∈fs\/z∈ag) s->
  J N X (fun z=>z∈(fs.foldl (dJ N) (s,ag)).2) (fs.foldl (dJ N) (s,ag)).1/\(fs.foldl (dJ N) (s,ag)=(s,ag)\/Lt N p X (fs.foldl (dJ N) (s,ag)).1 s)
 |[],s,ag,I=>⟨I.mono (fun z hz=>by simpa using hz) fun z hz=>I.pd z (.inr hz),.inl rfl⟩
 |x::fs,s,ag,I=>by
  obtain⟨I',a5⟩:=kP W hp I;rw[List.foldl_cons];generalize dJ N (s,ag) x=r at I' a5;obtain⟨b1,b2⟩:=g6 W hp fs r.1 r.2 I';refine⟨b1,?_⟩;rcases a5 with a5|a5
  ·subst a5;exact b2
  ·rcases b2 with b2|b2
   ·right;rw[show fs.foldl (dJ N) r=r from b2];exact a5
   ·exact .inr (b2.trans a5)
noncomputable abbrev stepF(N:Nt)(s:SB)(fs:List Nm):SB×List Nm:=fs.foldl (dJ N) (s,[])
inductive Run (N:Nt):Nat->SB->List Nm->SB->Prop where
 |done (s:SB):Run N 0 s [] s
 |step {m:Nat}{s s':SB}{fs:List Nm} (h:fs≠[]) (r:Run N m (stepF N s fs).1 (stepF N s fs).2 s'):Run N (m+1) s fs s'
theorem vU(W:WN N)(hp:Pot N p):∀(s:SB)(fs:List Nm),J N X (fun z=>z∈fs) s->∃m s',Run N m s fs s'/\J N X (fun _=>False) s':=by
 have wf:WellFounded (Lt N p X):=InvImage.wf (fun s:SB=>(N.ks.length - s.S.length,fQ p X s.S)) (Prod.lex ⟨_,Nat.lt_wfRel.wf⟩ ⟨_,Nat.lt_wfRel.wf⟩).wf
 intro s
 induction s using wf.induction with
 |_ s ih=>
  intro fs I;by_cases hf:fs=[]
  ·subst hf;exact⟨0,s,.done s,I.mono (fun z hz=>by cases hz) fun z hz=>hz.elim⟩
  ·obtain⟨a1,a2⟩:=g6 W hp fs s [] (I.mono (fun z hz=>.inl hz) fun z hz=>I.pd z (by simpa using hz))
   by_cases hg:(stepF N s fs).2=[]
   ·refine⟨1,(stepF N s fs).1,.step hf ?_,a1.mono (fun z hz=>by
      have hz':z∈(stepF N s fs).2:=hz;rw[hg]at hz';cases hz') fun z hz=>hz.elim⟩
    rw[hg];exact .done _
   ·rcases a2 with a2|a2
    ·exact absurd (congrArg Prod.snd a2) hg
    ·obtain⟨m,s',r,I'⟩:=ih _ a2 _ a1;exact⟨m+1,s',.step hf r,I'⟩
theorem J.isD{x0:Nm}{s:SB}(I:J N [x0] (fun _=>False) s)(y:Nm):IsD N x0 y (lk s.S y):=by
 have key:∀{z v},Wk N x0 z v->∃u,lk s.S z=some u/\u<=v:=by
  intro z v h
  induction h with
  |nil=>exact I.s0 x0 List.mem_cons_self
  |snoc _ e ih=>
   obtain⟨u,u1,u2⟩:=ih;obtain⟨v,v1,v2⟩:=I.rel _ u u1 id _ _ e.2;exact⟨v,v1,by omega⟩
 cases h:lk s.S y with
 |none=>
  intro v hw;obtain⟨u,u1,_⟩:=key hw;rw[h]at u1;cases u1
 |some d=>
  obtain⟨_,q,hq,hw⟩:=I.k y d h;cases List.mem_singleton.mp hq;refine⟨hw,fun v hw=>?_⟩
  obtain⟨u,u1,u2⟩:=key hw;rw[h]at u1;cases u1;exact u2
theorem jL{X:List Nm}:lk (X.map fun x=>(x,(0:Int))) y=if y∈X then some 0 else none:=by
 induction X with
 |nil=>rfl
 |cons q X ih=>
  simp only[List.map_cons,lk,ih,List.mem_cons];by_cases h:q=y
  ·simp[h]
  ·simp[h,Ne.symm h]
theorem J.start(W:WN N)(hn:X.Nodup)(hx:∀x∈X,x∈N.ks):J N X (fun z=>z∈X) ⟨X.map fun x=>(x,0),[]⟩:=by
 have h:∀y v,lk (X.map fun x=>(x,(0:Int))) y=some v->y∈X/\v=0:=fun y v h=>by
  rw[jL]at h;split at h
  ·rename_i e;cases h;exact⟨e,rfl⟩
  ·cases h
 refine⟨fun y v hv=>?_,by simpa [K1,Function.comp_def] using hn,fun x hx=>⟨0,by show lk (X.map fun x=>(x,(0:Int))) x=_;rw[jL,if_pos hx],Int.le_refl _⟩,fun z hz=>?_,fun x u hu hn=>?_,fun y x hb=>?_,fun y=>⟨0,.nil rfl⟩,by simp,fun y v hv=>.inl (h y v hv).1,fun y hy hB=>(by cases (show (none:Option Nm).isSome=true from hB))⟩
 ·obtain⟨h1,rfl⟩:=h y v hv;exact⟨hx y h1,y,h1,.nil⟩
 ·show (lk (X.map fun x=>(x,(0:Int))) z).isSome=true
  rw[jL,if_pos hz];rfl
 ·exact absurd (h x u hu).1 hn
 ·cases (show (none:Option Nm)=some x from hb)
inductive Chn (B:List (Nm×Nm)):Nm->List Nm->Prop where
 |nil {y:Nm} (h:lk B y=none):Chn B y [y]
 |step {y x:Nm}{l:List Nm} (h:lk B y=some x) (e:Chn B x l):Chn B y (y::l)
theorem Chn.ends{B:List (Nm×Nm)}{y:Nm}{l:List Nm}(h:Chn B y l):∃m,l.length=m+1/\Ends B y m:=by
 induction h with
 |nil h=>exact⟨0,rfl,.nil h⟩
 |step h _ ih=>
  obtain⟨m,e,hm⟩:=ih;exact⟨m+1,by rw[List.length_cons,e],.step h hm⟩
theorem Chn.len{B:List (Nm×Nm)}{y:Nm}{l:List Nm}(h:Chn B y l):l.length<=B.length+1:=by
 obtain⟨m,e,hm⟩:=h.ends;have:=hm.le;rw[List.length_map]at this;omega
inductive Way (N:Nt):Nm->Nm->Int->List Nm->Prop where
 |nil {y:Nm}:Way N y y 0 [y]
 |step {a x y:Nm}{v w:Int}{l:List Nm} (h:Way N a x v l) (xk:x∈N.ks) (e:(y,w)∈N.row x):Way N a y (v+w) (y::l)
theorem J.way{s:SB}(hp:Pot N p)(I:J N [x0] (fun _=>False) s)(hc:Chn s.B y l):∀{v:Int},lk s.S y=some v->Way N x0 y v l:=by
 have h0:lk s.S x0=some 0:=by
  obtain⟨u,u1,u2⟩:=I.s0 x0 List.mem_cons_self;obtain⟨_,q,hq,hw⟩:=I.k x0 u u1;cases List.mem_singleton.mp hq;have:=hw.pot hp;rw[u1];congr 1;omega
 have hn:lk s.B x0=none:=by
  cases h:lk s.B x0 with
  |none=>rfl
  |some z=>
   obtain⟨v,v1,v2⟩:=I.b0 x0 List.mem_cons_self (by rw[h];rfl)
   rw[h0]at v1;cases v1;omega
 induction hc with
 |@nil y h=>
  intro v hv;rcases I.hb y v hv with z|z
  ·cases List.mem_singleton.mp z;rw[h0]at hv;cases hv;exact .nil
  ·rw[h]at z;cases z
 |@step y x l h _ ih=>
  intro v hv;obtain⟨v',u,w,h1,h2,h3,h4,h5⟩:=I.b y x h;rw[hv]at h1;cases h1;obtain⟨v',h6,h7⟩:=I.rel x u h2 id y w h3;rw[hv]at h6;cases h6;have e:v=u+w:=by omega
  rw[e];exact .step (ih h2) h4 h3
end
end G
namespace G
open L2
section
variable {N:Nt}{p:Nm->Int}{x y:Nm}
noncomputable def kh(N:Nt)(x y:Nm)(m:Int):Nt:={N with row:=fun z=>if z=x then ins (N.row x) y (min m ((lk (N.row x) y).getD m)) else N.row z}
theorem jm:∀{l:List (Nm×α)},e∈ins l k v->e=(k,v)\/e∈l
 |[],h=>.inl (List.mem_singleton.mp h)
 |(a,u)::r,h=>by
  simp only[ins]at h;split at h
  ·rename_i z;subst z;rcases List.mem_cons.mp h with h|h
   ·exact .inl h
   ·exact .inr (List.mem_cons_of_mem _ h)
  ·rcases List.mem_cons.mp h with h|h
   ·exact .inr (by rw[h];exact List.mem_cons_self)
   ·rcases jm h with h|h
    ·exact .inl h
    ·exact .inr (List.mem_cons_of_mem _ h)
theorem oX(hp:Pot N q)(h:q y - q x<=m):Pot (kh N x y m) q:=fun a b w he=>by
 obtain⟨h1,h2⟩:=he;have h2:(b,w)∈(if a=x then ins (N.row x) y (min m ((lk (N.row x) y).getD m)) else N.row a):=h2
 split at h2
 ·rename_i e;subst e;rcases jm h2 with h3|h3
  ·cases h3;cases hl:lk (N.row a) y with
   |none=>simp only[Option.getD_none];omega
   |some v=>
    have:=hp a y v ⟨h1,lO hl⟩;simp only[Option.getD_some];omega
  ·exact hp a b w ⟨h1,h3⟩
 ·exact hp a b w ⟨h1,h2⟩
theorem tz(W:WN N)(hy:y∈N.ks)(hn:x≠y):WN (kh N x y m):=by
 refine⟨W.nd,fun a ha=>?_⟩
 have ha:a∈N.ks:=ha;show (K1 (if a=x then _ else _)).Nodup/\∀e∈(if a=x then _ else _),_
 by_cases e:a=x
 ·subst e;rw[if_pos rfl];refine⟨lP (W.row a ha).1,fun q hq=>?_⟩
  rcases jm hq with h|h
  ·rw[h];exact⟨hy,Ne.symm hn⟩
  ·exact (W.row a ha).2 q h
 ·rw[if_neg e];exact W.row a ha
end
end G
namespace G
open L2
section
variable {cls kls fad:Nat->PySem.Addr}{M M0:MH}{Q:VK3}{E:XN}{n:Nat}{a b c d f r:PySem.Addr}{x y:Nm}
noncomputable def nmD(k:Nm):D:=.tup (k.map D.int)
theorem ints_of:∀k:Nm,cR (k.map D.int)=some k
 |[]=>rfl
 |i::k=>by simp[cR,ints_of k]
theorem b8(k:Nm):qm (nmD k)=some k:=ints_of k
noncomputable def dS(S:List (Nm×Int)):DO:=.dt (K1 S) (S.map fun p=>.int p.2)
noncomputable def dB(B:List (Nm×Nm)):DO:=.dt (K1 B) (B.map fun p=>nmD p.2)
section
variable {α:Type}{l:List (Nm×α)}{g:α->D}{k:Nm}
theorem ug(h:M a=some (.dt (K1 l) (l.map fun p=>g p.2))){neg:Bool}:jX neg (nmD k) (.ref a) M Q=Q (.bl (neg ^^ (lk l k).isSome)) M:=by
 have e:=cA g (k:=k) (l:=l);simp only[jX,ay,ai,h,dI,d5,cP,b8,e];cases lk l k<;>rfl
theorem jq(h:M a=some (.dt (K1 l) (l.map fun p=>g p.2))):ao .NotIn (nmD k) (.ref a) M Q=Q (.bl (!(lk l k).isSome)) M:=by
 simp only[ao];rw[ug h];simp
theorem lW(h:M a=some (.dt (K1 l) (l.map fun p=>g p.2))):ao .In (nmD k) (.ref a) M Q=Q (.bl (lk l k).isSome) M:=by
 simp only[ao];rw[ug h];simp
theorem jb{v:α}(h:M a=some (.dt (K1 l) (l.map fun p=>g p.2)))(hv:lk l k=some v):am (.ref a) (nmD k) M Q=Q (g v) M:=by
 have e:=cA g (k:=k) (l:=l);rw[hv]at e;simp only[am,ay,ai,h,dI,d5,cP,b8,e,Option.map]
theorem fk{v:α}{R:MH->Prop}(h:M a=some (.dt (K1 l) (l.map fun p=>g p.2)))(hz:l.length < 900):bh (.ref a) (nmD k) (g v) M R=R (put M a (.dt (K1 (ins l k v)) ((ins l k v).map fun p=>g p.2))):=by
 have hs:(K1 l).length < PySem.sizeLine:=by rw[List.length_map,PySem.sizeLine_eq];omega
 simp only[bh,h,b8,ll (v:=v),kg g,hs,true_and]
theorem ut(h:M a=some (.dt (K1 l) (l.map fun p=>g p.2))):rBm .get (.ref a) [nmD k,z] M Q=Q (((lk l k).map g).getD z) M:=by
 have e:=cA g (k:=k) (l:=l);simp only[rBm,dI,h,d5,cP,b8,e]
theorem rS(h:M a=some (.dt (K1 l) (l.map fun p=>g p.2))):rBm .get (.ref a) [nmD k] M Q=Q (((lk l k).map g).getD .non) M:=by
 have e:=cA g (k:=k) (l:=l);simp only[rBm,dI,h,d5,cP,b8,e]
theorem tS(h:M a=some (.dt (K1 l) (l.map fun p=>g p.2))):tyB .get (.ref a) M=true:=by
 simp only[tyB,d5,cP,h];rfl
end
theorem mZ:wpS W (.forD tg o body) De ES σ M=wpE W o σ M (fun x M1=>fV x M1 fun d ks es=>∀φ,bB W tg body (fun _ _ _=>False) (fun M=>M d=some (.stl φ)) (fq d φ ks es De) (aG ks es) σ (put M1 d (.stl φ))) (ES σ):=rfl
theorem tp(h:M p=some (.lst ds)):ou W e De E σ (.ref p) M=wpE W e σ M (jk p De σ) E:=by
 unfold ou;simp only[h];rfl
theorem kL{De:Ends3}{σ:St3}{p:PySem.Addr}{ds:List D}{y:D}(h:M p=some (.lst ds)):jk p De σ y M=(ds.length < PySem.sizeLine/\De.nx σ (put M p (.lst (ds++[y])))):=by
 unfold jk;simp only[h]
theorem jo{x y z:DO}(hbf:b≠f):put (put (put M b x) f y) b z=put (put M b z) f y:=by
 funext q;unfold put;by_cases q1:q=b
 ·simp[q1,hbf]
 ·simp[q1]
theorem m6{x y z w:DO}(hab:a≠b)(haf:a≠f):put (put (put (put M a x) b y) f w) a z=put (put (put M a z) b y) f w:=by
 funext q;unfold put;by_cases q1:q=a
 ·simp[q1,hab,haf]
 ·simp[q1]
noncomputable def HG(M0:MH)(a b f:PySem.Addr)(s:SB)(fl:List Nm):MH:=put (put (put M0 a (dS s.S)) b (dB s.B)) f (.lst (fl.map nmD))
noncomputable def eD(e:Nm×Int):D:=.tup [nmD e.1,.int e.2]
theorem kE:∀(l:List (Nm×Int)),aG (K1 l) (l.map fun e=>.int e.2)=l.map eD
 |[]=>rfl
 |e::l=>by
  have ih:=kE l;unfold aG at ih ⊢;simp only[K1,List.map_cons,List.zip_cons_cons]at ih ⊢;rw[ih];rfl
theorem mY(hab:a≠b)(haf:a≠f)(hbf:b≠f)(hda:d≠a)(hdb:d≠b)(hdf:d≠f)(hd:M0 d=some (.stl φ)){De:Ends3}:∀(post:List (Nm×Int)) (s:SB)(fl:List Nm)(x5 x6 x7:Option D),lk s.S x=some u->(∀e∈post,e.1≠x)->s.S.length+post.length < 800->s.B.length+post.length < 800->fl.length+post.length < 800->
  (∀x5 x6 x7,De.nx [y0,some (nmD x),some (.ref a),some (.ref b),some (.ref f),x5,x6,x7] (HG M0 a b f (post.foldl (rl x) (s,fl)).1 (post.foldl (rl x) (s,fl)).2)=R)->
  bB W (.tup [5,6]) aU ES (fun M=>M d=some (.stl φ)) De (post.map eD) [y0,some (nmD x),some (.ref a),some (.ref b),some (.ref f),x5,x6,x7] (HG M0 a b f s fl)=R
 |[],s,fl,x5,x6,x7,_,_,_,_,_,hR=>by
  have:=hR x5 x6 x7;have hS:HG M0 a b f s fl d=some (.stl φ):=by unfold HG;rw[af hdf,af hdb,af hda];exact hd
  simp only[List.foldl_nil]at this;rw[List.map_nil,bb];simp[hS,this]
 |(z,w)::post,s,fl,x5,x6,x7,hx,hne,h1,h2,h3,hR=>by
  simp only[List.length_cons]at h1 h2 h3;have hS:HG M0 a b f s fl d=some (.stl φ):=by unfold HG;rw[af hdf,af hdb,af hda];exact hd
  have ga:HG M0 a b f s fl a=some (.dt (K1 s.S) (s.S.map fun p=>.int p.2)):=by unfold HG;rw[af haf,af hab,ac];rfl
  have gb:HG M0 a b f s fl b=some (.dt (K1 s.B) (s.B.map fun p=>nmD p.2)):=by unfold HG;rw[af hbf,ac];rfl
  have zx:z≠x:=hne (z,w) List.mem_cons_self;have i1:∀{Q:VK3},am (.ref a) (nmD x) (HG M0 a b f s fl) Q=Q (.int u) (HG M0 a b f s fl):=fun {Q}=>jb (g:=D.int) ga hx
  have i2:∀{Q:VK3},ao .NotIn (nmD z) (.ref a) (HG M0 a b f s fl) Q=Q (.bl (!(lk s.S z).isSome)) (HG M0 a b f s fl):=fun {Q}=>jq (g:=D.int) ga
  rw[List.map_cons,aH];have ih:=fun (s':SB)(fl':List Nm) (hx':lk s'.S x=some u) (g1:s'.S.length<=s.S.length+1) (g2:s'.B.length<=s.B.length+1) (g3:fl'.length<=fl.length+1) (x5 x6 x7:Option D) (hR':∀x5 x6 x7,De.nx [y0,some (nmD x),some (.ref a),some (.ref b),some (.ref f),x5,x6,x7] (HG M0 a b f (post.foldl (rl x) (s',fl')).1 (post.foldl (rl x) (s',fl')).2)=R)=>mY (W:=W) (y0:=y0) (ES:=ES) hab haf hbf hda hdb hdf hd post s' fl' x5 x6 x7 hx' (fun e he=>hne e (List.mem_cons_of_mem _ he)) (by omega) (by omega) (by omega) hR'
  generalize bB W (.tup [5,6]) aU ES (fun M=>M d=some (.stl φ)) De (post.map eD)=K at ih ⊢
  by_cases hl:fY s.S z (u+w)=true
  ·have hr:rl x (s,fl) (z,w)=(⟨ins s.S z (u+w),ins s.B z x⟩,fl++[z]):=by
    unfold rl;simp only[hx,hl,if_true]
   have lS:(ins s.S z (u+w)).length<=s.S.length+1:=by rw[ins_len];split<;>omega
   have lB:(ins s.B z x).length<=s.B.length+1:=by rw[ins_len];split<;>omega
   have ih':=ih ⟨ins s.S z (u+w),ins s.B z x⟩ (fl++[z]) (by show lk (ins s.S z (u+w)) x=_;rw[aF,if_neg zx];exact hx) lS lB (by simp) (some (nmD z)) (some (.int w)) (some (.int (u+w))) (fun x5 x6 x7=>by
    have:=hR x5 x6 x7;rw[List.foldl_cons,hr]at this;exact this)
   have e1:put (HG M0 a b f s fl) a (.dt (K1 (ins s.S z (u+w))) ((ins s.S z (u+w)).map fun p=>.int p.2))=HG M0 a b f ⟨ins s.S z (u+w),s.B⟩ fl:=by
    unfold HG;rw[m6 hab haf];rfl
   have gb':HG M0 a b f ⟨ins s.S z (u+w),s.B⟩ fl b=some (.dt (K1 s.B) (s.B.map fun p=>nmD p.2)):=by unfold HG;rw[af hbf,ac];rfl
   have e2:put (HG M0 a b f ⟨ins s.S z (u+w),s.B⟩ fl) b (.dt (K1 (ins s.B z x)) ((ins s.B z x).map fun p=>nmD p.2))=HG M0 a b f ⟨ins s.S z (u+w),ins s.B z x⟩ fl:=by
    unfold HG;rw[jo hbf];rfl
   have gf:HG M0 a b f ⟨ins s.S z (u+w),ins s.B z x⟩ fl f=some (.lst (fl.map nmD)):=ac;have e3:put (HG M0 a b f ⟨ins s.S z (u+w),ins s.B z x⟩ fl) f (.lst (fl.map nmD++[nmD z]))=HG M0 a b f ⟨ins s.S z (u+w),ins s.B z x⟩ (fl++[z]):=by
    unfold HG;rw[aR];simp
   have s1:∀{R:MH->Prop},bh (.ref a) (nmD z) (.int (u+w)) (HG M0 a b f s fl) R=R (HG M0 a b f ⟨ins s.S z (u+w),s.B⟩ fl):=fun {R}=>by rw[fk (g:=D.int) ga (by omega),e1]
   have s2:∀{R:MH->Prop},bh (.ref b) (nmD z) (nmD x) (HG M0 a b f ⟨ins s.S z (u+w),s.B⟩ fl) R=R (HG M0 a b f ⟨ins s.S z (u+w),ins s.B z x⟩ fl):=fun {R}=>by rw[fk (g:=nmD) gb' (by omega),e2]
   have hsz:fl.length < PySem.sizeLine:=by rw[PySem.sizeLine_eq];omega
   have ap:∀{De:Ends3}{E:XN}{x7:Option D}{y0:Option D}{x6:Option D},ou W (.var 5) De E [y0,some (nmD x),some (.ref a),some (.ref b),some (.ref f),some (nmD z),x6,x7] (.ref f) (HG M0 a b f ⟨ins s.S z (u+w),ins s.B z x⟩ fl)=De.nx [y0,some (nmD x),some (.ref a),some (.ref b),some (.ref f),some (nmD z),x6,x7] (HG M0 a b f ⟨ins s.S z (u+w),ins s.B z x⟩ (fl++[z])):=fun {De E x7 y0 x6}=>by
    rw[tp gf];simp only[DL];rw[kL gf,e3];simp[hsz]
   rw[<-ih'];cases hz:lk s.S z with
   |none=>
    simp[aU,eD,wpG,hS,↓i1,↓i2,hz,↓s1,↓s2,↓ap]
   |some v=>
    have i3:∀{Q:VK3},am (.ref a) (nmD z) (HG M0 a b f s fl) Q=Q (.int v) (HG M0 a b f s fl):=fun {Q}=>jb (g:=D.int) ga hz
    have hlv:u+w < v:=by unfold fY at hl;rw[hz]at hl;simpa using hl
    simp[aU,eD,wpG,hS,↓i1,↓i2,hz,↓i3,hlv,↓s1,↓s2,↓ap]
  ·have hr:rl x (s,fl) (z,w)=(s,fl):=by
    unfold rl;simp only[hx];rw[if_neg hl]
   have ih':=ih s fl hx (by omega) (by omega) (by omega) (some (nmD z)) (some (.int w)) (some (.int (u+w))) (fun x5 x6 x7=>by
    have:=hR x5 x6 x7;rw[List.foldl_cons,hr]at this;exact this)
   rw[<-ih'];cases hz:lk s.S z with
   |none=>unfold fY at hl;rw[hz]at hl;exact absurd rfl hl
   |some v=>
    have i3:∀{Q:VK3},am (.ref a) (nmD z) (HG M0 a b f s fl) Q=Q (.int v) (HG M0 a b f s fl):=fun {Q}=>jb (g:=D.int) ga hz
    have hlv:¬ u+w < v:=by unfold fY at hl;rw[hz]at hl;simpa using hl
    simp[aU,eD,wpG,hS,↓i1,↓i2,hz,↓i3,hlv]
end
end G
namespace G
open L2
section
variable {x y:Nm}
noncomputable abbrev dR(row:List (Nm×Int)):DO:=.dt (K1 row) (row.map fun e=>.int e.2)
theorem pb{s:SB}(hf:M f=none)(ha:M a=some (dS s.S))(hb:M b=some (dB s.B))(hra:r≠a)(hrb:r≠b)(hrf:r≠f)(hab:a≠b):put (put M f (.lst [])) r (.stl φ)=HG (put M r (.stl φ)) a b f s []:=by
 have haf:a≠f:=fun e=>by rw[e,hf]at ha;cases ha
 have hbf:b≠f:=fun e=>by rw[e,hf]at hb;cases hb
 funext q;unfold HG put;by_cases q1:q=r
 ·simp[q1,hra,hrb,hrf]
 ·by_cases q2:q=f
  ·simp[q2,Ne.symm hrf]
  ·by_cases q3:q=b
   ·simp[q3,hbf,hb,Ne.symm hrb]
   ·by_cases q4:q=a
    ·simp[q4,haf,ha,Ne.symm hra,hab]
    ·simp[q1,q2,q3,q4]
theorem vX{s:SB}(hf:M f=none)(ha:M a=some u)(hb:M b=some v)(hr:M r=some o)(hra:r≠a)(hrb:r≠b):ah M (L2.del (put (HG (put M r (.stl φ)) a b f s fl) r o) f)=put (put M a (dS s.S)) b (dB s.B):=by
 have haf:a≠f:=fun e=>by rw[e,hf]at ha;cases ha
 have hbf:b≠f:=fun e=>by rw[e,hf]at hb;cases hb
 have hrf:r≠f:=fun e=>by rw[e,hf]at hr;cases hr
 funext q;unfold HG ah L2.del put;by_cases q1:q=r
 ·simp[q1,hra,hrb,hrf,hr]
 ·by_cases q2:q=f
  ·simp[q2,hf,Ne.symm hbf,Ne.symm haf]
  ·by_cases q3:q=b
   ·simp[q3,hbf,hb,Ne.symm hrb]
   ·by_cases q4:q=a
    ·simp[q4,haf,ha,Ne.symm hra,q3]
    ·simp[q1,q2,q3,q4];cases M q<;>rfl
theorem sX{row:List (Nm×Int)}{s:SB}(hM:Fm M)(ha:M a=some (dS s.S))(hb:M b=some (dB s.B))(hr:M r=some (dR row))(hra:r≠a)(hrb:r≠b)(hab:a≠b)(hx:lk s.S x=some u)(hne:∀e∈row,e.1≠x)(h1:s.S.length+row.length < 800)(h2:s.B.length+row.length < 800) :
  ad T (B cls kls fad) (n+1) 1 [.ref r,nmD x,.ref a,.ref b] M Q E=Q (.rol ((goF x row s).2.map nmD)) (put (put M a (dS (goF x row s).1.S)) b (dB (goF x row s).1.B)):=by
 rw[so];simp[gq,mZ];refine iff_of_eq (gZ hM fun f hf=>?_)
 have haf:a≠f:=fun e=>by rw[e,hf]at ha;cases ha
 have hbf:b≠f:=fun e=>by rw[e,hf]at hb;cases hb
 have hrf:r≠f:=fun e=>by rw[e,hf]at hr;cases hr
 have hr':put M f (.lst []) r=some (dR row):=by rw[af hrf];exact hr
 unfold fV;simp only[hr',kE];have key:∀φ:PySem.Heap->Prop,(bB {toWB:=B cls kls fad,call:=ad T (B cls kls fad) n} (ITg.tup [5,6]) aU (fun x x_1 x_2=>False) (fun M=>M r=some (DO.stl φ)) (fq r φ (K1 row) (row.map fun e=>.int e.2) {nx:=fun σ' M'=>aq {toWB:=B cls kls fad,call:=ad T (B cls kls fad) n} (ISs.cons (IS.ret (IE.var 4).frz) ISs.nil) {nx:=fun x M'=>Q D.non (ah M M'),rt:=fun v M'=>Q v (ah M M')} (fun x i M'=>E i (ah M M')) σ' M',rt:=fun v M'=>Q v (ah M M')}) (row.map eD) [some (D.ref r),some (nmD x),some (D.ref a),some (D.ref b),some (D.ref f),none,none,none] (put (put M f (DO.lst [])) r (DO.stl φ)))=Q (.rol ((goF x row s).2.map nmD)) (put (put M a (dS (goF x row s).1.S)) b (dB (goF x row s).1.B)):=fun φ=>by
  rw[pb hf ha hb hra hrb hrf hab];refine mY hab haf hbf hra hrb hrf ac row s [] none none none hx hne h1 h2 (by simp;omega) fun x5 x6 x7=>?_
  have g1:HG (put M r (.stl φ)) a b f (goF x row s).1 (goF x row s).2 r=some (.stl φ):=by unfold HG;rw[af hrf,af hrb,af hra,ac]
  have g2:put (HG (put M r (.stl φ)) a b f (goF x row s).1 (goF x row s).2) r (dR row) f=some (.lst ((goF x row s).2.map nmD)):=by rw[af (Ne.symm hrf)];exact ac
  change (HG (put M r (.stl φ)) a b f (goF x row s).1 (goF x row s).2 r=some (.stl φ)/\aq _ _ _ _ _ (put (HG (put M r (.stl φ)) a b f (goF x row s).1 (goF x row s).2) r (dR row)))=_;rw[<-vX (φ:=φ) (s:=(goF x row s).1) (fl:=(goF x row s).2) hf ha hb hr hra hrb];generalize put (HG (put M r (.stl φ)) a b f (goF x row s).1 (goF x row s).2) r (dR row)=M9 at g2 ⊢;simp[g1,bp,g2]
 simp only[key];exact propext ⟨fun h=>h (fun _=>True),fun h _=>h⟩
end
end G
namespace G
open L2
section
variable {cls kls fad:Nat->PySem.Addr}{M M0:MH}{Q:VK3}{E:XN}{n:Nat}{a b c d f r kd:PySem.Addr}{x y:Nm}{X:List Nm}{N:Nt}{p:Nm->Int}{rp:Nm->PySem.Addr}
theorem nv:∀{l:List Nm},l.Nodup->(ak l k).Nodup
 |[],_=>by simp[ak]
 |q::l,h=>by
  rw[List.nodup_cons]at h;simp only[ak];split
  ·exact List.nodup_cons.mpr h
  ·rename_i e;refine List.nodup_cons.mpr ⟨fun z=>?_,nv h.2⟩
   rcases put1_mem.mp z with z|z
   ·exact e z
   ·exact h.1 z
theorem jC:∀{fl ag:List Nm},ag.Nodup->(fl.foldl ak ag).Nodup
 |[],_,h=>h
 |_::fl,_,h=>jC (fl:=fl) (nv h)
theorem kl:∀{l:List Nm},(ak l k).length<=l.length+1
 |[]=>by simp[ak]
 |q::l=>by
  have:=kl (k:=k) (l:=l);simp only[ak];split<;>simp<;>omega
theorem qR:∀(post:List (Nm×Int)) (s:SB)(fl:List Nm),(post.foldl (rl x) (s,fl)).2.length<=fl.length+post.length
 |[],_,_=>by simp
 |e::post,s,fl=>by
  rw[List.foldl_cons];have h:(rl x (s,fl) e).2.length<=fl.length+1:=by
   unfold rl;cases lk s.S x with
   |none=>simp
   |some u=>simp only[];split<;>simp
  have:=qR post (rl x (s,fl) e).1 (rl x (s,fl) e).2;rw[show ((rl x (s,fl) e).1,(rl x (s,fl) e).2)=rl x (s,fl) e from rfl]at this;simp only[List.length_cons];omega
theorem J.sz{pend:Nm->Prop}{s:SB}(I:J N X pend s):s.S.length<=N.ks.length/\s.B.length<=N.ks.length:=by
 have h1:=cQ (k:=N.ks) I.nd fun z hz=>by
  obtain⟨v,hv⟩:=Option.isSome_iff_exists.mp (lk_key.mp hz);exact (I.k z v hv).1
 have h2:=cQ (k:=N.ks) I.bn fun z hz=>by
  obtain⟨v,hv⟩:=Option.isSome_iff_exists.mp (lk_key.mp hz);obtain⟨v',_,_,h,_⟩:=I.b z v hv;exact (I.k z v' h).1
 simpa [K1] using And.intro h1 h2
theorem WN.sz(W:WN N)(hx:x∈N.ks):(N.row x).length<=N.ks.length:=by
 have:=cQ (k:=N.ks) (W.row x hx).1 fun z hz=>by
  obtain⟨e,he,rfl⟩:=List.mem_map.mp hz;exact ((W.row x hx).2 e he).1
 simpa [K1] using this
noncomputable def lR(N:Nt)(rp:Nm->PySem.Addr):List (Nm×PySem.Addr):=N.ks.map fun z=>(z,rp z)
noncomputable def dK(N:Nt)(rp:Nm->PySem.Addr):DO:=.dt (K1 (lR N rp)) ((lR N rp).map fun e=>.ref e.2)
theorem ud{l:List Nm}:lk (l.map fun z=>(z,rp z)) x=if x∈l then some (rp x) else none:=by
 induction l with
 |nil=>rfl
 |cons q l ih=>
  simp only[List.map_cons,lk,ih,List.mem_cons];by_cases h:q=x
  ·simp[h]
  ·simp[h,Ne.symm h]
structure Eg (M:MH)(kd:PySem.Addr)(rp:Nm->PySem.Addr)(N:Nt):Prop where
 kd:M kd=some (dK N rp)
 row:∀z∈N.ks,M (rp z)=some (dR (N.row z))
theorem Eg.mono{M':MH}(h:Eg M kd rp N)(hm:∀q o,M q=some o->M' q=some o):Eg M' kd rp N:=⟨hm _ _ h.kd,fun z hz=>hm _ _ (h.row z hz)⟩
theorem Eg.ix(h:Eg M kd rp N)(hx:x∈N.ks):am (.ref kd) (nmD x) M Q=Q (.ref (rp x)) M:=jb (g:=D.ref) h.kd (by unfold lR;rw[ud,if_pos hx])
noncomputable def dA(ag:List Nm):DO:=.dt ag (ag.map fun _=>.bl true)
theorem mV:∀{ag:List Nm},aN ag (ag.map fun _=>D.bl true) y (.bl true)=(ak ag y).map fun _=>D.bl true
 |[]=>by simp[ak,aN]
 |q::ag=>by
  have ih:=mV (ag:=ag);simp only[List.map_cons,ak,aN];split
  ·simp
  ·simp[ih]
theorem vO{ag:List Nm}(hz:ag.length < 900):bh (.ref c) (nmD y) (.bl true) (put M c (dA ag)) R=R (put M c (dA (ak ag y))):=by
 have hs:ag.length < PySem.sizeLine:=by rw[PySem.sizeLine_eq];omega
 simp only[bh,ac,dA,b8,mV,hs,true_and,aR]
theorem mU{De:Ends3}:∀(fl ag:List Nm)(x6:Option D),ag.length+fl.length < 800->(∀x6,De.nx [y0,y1,y2,y3,some (.ref c),y5,x6] (put M c (dA (fl.foldl ak ag)))=R)->
  bB W (.name 6) c9 ES (fun _=>True) De (fl.map nmD) [y0,y1,y2,y3,some (.ref c),y5,x6] (put M c (dA ag))=R
 |[],ag,x6,_,hR=>by
  rw[List.map_nil,bb];simpa using hR x6
 |z::fl,ag,x6,hz,hR=>by
  have h1:(ak ag z).length<=ag.length+1:=kl;simp only[List.length_cons]at hz;rw[List.map_cons,aH,<-mU (W:=W) (ES:=ES) fl (ak ag z) (some (nmD z)) (by omega) hR]
  simp[c9,wpG,vO (show ag.length < 900 by omega)]
noncomputable def HS(M0:MH)(a b c:PySem.Addr)(s:SB)(ag:List Nm):MH:=put (put (put M0 a (dS s.S)) b (dB s.B)) c (dA ag)
theorem mI{De:Ends3}(hM:Fm M0)(W:WN N)(hp:Pot N p)(hk:N.ks.length < 200)(hab:a≠b)(hac:a≠c)(hbc:b≠c)(ha:kd≠a)(hb:kd≠b)(hc:kd≠c)(hra:∀z∈N.ks,rp z≠a)(hrb:∀z∈N.ks,rp z≠b)(hrc:∀z∈N.ks,rp z≠c)(hE:Eg M0 kd rp N) :
  ∀(fs:List Nm)(s:SB)(ag:List Nm)(x5 x6:Option D),J N X (fun z=>z∈fs\/z∈ag) s->ag.Nodup->
  (∀x5 x6,De.nx [some (.ref kd),some (.ref a),some (.ref b),y3,some (.ref c),x5,x6] (HS M0 a b c (fs.foldl (dJ N) (s,ag)).1 (fs.foldl (dJ N) (s,ag)).2)=R)->
  bB {toWB:=B cls kls fad,call:=ad T (B cls kls fad) (n+1)} (.name 5) bN ES (fun _=>True) De (fs.map nmD) [some (.ref kd),some (.ref a),some (.ref b),y3,some (.ref c),x5,x6] (HS M0 a b c s ag)=R
 |[],s,ag,x5,x6,_,_,hR=>by
  rw[List.map_nil,bb];simpa using hR x5 x6
 |x::fs,s,ag,x5,x6,I,hn,hR=>by
  obtain⟨u,hu⟩:=Option.isSome_iff_exists.mp (I.pd x (.inl List.mem_cons_self));have xk:=(I.k x u hu).1;have I':=(kP W hp I).1;have z1:=I.sz;have z2:=W.sz xk;have z3:ag.length<=N.ks.length:=cQ hn fun z hz=>by
   obtain⟨v,hv⟩:=Option.isSome_iff_exists.mp (I.pd z (.inr hz));exact (I.k z v hv).1
  have z4:(goF x (N.row x) s).2.length<=0+(N.row x).length:=qR (N.row x) s [];have ga:HS M0 a b c s ag a=some (dS s.S):=by unfold HS;rw[af hac,af hab,ac]
  have gb:HS M0 a b c s ag b=some (dB s.B):=by unfold HS;rw[af hbc,ac]
  have gE:∀q,q≠a->q≠b->q≠c->HS M0 a b c s ag q=M0 q:=fun q q1 q2 q3=>by unfold HS;rw[af q3,af q2,af q1]
  have gK:Eg (HS M0 a b c s ag) kd rp N:=⟨by rw[gE _ ha hb hc];exact hE.kd,fun z hz=>by rw[gE _ (hra z hz) (hrb z hz) (hrc z hz)];exact hE.row z hz⟩
  have i1:∀{Q:VK3},am (.ref kd) (nmD x) (HS M0 a b c s ag) Q=Q (.ref (rp x)) (HS M0 a b c s ag):=fun {Q}=>gK.ix xk
  have i2:∀{Q:VK3}{E:XN},ad T (B cls kls fad) (n+1) 1 [.ref (rp x),nmD x,.ref a,.ref b] (HS M0 a b c s ag) Q E=Q (.rol ((goF x (N.row x) s).2.map nmD)) (HS M0 a b c (goF x (N.row x) s).1 ag):=fun {Q E}=>by
   rw[sX (M:=HS M0 a b c s ag) (((hM.put _ _).put _ _).put _ _) ga gb (gK.row x xk) (hra x xk) (hrb x xk) hab hu (fun e he=>((W.row x xk).2 e he).2) (by omega) (by omega)]
   unfold HS;rw[m6 hab hac,jo hbc]
  have ih:=fun x6=>mI (De:=De) (ES:=ES) (R:=R) (y3:=y3) hM W hp hk hab hac hbc ha hb hc hra hrb hrc hE fs _ _ (some (nmD x)) x6 I' (jC hn) (fun x5 x6=>by have:=hR x5 x6;rw[List.foldl_cons]at this;exact this)
  rw[List.map_cons,aH];generalize bB {toWB:=B cls kls fad,call:=ad T (B cls kls fad) (n+1)} (.name 5) bN ES (fun _=>True) De (fs.map nmD)=K at ih ⊢
  simp[bN,wpG,↓i1,↓i2];refine iff_of_eq (mU _ ag x6 (by omega) fun x6=>?_)
  exact ih x6
end
end G
namespace G
open L2
section
variable {x y:Nm}{N:Nt}{p:Nm->Int}
theorem pL{W:WC}{cn:IT}{body:ISs}{De:Ends3}{ES:St3->XN}{σ:St3}:wpS W (.whl cn body) De ES σ M=∃P:Nat->St3->MH->Prop,(∃m,P m σ M)/\∀m σ M,P m σ M->wpT W cn σ M (fun b M1=>if b=true then aq W body {De with nx:=fun σ' M'=>∃m',m' < m/\P m' σ' M',ct:=fun σ' M'=>∃m',m' < m/\P m' σ' M',bk:=De.nx} ES σ M1 else De.nx σ M1) (ES σ):=rfl
noncomputable def HB(M0:MH)(a b:PySem.Addr)(s:SB):MH:=put (put M0 a (dS s.S)) b (dB s.B)
theorem uw(hca:c≠a)(hcb:c≠b):HS M0 a b c s ag=HB (put M0 c (dA ag)) a b s:=by
 unfold HS HB;funext q;unfold put;by_cases q1:q=c
 ·simp[q1,hca,hcb]
 ·simp[q1]
theorem tF(hm:∀q o,M q=some o->M0 q=some o)(ha:M a=some u)(hb:M b=some v):ah M (HB M0 a b s)=HB M a b s:=by
 unfold HB;rw[kC hb,kC ha];congr 2;funext q;unfold ah;cases h:M q with
 |none=>rfl
 |some o=>exact hm q o h
theorem rj{l:List Nm}:l.map cJ=l.map nmD:=rfl
theorem mC{ks:List Nm}(h:M c=some (.dt ks es)):rBi (.list true) [.ref c] M Q=(ks.length<=PySem.sizeLine/\Q (.rol (ks.map nmD)) M):=by
 simp[rBi,ay,ai,h,cP,aW,rj]
theorem qA:∀{fs:List Nm}{st:SB×List Nm},st.2.Nodup->(fs.foldl (dJ N) st).2.Nodup
 |[],_,h=>h
 |_::fs,_,h=>by rw[List.foldl_cons];exact qA (jC h)
noncomputable def PS(M:MH)(kd a b:PySem.Addr)(N:Nt)(X:List Nm)(sf:SB)(m:Nat)(σ:St3)(M':MH):Prop:=∃(s:SB)(fs:List Nm)(x4 x5 x6:Option D)(M1:MH),σ=[some (.ref kd),some (.ref a),some (.ref b),some (.rol (fs.map nmD)),x4,x5,x6]/\M'=HB M1 a b s/\Fm M1/\(∀q o,M q=some o->M1 q=some o)/\J N X (fun z=>z∈fs) s/\Run N m s fs sf
theorem ir{s0:SB}(hM:Fm M)(W:WN N)(hp:Pot N p)(hk:N.ks.length < 200)(hab:a≠b)(ha:M a=some (dS s0.S))(hb:M b=some (dB s0.B))(hka:kd≠a)(hkb:kd≠b)(hra:∀z∈N.ks,rp z≠a)(hrb:∀z∈N.ks,rp z≠b)(hE:Eg M kd rp N)(I:J N X (fun z=>z∈K1 s0.S) s0)(R:Run N m s0 (K1 s0.S) sf)(hQ:Q .non (HB M a b sf)) :
  ad T (B cls kls fad) (n+2) 2 [.ref kd,.ref a,.ref b] M Q E:=by
 have z0:=I.sz.1;rw[pf];have ha':M a=some (.dt (K1 s0.S) (s0.S.map fun p=>.int p.2)):=ha
 have hl:(K1 s0.S).length<=PySem.sizeLine:=by rw[List.length_map,PySem.sizeLine_eq];omega
 simp[eE,mC ha',pL];refine⟨by simpa using hl,PS M kd a b N X sf,⟨m,s0,K1 s0.S,none,none,none,M,by simp,?_,hM,fun _ _ h=>h,I,R⟩,?_⟩
 ·unfold HB;funext q;unfold put;by_cases q1:q=b
  ·simp[q1,hb]
  ·by_cases q2:q=a
   ·subst q2;simp[q1,ha]
   ·simp[q1,q2]
 ·rintro m σ M' ⟨s,fs,x4,x5,x6,M1,rfl,rfl,hM1,hm,I,R⟩;cases R with
  |done=>
   simp;rw[tF hm ha hb];exact hQ
  |@step m' _ _ _ hne R=>
   have h0:0 < fs.length:=List.length_pos_iff.mpr hne;have h1:Fm (HB M1 a b s):=(hM1.put _ _).put _ _;simp[h0,fO];intro c hc;have hcb:c≠b:=fun e=>by unfold HB at hc;rw[e,ac]at hc;cases hc
   have hca:c≠a:=fun e=>by unfold HB at hc;rw[e,af hab,ac]at hc;cases hc
   have hc0:M1 c=none:=by unfold HB at hc;rw[af hcb,af hca]at hc;exact hc
   have hE1:=hE.mono hm;have hkc:kd≠c:=fun e=>by have:=hE1.kd;rw[e,hc0]at this;cases this
   have hrc:∀z∈N.ks,rp z≠c:=fun z hz e=>by have:=hE1.row z hz;rw[e,hc0]at this;cases this
   obtain⟨J1,_⟩:=g6 W hp fs s [] (I.mono (fun z hz=>.inl hz) fun z hz=>I.pd z (by simpa using hz))
   have J2:((stepF N s fs).2).Nodup:=qA List.nodup_nil;have J3:(stepF N s fs).2.length<=N.ks.length:=cQ J2 fun z hz=>by
    obtain⟨v,hv⟩:=Option.isSome_iff_exists.mp (J1.pd z hz);exact (J1.k z v hv).1
   change bB _ _ _ _ _ _ _ _ (HS M1 a b c s []);have hcc:HS M1 a b c (stepF N s fs).1 (stepF N s fs).2 c=some (.dt (stepF N s fs).2 ((stepF N s fs).2.map fun _=>.bl true)):=ac
   have hls:(stepF N s fs).2.length<=PySem.sizeLine:=by rw[PySem.sizeLine_eq];omega
   rw[mI (R:=True) hM1 W hp hk hab (Ne.symm hca) (Ne.symm hcb) hka hkb hkc hra hrb hrc hE1 fs s [] _ _ (I.mono (fun z hz=>.inl hz) fun z hz=>I.pd z (by simpa using hz)) List.nodup_nil]
   ·trivial
   ·intro x5 x6;refine eq_true ?_;simp[mC hcc,hls];refine⟨m',Nat.lt_succ_self _,(stepF N s fs).1,(stepF N s fs).2,some (.ref c),x5,x6,put M1 c (dA (stepF N s fs).2),rfl,uw hca hcb,hM1.put _ _,fun q o h=>?_,J1,R⟩
    rw[af (fun e=>by rw[e]at h;have:=hm _ _ h;rw[hc0]at this;cases this)]
    exact hm q o h
end
end G
namespace G
open L2
section
variable {cls kls fad:Nat->PySem.Addr}{M M0:MH}{Q:VK3}{E:XN}{n:Nat}{a b c d f r kd nn:PySem.Addr}{x y x0:Nm}{N:Nt}{p:Nm->Int}{rp:Nm->PySem.Addr}
theorem Eg.nin(h:Eg M kd rp N):ao .NotIn (nmD x) (.ref kd) M Q=Q (.bl (!decide (x∈N.ks))) M:=by
 rw[jq (g:=D.ref) h.kd];unfold lR;rw[ud];by_cases h:x∈N.ks<;>simp[h]
theorem kF(h:Eg M kd rp N)(hx:x∈N.ks):ad T (B cls kls fad) (n+1) 0 [.ref kd,nmD x] M Q E=Q .non M:=by
 rw[eZ];simp[aO,h.nin,hx]
theorem hV(hab:a≠b):HB (put (put M a u) b v) a b s=HB M a b s:=by
 unfold HB;rw[jo hab,aR]
theorem gG{s:SB}(ha:M a=none)(hb:M b=none):ah M (HB M a b s)=M:=by
 unfold HB;rw[cj hb,cj ha,dh]
theorem Eg.ne(h:Eg M kd rp N)(ha:M a=none):kd≠a/\∀z∈N.ks,rp z≠a:=
 ⟨fun e=>(by have:=h.kd;rw[e,ha]at this;cases this),fun z hz e=>(by have:=h.row z hz;rw[e,ha]at this;cases this)⟩
theorem Eg.new{o:DO}(h:Eg M kd rp N)(ha:M a=none):Eg (put M a o) kd rp N:=h.mono fun q u hq=>by
 rw[af (fun e=>by rw[e,ha]at hq;cases hq)];exact hq
theorem mG(hM:Fm M)(W:WN N)(hp:Pot N p)(hk:N.ks.length < 200)(hE:Eg M kd rp N)(hx:x∈N.ks)
  (hQ:∀a b s,M a=none->M b=none->a≠b->J N [x] (fun _=>False) s->Q (.ref a) (HB M a b s)):ad T (B cls kls fad) (n+3) 4 [.ref kd,nmD x] M Q E:=by
 rw[sx];simp[gx,kF hE hx];intro a ha;simp[fH,b8,aR];refine⟨ac,fun b hb=>?_⟩
 have hab:a≠b:=fun e=>by rw[<-e,ac]at hb;cases hb
 have hb0:M b=none:=by rwa [af (Ne.symm hab)]at hb
 obtain⟨m,s,R,I⟩:=vU W hp ⟨[(x,0)],[]⟩ [x] (J.start (X:=[x]) W (by simp) (by simpa using hx))
 have e1:=hE.ne ha;have e2:=hE.ne hb0;refine ir (s0:=⟨[(x,0)],[]⟩) ((hM.put _ _).put _ _) W hp hk hab (by rw[af hab,ac];rfl) ac e1.1 e2.1 e1.2 e2.2 ((hE.new ha).new hb) (J.start (X:=[x]) W (by simp) (by simpa using hx)) R ?_
 rw[hV hab];exact hQ a b s ha hb0 hab I
structure NT (kls:Nat->PySem.Addr)(M:MH)(nn kd:PySem.Addr)(rp:Nm->PySem.Addr)(N:Nt):Prop where
 nn:M nn=some (.ins 0 (kls 0) [245117675] [.ref kd])
 eg:Eg M kd rp N
 inj:∀x∈N.ks,∀y∈N.ks,rp x=rp y->x=y
 fm:Fm M
 wn:WN N
 sz:N.ks.length < 200
theorem NT.fld(h:NT kls M nn kd rp N):fX (B cls kls fad) 245117675 (.ref nn) M Q=Q (.ref kd) M:=by
 simp[fX,h.nn]
theorem NT.mth{m f:Nat}{R:Nat->Prop}(h:NT kls M nn kd rp N)(hm:G.mth 0 m=some f)(h1:245117675≠m):eU (B cls kls fad) m (.ref nn) M R=R f:=by
 simp[eU,h.nn,hm,h1]
noncomputable def oi(o:Option Int):D:=(o.map D.int).getD .non
theorem qw(h:NT kls M nn kd rp N)(hp:Pot N p)(hx:x∈N.ks)(hy:y∈N.ks)(hQ:∀o,IsD N x y o->Q (oi o) M):ad T (B cls kls fad) (n+4) 16 [.ref nn,nmD x,nmD y] M Q E:=by
 rw[lA];simp[cG,h.fld,kF h.eg hy];refine mG h.fm h.wn hp h.sz h.eg hx fun a b s ha hb hab I=>?_
 have ga:HB M a b s a=some (.dt (K1 s.S) (s.S.map fun p=>.int p.2)):=by unfold HB;rw[af hab,ac];rfl
 simp[tS (g:=D.int) ga,rS (g:=D.int) ga,gG ha hb];exact hQ _ (I.isD y)
theorem jW{ds:List D}{d:D}:am (.rol (ds++[d])) (.int (-1)) M Q=Q d M:=by
 refine bS ?_;have h1:(1:Int)<=(ds.length:Int)+1:=by omega
 have h2:(-1+((ds.length:Int)+1)).toNat=ds.length:=by omega
 simp[atI,ixN,h1,h2]
noncomputable def PW(M:MH)(b:PySem.Addr)(Bk:List (Nm×Nm))(y:Nm)(k:Nat)(m:Nat)(σ:St3)(M':MH):Prop:=∃(w:PySem.Addr)(l:List Nm)(z:Nm),M w=none/\σ=[some (.ref b),some (nmD y),some (.ref w)]/\M'=put M w (.lst (l.map nmD++[nmD z]))/\Ends Bk z m/\l.length+m<=k/\∀r,Chn Bk z r->Chn Bk y (l++r)
theorem Ak{Bk:List (Nm×Nm)}(hM:Fm M)(hb:M b=some (dB Bk))(hl:Bk.length < 300){m:Nat}(he:Ends Bk y m)(hQ:∀l,Chn Bk y l->Q (.rol (l.map nmD).reverse) M):ad T (B cls kls fad) (n+1) 3 [.ref b,nmD y] M Q E:=by
 rw[qr];have hm:m < 301:=by have:=he.le;rw[List.length_map]at this;omega
 simp[d9,pL];refine⟨by rw[PySem.sizeLine_eq];omega,fun w hw=>?_⟩
 refine⟨PW M b Bk y m,⟨m,w,[],y,hw,rfl,by simp,he,by simp,fun r h=>h⟩,?_⟩
 rintro k σ M' ⟨w,l,z,hw,rfl,rfl,he,hk,hc⟩;have hbw:b≠w:=fun e=>by rw[e,hw]at hb;cases hb
 have hb':put M w (.lst (l.map nmD++[nmD z])) b=some (.dt (K1 Bk) (Bk.map fun p=>nmD p.2)):=by rw[af hbw];exact hb
 have i1:∀{Q:VK3},am (.ref w) (.int (-1)) (put M w (.lst (l.map nmD++[nmD z]))) Q=Q (nmD z) (put M w (.lst (l.map nmD++[nmD z]))):=fun {Q}=>by rw[vS,jW]
 have i2:∀{Q:VK3},ao .In (nmD z) (.ref b) (put M w (.lst (l.map nmD++[nmD z]))) Q=Q (.bl (lk Bk z).isSome) (put M w (.lst (l.map nmD++[nmD z]))):=fun {Q}=>lW (g:=nmD) hb'
 have hlen:(l.map nmD++[nmD z]).length < PySem.sizeLine:=by rw[PySem.sizeLine_eq];simp;omega
 cases he with
 |nil h=>
  simp[↓i1,↓i2,h,rLr,ai,ac,aW];refine⟨by rw[PySem.sizeLine_eq];omega,?_⟩
  rw[cj hw,dh];simpa using hQ _ (hc _ (.nil h))
 |step h e=>
  rename_i x' k';have i3:∀{Q:VK3},am (.ref b) (nmD z) (put M w (.lst (l.map nmD++[nmD z]))) Q=Q (nmD x') (put M w (.lst (l.map nmD++[nmD z]))):=fun {Q}=>jb (g:=nmD) hb' h
  simp[↓i1,↓i2,h,fK];rw[i3,kL ac];refine⟨hlen,k',Nat.lt_succ_self _,w,l++[z],x',hw,rfl,by simp[aR],e,by simp;omega,fun r hr=>by rw[List.append_assoc];exact hc _ (.step h hr)⟩
end
end G
namespace G
open L2
section
variable {cls kls fad:Nat->PySem.Addr}{M M0:MH}{Q:VK3}{E:XN}{n:Nat}{a b c d f r kd nn:PySem.Addr}{x y x0:Nm}{N:Nt}{p:Nm->Int}{rp:Nm->PySem.Addr}
theorem f9:∀{x y:List Int},cb (x.map D.int) (y.map D.int)=decide (x=y)
 |[],[]=>by simp[cb]
 |[],_::_=>by simp[cb]
 |_::_,[]=>by simp[cb]
 |i::x,j::y=>by
  simp only[List.map_cons,cb,eqD,f9 (x:=x) (y:=y)];by_cases h:i=j<;>simp[h]
theorem lw:ao .Eq (nmD x) (nmD y) M Q=Q (.bl (decide (x=y))) M:=by
 simp[ao,eS,rs,ai,nmD,plN,eqD,f9]
theorem pN{d:Int}(hM:Fm M)(W:WN N)(hp:Pot N p)(hk:N.ks.length < 200)(hE:Eg M kd rp N)(hx:x∈N.ks)(hy:y∈N.ks)(hd:IsD N x y (some d))(hQ:∀l,Way N x y d l->l.length < 900->Q (.rol (l.map nmD).reverse) M):ad T (B cls kls fad) (n+3) 5 [.ref kd,nmD x,nmD y] M Q E:=by
 rw[vE];simp[jp,kF hE hx,kF hE hy];intro a ha;simp[fH,b8,aR];refine⟨ac,fun b hb=>?_⟩
 have hab:a≠b:=fun e=>by rw[<-e,ac]at hb;cases hb
 have hb0:M b=none:=by rwa [af (Ne.symm hab)]at hb
 obtain⟨m,s,R,I⟩:=vU W hp ⟨[(x,0)],[]⟩ [x] (J.start (X:=[x]) W (by simp) (by simpa using hx))
 have e1:=hE.ne ha;have e2:=hE.ne hb0;refine ir (s0:=⟨[(x,0)],[]⟩) ((hM.put _ _).put _ _) W hp hk hab (by rw[af hab,ac];rfl) ac e1.1 e2.1 e1.2 e2.2 ((hE.new ha).new hb) (J.start (X:=[x]) W (by simp) (by simpa using hx)) R ?_
 rw[hV hab];have ga:HB M a b s a=some (.dt (K1 s.S) (s.S.map fun p=>.int p.2)):=by unfold HB;rw[af hab,ac];rfl
 have gb:HB M a b s b=some (dB s.B):=by unfold HB;rw[ac]
 have hs:lk s.S y=some d:=(I.isD y).uniq hd;have z:=I.sz.2;obtain⟨m,hm⟩:=I.en y;simp[lW (g:=D.int) ga,hs];refine Ak ((hM.put _ _).put _ _) gb (by omega) hm fun l hc=>?_
 rw[gG ha hb0];exact hQ l (I.way hp hc hs) (by have:=hc.len;omega)
theorem zY{m:Int}(h:NT kls M nn kd rp N)(hp:Pot N p)(hx:x∈N.ks)(hy:y∈N.ks)(hQ:(∀d,IsD N y x (some d)->0<=d+m)->Q .non M)(hE:∀d l,IsD N y x (some d)->d+m < 0->Way N y x d l->l.length < 900->E ⟨2,some (217822450,.rol (l.map nmD).reverse)⟩ M):ad T (B cls kls fad) (n+5) 8 [.ref nn,nmD x,nmD y,.int m] M Q E:=by
 rw[bV];simp[aw,h.fld,h.eg.nin,hx,hy,h.mth ib];refine qw h hp hy hx fun o ho=>?_
 cases o with
 |none=>
  simp[oi];exact hQ fun d hd=>by cases ho.uniq hd
 |some d=>
  by_cases hd:d+m < 0
  ·simp[oi,hd,h.mth gH,ij,bI,h.fld];refine pN h.fm h.wn hp h.sz h.eg hy hx ho fun l hw hlw=>?_
   simp[rXp,cpF,ai];simpa using hE d l ho hd hw hlw
  ·simp[oi,hd];refine hQ fun d' hd'=>?_
   cases ho.uniq hd';omega
theorem lY(h:NT kls M nn kd rp N)(hx:x∈N.ks):ad T (B cls kls fad) (n+1) 9 [.ref nn,nmD x] M Q E=Q .non M:=by
 rw[g5];simp[bJ,h.fld,h.eg.nin,hx]
theorem NT.add{m:Int}(h:NT kls M nn kd rp N)(hx:x∈N.ks)(hy:y∈N.ks)(hn:x≠y):NT kls (put M (rp x) (dR (ins (N.row x) y (min m ((lk (N.row x) y).getD m))))) nn kd rp (kh N x y m):=by
 have hr:=h.eg.row x hx;have n1:nn≠rp x:=fun e=>by have:=h.nn;rw[e,hr]at this;cases this
 have n2:kd≠rp x:=fun e=>by
  have:=h.eg.kd;rw[e,hr]at this;unfold dK dR at this;injection this with this
  injection this with t1 t2
  have hl:(lR N rp).length≠0:=by
   unfold lR;rw[List.length_map];have:=List.length_pos_of_mem hx;omega
  cases h1:lR N rp with
  |nil=>rw[h1]at hl;exact hl rfl
  |cons u l=>
   cases h2:N.row x with
   |nil=>rw[h1,h2]at t2;cases t2
   |cons v k=>rw[h1,h2]at t2;simp at t2
 refine⟨by rw[af n1];exact h.nn,⟨by rw[af n2];exact h.eg.kd,fun z hz=>?_⟩,h.inj,h.fm.put _ _,tz h.wn hy hn,h.sz⟩
 have hz:z∈N.ks:=hz;show _=some (dR (if z=x then _ else _))
 by_cases e:z=x
 ·subst e;rw[ac,if_pos rfl]
 ·rw[af (fun q=>e (h.inj z hz x hx q)),if_neg e];exact h.eg.row z hz
noncomputable def nw(N:Nt)(x:Nm):Nt:=if x∈N.ks then N else⟨N.ks++[x],fun z=>if z=x then [] else N.row z⟩
theorem dQ(h:x∈N.ks):nw N x=N:=if_pos h
theorem bZ(h:x∉N.ks):nw N x=⟨N.ks++[x],fun z=>if z=x then [] else N.row z⟩:=if_neg h
theorem eL{α:Type}{v:α}:∀{l:List (Nm×α)},x∉K1 l->ins l x v=l++[(x,v)]
 |[],_=>rfl
 |(q,u)::l,h=>by
  simp only[K1,List.map_cons,List.mem_cons,not_or]at h;simp only[ins,if_neg (Ne.symm h.1)];rw[eL (l:=l) h.2];rfl
theorem NT.kr(h:NT kls M nn kd rp N)(hx:x∈N.ks):kd≠rp x:=fun e=>by
 have:=h.eg.kd;rw[e,h.eg.row x hx]at this;unfold dK dR at this;injection this with this
 injection this with t1 t2
 have hl:(lR N rp).length≠0:=by
  unfold lR;rw[List.length_map];have:=List.length_pos_of_mem hx;omega
 cases h1:lR N rp with
 |nil=>rw[h1]at hl;exact hl rfl
 |cons u l=>
  cases h2:N.row x with
  |nil=>rw[h1,h2]at t2;cases t2
  |cons v k=>rw[h1,h2]at t2;simp at t2
theorem zZ(W:WN N):WN (nw N x):=by
 by_cases h:x∈N.ks
 ·rw[dQ h];exact W
 ·rw[bZ h];refine⟨?_,fun z hz=>?_⟩
  ·rw[List.nodup_append];exact⟨W.nd,by simp,fun a ha b hb=>by rw[List.mem_singleton.mp hb];exact fun e=>h (e▸ha)⟩
  ·by_cases e:z=x
   ·simp only[e,if_true];exact⟨List.nodup_nil,fun _ q=>by cases q⟩
   ·have hz':z∈N.ks:=by
     rcases List.mem_append.mp hz with q|q
     ·exact q
     ·exact absurd (List.mem_singleton.mp q) e
    simp only[if_neg e];exact⟨(W.row z hz').1,fun a ha=>⟨List.mem_append_left _ ((W.row z hz').2 a ha).1,((W.row z hz').2 a ha).2⟩⟩
theorem nw_ed{a b:Nm}{w:Int}:Ed (nw N x) a b w<->Ed N a b w:=by
 by_cases h:x∈N.ks
 ·rw[dQ h]
 ·rw[bZ h];unfold Ed;by_cases e:a=x
  ·subst e;simp[h]
  ·simp[e]
theorem qt{q:Nm->Int}(hp:Pot N q):Pot (nw N x) q:=fun a b w h=>hp a b w (nw_ed.mp h)
theorem eV:x∈(nw N x).ks:=by
 by_cases h:x∈N.ks
 ·rw[dQ h];exact h
 ·rw[bZ h];simp
theorem cX(h:z∈N.ks):z∈(nw N x).ks:=by
 by_cases e:x∈N.ks
 ·rw[dQ e];exact h
 ·rw[bZ e];simp[h]
theorem qX(h:NT kls M nn kd rp N)(hz:N.ks.length < 190)(hQ:∀M' rp',NT kls M' nn kd rp' (nw N x)->Q .non M'):ad T (B cls kls fad) (n+1) 9 [.ref nn,nmD x] M Q E:=by
 by_cases hx:x∈N.ks
 ·rw[lY h hx];exact hQ M rp (by rw[dQ hx];exact h)
 rw[g5];simp[bJ,h.fld,h.eg.nin,hx];intro r hr;have n1:nn≠r:=fun e=>by have:=h.nn;rw[e,hr]at this;cases this
 have e1:=h.eg.ne hr;have hnn:put M r (.dt [] []) nn=some (.ins 0 (kls 0) [245117675] [.ref kd]):=by rw[af n1];exact h.nn
 have hkd:put M r (.dt [] []) kd=some (.dt (K1 (lR N rp)) ((lR N rp).map fun e=>.ref e.2)):=by rw[af e1.1];exact h.eg.kd
 simp[fX,hnn];rw[fk (g:=D.ref) hkd (by unfold lR;rw[List.length_map];omega)]
 have hks:K1 (lR N rp)=N.ks:=by unfold lR;simp[Function.comp_def]
 rw[eL (by rw[hks];exact hx)]
 have hrp:∀z∈N.ks,(if z=x then r else rp z)=rp z:=fun z hz=>if_neg fun e:z=x=>hx (by rw[<-e];exact hz)
 refine hQ _ (fun z=>if z=x then r else rp z) ⟨?_,⟨?_,?_⟩,?_,((h.fm.put _ _).put _ _),zZ h.wn,?_⟩
 ·rw[af (fun e=>by have:=h.nn;rw[e,h.eg.kd]at this;cases this)];exact hnn
 ·rw[ac];have:lR (nw N x) (fun z=>if z=x then r else rp z)=lR N rp++[(x,r)]:=by
   rw[bZ hx];unfold lR;simp;exact fun z hz e=>absurd (e▸hz) hx
  unfold dK;rw[this]
 ·intro z hz;rw[bZ hx]at hz ⊢;rcases List.mem_append.mp hz with hz|hz
  ·show put _ kd _ (if z=x then r else rp z)=some (dR (if z=x then [] else N.row z))
   rw[hrp z hz,af (Ne.symm (h.kr hz)),af (e1.2 z hz),if_neg (fun e:z=x=>hx (e▸hz))]
   exact h.eg.row z hz
  ·rw[List.mem_singleton.mp hz];show put _ kd _ (if x=x then r else rp x)=some (dR (if x=x then [] else N.row x))
   rw[if_pos rfl,if_pos rfl,af (Ne.symm e1.1),ac];rfl
 ·rw[bZ hx];intro u hu v hv e;rcases List.mem_append.mp hu with hu|hu<;>rcases List.mem_append.mp hv with hv|hv
  ·rw[hrp u hu,hrp v hv]at e;exact h.inj u hu v hv e
  ·rw[hrp u hu,List.mem_singleton.mp hv,if_pos rfl]at e;exact absurd e (e1.2 u hu)
  ·rw[hrp v hv,List.mem_singleton.mp hu,if_pos rfl]at e;exact absurd e.symm (e1.2 v hv)
  ·rw[List.mem_singleton.mp hu,List.mem_singleton.mp hv]
 ·rw[bZ hx];show (N.ks++[x]).length < 200;simp;omega
theorem nH{m:Int}(h:NT kls M nn kd rp N)(hx:¬ (x∈N.ks/\y∈N.ks)):ad T (B cls kls fad) (n+5) 8 [.ref nn,nmD x,nmD y,.int m] M Q E=Q .non M:=by
 rw[bV];by_cases h1:x∈N.ks
 ·have h2:y∉N.ks:=fun z=>hx ⟨h1,z⟩
  simp[aw,h.fld,h.eg.nin,h1,h2]
 ·simp[aw,h.fld,h.eg.nin,h1]
theorem lE:(nw N x).ks.length<=N.ks.length+1:=by
 by_cases h:x∈N.ks
 ·rw[dQ h];omega
 ·rw[bZ h];simp
theorem oK{m:Int}(h:NT kls M nn kd rp N)(hp:Pot N p)(hz:N.ks.length < 150)(hn:x≠y)(hr:∀d,IsD N y x (some d)->0<=d+m)(hQ:∀M' rp',NT kls M' nn kd rp' (kh (nw (nw N x) y) x y m)->Q .non M'):ad T (B cls kls fad) (n+6) 10 [.ref nn,nmD x,nmD y,.int m] M Q E:=by
 have rr:∀{Q:VK3}{E:XN},Q .non M->ad T (B cls kls fad) (n+5) 8 [.ref nn,nmD x,nmD y,.int m] M Q E:=fun {Q E} hq=>by
  by_cases hxy:x∈N.ks/\y∈N.ks
  ·exact zY h hp hxy.1 hxy.2 (fun _=>hq) (fun d l h1 h2 _ _=>absurd (hr d h1) (by omega))
  ·rw[nH h hxy];exact hq
 rw[iM];simp[cu,lw,hn,h.mth bQ];refine rr ?_;simp[h.mth g7];refine qX h (by omega) fun M1 rp1 h1=>?_
 have l1:=lE (N:=N) (x:=x);rw[h1.mth g7 (by decide)]
 refine qX h1 (by omega) fun M2 rp2 h2=>?_
 have hx2:x∈(nw (nw N x) y).ks:=cX eV;have hy2:y∈(nw (nw N x) y).ks:=eV;have hr':M2 (rp2 x)=some (.dt (K1 ((nw (nw N x) y).row x)) (((nw (nw N x) y).row x).map fun e=>.int e.2)):=h2.eg.row x hx2
 simp[h2.fld,h2.eg.ix hx2,tS (g:=D.int) hr',ut (g:=D.int) hr'];have hz':=h2.wn.sz hx2;have hz2:=h2.sz;have hmin:(if (lk ((nw (nw N x) y).row x) y).getD m < m then (lk ((nw (nw N x) y).row x) y).getD m else m)=min m ((lk ((nw (nw N x) y).row x) y).getD m):=by
  split<;>omega
 rw[hmin,fk (g:=D.int) hr' (by omega)]
 exact hQ _ _ (h2.add hx2 hy2 hn)
end
end G
namespace G
open L2
section
variable {N:Nt}{p:Nm->Int}
theorem mH:wpS W (.forK tg o body) De ES σ M=wpE W o σ M (fun x M1=>fV x M1 fun d ks es=>∀φ,bB W tg body (fun _ _ _=>False) (fun M=>M d=some (.stl φ)) (fq d φ ks es De) (ks.map cJ) σ (put M1 d (.stl φ))) (ES σ):=rfl
noncomputable def zr(l:List Nm):List (Nm×Int):=l.map fun x=>(x,0)
theorem jS:K1 (zr l)=l:=by unfold zr;simp[Function.comp_def]
theorem iV(hda:kd≠a)(hd:M0 kd=some (.stl φ)){De:Ends3}:∀(post pre:List Nm)(x2:Option D),(pre++post).Nodup->(pre++post).length < 300->
  (∀x2,De.nx [y0,some (.ref a),x2] (put M0 a (dS (zr (pre++post))))=R)->
  bB W (.name 2) bM ES (fun M=>M kd=some (.stl φ)) De (post.map nmD) [y0,some (.ref a),x2] (put M0 a (dS (zr pre)))=R
 |[],pre,x2,_,_,hR=>by
  have hS:put M0 a (dS (zr pre)) kd=some (.stl φ):=by rw[af hda];exact hd
  have:=hR x2;rw[List.append_nil]at this;rw[List.map_nil,bb];simp[hS,this]
 |z::post,pre,x2,hn,hl,hR=>by
  have hS:put M0 a (dS (zr pre)) kd=some (.stl φ):=by rw[af hda];exact hd
  have hz:z∉K1 (zr pre):=fun h=>by
   rw[jS]at h;rw[List.nodup_append]at hn;exact hn.2.2 z h z List.mem_cons_self rfl
  have ga:put M0 a (dS (zr pre)) a=some (.dt (K1 (zr pre)) ((zr pre).map fun p=>.int p.2)):=ac
  have e1:(pre++[z])++post=pre++z::post:=by simp
  have hlp:(zr pre).length < 900:=by unfold zr;rw[List.length_map];rw[List.length_append]at hl;omega
  have s1:∀{R:MH->Prop},bh (.ref a) (nmD z) (.int 0) (put M0 a (dS (zr pre))) R=R (put M0 a (dS (zr (pre++[z])))):=fun {R}=>by
   rw[fk (g:=D.int) ga hlp,aR,eL hz];unfold zr dS;simp
  rw[List.map_cons,aH,<-iV (W:=W) (ES:=ES) (De:=De) (R:=R) (y0:=y0) hda hd post (pre++[z]) (some (nmD z)) (by rw[e1];exact hn) (by rw[e1];exact hl) (by rw[e1];exact hR)]
  simp[wpG,bM,hS,↓s1]
theorem m7{l:List Nm}:l.map cJ=l.map nmD:=rfl
theorem gB:K1 (lR N rp)=N.ks:=by unfold lR;simp[Function.comp_def]
theorem nc(h:NT kls M nn kd rp N)(hp:Pot N p)(hQ:∀s,J N N.ks (fun _=>False) s->Q (.dit (K1 s.S) (s.S.map fun p=>.int p.2)) M):ad T (B cls kls fad) (n+3) 15 [.ref nn] M Q E:=by
 rw[kX];simp[bU,mH];intro a ha;have e1:=h.eg.ne ha;have n1:nn≠a:=fun e=>by have:=h.nn;rw[e,ha]at this;cases this
 have h1:NT kls (put M a (.dt [] [])) nn kd rp N:=⟨by rw[af n1];exact h.nn,h.eg.new ha,h.inj,h.fm.put _ _,h.wn,h.sz⟩
 have hkd:put M a (.dt [] []) kd=some (.dt (K1 (lR N rp)) ((lR N rp).map fun e=>.ref e.2)):=h1.eg.kd
 simp[h1.fld];unfold fV;simp only[hkd];intro φ;have hak:a≠kd:=Ne.symm e1.1;have sw:put (put M a (.dt [] [])) kd (.stl φ)=put (put M kd (.stl φ)) a (dS (zr [])):=by
  funext q;unfold put;by_cases q1:q=kd
  ·simp[q1,e1.1]
  ·simp[q1];rfl
 rw[sw,gB,m7];have bk:put (put (put M kd (.stl φ)) a (dS (zr N.ks))) kd (.dt N.ks ((lR N rp).map fun e=>.ref e.2))=put M a (dS (zr N.ks)):=by
  have hk:M kd=some (.dt N.ks ((lR N rp).map fun e=>.ref e.2)):=by rw[h.eg.kd];unfold dK;rw[gB]
  funext q;unfold put;by_cases q1:q=kd
  ·simp[q1,e1.1,hk]
  ·simp[q1]
 have hsz:=h.sz;rw[iV (R:=True) (M0:=put M kd (.stl φ)) e1.1 ac N.ks [] none (by simpa using h.wn.nd) (by simp;omega)]
 ·trivial
 intro x2;rw[List.nil_append];refine eq_true ?_;change put (put M kd (.stl φ)) a (dS (zr N.ks)) kd=some (.stl φ)/\aq _ _ _ _ _ (put (put (put M kd (.stl φ)) a (dS (zr N.ks))) kd (.dt N.ks ((lR N rp).map fun e=>.ref e.2)))
 refine⟨by rw[af e1.1,ac],?_⟩
 rw[bk];have h2:NT kls (put M a (dS (zr N.ks))) nn kd rp N:=⟨by rw[af n1];exact h.nn,h.eg.new ha,h.inj,h.fm.put _ _,h.wn,h.sz⟩
 simp[h2.fld];intro b hb;have hab:a≠b:=fun e=>by rw[<-e,ac]at hb;cases hb
 have hb0:M b=none:=by rwa [af (Ne.symm hab)]at hb
 have e2:=h.eg.ne hb0;have I0:=J.start (X:=N.ks) h.wn h.wn.nd (fun _ hx=>hx)
 obtain⟨m,s,R,I⟩:=vU h.wn hp _ _ I0;refine ir (s0:=⟨zr N.ks,[]⟩) (X:=N.ks) ((h.fm.put _ _).put _ _) h.wn hp h.sz hab (by rw[af hab,ac]) ac e1.1 e2.1 e1.2 e2.2 ((h.eg.new ha).new hb) (by rw[jS];exact I0) (by rw[jS];exact R) ?_
 rw[hV hab];have ga:HB M a b s a=some (dS s.S):=by unfold HB;rw[af hab,ac]
 have kp:ah M (L2.del (HB M a b s) a)=M:=by rw[kT ha,gG ha hb0]
 simp[bp,ga,dS];rw[kp];exact hQ s I
end
end G
namespace G
open L2
section
variable {cls kls fad:Nat->PySem.Addr}{M M0:MH}{Q:VK3}{E:XN}{n:Nat}{a b c d f r kd nn:PySem.Addr}{x y x0:Nm}{N:Nt}{p:Nm->Int}{rp:Nm->PySem.Addr}
theorem qG:∀(l:List (Nm×PySem.Addr)),aG (K1 l) (l.map fun e=>.ref e.2)=l.map fun e=>.tup [nmD e.1,.ref e.2]
 |[]=>rfl
 |e::l=>by
  have ih:=qG l;unfold aG at ih ⊢;simp only[K1,List.map_cons,List.zip_cons_cons]at ih ⊢;rw[ih];rfl
theorem pk(h:M d=some o):put (put M d u) d o=M:=by
 rw[aR];funext q;unfold put;by_cases q1:q=d
 ·simp[q1,h]
 ·simp[q1]
theorem se(hM:Fm M)(hE:Eg M kd rp N)(ha:M a=some (dS S))(hka:kd≠a)(hr:∀z∈N.ks,(lk S z).isSome=true)(hQ:∀p,M p=none->Q (.ref p) (put M p (.lst []))):ad T (B cls kls fad) (n+1) 6 [.ref kd,.ref a,z] M Q E:=by
 rw[iz];simp[aZ,mZ];intro f hf;have hkf:kd≠f:=(hE.ne hf).1;have haf:a≠f:=fun e=>by rw[e,hf]at ha;cases ha
 have hkd:put M f (.lst []) kd=some (.dt (K1 (lR N rp)) ((lR N rp).map fun e=>.ref e.2)):=by rw[af hkf];exact hE.kd
 unfold fV;simp only[hkd];intro φ;rw[qG];have ga:put (put M f (.lst [])) kd (.stl φ) a=some (.dt (K1 S) (S.map fun p=>.int p.2)):=by rw[af (Ne.symm hka),af haf];exact ha
 refine qc (P:=fun σ=>∃x4 x5,σ=[some (.ref kd),some (.ref a),some z,some (.ref f),x4,x5]) ac ⟨none,none,rfl⟩ ?_ ?_
 ·rintro d hd σ ⟨x4,x5,rfl⟩ k hk;obtain⟨e,he,rfl⟩:=List.mem_map.mp hd;obtain⟨w,hw,rfl⟩:=List.mem_map.mp he;simp[wpG,bY,jq (g:=D.int) ga,hr w hw];exact hk _ ⟨_,_,rfl⟩
 ·rintro σ ⟨x4,x5,rfl⟩;change put (put M f (.lst [])) kd (.stl φ) kd=some (.stl φ)/\aq _ _ _ _ _ (put (put (put M f (.lst [])) kd (.stl φ)) kd (.dt (K1 (lR N rp)) ((lR N rp).map fun e=>.ref e.2)))
  refine⟨ac,?_⟩;rw[pk hkd];simp;exact hQ f hf
noncomputable def tl(S:List (Nm×Int))(l:List Nm):List (Nm×Int):=l.map fun z=>(z,(lk S z).getD 0)
theorem mJ:K1 (tl S l)=l:=by unfold tl;simp[Function.comp_def]
theorem iS(hka:kd≠a)(hkq:kd≠c)(hqa:a≠c)(hd:M0 kd=some (.stl φ))(ha:M0 a=some (dS S)){De:Ends3}:∀(post pre:List Nm)(x9:Option D),(pre++post).Nodup->(pre++post).length < 300->(∀z∈post,(lk S z).isSome=true)->
  (∀x9,De.nx [y0,y1,y2,y3,some (.ref a),y5,y6,y7,some (.ref c),x9] (put M0 c (dS (tl S (pre++post))))=R)->
  bB W (.name 9) bu ES (fun M=>M kd=some (.stl φ)) De (post.map nmD) [y0,y1,y2,y3,some (.ref a),y5,y6,y7,some (.ref c),x9] (put M0 c (dS (tl S pre)))=R
 |[],pre,x9,_,_,_,hR=>by
  have hS:put M0 c (dS (tl S pre)) kd=some (.stl φ):=by rw[af hkq];exact hd
  have:=hR x9;rw[List.append_nil]at this;rw[List.map_nil,bb];simp[hS,this]
 |z::post,pre,x9,hn,hl,hs,hR=>by
  have hS:put M0 c (dS (tl S pre)) kd=some (.stl φ):=by rw[af hkq];exact hd
  have hz:z∉K1 (tl S pre):=fun h=>by
   rw[mJ]at h;rw[List.nodup_append]at hn;exact hn.2.2 z h z List.mem_cons_self rfl
  obtain⟨v,hv⟩:=Option.isSome_iff_exists.mp (hs z List.mem_cons_self);have gc:put M0 c (dS (tl S pre)) c=some (.dt (K1 (tl S pre)) ((tl S pre).map fun p=>.int p.2)):=ac
  have ga:put M0 c (dS (tl S pre)) a=some (.dt (K1 S) (S.map fun p=>.int p.2)):=by rw[af hqa];exact ha
  have e1:(pre++[z])++post=pre++z::post:=by simp
  have hlp:(tl S pre).length < 900:=by unfold tl;rw[List.length_map];rw[List.length_append]at hl;omega
  have s1:∀{R:MH->Prop},bh (.ref c) (nmD z) (.int v) (put M0 c (dS (tl S pre))) R=R (put M0 c (dS (tl S (pre++[z])))):=fun {R}=>by
   rw[fk (g:=D.int) gc hlp,aR,eL hz];unfold tl dS;simp[hv]
  have i1:∀{Q:VK3},am (.ref a) (nmD z) (put M0 c (dS (tl S pre))) Q=Q (.int v) (put M0 c (dS (tl S pre))):=fun {Q}=>jb (g:=D.int) ga hv
  have i2:∀{Q:VK3},ao .In (nmD z) (.ref a) (put M0 c (dS (tl S pre))) Q=Q (.bl true) (put M0 c (dS (tl S pre))):=fun {Q}=>by rw[lW (g:=D.int) ga,hv];rfl
  rw[List.map_cons,aH,<-iS (W:=W) (ES:=ES) (De:=De) (R:=R) (y0:=y0) (y1:=y1) (y2:=y2) (y3:=y3) (y5:=y5) (y6:=y6) (y7:=y7) hka hkq hqa hd ha post (pre++[z]) (some (nmD z)) (by rw[e1];exact hn) (by rw[e1];exact hl) (fun w hw=>hs w (List.mem_cons_of_mem _ hw)) (by rw[e1];exact hR)]
  simp[wpG,bu,hS,↓i1,↓i2,↓s1]
theorem pC(h:NT kls M nn kd rp N)(hp:Pot N p)(hx:x∈N.ks)(hy:y∈N.ks)(hr:∀z∈N.ks,∃v,Wk N x z v)(hQ:∀g:Nm->Int,(∀z∈N.ks,IsD N x z (some (g z)))->Q (.dit N.ks (N.ks.map fun z=>.int (g z))) M):ad T (B cls kls fad) (n+4) 18 [.ref nn,nmD x,nmD y] M Q E:=by
 rw[jx];simp[bF,h.fld,kF h.eg hy];refine mG h.fm h.wn hp h.sz h.eg hx fun a b s ha hb hab I=>?_
 have hS:∀z∈N.ks,(lk s.S z).isSome=true:=fun z hz=>by
  obtain⟨v,hv⟩:=hr z hz;have:=I.isD z;cases e:lk s.S z with
  |none=>rw[e]at this;exact absurd hv (this v)
  |some _=>rfl
 have e1:=h.eg.ne ha;have e2:=h.eg.ne hb;have ga:HB M a b s a=some (dS s.S):=by unfold HB;rw[af hab,ac]
 have nn1:nn≠a:=fun e=>by have:=h.nn;rw[e,ha]at this;cases this
 have nn2:nn≠b:=fun e=>by have:=h.nn;rw[e,hb]at this;cases this
 have hB:NT kls (HB M a b s) nn kd rp N:=⟨by unfold HB;rw[af nn2,af nn1];exact h.nn,(h.eg.new ha).new (by rw[af (Ne.symm hab)];exact hb),h.inj,(h.fm.put _ _).put _ _,h.wn,h.sz⟩
 simp[hB.mth fU];refine nc hB hp fun s2 _=>?_
 simp[hB.fld];refine se hB.fm hB.eg ga e1.1 hS fun f hf=>?_
 have haf:a≠f:=fun e=>by rw[<-e,ga]at hf;cases hf
 have hbf:b≠f:=fun e=>by rw[<-e]at hf;unfold HB at hf;rw[ac]at hf;cases hf
 have hf0:M f=none:=by unfold HB at hf;rw[af (Ne.symm hbf),af (Ne.symm haf)]at hf;exact hf
 have e3:=hB.eg.ne hf;have nn3:nn≠f:=fun e=>by have:=hB.nn;rw[e,hf]at this;cases this
 have gaf:put (HB M a b s) f (.lst []) a=some (.dt (K1 s.S) (s.S.map fun p=>.int p.2)):=by rw[af haf];exact ga
 have hF:NT kls (put (HB M a b s) f (.lst [])) nn kd rp N:=⟨by rw[af nn3];exact hB.nn,hB.eg.new hf,h.inj,hB.fm.put _ _,h.wn,h.sz⟩
 rw[jq (g:=D.int) gaf];simp[hS y hy,lc,ai,ac,bO];generalize hM3:put (HB M a b s) f (.lst [])=M3 at gaf hF;have kM3:ah M M3=M:=by rw[<-hM3,cj hf0,gG ha hb]
 intro c hc;have e4:=hF.eg.ne hc;have nn4:nn≠c:=fun e=>by have:=hF.nn;rw[e,hc]at this;cases this
 have hac:a≠c:=fun e=>by rw[e,hc]at gaf;cases gaf
 have hC:NT kls (put M3 c (.dt [] [])) nn kd rp N:=⟨by rw[af nn4];exact hF.nn,hF.eg.new hc,h.inj,hF.fm.put _ _,h.wn,h.sz⟩
 have hkd:put M3 c (.dt [] []) kd=some (.dt (K1 (lR N rp)) ((lR N rp).map fun e=>.ref e.2)):=hC.eg.kd
 simp[mH,hC.fld];unfold fV;simp only[hkd];intro φ;have sw:put (put M3 c (.dt [] [])) kd (.stl φ)=put (put M3 kd (.stl φ)) c (dS (tl s.S [])):=by
  funext q;unfold put;by_cases q1:q=kd
  ·simp[q1,e4.1]
  ·simp[q1];rfl
 rw[sw,gB,m7];have bk:put (put (put M3 kd (.stl φ)) c (dS (tl s.S N.ks))) kd (.dt N.ks ((lR N rp).map fun e=>.ref e.2))=put M3 c (dS (tl s.S N.ks)):=by
  have hk:M3 kd=some (.dt N.ks ((lR N rp).map fun e=>.ref e.2)):=by rw[hF.eg.kd];unfold dK;rw[gB]
  funext q;unfold put;by_cases q1:q=kd
  ·simp[q1,e4.1,hk]
  ·simp[q1]
 have hsz:=h.sz;rw[iS (R:=True) (M0:=put M3 kd (.stl φ)) (S:=s.S) e1.1 e4.1 hac ac (by rw[af (Ne.symm e1.1)];exact gaf) N.ks [] none (by simpa using h.wn.nd) (by simp;omega) hS]
 ·trivial
 intro x9;rw[List.nil_append];refine eq_true ?_;change put (put M3 kd (.stl φ)) c (dS (tl s.S N.ks)) kd=some (.stl φ)/\aq _ _ _ _ _ (put (put (put M3 kd (.stl φ)) c (dS (tl s.S N.ks))) kd (.dt N.ks ((lR N rp).map fun e=>.ref e.2)))
 refine⟨by rw[af e4.1,ac],?_⟩
 rw[bk];have gc:put M3 c (dS (tl s.S N.ks)) c=some (.dt (K1 (tl s.S N.ks)) ((tl s.S N.ks).map fun p=>.int p.2)):=ac
 have hc0:M c=none:=by
  cases e:M c with
  |none=>rfl
  |some o=>
   rw[<-hM3]at hc;have c1:c≠f:=fun z=>by rw[z,hf0]at e;cases e
   have c2:c≠b:=fun z=>by rw[z,hb]at e;cases e
   have c3:c≠a:=fun z=>by rw[z,ha]at e;cases e
   unfold HB at hc;rw[af c1,af c2,af c3,e]at hc;cases hc
 have kp:ah M (L2.del (put M3 c (dS (tl s.S N.ks))) c)=M:=by rw[kT hc0,cj hc0,kM3]
 simp only[sL,w6,Ag,CJ,bp,gc];rw[kp,mJ];have:=hQ (fun z=>(lk s.S z).getD 0) fun z hz=>by
  obtain⟨v,hv⟩:=Option.isSome_iff_exists.mp (hS z hz);have e:=I.isD z;rw[hv]at e ⊢;exact e
 unfold tl;rw[List.map_map];exact this
end
end G
namespace G
open L2
section
variable {N:Nt}
theorem ql{m d:Int}(h:NT kls M nn kd rp N)(hp:Pot N p)(hx:x∈N.ks)(hy:y∈N.ks)(hn:x≠y)(hd:IsD N y x (some d))(hm:d+m < 0)(hE:∀l,Way N y x d l->l.length < 900->E ⟨2,some (217822450,.rol (l.map nmD).reverse)⟩ M):ad T (B cls kls fad) (n+6) 10 [.ref nn,nmD x,nmD y,.int m] M Q E:=by
 rw[iM];simp[cu,lw,hn,h.mth bQ];refine zY h hp hx hy (fun hd'=>absurd (hd' d hd) (by omega)) (fun d' l h1 h2 h3 h4=>?_)
 cases h1.uniq hd;simpa using hE l h3 h4
theorem mj{m d:Int}(h:NT kls M nn kd rp N)(hp:Pot N p)(hx:x∈N.ks)(hy:y∈N.ks)(hn:x≠y)(hd:IsD N y x (some d))(hm:d+m < 0)(hQ:∀l,Way N y x d l->l.length < 900->Q (.rol (l.map nmD).reverse) M):ad T (B cls kls fad) (n+7) 25 [.ref nn,nmD x,nmD y,.int m] M Q E:=by
 rw[gO];simp[bG,h.mth dm];refine ql h hp hx hy hn hd hm fun l hl hll=>?_
 simp;intro a ha;rw[cj ha,dh];exact hQ l hl hll
theorem sM{m:Int}(h:NT kls M nn kd rp N)(hp:Pot N p)(hz:N.ks.length < 150)(hn:x≠y)(hr:∀d,IsD N y x (some d)->0<=d+m)(hQ:∀M',Q .non M'):ad T (B cls kls fad) (n+7) 25 [.ref nn,nmD x,nmD y,.int m] M Q E:=by
 rw[gO];simp[bG,h.mth dm];refine oK h hp hz hn hr fun M' rp' _=>?_
 simpa using hQ _
theorem lH(ns:List Int)(k:Nat):∃x:Int,∀{n:Nat}{M:MH}{Q:VK3}{E:XN},ad T (B cls kls fad) (n+1) 19 [scr ns,.int k] M Q E=Q (.int x) M:=by
 by_cases h:k < ns.length
 ·obtain⟨x,hx⟩:=zL (cs:=ns) (i:=k) (by omega) (by omega)
  refine⟨x,?_⟩;intro n M Q E;have h':(k:Int) < ns.length:=by omega
  simp[dG,aS,scr,bS hx,h]
 ·refine⟨0,?_⟩;intro n M Q E;simp[dG,aS,scr,h]
theorem sW:ad T (B cls kls fad) (n+1) 20 [.int i] M Q E=Q (.bl true) M:=by
 simp[lg,bT]
noncomputable def stD(e:Int×Int):D:=.tup [.int e.1,.int e.2]
theorem tO(ns:List Int)(hl:ns.length<=63)(k:Nat)(hk:k < 100):∃e:Int×Int,0<=e.2/\∃u v:Int,∀{n:Nat}{M:MH}{a:PySem.Addr}{acc:List D}{De:Ends3}{ES:St3->XN}{y1 x4 x5:Option D},acc.length < 900->
  aq {toWB:=B cls kls fad,call:=ad T (B cls kls fad) (n+1)} aC De ES [some (scr ns),y1,some (.ref a),some (.int (0+(k:Int))),x4,x5] (put M a (.lst acc)) =
  De.nx [some (scr ns),y1,some (.ref a),some (.int (0+(k:Int))),some (.int u),some (.int v)] (put M a (.lst (acc++[stD e]))):=by
 obtain⟨j,hj⟩:∃j:Nat,(2:Int)+(k:Int) % (if (ns.length:Int) - 2 > 1 then (ns.length:Int) - 2 else 1)=j:=by
  refine⟨((2:Int)+(k:Int) % (if (ns.length:Int) - 2 > 1 then (ns.length:Int) - 2 else 1)).toNat,?_⟩
  have:=Int.emod_nonneg (k:Int) (show (if (ns.length:Int) - 2 > 1 then (ns.length:Int) - 2 else 1)≠0 by split<;>omega)
  omega
 have hmx:0 < (if (ns.length:Int) - 2 > 1 then (ns.length:Int) - 2 else 1):=by split<;>omega
 obtain⟨c0,h0⟩:=lH (cls:=cls) (kls:=kls) (fad:=fad) ns j;have cd:i8 c0 (1+(k:Int))=True:=mK (by omega) (by omega)
 generalize hc:c0 / (1+(k:Int))=c;obtain⟨v,hv,hv'⟩:∃v:Int,0<=v/\∀{M:MH}{Q:VK3},am (.rol [.int (c % 10),.int (c / 10 % 1000000000000000000000000000000)]) (.int (c / 7 % 2)) M Q=Q (.int v) M:=by
  have:c / 7 % 2=0\/c / 7 % 2=1:=by omega
  rcases this with e|e
  ·exact⟨c % 10,by omega,by intro M Q;rw[e];simp⟩
  ·exact⟨c / 10 % 1000000000000000000000000000000,by omega,by intro M Q;rw[e];simp⟩
 refine⟨(c / 3 % 10 ^ 50 - 10 ^ 20,v),hv,c,v,?_⟩;intro n M a acc De ES y1 x4 x5 hacc;simp[aC,hj,hmx,h0,cd,hc,hv',mK,Df,stD,PySem.sizeLine_eq];intro _;omega
theorem gJ{ns:List Int}{g:Nat->Int×Int}{De:Ends3}{ES:St3->XN}{R:Prop}{y1:Option D}
  (hg:∀k:Nat,k < 100->∃u v:Int,∀{n:Nat}{M:MH}{a:PySem.Addr}{acc:List D}{De:Ends3}{ES:St3->XN}{y1 x4 x5:Option D},acc.length < 900->
   aq {toWB:=B cls kls fad,call:=ad T (B cls kls fad) (n+1)} aC De ES [some (scr ns),y1,some (.ref a),some (.int (0+(k:Int))),x4,x5] (put M a (.lst acc)) =
   De.nx [some (scr ns),y1,some (.ref a),some (.int (0+(k:Int))),some (.int u),some (.int v)] (put M a (.lst (acc++[stD (g k)])))) :
  ∀(ks:List Nat)(acc:List D)(x3 x4 x5:Option D),(∀k∈ks,k < 100)->acc.length+ks.length < 900->(∀x3 x4 x5,De.nx [some (scr ns),y1,some (.ref a),x3,x4,x5] (put M a (.lst (acc++ks.map fun k=>stD (g k))))=R)->
  bB {toWB:=B cls kls fad,call:=ad T (B cls kls fad) (n+1)} (.name 3) aC ES (fun _=>True) De (ks.map fun (i:Nat)=>D.int (0+(i:Int))) [some (scr ns),y1,some (.ref a),x3,x4,x5] (put M a (.lst acc))=R
 |[],acc,x3,x4,x5,_,_,hR=>by
  rw[List.map_nil,bb];simpa using hR x3 x4 x5
 |k::ks,acc,x3,x4,x5,hk,hz,hR=>by
  obtain⟨u,v,hm⟩:=hg k (hk k List.mem_cons_self);simp only[List.length_cons]at hz;rw[List.map_cons,aH,<-gJ (De:=De) (ES:=ES) (R:=R) (y1:=y1) hg ks (acc++[stD (g k)]) (some (.int (0+(k:Int)))) (some (.int u)) (some (.int v)) (fun k h=>hk k (List.mem_cons_of_mem _ h)) (by simp;omega) (fun x3 x4 x5=>by
   have:=hR x3 x4 x5;rw[List.append_assoc];simpa using this)]
  simp only[wpG,List.set_cons_succ,List.set_cons_zero,true_and];rw[hm (by omega)]
theorem rM(ns:List Int)(hl:ns.length<=63):∃g:Nat->Int×Int,(∀k,k < 100->0<=(g k).2)/\∀{H:Nat}{n:Nat}{M:MH}{Q:VK3}{E:XN},1<=H->H<=64->Fm M->ad T (B cls kls fad) (n+2) 21 [scr ns,.int H] M Q E=Q (.rol ((List.range (H - 1)).map fun k=>stD (g k))) M:=by
 have ex:∀k:Nat,∃e:Int×Int,k < 100->0<=e.2/\∃u v:Int,∀{n:Nat}{M:MH}{a:PySem.Addr}{acc:List D}{De:Ends3}{ES:St3->XN}{y1 x4 x5:Option D},acc.length < 900->
   aq {toWB:=B cls kls fad,call:=ad T (B cls kls fad) (n+1)} aC De ES [some (scr ns),y1,some (.ref a),some (.int (0+(k:Int))),x4,x5] (put M a (.lst acc)) =
   De.nx [some (scr ns),y1,some (.ref a),some (.int (0+(k:Int))),some (.int u),some (.int v)] (put M a (.lst (acc++[stD e]))):=fun k=>by
  by_cases hk:k < 100
  ·obtain⟨e,h1,h2⟩:=tO (cls:=cls) (kls:=kls) (fad:=fad) ns hl k hk;exact⟨e,fun _=>⟨h1,h2⟩⟩
  ·exact⟨(0,0),fun h=>absurd h hk⟩
 obtain⟨g,hg⟩:=Classical.axiomOfChoice ex;refine⟨g,fun k hk=>(hg k hk).1,?_⟩
 intro H n M Q E h1 h64 hM;rw[ka];have hH:((H:Int) - 1).toNat=H - 1:=by omega
 simp[bR,hH];refine iff_of_eq (gZ hM fun p hp=>?_)
 have b1 : -4611686018427387904<=(H:Int) - 1:=by omega
 have b2:(H:Int) - 1 < 4611686018427387904:=by omega
 simp only[b1,b2,true_and];unfold rng;refine gJ (g:=g) (fun k hk=>(hg k hk).2) (List.range (H - 1)) [] none none none (fun k hk=>by have:=List.mem_range.mp hk;omega) (by simp;omega) fun x3 x4 x5=>?_
 simp[hp]
noncomputable def iD(k:Nat):D:=.int (k:Int)
theorem rE(cc:Int){H:Nat}(h1:1<=H)(h64:H<=64):∃os:List Nat,os.Nodup/\(∀k,k∈os<->k < H - 1)/\∀{n:Nat}{M:MH}{Q:VK3}{E:XN},Fm M->ad T (B cls kls fad) (n+1) 22 [.int cc,.int H] M Q E=Q (.rol (os.map iD)) M:=by
 have hH:((H:Int) - 1).toNat=H - 1:=by omega
 have b1 : -4611686018427387904<=(H:Int) - 1:=by omega
 have b2:(H:Int) - 1 < 4611686018427387904:=by omega
 have b3:(H:Int) - 1<=1048576:=by omega
 have hr:rng 0 (H - 1)=(List.range (H - 1)).map iD:=by unfold rng iD;simp
 have hsl:H - 1<=PySem.sizeLine:=by rw[PySem.sizeLine_eq];omega
 by_cases c1:cc % 4=1
 ·refine⟨(List.range (H - 1)).reverse,List.pairwise_reverse.mpr (List.nodup_range.imp fun h=>Ne.symm h),by simp,?_⟩
  intro n M Q E hM;rw[c8];simp[aV,hH,b1,b3,c1,aW,hr,hsl,ow,ai]
 ·by_cases c2:cc % 4 > 1
  ·obtain⟨w,hw,hw'⟩:∃w:Int,0 < w/\∀{M:MH}{Q:VK3},am (.rol [.int 7,.int 13]) (.int (cc % 2)) M Q=Q (.int w) M:=by
    have:cc % 2=0\/cc % 2=1:=by omega
    rcases this with e|e
    ·exact⟨7,by omega,by intro M Q;rw[e];simp⟩
    ·exact⟨13,by omega,by intro M Q;rw[e];simp⟩
   refine⟨(List.range (H - 1)).filter (fun k:Nat=>decide ((k:Int) % w=0))++(List.range (H - 1)).filter (fun k:Nat=>!decide ((k:Int) % w=0)),?_,?_,?_⟩
   ·rw[List.nodup_append];refine⟨List.nodup_range.filter _,List.nodup_range.filter _,fun a ha b hb e=>?_⟩
    subst e;have h1:=(List.mem_filter.mp ha).2;have h2:=(List.mem_filter.mp hb).2;simp at h1 h2;exact h2 h1
   ·intro k;by_cases e:(k:Int) % w=0<;>simp[List.mem_filter,e]
   ·intro n M Q E hM;rw[c8];simp[aV,hH,b1,b2,b3,c1,c2,aW,hr,hsl,hw',aK];rw[cC (fun d=>match d with
     |.int i=>decide (i % w=0)
     |_=>false) (fun d=>d) hM (by simp;omega) (fun d hd M' hE Q'=>by
      obtain⟨k,_,rfl⟩:=List.mem_map.mp hd;simp[iD,gW,hw]) (fun d hd hcd M' hE Q'=>by simp)]
    rw[cC (fun d=>match d with
     |.int i=>!decide (i % w=0)
     |_=>false) (fun d=>d) hM (by simp;omega) (fun d hd M' hE Q'=>by
      obtain⟨k,_,rfl⟩:=List.mem_map.mp hd;simp[iD,gW,hw]) (fun d hd hcd M' hE Q'=>by simp)]
    have f1:=List.length_filter_le (fun k:Nat=>decide ((k:Int) % w=0)) (List.range (H - 1))
    have f2:=List.length_filter_le (fun k:Nat=>!decide ((k:Int) % w=0)) (List.range (H - 1))
    rw[List.length_range]at f1 f2;simp only[List.filter_map,List.map_id'];simp[cr,ai,aW,iD,Function.comp_def,PySem.sizeLine_eq];intro _;omega
  ·refine⟨List.range (H - 1),List.nodup_range,by simp,?_⟩
   intro n M Q E hM;rw[c8];simp[aV,hH,b1,b3,c1,c2,aW,hr,hsl]
end
end G
namespace G
open L2
section
variable {N:Nt}
noncomputable def cn(k:Nat):Nm:=[(k:Int) / 8,(k:Int) * k * k * 1000003 - k]
theorem je{a b:Int}(h0:0<=a)(h:a < b):a * a * a * 1000003 - a < b * b * b * 1000003 - b:=by
 have e:b * b * b - a * a * a=(b - a) * (b * b+b * a+a * a):=by
  simp only[Int.mul_add,Int.sub_mul];have h1:b * (b * a)=b * b * a:=by rw[Int.mul_assoc]
  have h2:a * (b * b)=b * b * a:=by rw[Int.mul_comm a]
  have h3:b * (a * a)=b * a * a:=by rw[Int.mul_assoc]
  have h4:a * (b * a)=b * a * a:=by rw[<-Int.mul_assoc,Int.mul_comm a b]
  have h5:b * (b * b)=b * b * b:=by rw[Int.mul_assoc]
  have h6:a * (a * a)=a * a * a:=by rw[Int.mul_assoc]
  omega
 have p1:1<=b * b+b * a+a * a:=by
  have q1:1<=b * b:=by
   have:=Int.mul_le_mul (a:=1) (b:=1) (c:=b) (d:=b) (by omega) (by omega) (by omega) (by omega)
   omega
  have q2:0<=b * a:=Int.mul_nonneg (by omega) h0
  have q3:0<=a * a:=Int.mul_nonneg h0 h0;omega
 have p2:b - a<=(b - a) * (b * b+b * a+a * a):=by
  have:=Int.mul_le_mul_of_nonneg_left p1 (show 0<=b - a by omega)
  omega
 omega
theorem aM{j k:Nat}(h:cn j=cn k):j=k:=by
 unfold cn at h;simp only[List.cons.injEq,and_true]at h;rcases Nat.lt_trichotomy j k with l|l|l
 ·have:=je (a:=j) (b:=k) (by omega) (by omega);omega
 ·exact l
 ·have:=je (a:=k) (b:=j) (by omega) (by omega);omega
theorem rK(h:∀w,(y,w)∉l):y∉K1 l:=fun z=>by
 obtain⟨v,hv⟩:=Option.isSome_iff_exists.mp (lk_key.mp z);exact h v (lO hv)
theorem j9(hx:x∈N.ks)(hno:∀w,¬ Ed N x y w):Ed (kh N x y m) a b w<->Ed N a b w\/(a=x/\b=y/\w=m):=by
 have hk:y∉K1 (N.row x):=rK fun w h=>hno w ⟨hx,h⟩
 have hl:lk (N.row x) y=none:=by
  cases e:lk (N.row x) y with
  |none=>rfl
  |some v=>exact absurd (lk_key.mpr (by rw[e];rfl)) hk
 unfold Ed kh;simp only[hl,Option.getD,Int.min_self,eL hk];by_cases e:a=x
 ·subst e;simp[hx]
 ·simp[e]
theorem mF(hp:Pot N q)(h:Wk N x y v)(e:v=q y - q x):IsD N x y (some v):=
 ⟨h,fun u hu=>by have:=hu.pot hp;omega⟩
structure CN (g:Nat->Int×Int)(H:Nat)(P:Nat->Prop)(N:Nt):Prop where
 ed:∀a b w,Ed N a b w<->∃k,P k/\((a=cn k/\b=cn (k+1)/\w=(g k).1+(g k).2)\/(a=cn (k+1)/\b=cn k/\w = -(g k).1))
 ks:∀z∈N.ks,∃k,k < H/\z=cn k
 has:∀k,P k->cn k∈N.ks/\cn (k+1)∈N.ks
 lt:∀k,P k->k+1 < H
noncomputable def pS(g:Nat->Int×Int):Nat->Int
 |0=>0
 |k+1=>pS g k+(g k).1
noncomputable def pB(g:Nat->Int×Int):Nat->Int
 |0=>0
 |k+1=>pB g k+((g k).1+(g k).2)
theorem lZ(f:Nat->Int):∃q:Nm->Int,∀k,q (cn k)=f k:=by
 refine⟨fun z=>Classical.epsilon fun v=>∃k,cn k=z/\v=f k,fun k=>?_⟩
 obtain⟨j,e1,e2⟩:=Classical.epsilon_spec (p:=fun v=>∃j,cn j=cn k/\v=f j) ⟨_,k,rfl,rfl⟩
 rw[aM e1]at e2;exact e2
theorem CN.potS(C:CN g H P N)(hg:∀k,P k->0<=(g k).2)(hq:∀k,q (cn k)=pS g k):Pot N q:=fun a b w h=>by
 obtain⟨k,hk,⟨rfl,rfl,rfl⟩|⟨rfl,rfl,rfl⟩⟩:=(C.ed a b w).mp h
 ·rw[hq,hq];have:=hg k hk;simp only[pS];omega
 ·rw[hq,hq];simp only[pS];omega
theorem CN.potB(C:CN g H P N)(hg:∀k,P k->0<=(g k).2)(hq:∀k,q (cn k)=pB g k):Pot N q:=fun a b w h=>by
 obtain⟨k,hk,⟨rfl,rfl,rfl⟩|⟨rfl,rfl,rfl⟩⟩:=(C.ed a b w).mp h
 ·rw[hq,hq];simp only[pB];omega
 ·rw[hq,hq];have:=hg k hk;simp only[pB];omega
theorem CN.up(C:CN g H (fun k=>k+1 < H) N):∀k,k < H->Wk N (cn 0) (cn k) (pB g k)
 |0,_=>.nil
 |k+1,h=>(C.up k (by omega)).snoc ((C.ed _ _ _).mpr ⟨k,h,.inl ⟨rfl,rfl,rfl⟩⟩)
theorem CN.down(C:CN g H (fun k=>k+1 < H) N):∀j k,k+j+1=H->Wk N (cn (k+j)) (cn k) (pS g k - pS g (k+j))
 |0,k,_=>by
  have e:pS g k - pS g (k+0)=0:=by rw[Nat.add_zero];omega
  rw[e];exact .nil
 |j+1,k,h=>by
  have ih:=C.down j (k+1) (by omega)
  have e1:k+1+j=k+(j+1):=by omega
  rw[e1]at ih;have:=ih.snoc ((C.ed (cn (k+1)) (cn k) (-(g k).1)).mpr ⟨k,(by omega:k+1 < H),.inr ⟨rfl,rfl,rfl⟩⟩)
  have e2:pS g (k+1) - pS g (k+(j+1))+-(g k).1=pS g k - pS g (k+(j+1)):=by simp only[pS];omega
  rw[e2]at this;exact this
end
end G
namespace G
open L2
section
variable {cls kls fad:Nat->PySem.Addr}{M:MH}{Q:VK3}{E:XN}{n:Nat}{kd nn:PySem.Addr}{N:Nt}{q:Nm->Int}{g:Nat->Int×Int}{H:Nat}{P:Nat->Prop}{k:Nat}
theorem CN.no_up(C:CN g H P N)(hP:¬ P k):∀w,¬ Ed N (cn k) (cn (k+1)) w:=fun w h=>by
 obtain⟨j,hj,⟨e1,e2,_⟩|⟨e1,e2,_⟩⟩:=(C.ed _ _ _).mp h
 ·rw[aM e1]at hP;exact hP hj
 ·have:=aM e1;have:=aM e2;omega
theorem CN.no_dn(C:CN g H P N)(hP:¬ P k):∀w,¬ Ed N (cn (k+1)) (cn k) w:=fun w h=>by
 obtain⟨j,hj,⟨e1,e2,_⟩|⟨e1,e2,_⟩⟩:=(C.ed _ _ _).mp h
 ·have:=aM e1;have:=aM e2;omega
 ·rw[aM e2]at hP;exact hP hj
noncomputable abbrev N1(g:Nat->Int×Int)(N:Nt)(k:Nat):Nt:=kh (nw (nw N (cn k)) (cn (k+1))) (cn k) (cn (k+1)) ((g k).1+(g k).2)
noncomputable abbrev N2(g:Nat->Int×Int)(N:Nt)(k:Nat):Nt:=kh (nw (nw (N1 g N k) (cn (k+1))) (cn k)) (cn (k+1)) (cn k) (-(g k).1)
theorem ny(h:z∈(nw N x).ks):z∈N.ks\/z=x:=by
 by_cases e:x∈N.ks
 ·rw[dQ e]at h;exact .inl h
 ·rw[bZ e]at h;rcases List.mem_append.mp h with h|h
  ·exact .inl h
  ·exact .inr (List.mem_singleton.mp h)
theorem CN.ed1(C:CN g H P N)(hP:¬ P k){a b:Nm}{w:Int}:Ed (N1 g N k) a b w<->Ed N a b w\/(a=cn k/\b=cn (k+1)/\w=(g k).1+(g k).2):=by
 rw[j9 (cX eV) (fun w h=>C.no_up hP w (nw_ed.mp (nw_ed.mp h))),nw_ed,nw_ed]
theorem CN.ed2(C:CN g H P N)(hP:¬ P k):Ed (N2 g N k) a b w<->Ed (N1 g N k) a b w\/(a=cn (k+1)/\b=cn k/\w = -(g k).1):=by
 rw[j9 (cX eV) (fun w h=>?_),nw_ed,nw_ed]
 rcases (C.ed1 hP).mp (nw_ed.mp (nw_ed.mp h)) with h|⟨e,_⟩
 ·exact C.no_dn hP w h
 ·have:=aM e;omega
theorem CN.step(C:CN g H P N)(hk:k+1 < H)(hP:¬ P k):CN g H (fun j=>P j\/j=k) (N2 g N k):=by
 have i1:∀z∈N.ks,z∈(N2 g N k).ks:=fun z hz=>cX (N:=nw (N1 g N k) (cn (k+1))) (cX (N:=N1 g N k) (cX (N:=nw N (cn k)) (cX hz)))
 have i2:cn (k+1)∈(N2 g N k).ks:=cX (N:=nw (N1 g N k) (cn (k+1))) eV;have i3:cn k∈(N2 g N k).ks:=eV (N:=nw (N1 g N k) (cn (k+1)));refine⟨fun a b w=>?_,fun z hz=>?_,fun j hj=>?_,fun j hj=>?_⟩
 ·rw[C.ed2 hP,C.ed1 hP,C.ed];constructor
  ·rintro ((⟨j,hj,h⟩|h)|⟨h1,h2,h3⟩)
   ·exact⟨j,.inl hj,h⟩
   ·exact⟨k,.inr rfl,.inl h⟩
   ·exact⟨k,.inr rfl,.inr ⟨h1,h2,by omega⟩⟩
  ·rintro⟨j,hj|rfl,h⟩
   ·exact .inl (.inl ⟨j,hj,h⟩)
   ·rcases h with h|⟨h1,h2,h3⟩
    ·exact .inl (.inr h)
    ·exact .inr ⟨h1,h2,by omega⟩
 ·have hz:z∈(nw (nw (N1 g N k) (cn (k+1))) (cn k)).ks:=hz;rcases ny hz with hz|rfl
  ·rcases ny hz with hz|rfl
   ·have hz:z∈(nw (nw N (cn k)) (cn (k+1))).ks:=hz;rcases ny hz with hz|rfl
    ·rcases ny hz with hz|rfl
     ·exact C.ks z hz
     ·exact⟨k,by omega,rfl⟩
    ·exact⟨k+1,hk,rfl⟩
   ·exact⟨k+1,hk,rfl⟩
  ·exact⟨k,by omega,rfl⟩
 ·rcases hj with hj|rfl
  ·exact⟨i1 _ (C.has j hj).1,i1 _ (C.has j hj).2⟩
  ·exact⟨i3,i2⟩
 ·rcases hj with hj|rfl
  ·exact C.lt j hj
  ·exact hk
theorem CN.len(C:CN g H P N)(W:WN N):N.ks.length<=H:=by
 have:=cQ (k:=(List.range H).map cn) W.nd fun z hz=>by
  obtain⟨k,hk,rfl⟩:=C.ks z hz;exact List.mem_map.mpr ⟨k,List.mem_range.mpr hk,rfl⟩
 simpa using this
theorem bW{H:Nat}(h:k < H):atI ((List.range H).map fun k=>nmD (cn k)) (k:Int)=some (nmD (cn k)):=dc (by simp[h])
theorem gm{H:Nat}(h:k < H):atI ((List.range H).map fun k=>stD (g k)) (k:Int)=some (stD (g k)):=dc (by simp[h])
theorem i7{De:Ends3}{ES:St3->XN}{y0 y1:Option D}{rest:St3}(h64:H<=64)(hq:∀k,q (cn k)=pS g k):∀(os:List Nat)(x5:Option D)(M:MH)(rp:Nm->PySem.Addr)(N:Nt)(P:Nat->Prop),os.Nodup->(∀k∈os,k+1 < H/\¬ P k)->(∀k,P k\/k∈os->0<=(g k).2)->NT kls M nn kd rp N->CN g H P N->
  (∀x5 M' rp' N',NT kls M' nn kd rp' N'->CN g H (fun j=>P j\/j∈os) N'->De.nx (y0::y1::some (.rol ((List.range H).map fun k=>nmD (cn k)))::some (.rol ((List.range (H - 1)).map fun k=>stD (g k)))::some (.ref nn)::x5::rest) M')->
  bB {toWB:=B cls kls fad,call:=ad T (B cls kls fad) (n+6)} (.name 5) eK ES (fun _=>True) De (os.map iD) (y0::y1::some (.rol ((List.range H).map fun k=>nmD (cn k)))::some (.rol ((List.range (H - 1)).map fun k=>stD (g k)))::some (.ref nn)::x5::rest) M
 |[],x5,M,rp,N,P,_,_,_,h,C,hQ=>by
  rw[List.map_nil,bb];refine⟨trivial,hQ x5 M rp N h ⟨fun a b w=>?_,C.ks,fun k hk=>C.has k (by simpa using hk),fun k hk=>C.lt k (by simpa using hk)⟩⟩
  rw[C.ed];simp
 |k::os,x5,M,rp,N,P,hn,hk,hg,h,C,hQ=>by
  obtain⟨k1,k2⟩:=hk k List.mem_cons_self;rw[List.nodup_cons]at hn;have hp:Pot N q:=C.potS (fun j hj=>hg j (.inl hj)) hq
  have gk:=hg k (.inr List.mem_cons_self);have l1:=C.len h.wn;have kn:cn k≠cn (k+1):=fun e=>by have:=aM e;omega
  have e1:q (cn (k+1)) - q (cn k)=(g k).1:=by rw[hq,hq];simp only[pS];omega
  have i1:∀{M:MH}{Q:VK3},am (.rol ((List.range H).map fun k=>nmD (cn k))) (.int (k:Int)) M Q=Q (nmD (cn k)) M:=fun {M Q}=>bS (bW (by omega))
  have i2:∀{M:MH}{Q:VK3},am (.rol ((List.range H).map fun k=>nmD (cn k))) (.int ((k:Int)+1)) M Q=Q (nmD (cn (k+1))) M:=fun {M Q}=>by
   have:=bS (M:=M) (Q:=Q) (bW (k:=k+1) (H:=H) k1);simpa using this
  have i3:∀{M:MH}{Q:VK3},am (.rol ((List.range (H - 1)).map fun k=>stD (g k))) (.int (k:Int)) M Q=Q (stD (g k)) M:=fun {M Q}=>bS (gm (by omega))
  have j0:∀{M:MH}{Q:VK3},am (stD (g k)) (.int 0) M Q=Q (.int (g k).1) M:=fun {M Q}=>by simp[stD]
  have j1:∀{M:MH}{Q:VK3},am (stD (g k)) (.int 1) M Q=Q (.int (g k).2) M:=fun {M Q}=>by simp[stD]
  rw[List.map_cons,aH];refine⟨trivial,?_⟩;have ih:=fun x5 M rp N h C=>i7 (De:=De) (ES:=ES) (y0:=y0) (y1:=y1) (rest:=rest) h64 hq os x5 M rp N (fun j=>P j\/j=k) hn.2 (fun j hj=>⟨(hk j (List.mem_cons_of_mem _ hj)).1,fun z=>by
   rcases z with z|z
   ·exact (hk j (List.mem_cons_of_mem _ hj)).2 z
   ·subst z;exact hn.1 hj⟩) (fun j hj=>hg j (by
    rcases hj with (hj|rfl)|hj
    ·exact .inl hj
    ·exact .inr List.mem_cons_self
    ·exact .inr (List.mem_cons_of_mem _ hj))) h C (fun x5 M' rp' N' h' C'=>hQ x5 M' rp' N' h' ⟨fun a b w=>by rw[C'.ed];simp[or_assoc],C'.ks,fun j hj=>C'.has j (by simpa [or_assoc] using hj),fun j hj=>C'.lt j (by simpa [or_assoc] using hj)⟩)
  generalize bB {toWB:=B cls kls fad,call:=ad T (B cls kls fad) (n+6)} (.name 5) eK ES (fun _=>True) De (os.map iD)=K at ih ⊢
  simp[wpG,eK,iD,h.mth dm,↓i1,↓i2,↓i3,↓j0,↓j1];refine oK h hp (by omega) kn (fun d hd=>by have:=hd.1.pot hp;omega) fun M1 rp1 h1=>?_
  have hp1:Pot (N1 g N k) q:=oX (qt (qt hp)) (by omega)
  simp[h1.mth dm,↓i1,↓i2,↓i3,↓j0,↓j1];have l2:(N1 g N k).ks.length<=N.ks.length+2:=by
   have a1:=lE (N:=nw N (cn k)) (x:=cn (k+1));have a2:=lE (N:=N) (x:=cn k);show (nw (nw N (cn k)) (cn (k+1))).ks.length<=_;omega
  refine oK h1 hp1 (by show (N1 g N k).ks.length < 150;omega) (Ne.symm kn) (fun d hd=>by have:=hd.1.pot hp1;omega) fun M2 rp2 h2=>?_
  exact ih _ M2 rp2 (N2 g N k) h2 (C.step k1 k2)
end
end G
namespace G
open L2
section
variable {N:Nt}
inductive FW (N:Nt):Nm->Nm->Int->List Nm->Prop where
 |nil {y:Nm}:FW N y y 0 []
 |cons {a b c:Nm}{v w:Int}{l:List Nm} (e:Ed N a b w) (h:FW N b c v l):FW N a c (w+v) (b::l)
theorem FW.snoc(h:FW N a b v l)(e:Ed N b c w):FW N a c (v+w) (l++[c]):=by
 induction h with
 |nil=>rw[Int.zero_add];have:=FW.cons e FW.nil;rwa [Int.add_zero]at this
 |cons e1 _ ih=>rw[Int.add_assoc];exact .cons e1 (ih e)
theorem Way.fw{l:List Nm}(h:Way N a y v l):∃r,l.reverse=a::r/\FW N a y v r:=by
 induction h with
 |nil=>exact⟨[],rfl,.nil⟩
 |step _ xk e ih=>
  obtain⟨r,h1,h2⟩:=ih;exact⟨r++[_],by rw[List.reverse_cons,h1];rfl,h2.snoc ⟨xk,e⟩⟩
theorem FW.last(h:FW N a y v l):∃l',a::l=l'++[y]:=by
 induction h with
 |nil=>exact⟨[],rfl⟩
 |cons _ _ ih=>
  obtain⟨l',e⟩:=ih;exact⟨_::l',by rw[e];rfl⟩
noncomputable abbrev cl(H:Nat):D:=.rol ((List.range H).map fun k=>nmD (cn k))
noncomputable abbrev stL(g:Nat->Int×Int)(H:Nat):D:=.rol ((List.range (H - 1)).map fun k=>stD (g k))
theorem pe{De:Ends3}(C:CN g H P N){l:List Nm}(h:FW N a y v l):∀(i:Nat)(f:Int)(x7:Option D),i < H->a=cn i->
  (∀i' x7,i' < H->De.nx [some (cl H),some (stL g H),y2,y3,y4,some (.int (f+v)),some (.int (i':Nat)),x7] M=R)->
  bB W (.name 7) aY ES (fun _=>True) De (l.map nmD) [some (cl H),some (stL g H),y2,y3,y4,some (.int f),some (.int (i:Int)),x7] M=R:=by
 induction h with
 |nil=>
  intro i f x7 hi _ hR;rw[List.map_nil,bb];have:=hR i x7 hi;rw[Int.add_zero]at this;simpa using this
 |@cons a b c v w l e _ ih=>
  intro i f x7 hi ea hR;subst ea;rw[List.map_cons,aH];obtain⟨k,hk,⟨e1,rfl,rfl⟩|⟨e1,rfl,rfl⟩⟩:=(C.ed _ _ _).mp e
  ·have e1:=aM e1;subst e1;have k1:=C.lt i hk;have k1':(i:Int)+1 < H:=by omega
   have i2:∀{M:MH}{Q:VK3},am (cl H) (.int ((i:Int)+1)) M Q=Q (nmD (cn (i+1))) M:=fun {M Q}=>by
    have:=bS (M:=M) (Q:=Q) (bW (k:=i+1) (H:=H) k1);simpa using this
   have i3:∀{M:MH}{Q:VK3},am (stL g H) (.int (i:Int)) M Q=Q (stD (g i)) M:=fun {M Q}=>bS (gm (by omega))
   have j0:∀{M:MH}{Q:VK3},am (stD (g i)) (.int 0) M Q=Q (.int (g i).1) M:=fun {M Q}=>by simp[stD]
   have j1:∀{M:MH}{Q:VK3},am (stD (g i)) (.int 1) M Q=Q (.int (g i).2) M:=fun {M Q}=>by simp[stD]
   rw[<-ih (i+1) (f+((g i).1+(g i).2)) (some (nmD (cn (i+1)))) k1 rfl (fun i' x7 hi'=>by have:=hR i' x7 hi';rw[Int.add_assoc];exact this)]
   have e5:f+(g i).1+(g i).2=f+((g i).1+(g i).2):=by omega
   simp[wpG,aY,k1,k1',lw,↓i2,↓i3,↓j0,↓j1,e5]
  ·have e1:=aM e1;subst e1;have k1:=C.lt k hk;have i0:∀{M:MH}{Q:VK3},am (cl H) (.int (k:Int)) M Q=Q (nmD (cn k)) M:=fun {M Q}=>bS (bW (by omega))
   have i3:∀{M:MH}{Q:VK3},am (stL g H) (.int (k:Int)) M Q=Q (stD (g k)) M:=fun {M Q}=>bS (gm (by omega))
   have j0:∀{M:MH}{Q:VK3},am (stD (g k)) (.int 0) M Q=Q (.int (g k).1) M:=fun {M Q}=>by simp[stD]
   rw[<-ih k (f+-(g k).1) (some (nmD (cn k))) (by omega) rfl (fun i' x7 hi'=>by have:=hR i' x7 hi';rw[Int.add_assoc];exact this)]
   have e5:f - (g k).1=f+-(g k).1:=by omega
   have p0:(0:Int) < (k:Int)+1:=by omega
   have p2:(k:Int)+1 - 1=k:=by omega
   by_cases hh:k+1+1 < H
   ·have hh':(k:Int)+1+1 < H:=by omega
    have i2:∀{M:MH}{Q:VK3},am (cl H) (.int ((k:Int)+1+1)) M Q=Q (nmD (cn (k+1+1))) M:=fun {M Q}=>by
     have:=bS (M:=M) (Q:=Q) (bW (k:=k+1+1) (H:=H) hh);simpa using this
    have ne:¬ cn k=cn (k+1+1):=fun e=>by have:=aM e;omega
    simp[wpG,aY,hh,hh',lw,↓i2,↓i3,↓j0,e5,ne,p0,p2,↓i0]
   ·have hh':¬ (k:Int)+1+1 < H:=by omega
    simp[wpG,aY,hh,hh',lw,↓i3,↓j0,e5,p0,p2,↓i0]
end
end G
namespace G
open L2
section
variable {N:Nt}
theorem xy:eqD (nmD x) (nmD y)=decide (x=y):=by simp[nmD,eqD,f9]
theorem ph:∀(m s k:Nat),s<=k->k < s+m->nP (nmD (cn k)) ((List.range' s m).map fun k=>nmD (cn k)) s=some k
 |0,s,k,h1,h2=>by omega
 |m+1,s,k,h1,h2=>by
  rw[List.range'_succ,List.map_cons];simp only[nP,xy];by_cases e:s=k
  ·subst e;simp
  ·have ne:¬ cn s=cn k:=fun z=>e (aM z)
   simp only[ne,decide_false,Bool.false_eq_true,if_false];exact ph m (s+1) k (by omega) (by omega)
theorem AD:plN 8 (nmD x)=true:=by simp[nmD,plN]
theorem zw(h:k < H):rBm .index (cl H) [nmD (cn k)] M Q=Q (.int (k:Int)) M:=by
 have e:=ph H 0 k (Nat.zero_le _) (by omega)
 rw[<-List.range_eq_range']at e;have hr:res M (nmD (cn k))=nmD (cn k):=by simp[res,nmD,ai]
 simp only[rBm,cl,ai,hr,e];simp[AD]
theorem zi:tyB .index (cl H) M=true:=by simp[tyB,cl,ai]
theorem ul(C:CN g H P N){i j:Nat}{v:Int}{l:List Nm}(hi:i < H)(h:Way N (cn i) (cn j) v l)(hl:l.length < 900):ad T (B cls kls fad) (n+1) 23 [cl H,stL g H,.rol (l.map nmD).reverse,nmD (cn i),nmD (cn j)] M Q E=Q (.int v) M:=by
 obtain⟨r,e1,h2⟩:=h.fw;obtain⟨l',e2⟩:=h2.last;have e3:(l.map nmD).reverse=nmD (cn i)::r.map nmD:=by rw[<-List.map_reverse,e1];rfl
 have e4:(l.map nmD).reverse=l'.map nmD++[nmD (cn j)]:=by rw[<-List.map_reverse,e1,e2];simp
 have hlen:(l.map nmD).reverse.length=r.length+1:=by rw[e3];simp
 rw[nX];have i1:∀{M:MH}{Q:VK3},am (.rol (l.map nmD).reverse) (.int 0) M Q=Q (nmD (cn i)) M:=fun {M Q}=>by rw[e3];simp
 have i2:∀{M:MH}{Q:VK3},am (.rol (l.map nmD).reverse) (.int (-1)) M Q=Q (nmD (cn j)) M:=fun {M Q}=>by rw[e4,jW]
 have n1:∀{x:Nm}{M:MH}{Q:VK3},ao .NotEq (nmD x) (nmD x) M Q=Q (.bl false) M:=fun {x M Q}=>by
  simp[ao,eS,rs,ai,nmD,plN,eqD,f9]
 have cut:fW (l.map nmD).reverse (some 1) none=r.map nmD:=by
  rw[e3];simp[fW,HT.sIx];exact List.take_of_length_le (by simp)
 have l0:¬ (l.length:Int)=0:=by
  have:=hlen;simp at this;omega
 have l0':¬ l=[]:=fun z=>by rw[z]at hlen;simp at hlen
 simp[de,↓i1,↓i2,↓n1,l0,l0',zi,zw hi,cut];have hs:r.length<=PySem.sizeLine:=by
  rw[PySem.sizeLine_eq];simp at hlen;omega
 simp only[hs,true_and];refine iff_of_eq (pe C h2 i 0 none hi rfl fun i' x7 _=>?_)
 simp
end
end G
namespace G
open L2
section
variable {N:Nt}
noncomputable abbrev di(S:List (Nm×Int)):D:=.dit (K1 S) (S.map fun p=>.int p.2)
theorem lb(hv:lk S x=some v):am (di S) (nmD x) M Q=Q (.int v) M:=by
 have e:=cA D.int (k:=x) (l:=S);rw[hv]at e;simp only[am,ay,ai,dI,d5,cP,b8,e,Option.map]
theorem wB:ao .NotIn (nmD x) (di S) M Q=Q (.bl (!(lk S x).isSome)) M:=by
 have e:=cA D.int (k:=x) (l:=S);simp only[ao,jX,ay,ai,dI,d5,cP,b8,e];cases lk S x<;>rfl
theorem pQ{S:List (Nm×Int)}{f:Nat->Int}(hM:Fm M)(h1:1<=H)(h64:H<=64)(hS:S.length=H)(hf:∀k,k < H->lk S (cn k)=some (f k))(hk:∀k,k+1 < H->(g k).1<=f (k+1) - f k/\f (k+1) - f k<=(g k).1+(g k).2)(hQ:Q (.bl true) M):ad T (B cls kls fad) (n+2) 24 [cl H,stL g H,di S] M Q E:=by
 rw[l7];have len:∀{Q:VK3},rBi .len [di S] M Q=Q (.int (H:Int)) M:=fun {Q}=>by simp[rBi,di,ay,ai,cP,hS]
 have isd:∀{Q:VK3},dn .dict (di S) M Q=Q (.bl true) M:=fun {Q}=>by simp[dn,di]
 simp[cD,↓len,↓isd,aK];rw[iR (fun _=>.bl false) hM (by simp;omega) (fun d hd M' hE Q'=>by
  obtain⟨k,hk,rfl⟩:=List.mem_map.mp hd;have hk:=List.mem_range.mp hk;simp[wB,hf k hk,lb (hf k hk),sW])]
 rw[sD (fun _=>false) (fun _ _=>rfl)]
 have hany:(((List.range H).map fun k=>nmD (cn k)).any fun _=>false)=false:=by simp
 rw[hany];simp only[Bool.false_eq_true,if_false];refine⟨by omega,?_⟩
 refine tf (P:=fun σ=>∃x3 x4,σ=[some (cl H),some (stL g H),some (di S),x3,x4]) ⟨none,none,rfl⟩ ?_ ?_
 ·rintro d hd σ ⟨x3,x4,rfl⟩ kk hkk;obtain⟨k,hk',rfl⟩:=List.mem_map.mp hd;have hk':=List.mem_range.mp hk';have k1:k+1 < H:=by omega
  obtain⟨a1,a2⟩:=hk k k1;have i1:∀{M:MH}{Q:VK3},am (cl H) (.int (k:Int)) M Q=Q (nmD (cn k)) M:=fun {M Q}=>bS (bW (by omega))
  have i2:∀{M:MH}{Q:VK3},am (cl H) (.int ((k:Int)+1)) M Q=Q (nmD (cn (k+1))) M:=fun {M Q}=>by
   have:=bS (M:=M) (Q:=Q) (bW (k:=k+1) (H:=H) k1);simpa using this
  have i3:∀{M:MH}{Q:VK3},am (stL g H) (.int (k:Int)) M Q=Q (stD (g k)) M:=fun {M Q}=>bS (gm (by omega))
  have j0:∀{M:MH}{Q:VK3},am (stD (g k)) (.int 0) M Q=Q (.int (g k).1) M:=fun {M Q}=>by simp[stD]
  have j1:∀{M:MH}{Q:VK3},am (stD (g k)) (.int 1) M Q=Q (.int (g k).2) M:=fun {M Q}=>by simp[stD]
  have d1:∀{M:MH}{Q:VK3},am (di S) (nmD (cn k)) M Q=Q (.int (f k)) M:=fun {M Q}=>lb (hf k (by omega))
  have d2:∀{M:MH}{Q:VK3},am (di S) (nmD (cn (k+1))) M Q=Q (.int (f (k+1))) M:=fun {M Q}=>lb (hf (k+1) k1)
  have b1:¬ f (k+1) - f k < (g k).1:=by omega
  have b2:¬ (g k).1+(g k).2 < f (k+1) - f k:=by omega
  simp[wpG,dF,↓i1,↓i2,↓i3,↓j0,↓j1,↓d1,↓d2,b1,b2];exact hkk _ ⟨_,_,rfl⟩
 ·rintro σ ⟨x3,x4,rfl⟩;simpa using hQ
end
end G
namespace G
open L2
section
variable {cls kls fad:Nat->PySem.Addr}{M:MH}{Q:VK3}{E:XN}{n:Nat}{kd nn a:PySem.Addr}{N:Nt}{q:Nm->Int}{g:Nat->Int×Int}{H:Nat}{P:Nat->Prop}{k:Nat}{rp:Nm->PySem.Addr}
theorem tV{a b c:Int}(h1:0<=a)(h2:a<=c)(h3:0<=b)(h4:b<=63):0<=a * b/\a * b<=c * 63:=⟨Int.mul_nonneg h1 h3,Int.mul_le_mul h2 h4 h3 (by omega)⟩
theorem uS:∀m,((List.range m).map fun k=>(g k).1+(g k).2).sum=pB g m
 |0=>rfl
 |m+1=>by rw[List.range_succ,List.map_append,List.sum_append,uS m];simp[pB]
theorem wl:∀m,((List.range m).map fun k=>(g k).1).sum=pS g m
 |0=>rfl
 |m+1=>by rw[List.range_succ,List.map_append,List.sum_append,wl m];simp[pS]
theorem dg:∀l:List Int,bO (l.map D.int)=some l
 |[]=>rfl
 |i::l=>by simp[bO,dg l]
theorem rW{R:MH->Prop}{f:Nat}{y:D}{i:Nat}{C:PySem.Addr}{ns:List Nat}{es:List D}(h:M a=some (.ins i C ns es)):lr (B cls kls fad) f y R (.ref a) M=((C=(B cls kls fad).kls i/\i < (B cls kls fad).nk/\(B cls kls fad).fok i f=true/\ns.length < 1000)/\R (put M a (.ins i C (bx f ns) (bz f y ns es)))):=by
 simp[lr,h]
theorem vW:ao .NotEq (.int i) (.int i) M Q=Q (.bl false) M:=by simp
structure WC2 (g:Nat->Int×Int)(H:Nat)(N:Nt):Prop where
 cc:CN g H (fun k=>k+1 < H) N
 ge:∀k,k+1 < H->0<=(g k).2
 two:2<=H
theorem WC2.has(C:WC2 g H N)(h:k < H):cn k∈N.ks:=by
 have:=C.two;by_cases e:k+1 < H
 ·exact (C.cc.has k e).1
 ·have:=(C.cc.has (k - 1) (by omega)).2
  rwa [show k - 1+1=k by omega]at this
theorem WC2.len(C:WC2 g H N)(W:WN N):N.ks.length=H:=by
 have h1:=C.cc.len W;have h2:=cQ (l:=(List.range H).map cn) (k:=N.ks) (by
  rw[List.nodup_iff_pairwise_ne,List.pairwise_map];exact List.nodup_range.imp fun h e=>h (aM e)) fun z hz=>by
   obtain⟨k,hk,rfl⟩:=List.mem_map.mp hz;exact C.has (List.mem_range.mp hk)
 simp at h2;omega
theorem WC2.first(C:WC2 g H N):IsD N (cn 0) (cn (H - 1)) (some (pB g (H - 1))):=by
 have:=C.two;obtain⟨q,hq⟩:=lZ (pB g);exact mF (C.cc.potB C.ge hq) (C.cc.up (H - 1) (by omega)) (by rw[hq,hq];simp[pB])
theorem WC2.back(C:WC2 g H N):IsD N (cn (H - 1)) (cn 0) (some (-pS g (H - 1))):=by
 have:=C.two;obtain⟨q,hq⟩:=lZ (pS g);have h:=C.cc.down (H - 1) 0 (by omega)
 rw[Nat.zero_add]at h;have e:pS g 0 - pS g (H - 1) = -pS g (H - 1):=by simp[pS]
 rw[e]at h;exact mF (C.cc.potS C.ge hq) h (by rw[hq,hq];simp[pS])
theorem WC2.reach0(C:WC2 g H N):∀z∈N.ks,∃v,Wk N (cn 0) z v:=fun z hz=>by
 obtain⟨k,hk,rfl⟩:=C.cc.ks z hz;exact⟨_,C.cc.up k hk⟩
theorem WC2.reach1(C:WC2 g H N):∀z∈N.ks,∃v,Wk N (cn (H - 1)) z v:=fun z hz=>by
 obtain⟨k,hk,rfl⟩:=C.cc.ks z hz;have:=C.cc.down (H - 1 - k) k (by omega)
 rw[show k+(H - 1 - k)=H - 1 by omega]at this
 exact⟨_,this⟩
theorem WC2.keep(C:WC2 g H N){x:Nm}{f:Nm->Int}(hf:∀z∈N.ks,IsD N x z (some (f z))):∀k,k+1 < H->(g k).1<=f (cn (k+1)) - f (cn k)/\f (cn (k+1)) - f (cn k)<=(g k).1+(g k).2:=fun k hk=>by
 have a:=hf _ (C.has (k:=k) (by omega))
 have b:=hf _ (C.has (k:=k+1) hk);have h1:=b.2 _ (a.1.snoc ((C.cc.ed _ _ _).mpr ⟨k,hk,.inl ⟨rfl,rfl,rfl⟩⟩));have h2:=a.2 _ (b.1.snoc ((C.cc.ed _ _ _).mpr ⟨k,hk,.inr ⟨rfl,rfl,rfl⟩⟩));omega
theorem sY{f:Nm->Int}{l:List Nm}{x:Nm}:lk (l.map fun z=>(z,f z)) x=if x∈l then some (f x) else none:=by
 induction l with
 |nil=>rfl
 |cons q l ih=>
  simp only[List.map_cons,lk,ih,List.mem_cons];by_cases h:q=x
  ·simp[h]
  ·simp[h,Ne.symm h]
theorem iE{De:Ends3}{ES:St3->XN}{y0 y1 y5 y6 y7 y8 y9 x13:Option D}{i j:Nat}{v:Int}(h:NT kls M nn kd rp N)(C:WC2 g H N)(hp:Pot N q)(h64:H<=64)(hi:i < H)(hj:j < H)(hij:i≠j)(hd:IsD N (cn i) (cn j) (some v))(hr:∀z∈N.ks,∃v,Wk N (cn i) z v)
  (hQ:∀x13,De.nx [y0,y1,some (cl H),some (stL g H),some (.ref nn),y5,y6,y7,y8,y9,some (nmD (cn i)),some (nmD (cn j)),some (.int v),x13] M) :
  aq {toWB:=B cls kls fad,call:=ad T (B cls kls fad) (n+7)} iq De ES [y0,y1,some (cl H),some (stL g H),some (.ref nn),y5,y6,y7,y8,y9,some (nmD (cn i)),some (nmD (cn j)),some (.int v),x13] M:=by
 have gi:=C.has hi;have gj:=C.has hj;have ne:cn j≠cn i:=fun e=>hij (aM e).symm
 simp[iq,h.mth ib];refine qw (n:=n+3) h hp gi gj fun o ho=>?_
 cases ho.uniq hd;simp[oi,h.mth gH,ij,bI,h.fld];refine pN (n:=n+3) h.fm h.wn hp h.sz h.eg gi gj hd fun l hl hll=>?_
 simp only[dh];rw[ul (n:=n+6) C.cc hi hl hll];simp[h.mth jD];refine pC (n:=n+3) h hp gi gj hr fun f hf=>?_
 have eD:D.dit N.ks (N.ks.map fun z=>D.int (f z))=di (N.ks.map fun z=>(z,f z)):=by unfold di;simp[Function.comp_def]
 have lkS:∀z∈N.ks,lk (N.ks.map fun z=>(z,f z)) z=some (f z):=fun z hz=>by rw[sY,if_pos hz]
 have f0:f (cn i)=0:=by
  have a:=hf _ gi;have:=a.1.pot hp;have:=a.2 0 .nil;omega
 have fv:f (cn j)=v:=by cases (hf _ gj).uniq hd;rfl
 have two:=C.two;rw[eD];refine pQ (n:=n+5) (f:=fun k=>f (cn k)) h.fm (by omega) h64 (by rw[List.length_map,C.len h.wn]) (fun k hk=>lkS _ (C.has hk)) (C.keep hf) ?_
 simp only[if_true];rw[lb (lkS _ gi),f0,vW];simp only[Bool.false_eq_true,if_false];rw[lb (lkS _ gj),fv,vW];simp only[Bool.false_eq_true,if_false];refine mj (n:=n) h hp gj gi ne hd (by omega) fun l2 hl2 hll2=>?_
 rw[ul (n:=n+6) C.cc hi hl2 hll2,vW];simp only[Bool.false_eq_true,if_false];exact hQ _
theorem main(cls kls fad:Nat->PySem.Addr)(ns:List Int)(hl:ns.length<=63):ad (L.map FL.fb) (B cls kls fad) 8 26 [scr ns] (fun _=>none) (fun d _=>d=.bl true) (fun _ _=>False):=by
 rw[CB];simp only[zO,mz];obtain⟨c0,h0⟩:=lH (cls:=cls) (kls:=kls) (fad:=fad) ns 0;obtain⟨c1,h1⟩:=lH (cls:=cls) (kls:=kls) (fad:=fad) ns 1;have h0':∀{M:MH}{Q:VK3}{E:XN},ad T (B cls kls fad) 7 19 [scr ns,.int 0] M Q E=Q (.int c0) M:=h0;have h1':∀{M:MH}{Q:VK3}{E:XN},ad T (B cls kls fad) 7 19 [scr ns,.int 1] M Q E=Q (.int c1) M:=h1;obtain⟨H,hH⟩:∃H:Nat,2+c1 % 63=H:=⟨(2+c1 % 63).toNat,by omega⟩
 have H2:2<=H:=by omega
 have H64:H<=64:=by omega
 obtain⟨g,hg,hst⟩:=rM (cls:=cls) (kls:=kls) (fad:=fad) ns hl;have hst':∀{M:MH}{Q:VK3}{E:XN},Fm M->ad T (B cls kls fad) 7 21 [scr ns,.int H] M Q E=Q (stL g H) M:=fun {M Q E} hM=>hst (n:=5) (by omega) H64 hM
 obtain⟨os,o1,o2,ho⟩:=rE (cls:=cls) (kls:=kls) (fad:=fad) c0 (H:=H) (by omega) H64
 have ho':∀{M:MH}{Q:VK3}{E:XN},Fm M->ad T (B cls kls fad) 7 22 [.int c0,.int H] M Q E=Q (.rol (os.map iD)) M:=fun {M Q E} hM=>ho (n:=6) hM
 simp[h1',mK,hH,aK];rw[iR (fun d=>match d with
  |.int i=>.tup [.int (i / 8),.int (i * i * i * 1000003 - i)]
  |_=>.non) Fm.nil (by rw[gv];omega) (fun d hd M' hE Q'=>by
   obtain⟨k,hk,rfl⟩:=List.mem_map.mp hd;have hk:=List.mem_range.mp hk;have m1:=tV (a:=(k:Int)) (b:=k) (c:=63) (by omega) (by omega) (by omega) (by omega)
   have m2:=tV (a:=(k:Int) * k) (b:=k) (c:=63 * 63) m1.1 m1.2 (by omega) (by omega)
   have c1:fS (k:Int) k=True:=pR (by omega) (by omega) (by omega) (by omega)
   have c2:fS ((k:Int) * k) k=True:=pR (by omega) (by omega) (by omega) (by omega)
   have c3:fS ((k:Int) * k * k) 1000003=True:=pR (by omega) (by omega) (by omega) (by omega)
   simp[c1,c2,c3,mK,PySem.sizeLine_eq])]
 have hmap:(rng 0 H).map (fun d=>match d with
  |.int i=>D.tup [.int (i / 8),.int (i * i * i * 1000003 - i)]
  |_=>.non)=(List.range H).map fun k=>nmD (cn k):=by
  unfold rng;rw[List.map_map];apply List.map_congr_left;intro k _;simp[nmD,cn]
 rw[hmap,hst' Fm.nil];refine⟨by omega,fun nn hnn=>?_⟩
 simp[jy,bA];intro kd hkd;have hkn:kd≠nn:=fun e=>by rw[e,ac]at hkd;cases hkd
 rw[rW (af (Ne.symm hkn) |>.trans ac)]
 simp;have hN:NT kls (put (put (put (fun _=>none) nn (.ins 0 (kls 0) [] [])) kd (.dt [] [])) nn (.ins 0 (kls 0) [245117675] [.ref kd])) nn kd (fun _=>0) ⟨[],fun _=>[]⟩:=
  ⟨ac,⟨by rw[af hkn,ac];rfl,fun z hz=>(by cases hz)⟩,fun z hz=>(by cases hz),((Fm.nil.put _ _).put _ _).put _ _,⟨List.nodup_nil,fun z hz=>(by cases hz)⟩,by show (0:Nat) < 200;omega⟩
 obtain⟨q,hq⟩:=lZ (pS g);simp[h0'];rw[ho' hN.fm];refine i7 (n:=1) (P:=fun _=>False) H64 hq os _ _ _ _ o1 (fun k hk=>⟨by have:=(o2 k).mp hk;omega,id⟩) (fun k hk=>hg k (by
  rcases hk with hk|hk
  ·exact hk.elim
  ·have:=(o2 k).mp hk;omega)) hN ⟨fun a b w=>⟨fun h=>(by cases h.1),fun ⟨k,hk,_⟩=>hk.elim⟩,fun z hz=>(by cases hz),fun k hk=>hk.elim,fun k hk=>hk.elim⟩ fun x5 M1 rp N h C=>?_
 have C2:WC2 g H N:=by
  refine⟨⟨fun a b w=>?_,C.ks,fun k hk=>C.has k (.inr ((o2 k).mpr (by omega))),fun k hk=>hk⟩,fun k hk=>hg k (by omega),H2⟩
  rw[C.ed];constructor
  ·rintro⟨k,hk|hk,h⟩
   ·exact hk.elim
   ·exact⟨k,by have:=(o2 k).mp hk;omega,h⟩
  ·rintro⟨k,hk,h⟩;exact⟨k,.inr ((o2 k).mpr (by omega)),h⟩
 have hp:Pot N q:=C2.cc.potS C2.ge hq;have sm1:∀{Q:VK3},iZ {toWB:=B cls kls fad,call:=ad T (B cls kls fad) 7} (.tup [0,1]) .no (.bin .Add (.var 0) (.var 1)) (fun _=>True) Q ((List.range (H - 1)).map fun k=>stD (g k)) [none,none] M1=Q (.rol (((List.range (H - 1)).map fun k=>(g k).1+(g k).2).map D.int)) M1:=fun {Q}=>by
  rw[fc (fun σ=>∃a b,σ=[a,b]) (fun d=>match d with
   |.tup [x,y]=>[some x,some y]
   |_=>[none,none]) (fun _=>true) (fun d=>match d with
   |.tup [.int x,.int y]=>.int (x+y)
   |_=>.non) ⟨none,none,rfl⟩ h.fm (by simp;omega) (fun d hd=>by
    obtain⟨k,_,rfl⟩:=List.mem_map.mp hd;exact⟨⟨_,_,rfl⟩,by rintro σ ⟨a,b,rfl⟩ M k;simp[wpG,stD]⟩) (fun d hd M' hE Q'=>rfl) (fun d hd _ M' hE Q'=>by
    obtain⟨k,_,rfl⟩:=List.mem_map.mp hd;simp[stD])]
  rw[List.filter_eq_self.mpr (fun _ _=>rfl),List.map_map,List.map_map]
  rfl
 have sm2:∀{Q:VK3},iZ {toWB:=B cls kls fad,call:=ad T (B cls kls fad) 7} (.tup [0,1]) .no (.var 0) (fun _=>True) Q ((List.range (H - 1)).map fun k=>stD (g k)) [none,none] M1=Q (.rol (((List.range (H - 1)).map fun k=>(g k).1).map D.int)) M1:=fun {Q}=>by
  rw[fc (fun σ=>∃a b,σ=[a,b]) (fun d=>match d with
   |.tup [x,y]=>[some x,some y]
   |_=>[none,none]) (fun _=>true) (fun d=>match d with
   |.tup [.int x,.int y]=>.int x
   |_=>.non) ⟨none,none,rfl⟩ h.fm (by simp;omega) (fun d hd=>by
    obtain⟨k,_,rfl⟩:=List.mem_map.mp hd;exact⟨⟨_,_,rfl⟩,by rintro σ ⟨a,b,rfl⟩ M k;simp[wpG,stD]⟩) (fun d hd M' hE Q'=>rfl) (fun d hd _ M' hE Q'=>by
    obtain⟨k,_,rfl⟩:=List.mem_map.mp hd;simp[stD])]
  rw[List.filter_eq_self.mpr (fun _ _=>rfl),List.map_map,List.map_map]
  rfl
 have i0:∀{M:MH}{Q:VK3},am (.rol ((List.range H).map fun k=>nmD (cn k))) (.int 0) M Q=Q (nmD (cn 0)) M:=fun {M Q}=>bS (bW (k:=0) (by omega))
 have i9:∀{M:MH}{Q:VK3},am (.rol ((List.range H).map fun k=>nmD (cn k))) (.int (-1)) M Q=Q (nmD (cn (H - 1))) M:=fun {M Q}=>by
  have e:(List.range H).map (fun k=>nmD (cn k))=(List.range (H - 1)).map (fun k=>nmD (cn k))++[nmD (cn (H - 1))]:=by
   rw[show H=H - 1+1 by omega,List.range_succ];simp
  rw[e,jW]
 simp[aK,↓sm1,↓sm2,dg,uS,wl,↓i0,↓i9,PySem.sizeLine_eq];have d1:bO ((List.range (H - 1)).map (D.int∘fun k=>(g k).1+(g k).2))=some ((List.range (H - 1)).map fun k=>(g k).1+(g k).2):=by rw[<-List.map_map];exact dg _
 have d2:bO ((List.range (H - 1)).map (D.int∘fun k=>(g k).1))=some ((List.range (H - 1)).map fun k=>(g k).1):=by rw[<-List.map_map];exact dg _
 rw[d1,d2];simp only[uS,wl];rw[aH];refine⟨trivial,rfl,?_⟩;refine iE (n:=0) h C2 hp H64 (i:=0) (j:=H - 1) (by omega) (by omega) (by omega) C2.first C2.reach0 fun x13=>?_
 show bB _ _ _ _ _ _ _ _ _;rw[aH];refine⟨trivial,rfl,?_⟩;refine iE (n:=0) h C2 hp H64 (i:=H - 1) (j:=0) (by omega) (by omega) (by omega) C2.back C2.reach1 fun x13=>?_
 show bB _ _ _ _ _ _ _ _ _;rw[bb];refine⟨trivial,?_⟩;simp[h.mth fU];refine nc (n:=4) h hp fun s2 I=>?_
 have ls:∀k,k < H->∃v,lk s2.S (cn k)=some v:=fun k hk=>by
  obtain⟨v,h1,_⟩:=I.s0 (cn k) (C2.has hk);exact⟨v,h1⟩
 have lf:∀k,k < H->lk s2.S (cn k)=some ((lk s2.S (cn k)).getD 0):=fun k hk=>by
  obtain⟨v,e⟩:=ls k hk;rw[e];rfl
 have slen:s2.S.length=H:=by
  have a1:=I.sz.1;have a2:=cQ (l:=(List.range H).map cn) (k:=K1 s2.S) (by
   rw[List.nodup_iff_pairwise_ne,List.pairwise_map];exact List.nodup_range.imp fun h e=>h (aM e)) fun z hz=>by
    obtain⟨k,hk,rfl⟩:=List.mem_map.mp hz;obtain⟨v,e⟩:=ls k (List.mem_range.mp hk);exact lk_key.mpr (by rw[e];rfl)
  rw[C2.len h.wn]at a1;simp at a2;omega
 refine pQ (n:=5) (f:=fun k=>(lk s2.S (cn k)).getD 0) h.fm (by omega) H64 slen lf (fun k hk=>?_) ?_
 ·have e1:=lf k (by omega)
  have e2:=lf (k+1) hk;obtain⟨v1,w1,w2⟩:=I.rel _ _ e1 id _ _ ((C2.cc.ed _ _ _).mpr ⟨k,hk,.inl ⟨rfl,rfl,rfl⟩⟩).2;obtain⟨v2,w3,w4⟩:=I.rel _ _ e2 id _ _ ((C2.cc.ed _ _ _).mpr ⟨k,hk,.inr ⟨rfl,rfl,rfl⟩⟩).2;rw[e2]at w1;rw[e1]at w3;cases w1;cases w3;show (g k).1<=(lk s2.S (cn (k+1))).getD 0 - (lk s2.S (cn k)).getD 0/\(lk s2.S (cn (k+1))).getD 0 - (lk s2.S (cn k)).getD 0<=(g k).1+(g k).2;omega
 ·simp;refine sM (n:=0) h hp (by have:=C2.len h.wn;omega) (fun e=>by have:=aM e;omega) (fun d hd=>?_) fun M'=>?_
  ·cases hd.uniq C2.first
   omega
  ·simp
end
end G
open PySem PySem.W PyProof.Rows
set_option maxRecDepth 100000 in
set_option maxHeartbeats 0 in
theorem PySem.Challenge.cw_driftmeet_k29_long_nets_holds : PySem.Challenge.rw_driftmeet_k29_long_nets.Holds := by
 w_on;o_law
 refine holds_open (q:=HD.view) (loose:=HD.loose) (Xt:=HD.Xt) (XP:=XL HD.view []) (Yf:=Hook.obs (kHook HD.K HD.as HD.as_eq)) (Ya:=Hook.val (kHook HD.K HD.as HD.as_eq)) (YP:=Hook.says (kHook HD.K HD.as HD.as_eq)) (N:=3618) HD.left (Hook.of (kHook HD.K HD.as HD.as_eq)) (Hook.keeps (kHook HD.K HD.as HD.as_eq)) (fun s e=>xl_of s (Bool.and_eq_true_iff.mp e).1) XL.keeps (by rfl) (by rfl) (by rfl) (fun s e=>recFacts_of (Bool.and_eq_true_iff.mp e).2) (by kernel_rfl) (by first|assumption|decide +kernel) (by decide +kernel) ⟨rfl,rfl,rfl,rfl,rfl,by decide +kernel⟩ ?hw ?hc
 (case hw=>w_witness2)
 k_fill
 refine L2.walkD (l:=PySem.Challenge.rw_driftmeet_k29_long_nets) (k:=8) (f:=26) (fl:=G.l_law) (x:="_law_script") (L:=G.L) (nm:=G.nm) (BB:=G.B) rfl rfl ⟨rfl,by decide,by decide⟩ (fun w h Y=>PySem.W.kIn_of Y) rfl rfl rfl rfl ?F (fun cls kls fad ns hl=>G.main cls kls fad ns hl)
 case F=>
  intro w mg h KX Gn
  refine' G.top_mk KX Gn ?x2 ?xi2 ?xl2 ?xw2 ?xz2 ?xd2 ?xk2 ?xt2
  (case x2=>kernel_rfl)
  (case xi2=>k_is)
  (case xl2=>k_is)
  (case xw2=>rfl)
  (case xz2=>kernel_rfl)
  (case xd2=>k_is)
  (case xk2=>k_is)
  (case xt2=>k_is)
